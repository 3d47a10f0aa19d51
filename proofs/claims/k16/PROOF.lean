import PyProof.Rows.All
import PyProof.Rows.SortShell
import KE.KSortTup
import Wide.All
import OpenK.AllK
import Wide.FinOn
import Lean
import PyProof.EqAt
import PyProof.EqKinds
import PyProof.TupleCall
import KE.KLam
import PyProof.ListRange
import PyProof.NeKinds
import PyProof.ZipIter
import PyProof.FactsAll.tuple_2
import PyProof.FactsAll.tuple_3
import PyProof.Rows.SortWalk
import PyProof.Rows.MinMaxN
import PyProof.Rows.TopTwo
import KE.KIsAll
import KE.KTryMore
import PyProof.ExcArgsOwn
import PyProof.NsDelKeeps
import KE.KRevIter
import PyProof.AttrMissHeap
import PyProof.ListNew
import PyProof.FactsAll.dict_1
import KE.KRevSl
import PyProof.Rows.IntBool
import PyProof.TupleOfSeq
import KE.KIntText
import PyProof.StrWalks
import PyProof.StrCalls2
import PyProof.StrBlock2
import PyProof.FString5
import PyProof.StrLawsTight
import PyProof.StrLawsChain
import PyProof.ListMulRoad
import KE.KMinKey
import KE.KDictSum
import PyProof.SetKind
import PyProof.Rows.SetFrom
import PyProof.CollectIter
import PyProof.Rows.SortStr
import PyProof.StationsW
import PyProof.Rows.Catch
import PyProof.ExcClass3
import PyProof.ExcInit
import PyProof.Ns1
import PyProof.DictCompW
import PyProof.PureStr
import PySem.Challenge.RW_hungwords_k16_spans_cut_and_turned
set_option Elab.async false
set_option linter.all false
set_option maxRecDepth 100000
set_option maxHeartbeats 8000000
abbrev Yr:=@PySem.wpAny_bind
abbrev Ys:=@List.getElem?_eq_getElem
abbrev Yt:=@List.length_map
abbrev Yu:=@PySem.Heap.get?_push_of_some
abbrev Yv:=@PySem.wpAny_pure
abbrev Yx:=@Nat.le_refl
abbrev Yy:=@List.not_mem_nil
abbrev Yz:=@PyProof.Rows.wpS_bind
abbrev YB:=@List.getElem?_eq_some_iff
abbrev YC:=@List.getElem?_map
abbrev YD:=@PyProof.Rows.wpS_pure
abbrev YE:=@List.mem_map
abbrev YF:=@List.getElem?_set_ne
abbrev YG:=@List.size_toArray
abbrev YH:=@Array.length_toList
abbrev YI:=@PySem.Heap.get?_push_size
abbrev YJ:=@Bool.false_ne_true
abbrev YL:=@beq_iff_eq
abbrev YM:=@PySem.Heap.lt_size
abbrev YN:=@List.mem_cons_self
abbrev YO:=@List.getElem?_set_self
abbrev YQ:=@List.mem_cons_of_mem
abbrev YR:=@List.mem_append_right
abbrev YS:=@List.length_cons
abbrev YT:=@Nat.le_trans
abbrev YU:=@List.mem_cons
abbrev YV:=@List.map_cons
abbrev YW:=@Nat.lt_of_lt_of_le
abbrev YX:=@List.mem_singleton
abbrev YY:=@List.getElem?_replicate
abbrev YZ:=@List.length_range'
abbrev Y0:=@List.map_congr_left
abbrev Y1:=@List.getElem?_append_left
abbrev Y2:=@PySem.wpAny_mono
abbrev Y3:=@List.map_map
abbrev Y4:=@List.mem_range'_1
abbrev Y5:=@List.length_range
abbrev Y6:=@List.map_append
abbrev Y7:=@List.length_set
abbrev Y8:=@List.getElem?_append_right
abbrev Y9:=@List.length_append
abbrev Za:=@Nat.zero_le
abbrev Zb:=@Nat.ne_of_lt
abbrev Zc:=@PySem.wpAny_newObj_type
abbrev Zd:=@List.mem_of_getElem?
abbrev Ze:=@of_decide_eq_true
abbrev Zf:=@decide_eq_true
abbrev Zg:=@List.append_assoc
abbrev Zh:=@Array.toList_append
abbrev Zi:=@List.mem_append
abbrev Zj:=@List.getElem?_eq_none
abbrev Zk:=@PySem.W.mg_none_of
abbrev Zl:=@List.mem_flatMap
abbrev Zm:=@List.lookup_cons
abbrev Zn:=@PySem.mem_of_lookup
abbrev Zo:=@Array.getElem?_eq_getElem
abbrev Zp:=@List.mem_range
abbrev Zq:=@Array.getElem?_toList
abbrev Zr:=@List.getElem?_range
abbrev Zs:=@PySem.wpAny_holding
abbrev Zt:=@Nat.lt_irrefl
abbrev Zu:=@List.length_take
abbrev Zv:=@List.getElem_mem
abbrev Zw:=@List.append_nil
abbrev Zx:=@List.filter_eq_self
abbrev Zy:=@PyProof.Rows.wpS_forRange
abbrev Zz:=@PyProof.Rows.slot_tuple_getitem
abbrev ZA:=@congrArg
abbrev ZC:=@List.forall_mem_cons
abbrev ZD:=@Int.toNat_natCast
abbrev ZE:=@of_decide_eq_false
abbrev ZF:=@Array.perm_iff_toList_perm
abbrev ZG:=@PySem.wpAny_field
abbrev ZH:=@PySem.wpAny_callSpecial?_slot
abbrev ZI:=@decide_eq_false
abbrev ZJ:=@List.pairwise_iff_getElem
abbrev ZK:=@PySem.Heap.size_push
abbrev ZL:=@List.getElem?_range'
abbrev ZM:=@List.length_drop
abbrev ZN:=@List.ext_getElem?
abbrev ZO:=@PySem.wpAny_loadPart'
abbrev ZP:=@PySem.wpAny_call_entry
abbrev ZQ:=@List.length_reverse
abbrev ZR:=@PySem.sizeLine_eq
abbrev ZS:=@Nat.lt_succ_of_lt
abbrev ZT:=@List.pairwise_map
abbrev ZU:=@PyProof.Rows.wpS_mono
abbrev ZV:=@Int.le_refl
abbrev ZW:=@List.getElem_of_mem
abbrev ZX:=@PySem.Heap.SameBut.update
abbrev ZY:=@PySem.wpAny_standAt
abbrev ZZ:=@List.length_replicate
abbrev Z0:=@PySem.W.kia_one
abbrev Z1:=@PySem.wpAny_pyIter_tuple
abbrev Z2:=@List.ext_getElem
abbrev Z3:=@List.mem_append_left
abbrev Z4:=@PySem.Heap.get?_update_other
abbrev Z6:=@List.flatten_cons
abbrev Z7:=@PySem.wpAny_rule
abbrev Z8:=@List.eq_nil_iff_forall_not_mem
abbrev Z9:=@List.take_append_drop
abbrev aa0:=@Bool.false_eq_true
abbrev aa1:=@List.getElem?_take_of_lt
abbrev aa2:=@PySem.wpAny_seqItems
abbrev aa3:=@List.range'_append_1
abbrev aa4:=@PySem.Around.under_plainId
abbrev aa5:=@List.nodup_append
abbrev aa6:=@List.mem_filter
abbrev aa7:=@PyProof.Rows.callWith_type1
abbrev aa8:=@Nat.ne_of_gt
abbrev aa9:=@Int.le_of_lt
abbrev ab0:=@Option.map_eq_some_iff
abbrev ab1:=@PyProof.Rows.wpS_modify
abbrev ab2:=@Array.getElem?_eq_some_iff
abbrev ab3:=@List.take_length
abbrev ab4:=@List.all_eq_true
abbrev ab5:=@List.nodup_nil
abbrev ab6:=@PySem.wpAny_Call_Name_kw
abbrev ab7:=@List.getElem?_drop
abbrev ab8:=@Array.size_extract
abbrev ab9:=@PySem.Heap.get?_update_self
abbrev ac0:=@Nat.add_zero
abbrev ac1:=@PySem.pushCells_keeps
abbrev ac2:=@PySem.codeAny_builtin
abbrev ac3:=@Int.mul_le_mul_of_nonneg_right
abbrev ac4:=@PySem.wpAny_truthy_bool
abbrev ac5:=@PySem.wpAny_pyIter_list
abbrev ac6:=@PySem.Heap.get?_push_ne
abbrev ac7:=@PySem.wpAny_typeNameOfWhole_keyiter
abbrev ac8:=@beq_eq_false_iff_ne
abbrev ac9:=@List.filterMap_cons
abbrev ad0:=@if_false
abbrev ad1:=@Nat.lt_succ_self
abbrev ad2:=@Array.toList_inj
abbrev ad3:=@PySem.F.slot_dict_keyiterator_next
abbrev ad4:=@PySem.wpAny_setField_rec
abbrev ad5:=@PySem.PassesOwn.never
abbrev ad6:=@List.nodup_cons
abbrev ad7:=@List.perm_append_comm
abbrev ad8:=@PySem.plainId_quiet
abbrev ad9:=@List.any_cons
abbrev ae0:=@PySem.F.slot_tuple_iterator_next
abbrev ae1:=@PySem.wpAny_dictEntries
abbrev ae2:=@List.reverse_cons
abbrev ae3:=@Array.toList_push
abbrev ae4:=@List.drop_eq_getElem_cons
abbrev ae5:=@decide_eq_decide
abbrev ae6:=@PySem.F.plain_max_loop
abbrev ae7:=@Bool.and_eq_true
abbrev ae8:=@PySem.wpAny_typeNameOf_keyiter
abbrev ae9:=@PySem.wpAny_comprehension_free
abbrev af0:=@List.mem_map_of_mem
abbrev af1:=@PyProof.Rows.listUpdate_at
abbrev af2:=@PyProof.Rows.get?_update_seq
abbrev af3:=@List.length_nil
abbrev af4:=@List.find?_cons
abbrev af5:=@decide_eq_true_iff
abbrev af6:=@Nat.lt_of_le_of_lt
abbrev af7:=@List.mem_filterMap
abbrev af8:=@List.filter_append
abbrev af9:=@PySem.wpAny_letGo
abbrev ag0:=@List.zipWith_cons_cons
abbrev ag1:=@Nat.le_of_succ_le
abbrev ag2:=@List.take_add_one
abbrev ag3:=@List.nodup_range'
abbrev ag4:=@PyProof.Rows.wpS_get
abbrev ag5:=@PySem.codeAny_mono
abbrev ag6:=@Nat.sub_self
abbrev ag7:=@Nat.le_of_eq
abbrev ag8:=@List.getElem?_reverse
abbrev ag9:=@beq_self_eq_true
abbrev ah0:=@List.mem_flatten
abbrev ah1:=@PySem.Heap.size_update
abbrev ah2:=@Nat.mul_le_mul_right
abbrev ah3:=@List.getElem?_mapIdx
abbrev ah4:=@PySem.wpAny_attempt
abbrev ah5:=@PySem.W.mg_of
abbrev ah6:=@Nat.le_succ
abbrev ah7:=@PyProof.Rows.entry_tuple_getitem
abbrev ah8:=@PySem.wpAny_passesOwn
abbrev ah9:=@Option.map_some
abbrev ai0:=@Bool.eq_iff_iff
abbrev ai1:=@Nat.zero_add
abbrev ai2:=@Nat.sub_zero
abbrev ai3:=@PyProof.Rows.args_tuple_getitem
abbrev ai4:=@PySem.Obj.data_mapFields
abbrev ai5:=@List.length_mapIdx
abbrev ai6:=@Int.emod_lt_of_pos
abbrev ai7:=@PySem.F.args_tuple_add_2
abbrev ai8:=@Int.not_lt
abbrev ai9:=@PyProof.Rows.slicePart_none
abbrev aj0:=@List.take_zero
abbrev aj1:=@PySem.F.plainAttrs_list
abbrev aj2:=@PySem.F.entry_tuple_add
abbrev aj3:=@PySem.wpAny_sequenceKey
abbrev aj4:=@List.flatMap_cons
abbrev aj5:=@Array.getElem_zip
abbrev aj6:=@Int.add_mul
abbrev aj7:=@List.all_cons
namespace fJ
open PySem PyProof.Rows
noncomputable def eY:Bool->Keyed->Array Keyed->Nat->Nat->Nat->StateT SortSt Sem (Option Nat):=sortPriv% PySem.Builtin.gallop
noncomputable def mE:Array Keyed->Array Keyed->StateT SortSt Sem (Array Keyed):=sortPriv% PySem.Builtin.mergeLo
noncomputable def mF:Array Keyed->Array Keyed->StateT SortSt Sem (Array Keyed):=sortPriv% PySem.Builtin.mergeHi
noncomputable abbrev setG (st:SortSt) (g:Nat):SortSt:=SortSt.mk' (kindOf st) (arrOf st) (pendingOf st) g (failedOf st)
section
variable{prog:Program}{w:World}{A:Around}{E:Value->Shared->Prop}{s:Shared}
theorem au{M:Model}{α:Type}{c:Prop} [Decidable c]{a b:StateT SortSt Sem α}{Q:α->SortSt->Prop}{st:SortSt}(h:c)(q:wpS M A E s a Q st):wpS M A E s (if c then a else b) Q st:=by rw[if_pos h];exact q
theorem av{M:Model}{α:Type}{c:Prop} [Decidable c]{a b:StateT SortSt Sem α}{Q:α->SortSt->Prop}{st:SortSt}(h: ¬c)(q:wpS M A E s b Q st):wpS M A E s (if c then a else b) Q st:=by rw[if_neg h];exact q
theorem aD{st:SortSt}{xs:Array Keyed}{i:Nat}(hi:i < xs.size)(h:Q xs[i] st):wpS (model prog w) A E s (elem' xs i) Q st:=by
 rw[elem'_eq,Zo hi];exact YD h
theorem uK(left:Bool)(key:Keyed)(arr:Array Keyed)(base n hint:Nat):eY left key arr base n hint=(do
 let beyond (i:Nat):StateT SortSt Sem (Option Bool):=do
  let x<-elem' arr (base+i)
  if left then lt' x key else return(<-lt' key x).map (!·)
 let mut lq:=0
 let mut za:=1
 let mut lo:=0
 let mut hi:=0
 let some right<-beyond hint | return none
 if right then
  let mG:=n - hint
  for _ in [0:n] do
   if za>=mG then break
   let some more<-beyond (hint+za) | return none
   if !more then break
   lq:=za
   za:=2*za+1
  lo:=hint+lq+1
  hi:=hint+min za mG
 else
  let mG:=hint+1
  for _ in [0:n] do
   if za>=mG then break
   let some found<-beyond (hint - za) | return none
   if found then break
   lq:=za
   za:=2*za+1
  lo:=hint+1 - min za mG
  hi:=hint - lq
 for _ in [0:n] do
  if lo>=hi then break
  let m:=lo+(hi - lo) / 2
  let some more<-beyond m | return none
  if more then lo:=m+1 else hi:=m
 return some hi):=rfl
noncomputable def cq:Nat->StateT SortSt Sem Unit:=sortPriv% PySem.Builtin.setMinGallop
theorem cb(g:Nat):cq g=modify fun s=>setG s g:=rfl
theorem sk(a b:Array Keyed):mE a b=(do
 rule "list.sort.merge-lo"
 let total:=a.size+b.size
 let done (out:Array Keyed) (ia ib:Nat):=out++a.extract ia a.size++b.extract ib b.size
 let lr (out:Array Keyed) (ia ib:Nat):=out++b.extract ib b.size++a.extract ia a.size
 let mut out:Array Keyed:= #[<-elem' b 0]
 let mut ia:=0
 let mut ib:=1
 if ib==b.size then return done out ia ib
 if ia+1==a.size then return lr out ia ib
 let mut minGallop:=gallopOf (<-get)
 for _ in [0:total] do
  let mut dj:=0
  let mut di:=0
  for _ in [0:total] do
   let some N2<-lt' (<-elem' b ib) (<-elem' a ia) | return done out ia ib
   if N2 then
    out:=out.push (<-elem' b ib);ib:=ib+1;di:=di+1;dj:=0
    if ib==b.size then return done out ia ib
    if di>=minGallop then break
   else
    out:=out.push (<-elem' a ia);ia:=ia+1;dj:=dj+1;di:=0
    if ia+1==a.size then return lr out ia ib
    if dj>=minGallop then break
  rule "list.sort.gallop"
  minGallop:=minGallop+1
  for _ in [0:total] do
   if minGallop > 1 then minGallop:=minGallop - 1
   cq minGallop
   let some k<-eY false (<-elem' b ib) a ia (a.size - ia) 0 | return done out ia ib
   dj:=k
   if k > 0 then
    out:=out++a.extract ia (ia+k);ia:=ia+k
    if ia+1==a.size then return lr out ia ib
    if ia==a.size then return done out ia ib
   out:=out.push (<-elem' b ib);ib:=ib+1
   if ib==b.size then return done out ia ib
   let some k<-eY true (<-elem' a ia) b ib (b.size - ib) 0 | return done out ia ib
   di:=k
   if k > 0 then
    out:=out++b.extract ib (ib+k);ib:=ib+k
    if ib==b.size then return done out ia ib
   out:=out.push (<-elem' a ia);ia:=ia+1
   if ia+1==a.size then return lr out ia ib
   if dj < 7 && di < 7 then break
  minGallop:=minGallop+1
  cq minGallop
 unsupported "internal:list.sort.merge-bound"):=rfl
theorem uu{a:Array Keyed}(h:i < a.size):a[i]∈a.toList:=by simp
end
theorem G2{β γ δ ε:Type}{A1 A2:Nat->Prop}{st:SortSt}{J:Nat->Option (Array Keyed) × β × γ × δ × ε->Prop}{G:Nat->Option (Array Keyed) × β × γ × δ × ε->SortSt->Prop}(h: ∀i a b c d g,A1 i->A2 i->J i (none,a,b,c,d)->G i (none,a,b,c,d) (setG st g)):
  ∀i c az,A1 i->A2 i->((∃g,az=setG st g)/\c.1=none/\J i c)->G i c az:=by
 rintro i ⟨r,a,b,c,d⟩ az h1 h2 ⟨⟨g,rfl⟩,hr,hJ⟩
 have hr:r=none:=hr;subst hr;exact h i a b c d g h1 h2 hJ
theorem G1{β γ δ ε ζ:Type}{A1 A2:Nat->Prop}{J:Nat->Option (Array Keyed) × β × γ × δ × ε × ζ->Prop}{G:Nat->Option (Array Keyed) × β × γ × δ × ε × ζ->SortSt->Prop}(h: ∀i a b c d e,A1 i->A2 i->J i (none,a,b,c,d,e)->G i (none,a,b,c,d,e) gq):
  ∀i c az,A1 i->A2 i->(az=gq/\c.1=none/\J i c)->G i c az:=by
 rintro i ⟨r,a,b,c,d,e⟩ az h1 h2 ⟨rfl,hr,hJ⟩
 have hr:r=none:=hr;subst hr;exact h i a b c d e h1 h2 hJ
theorem G0{β γ δ ε ζ η:Type}{A1 A2:Nat->Prop}{st:SortSt}{J:Nat->Option (Array Keyed) × β × γ × δ × ε × ζ × η->Prop}{G:Nat->Option (Array Keyed) × β × γ × δ × ε × ζ × η->SortSt->Prop}(h: ∀i a b c d e f g,A1 i->A2 i->J i (none,a,b,c,d,e,f)->G i (none,a,b,c,d,e,f) (setG st g)):
  ∀i c az,A1 i->A2 i->((∃g,az=setG st g)/\c.1=none/\J i c)->G i c az:=by
 rintro i ⟨r,a,b,c,d,e,f⟩ az h1 h2 ⟨⟨g,rfl⟩,hr,hJ⟩
 have hr:r=none:=hr;subst hr;exact h i a b c d e f g h1 h2 hJ
theorem Ma{β γ δ ε ζ:Type}{gq:SortSt}{K:Array Keyed->Prop}{J:Option (Array Keyed) × β × γ × δ × ε × ζ->Prop}{G:Option (Array Keyed) × β × γ × δ × ε × ζ->SortSt->Prop}(h1: ∀r a b c d e,K r->G (some r,a,b,c,d,e) gq)(h2: ∀a b c d e,J (none,a,b,c,d,e)->G (none,a,b,c,d,e) gq):
  ∀c az,(az=gq/\((∃r,c.1=some r/\K r)\/(c.1=none/\J c)))->G c az:=by
 rintro⟨r,a,b,c,d,e⟩ az ⟨rfl,⟨r',hr,k⟩ | ⟨hr,hJ⟩⟩
 . have hr:r=some r':=hr;subst hr;exact h1 _ _ _ _ _ _ k
 . have hr:r=none:=hr;subst hr;exact h2 _ _ _ _ _ hJ
theorem L9{β γ δ ε ζ η:Type}{st:SortSt}{K:Array Keyed->Prop}{J:Option (Array Keyed) × β × γ × δ × ε × ζ × η->Prop}{G:Option (Array Keyed) × β × γ × δ × ε × ζ × η->SortSt->Prop}(h1: ∀r a b c d e f g,K r->G (some r,a,b,c,d,e,f) (setG st g))(h2: ∀a b c d e f g,J (none,a,b,c,d,e,f)->G (none,a,b,c,d,e,f) (setG st g)):
  ∀c az,((∃g,az=setG st g)/\((∃r,c.1=some r/\K r)\/(c.1=none/\J c)))->G c az:=by
 rintro⟨r,a,b,c,d,e,f⟩ az ⟨⟨g,rfl⟩,⟨r',hr,k⟩ | ⟨hr,hJ⟩⟩
 . have hr:r=some r':=hr;subst hr;exact h1 _ _ _ _ _ _ _ _ k
 . have hr:r=none:=hr;subst hr;exact h2 _ _ _ _ _ _ _ hJ
theorem sr(a b:Array Keyed):mF a b=(do
 rule "list.sort.merge-hi"
 let total:=a.size+b.size
 let done (out:Array Keyed) (na nb:Nat):=a.extract 0 na++b.extract 0 nb++out.reverse
 let ju (out:Array Keyed) (na nb:Nat):=b.extract 0 nb++a.extract 0 na++out.reverse
 let mut na:=a.size - 1
 let mut nb:=b.size
 let mut out:Array Keyed:= #[<-elem' a na]
 if na==0 then return done out na nb
 if nb==1 then return ju out na nb
 let mut minGallop:=gallopOf (<-get)
 for _ in [0:total] do
  let mut dj:=0
  let mut di:=0
  for _ in [0:total] do
   let some N7<-lt' (<-elem' b (nb - 1)) (<-elem' a (na - 1)) | return done out na nb
   if N7 then
    na:=na - 1;out:=out.push (<-elem' a na);dj:=dj+1;di:=0
    if na==0 then return done out na nb
    if dj>=minGallop then break
   else
    nb:=nb - 1;out:=out.push (<-elem' b nb);di:=di+1;dj:=0
    if nb==1 then return ju out na nb
    if di>=minGallop then break
  rule "list.sort.gallop"
  minGallop:=minGallop+1
  for _ in [0:total] do
   if minGallop > 1 then minGallop:=minGallop - 1
   cq minGallop
   let some at_<-eY false (<-elem' b (nb - 1)) a 0 na (na - 1) | return done out na nb
   let k:=na - at_
   dj:=k
   if k > 0 then
    out:=out++(a.extract at_ na).reverse;na:=at_
    if na==0 then return done out na nb
   nb:=nb - 1;out:=out.push (<-elem' b nb)
   if nb==1 then return ju out na nb
   let some at_<-eY true (<-elem' a (na - 1)) b 0 nb (nb - 1) | return done out na nb
   let k:=nb - at_
   di:=k
   if k > 0 then
    out:=out++(b.extract at_ nb).reverse;nb:=at_
    if nb==1 then return ju out na nb
    if nb==0 then return done out na nb
   na:=na - 1;out:=out.push (<-elem' a na)
   if na==0 then return done out na nb
   if dj < 7 && di < 7 then break
  minGallop:=minGallop+1
  cq minGallop
 unsupported "internal:list.sort.merge-bound"):=rfl
section
variable{prog:Program}{w:World}{A:Around}{E:Value->Shared->Prop}{s:Shared}{a₀:Array Keyed}{p:Array (Nat × Nat × Nat)}
def Ch:Nat->List (Nat × Nat × Nat)->Nat->Prop
 | s,[],e=>s=e
 | s,x::r,e=>x.1=s/\1<=x.2.1/\Ch (x.1+x.2.1) r e
theorem Ch.le: ∀{s e:Nat} {l:List (Nat × Nat × Nat)},Ch s l e->s<=e
 | s,e,[],h=>ag7 h
 | s,e,x::r,h=>by have:=Ch.le h.2.2;have:=h.1;lia
theorem Ch.two: ∀{s e i:Nat} {l:List (Nat × Nat × Nat)} {x y:Nat × Nat × Nat},Ch s l e->l[i]?=some x->l[i+1]?=some y->1<=x.2.1/\x.1+x.2.1=y.1/\1<=y.2.1/\y.1+y.2.1<=e
 | s,e,i,[],x,y,h,h1,_=>by simp at h1
 | s,e,0,[z],x,y,h,h1,h2=>by simp at h2
 | s,e,0,z::z2::r,x,y,h,h1,h2=>by
  cases (show z=x by simpa using h1);cases (show z2=y by simpa using h2);exact⟨h.2.1,h.2.2.1.symm,h.2.2.2.1,Ch.le h.2.2.2.2⟩
 | s,e,i+1,z::r,x,y,h,h1,h2=>Ch.two h.2.2 (by simpa using h1) (by simpa using h2)
theorem sv(i:Nat):mergeAt' i=(do
 let s<-get
 let (some (sa,na,power),some (sb,nb,_)):=((pendingOf s)[i]?,(pendingOf s)[i+1]?) | unsupported "internal:list.sort.pending"
 set (setPending s (((pendingOf s).setIfInBounds i (sa,na+nb,power)).eraseIdxIfInBounds (i+1)))
 let some k<-eY false (<-elem' (arrOf s) sb) (arrOf s) sa na 0 | return false
 let (sa,na):=(sa+k,na - k)
 if na==0 then return true
 let some nb<-eY true (<-elem' (arrOf s) (sa+na - 1)) (arrOf s) sb nb (nb - 1) | return false
 if nb==0 then return true
 let x:=(arrOf s).extract sa sb
 let y:=(arrOf s).extract sb (sb+nb)
 let merged<-if na<=nb then mE x y else mF x y
 modify fun s=>setArr s (merged.toList.zipIdx.foldl (fun a (p,j)=>a.setIfInBounds (sa+j) p) (arrOf s))
 return(failedOf (<-get)).isNone):=rfl
theorem DE{σ:Type}{M:Model}{Q:PUnit->σ->Prop}{st az:σ}(h:Q ⟨⟩ az):wpS M A E s (set az:StateT σ Sem PUnit) Q st:=by
 unfold wpS;rw[StateT.run_set];exact Yv ⟨rfl,h⟩
end
theorem mC: ∀{f n r:Nat},1<=n->1<=minRun' f n r
 | 0,n,r,h=>by show 1<=n+r;omega
 | f+1,n,r,h=>by
  rw[minRun'_succ];by_cases c:n < 64
  . rw[if_pos c];omega
  . rw[if_neg c];exact mC (by omega)
end fJ
namespace fg
open PySem PyProof.Rows fJ
noncomputable def rk(R:Keyed->Int)(a:Array Keyed)(i:Nat):Int:=(a[i]?.map R).getD 0
def dU(R:Keyed->Int)(a:Array Keyed):Prop:=a.toList.Pairwise fun x y=>R x<=R y
def Out(R:Keyed->Int)(a b m:Array Keyed):Prop:=m.toList.Perm (a.toList++b.toList)/\dU R m
section
variable{R:Keyed->Int}
theorem bS{a:Array Keyed}(h:i < a.size):rk R a i=R a[i]:=by
 unfold rk;rw[Zo h];rfl
theorem dU.rk{a:Array Keyed}(h:dU R a){i j:Nat}(bN:i<=j)(hj:j < a.size):rk R a i<=rk R a j:=by
 rw[bS (show i < a.size by lia),bS hj];by_cases c:i=j
 . subst c;exact ZV _
 . exact ZJ.mp h i j (by simpa using (show i < a.size by lia)) (by simpa using hj) (by lia)
theorem fT{a:Array Keyed}:(a.extract i j).toList=(a.toList.drop i).take (j - i):=by
 rw[Array.toList_extract,List.extract_eq_drop_take]
theorem cS{a:Array Keyed}(h:x∈(a.extract i j).toList): ∃k,i<=k/\k < j/\k < a.size/\R x=fg.rk R a k:=by
 obtain⟨k,hk,e⟩:=ZW h;have Dm:k < (a.extract i j).size:=by rw[<-YH];exact hk
 have hs:(a.extract i j).size=min j a.size - i:=ab8;refine⟨i+k,by lia,by lia,by lia,?_⟩;rw[bS (show i+k < a.size by lia),<-e];congr 1
 rw[Array.getElem_toList,Array.getElem_extract]
theorem dU.ex(h:dU R a)(i j:Nat):dU R (a.extract i j):=by
 unfold dU;rw[fT];exact(List.Pairwise.sublist (List.drop_sublist _ _) h).sublist (List.take_sublist _ _)
theorem vS{a out:Array Keyed}(h:i < a.size):out.push a[i]=out++a.extract i (i+1):=by
 apply ad2.mp;rw[ae3,Zh,fT,show i+1 - i=1 by lia];congr 1
 have h':i < a.toList.length:=by simpa using h
 rw[ae4 h',List.take_succ_cons,aj0,Array.getElem_toList]
structure Lo(R:Keyed->Int)(a b out:Array Keyed)(ia ib:Nat):Prop where
 pm:(out.toList++(a.toList.drop ia++b.toList.drop ib)).Perm (a.toList++b.toList)
 so:dU R out
 la: ∀x∈out.toList,∀j,ia<=j->j < a.size->R x<=rk R a j
 lb: ∀x∈out.toList,∀j,ib<=j->j < b.size->R x<=rk R b j
theorem dU.app(h1:dU R m)(h2:dU R n)(h: ∀x∈m.toList,∀y∈n.toList,R x<=R y):dU R (m++n):=by
 unfold dU;rw[Zh];exact List.pairwise_append.mpr ⟨h1,h2,h⟩
theorem wN{a:Array Keyed}(h:i<=j):a.toList.drop i=(a.extract i j).toList++a.toList.drop j:=by
 rw[fT];conv=>lhs;rw[<-Z9 (j - i) (a.toList.drop i)]
 rw[List.drop_drop,show i+(j - i)=j by lia]
theorem Lo.iV{a b out:Array Keyed}{ia ib:Nat}(h:Lo R a b out ia ib)(sa:dU R a)(sb:dU R b){ia':Nat}(h1:ia<=ia')(hc:ia < ia'->ia'<=a.size->ib < b.size->rk R a (ia' - 1)<=rk R b ib)(h2:ia'<=a.size:=by lia):Lo R a b (out++a.extract ia ia') ia' ib:=by
 refine⟨?_,h.so.app (sa.ex _ _) fun x hx y hy=>?_,fun x hx j j1 j2=>?_,fun x hx j j1 j2=>?_⟩
 . rw[Zh];refine List.Perm.trans ?_ h.pm;rw[wN (a:=a) h1,Zg,Zg]
 . obtain⟨k,k1,k2,k3,e⟩:=cS (R:=R) hy;rw[e];exact h.la x hx k k1 k3
 . rw[Zh] at hx;rcases Zi.mp hx with z | z
   . exact h.la x z j (by lia) j2
   . obtain⟨k,k1,k2,k3,e⟩:=cS (R:=R) z;rw[e];exact sa.rk (by lia) j2
 . rw[Zh] at hx;rcases Zi.mp hx with z | z
   . exact h.lb x z j j1 j2
   . obtain⟨k,k1,k2,k3,e⟩:=cS (R:=R) z;rw[e];have q1:=sa.rk (show k<=ia' - 1 by lia) (by lia);have q2:=hc (by lia) h2 (by lia);have q3:=sb.rk j1 j2;lia
theorem Lo.gF{a b out:Array Keyed}{ia ib:Nat}(h:Lo R a b out ia ib)(sa:dU R a)(sb:dU R b){ib':Nat}(h1:ib<=ib')(hc:ib < ib'->ib'<=b.size->ia < a.size->rk R b (ib' - 1)<=rk R a ia)(h2:ib'<=b.size:=by lia):Lo R a b (out++b.extract ib ib') ia ib':=by
 refine⟨?_,h.so.app (sb.ex _ _) fun x hx y hy=>?_,fun x hx j j1 j2=>?_,fun x hx j j1 j2=>?_⟩
 . rw[Zh];refine List.Perm.trans ?_ h.pm;rw[wN (a:=b) h1,Zg];refine List.Perm.append_left _ ?_;rw[<-Zg,<-Zg];exact List.Perm.append_right _ ad7
 . obtain⟨k,k1,k2,k3,e⟩:=cS (R:=R) hy;rw[e];exact h.lb x hx k k1 k3
 . rw[Zh] at hx;rcases Zi.mp hx with z | z
   . exact h.la x z j j1 j2
   . obtain⟨k,k1,k2,k3,e⟩:=cS (R:=R) z;rw[e];have q1:=sb.rk (show k<=ib' - 1 by lia) (by lia);have q2:=hc (by lia) h2 (by lia);have q3:=sa.rk j1 j2;lia
 . rw[Zh] at hx;rcases Zi.mp hx with z | z
   . exact h.lb x z j (by lia) j2
   . obtain⟨k,k1,k2,k3,e⟩:=cS (R:=R) z;rw[e];exact sb.rk (by lia) j2
theorem Lo.out{a b out:Array Keyed}{ia ib:Nat}(h:Lo R a b out ia ib)(h1:ia=a.size)(h2:ib=b.size):Out R a b out:=by
 refine⟨?_,h.so⟩;have:=h.pm;rw[h1,h2,List.drop_eq_nil_of_le (by simp),List.drop_eq_nil_of_le (by simp),Zw,Zw] at this;exact this
theorem Lo.done{a b out:Array Keyed}{ia ib:Nat}(h:Lo R a b out ia ib)(sa:dU R a)(sb:dU R b)(ha:ia<=a.size)(hb:ib<=b.size)(hh:ib=b.size\/ia=a.size):Out R a b (out++a.extract ia a.size++b.extract ib b.size):=
 ((h.iV sa sb ha (fun z1 _ z=>by lia) (Yx _)).gF sa sb hb (fun z1 _ z=>by lia) (Yx _)).out rfl rfl
theorem Lo.last{a b out:Array Keyed}{ia ib:Nat}(h:Lo R a b out ia ib)(sa:dU R a)(sb:dU R b)(ha:ia<=a.size)(hb:ib<=b.size)(hl:ib < b.size->rk R b (b.size - 1)<=rk R a ia):Out R a b (out++b.extract ib b.size++a.extract ia a.size):=
 ((h.gF sa sb hb (fun z1 _ z=>hl z1) (Yx _)).iV sa sb ha (fun z1 _ z=>by lia) (Yx _)).out rfl rfl
end
section
variable{prog:Program}{w:World}{A:Around}{E:Value->Shared->Prop}{s:Shared}{κ:SortKind}{R:Keyed->Int}{D:Keyed->Prop}
def nZ(prog:Program)(w:World)(A:Around)(E:Value->Shared->Prop)(s:Shared)(κ:SortKind)(R:Keyed->Int)(D:Keyed->Prop):Prop:= ∀(st:SortSt) (x y:Keyed) (Q:Option Bool->SortSt->Prop),kindOf st=κ->D x->D y->Q (some (decide (R x < R y))) st->wpS (model prog w) A E s (lt' x y) Q st
def Dk(D:Keyed->Prop)(a:Array Keyed):Prop:= ∀i (h:i < a.size),D a[i]
noncomputable def fL(R:Keyed->Int)(left:Bool)(r:Int)(a:Array Keyed)(i:Nat):Bool:=if left then decide (rk R a i < r) else !decide (r < rk R a i)
theorem tu(h:rk R a i<=rk R a j)(hb:fL R left r a j=true):fL R left r a i=true:=by
 unfold fL at hb ⊢;cases left
 . simp at hb ⊢;lia
 . simp at hb ⊢;lia
theorem CQ(h:rk R a i<=rk R a j)(hb:fL R left r a i=false):fL R left r a j=false:=by
 cases e:fL R left r a j with
 | false=>rfl
 | true=>rw[tu h e] at hb;cases hb
theorem m6(h:fL R true r a i=true):rk R a i < r:=by unfold fL at h;simpa using h
theorem m7(h:fL R true r a i=false):r<=rk R a i:=by unfold fL at h;simpa using h
theorem u6(h:fL R false r a i=true):rk R a i<=r:=by unfold fL at h;simpa using h
theorem u7(h:fL R false r a i=false):r < rk R a i:=by unfold fL at h;simpa using h
theorem kY(L:nZ prog w A E s κ R D){st:SortSt}{left:Bool}{base i:Nat}(hk:kindOf st=κ)(hx:Dk D arr)(kL:D key)(hi:base+i < arr.size)(h:Q (some (fL R left (R key) arr (base+i))) st):
  wpS (model prog w) A E s (do
   let x<-elem' arr (base+i)
   if left then lt' x key else return(<-lt' key x).map (!·)) Q st:=by
 refine Yz (aD hi ?_);unfold fL at h;rw[bS hi] at h;cases left with
 | true=>rw[if_pos rfl] at h ⊢;exact L _ _ _ _ hk (hx _ hi) kL h
 | false=>
  rw[if_neg YJ] at h ⊢;exact Yz (L _ _ _ _ hk kL (hx _ hi) (YD h))
theorem eU(L:nZ prog w A E s κ R D){st:SortSt}{left:Bool}{base n hint:Nat}(hk:kindOf st=κ)(hx:Dk D arr)(kL:D key)(hb:base+n<=arr.size)(hh:hint < n)(hm: ∀i j,i<=j->j < n->rk R arr (base+i)<=rk R arr (base+j))(h: ∀k,k<=n->(∀i,i < k->fL R left (R key) arr (base+i)=true)->(∀i,k<=i->i < n->fL R left (R key) arr (base+i)=false)->Q (some k) st):wpS (model prog w) A E s (eY left key arr base n hint) Q st:=by
 have up: ∀j,j < n->fL R left (R key) arr (base+j)=true-> ∀i,i<=j->fL R left (R key) arr (base+i)=true:=fun j hj hb i hi=>tu (hm i j hi hj) hb;have dn: ∀i,fL R left (R key) arr (base+i)=false-> ∀j,i<=j->j < n->fL R left (R key) arr (base+j)=false:=fun i hb j hi hj=>CQ (hm i j hi hj) hb;rw[uK];dsimp only;have tail: ∀lo hi:Nat,lo<=hi->hi<=n->(∀i,i < lo->fL R left (R key) arr (base+i)=true)->(∀i,hi<=i->i < n->fL R left (R key) arr (base+i)=false)->wpS (model prog w) A E s (do
   let mut lo:=lo
   let mut hi:=hi
   for _ in [0:n] do
    if lo>=hi then break
    let m:=lo+(hi - lo) / 2
    let some more<-(do
      let x<-elem' arr (base+m)
      if left then lt' x key else return(<-lt' key x).map (!·):StateT SortSt Sem (Option Bool)) | return none
    if more then lo:=m+1 else hi:=m
   return some hi) Q st:=by
  intro lo hi Rg V8 hP hN;dsimp only;refine Yz (ZU (Zy (I:=fun x c az=>az=st/\c.1=none/\c.2.1<=c.2.2/\c.2.2<=n/\c.2.2 - c.2.1<=n - x/\(∀i,i < c.2.1->fL R left (R key) arr (base+i)=true)/\ ∀i,c.2.2<=i->i < n->fL R left (R key) arr (base+i)=false)
   (Q:=fun c az=>az=st/\c.1=none/\c.2.1=c.2.2/\c.2.2<=n/\(∀i,i < c.2.1->fL R left (R key) arr (base+i)=true)/\ ∀i,c.2.2<=i->i < n->fL R left (R key) arr (base+i)=false) ?step ?fin ⟨rfl,rfl,Rg,V8,by dsimp only;lia,hP,hN⟩) ?post)
  case post=>
   rintro⟨r,l,u⟩ az ⟨rfl,h1,h2,h3,h4,h5⟩
   dsimp only at h1 h2 h3 h4 h5 ⊢;subst h1;subst h2;exact YD (h _ h3 h4 h5)
  case fin=>
   rintro⟨r,l,u⟩ az ⟨h0,h1,h2,h3,h4,h5,h6⟩
   dsimp only at h2 h4;exact⟨h0,h1,by dsimp only;lia,h3,h5,h6⟩
  case step=>
   rintro x ⟨r,l,u⟩ az _ XG ⟨rfl,h1,h2,h3,h4,h5,h6⟩
   dsimp only at h1 h2 h3 h4 h5 h6 ⊢;subst h1;by_cases c:l>=u
   . rw[if_pos c];exact YD ⟨rfl,rfl,by dsimp only;lia,h3,h5,h6⟩
   . rw[if_neg c];refine Yz (kY L hk hx kL (by lia) ?_);cases e:fL R left (R key) arr (base+(l+(u - l) / 2))
     . exact YD ⟨rfl,rfl,by dsimp only;lia,by dsimp only;lia,by dsimp only;lia,h5,dn _ e⟩
     . exact YD ⟨rfl,rfl,by dsimp only;lia,h3,by dsimp only;lia,fun i hi=>up _ (by lia) e i (by dsimp only at hi;lia),h6⟩
 refine Yz (kY L hk hx kL (by lia) ?_);cases right:fL R left (R key) arr (base+hint) with
 | true=>
  dsimp only;rw[if_pos rfl];refine Yz (ZU (Zy (I:=fun x c az=>az=st/\c.1=none/\hint+c.2.1 < n/\fL R left (R key) arr (base+(hint+c.2.1))=true/\c.2.1 < c.2.2/\x+1<=c.2.2)
   (Q:=fun c az=>az=st/\c.1=none/\hint+c.2.1 < n/\fL R left (R key) arr (base+(hint+c.2.1))=true/\c.2.1 < c.2.2/\(n - hint<=c.2.2\/hint+c.2.2 < n/\fL R left (R key) arr (base+(hint+c.2.2))=false)) ?step ?fin ⟨rfl,rfl,hh,by dsimp only;rw[ac0];exact right,by decide,by decide⟩) ?post)
  case post=>
   rintro⟨r,l,u⟩ az ⟨rfl,h1,h2,h3,h4,h5⟩
   dsimp only at h1 h2 h3 h4 h5 ⊢;subst h1;have q: ∀i,hint+min u (n - hint)<=i->i < n->fL R left (R key) arr (base+i)=false:=fun i hi hn=>by
    rcases h5 with z | z
    . lia
    . exact dn _ z.2 i (by lia) hn
   exact tail _ _ (by lia) (by lia) (fun i hi=>up _ h2 h3 i (by lia)) q
  case fin=>
   rintro⟨r,l,u⟩ az ⟨h0,h1,h2,h3,h4,h5⟩
   dsimp only at h5;exact⟨h0,h1,h2,h3,h4,.inl (by dsimp only;lia)⟩
  case step=>
   rintro x ⟨r,l,u⟩ az _ _ ⟨rfl,h1,h2,h3,h4,h5⟩
   dsimp only at h1 h2 h3 h4 h5 ⊢;subst h1;by_cases c:u>=n - hint
   . rw[if_pos c];exact YD ⟨rfl,rfl,h2,h3,h4,.inl c⟩
   . rw[if_neg c];refine Yz (kY L hk hx kL (by lia) ?_);cases e:fL R left (R key) arr (base+(hint+u))
     . exact YD ⟨rfl,rfl,h2,h3,h4,.inr ⟨by dsimp only;lia,e⟩⟩
     . exact YD ⟨rfl,rfl,by dsimp only;lia,e,by dsimp only;lia,by dsimp only;lia⟩
 | false=>
  dsimp only;rw[if_neg YJ];refine Yz (ZU (Zy (I:=fun x c az=>az=st/\c.1=none/\c.2.1<=hint/\fL R left (R key) arr (base+(hint - c.2.1))=false/\c.2.1 < c.2.2/\x+1<=c.2.2)
   (Q:=fun c az=>az=st/\c.1=none/\c.2.1<=hint/\fL R left (R key) arr (base+(hint - c.2.1))=false/\c.2.1 < c.2.2/\(hint+1<=c.2.2\/c.2.2<=hint/\fL R left (R key) arr (base+(hint - c.2.2))=true)) ?step ?fin ⟨rfl,rfl,Za _,by dsimp only;rw[ai2];exact right,by decide,by decide⟩) ?post)
  case post=>
   rintro⟨r,l,u⟩ az ⟨rfl,h1,h2,h3,h4,h5⟩
   dsimp only at h1 h2 h3 h4 h5 ⊢;subst h1;have q: ∀i,i < hint+1 - min u (hint+1)->fL R left (R key) arr (base+i)=true:=fun i hi=>by
    rcases h5 with z | z
    . lia
    . exact up _ (by lia) z.2 i (by lia)
   exact tail _ _ (by lia) (by lia) q fun i hi hn=>dn _ h3 i hi hn
  case fin=>
   rintro⟨r,l,u⟩ az ⟨h0,h1,h2,h3,h4,h5⟩
   dsimp only at h5;exact⟨h0,h1,h2,h3,h4,.inl (by dsimp only;lia)⟩
  case step=>
   rintro x ⟨r,l,u⟩ az _ _ ⟨rfl,h1,h2,h3,h4,h5⟩
   dsimp only at h1 h2 h3 h4 h5 ⊢;subst h1;by_cases c:u>=hint+1
   . rw[if_pos c];exact YD ⟨rfl,rfl,h2,h3,h4,.inl c⟩
   . rw[if_neg c];refine Yz (kY L hk hx kL (by lia) ?_);cases e:fL R left (R key) arr (base+(hint - u))
     . exact YD ⟨rfl,rfl,by dsimp only;lia,e,by dsimp only;lia,by dsimp only;lia⟩
     . exact YD ⟨rfl,rfl,h2,h3,h4,.inr ⟨by dsimp only;lia,e⟩⟩
end
theorem Lo.kj{a b out:Array Keyed}{ia ib:Nat}(h:Lo R a b out ia ib)(sa:dU R a)(sb:dU R b)(hi:ib < b.size)(hc:ia < a.size->rk R b ib<=rk R a ia):Lo R a b (out.push b[ib]) ia (ib+1):=by
 rw[vS hi];exact h.gF sa sb (by lia) (fun _ _ z=>by rw[Nat.add_sub_cancel];exact hc z) (by lia)
theorem Lo.gf{a b out:Array Keyed}{ia ib:Nat}(h:Lo R a b out ia ib)(sa:dU R a)(sb:dU R b)(hi:ia < a.size)(hc:ib < b.size->rk R a ia<=rk R b ib):Lo R a b (out.push a[ia]) (ia+1) ib:=by
 rw[vS hi];exact h.iV sa sb (by lia) (fun _ _ z=>by rw[Nat.add_sub_cancel];exact hc z) (by lia)
theorem Lo.start(sa:dU R a)(sb:dU R b)(b1:0 < b.size)(hc:0 < a.size->rk R b 0<=rk R a 0):Lo R a b #[b[0]] 0 1:=
 Lo.kj (out:= #[]) ⟨by simp,List.Pairwise.nil,fun x hx=>by simp at hx,fun x hx=>by simp at hx⟩ sa sb b1 hc
theorem qY{st:SortSt}(L:nZ prog w A E s κ R D)(hk:kindOf st=κ)(ha:Dk D a)(hb:Dk D b)(sa:dU R a)(sb:dU R b)(a1:1<=a.size)(b1:1<=b.size)(c0:rk R b 0<=rk R a 0)(cl:rk R b (b.size - 1)<=rk R a (a.size - 1))(h: ∀m g,Out R a b m->Q m (setG st g)):wpS (model prog w) A E s (mE a b) Q st:=by
 rw[sk];dsimp only;refine Yz (wpS_lift (Z7 ⟨rfl,?_⟩));refine Yz (aD (by lia) ?_);have ho:Lo R a b #[b[0]] 0 1:=Lo.start sa sb b1 fun _=>c0;by_cases c1:(1==b.size)=true
 . refine au c1 ?_;exact YD (h _ (gallopOf st) (ho.done sa sb (by lia) (by lia) (.inl (YL.mp c1))))
 refine av c1 ?_;by_cases c2:(0+1==a.size)=true
 . refine au c2 ?_;have G4:=YL.mp c2;exact YD (h _ (gallopOf st) (ho.last sa sb (by lia) (by lia) fun _=>by rw[show a.size - 1=0 by lia] at cl;exact cl))
 refine av c2 ?_;have c1:1≠b.size:=fun z=>c1 (YL.mpr z);have c2:0+1≠a.size:=fun z=>c2 (YL.mpr z);refine Yz (ag4 ?_);refine Yz (ZU (Zy (I:=fun i c az=>(∃g,az=setG st g)/\c.1=none/\Lo R a b c.2.1 c.2.2.1 c.2.2.2.1/\c.2.2.1+1 < a.size/\c.2.2.2.1 < b.size/\1+i<=c.2.2.1+c.2.2.2.1)
  (Q:=fun c az=>(∃g,az=setG st g)/\ ∃r,c.1=some r/\Out R a b r) ?step ?fin ⟨⟨gallopOf st,rfl⟩,rfl,(by dsimp only;exact ho),by dsimp only;lia,by dsimp only;lia,by dsimp only;lia⟩) ?post)
 case post=>
  rintro⟨r,out,ia,ib,mg⟩ az ⟨⟨g,rfl⟩,r',h1,h2⟩
  dsimp only at h1 ⊢;subst h1;exact YD (h _ _ h2)
 case fin=>
  rintro⟨r,out,ia,ib,mg⟩ az ⟨_,_,_,h1,h2,h3⟩
  dsimp only at h1 h2 h3;lia
 case step=>
  refine G2 ?_;intro i out ia ib mg g _ hi hJ;have ho:Lo R a b out ia ib:=hJ.1;have h1:ia+1 < a.size:=hJ.2.1;have h2:ib < b.size:=hJ.2.2.1;have h3:1+i<=ia+ib:=hJ.2.2.2;clear hJ;dsimp only;refine Yz (ZU (Zy (I:=fun j c az=>az=setG st g/\c.1=none/\Lo R a b c.2.1 c.2.2.1 c.2.2.2.1/\c.2.2.1+1 < a.size/\c.2.2.2.1 < b.size/\1+i+min j 1<=c.2.2.1+c.2.2.2.1)
   (Q:=fun c az=>az=setG st g/\((∃r,c.1=some r/\Out R a b r)\/(c.1=none/\Lo R a b c.2.1 c.2.2.1 c.2.2.2.1/\c.2.2.1+1 < a.size/\c.2.2.2.1 < b.size/\1+(i+1)<=c.2.2.1+c.2.2.2.1))) ?istep ?ifin ⟨rfl,rfl,(by dsimp only;exact ho),(by dsimp only;exact h1),(by dsimp only;exact h2),by dsimp only;lia⟩) ?ipost)
  case ifin=>
   rintro⟨r,out,ia,ib,ac,bc⟩ az ⟨e,hr,ho,h1,h2,h3⟩
   dsimp only at hr ho h1 h2 h3;exact⟨e,.inr ⟨hr,ho,h1,h2,by dsimp only;lia⟩⟩
  case istep=>
   clear ho h1 h2 h3;refine G1 ?_;intro j out ia ib ac bc _ hj hJ;have ho:Lo R a b out ia ib:=hJ.1;have h1:ia+1 < a.size:=hJ.2.1;have h2:ib < b.size:=hJ.2.2.1;have h3:1+i+min j 1<=ia+ib:=hJ.2.2.2;clear hJ;have uG:ia < a.size:=by lia
   dsimp only;refine Yz (aD h2 (Yz (aD uG (Yz (L _ _ _ _ hk (hb _ h2) (ha _ uG) ?_)))));rw[<-bS (R:=R) h2,<-bS (R:=R) uG];cases bw:decide (rk R b ib < rk R a ia) with
   | true=>
    have bw:=Ze bw;have mP:=ho.kj sa sb h2 fun _=>aa9 bw;dsimp only;refine au rfl ?_;refine Yz (aD h2 ?_);by_cases c3:(ib+1==b.size)=true
    . refine au c3 ?_;exact YD ⟨rfl,.inl ⟨_,rfl,mP.done sa sb (by lia) (by lia) (.inl (YL.mp c3))⟩⟩
    refine av c3 ?_;have c3:ib+1≠b.size:=fun z=>c3 (YL.mpr z);by_cases c4:bc+1>=mg
    . refine au c4 ?_;exact YD ⟨rfl,.inr ⟨rfl,by dsimp only;exact mP,by dsimp only;lia,by dsimp only;lia,by dsimp only;lia⟩⟩
    . refine av c4 ?_;exact YD ⟨rfl,rfl,by dsimp only;exact mP,by dsimp only;lia,by dsimp only;lia,by dsimp only;lia⟩
   | false=>
    have bw:=ZE bw;have tM:=ho.gf sa sb uG fun _=>ai8.mp bw;dsimp only;refine av YJ ?_;refine Yz (aD uG ?_);by_cases c3:(ia+1+1==a.size)=true
    . refine au c3 ?_;have Ut:=YL.mp c3;exact YD ⟨rfl,.inl ⟨_,rfl,tM.last sa sb (by lia) (by lia) fun _=>by rw[show a.size - 1=ia+1 by lia] at cl;exact cl⟩⟩
    refine av c3 ?_;have c3:ia+1+1≠a.size:=fun z=>c3 (YL.mpr z);by_cases c4:ac+1>=mg
    . refine au c4 ?_;exact YD ⟨rfl,.inr ⟨rfl,by dsimp only;exact tM,by dsimp only;lia,by dsimp only;lia,by dsimp only;lia⟩⟩
    . refine av c4 ?_;exact YD ⟨rfl,rfl,by dsimp only;exact tM,by dsimp only;lia,by dsimp only;lia,by dsimp only;lia⟩
  case ipost=>
   clear ho h1 h2 h3;refine Ma (fun r' out ia ib ac bc ho=>?_) (fun out ia ib ac bc hJ=>?_)
   . exact YD ⟨⟨g,rfl⟩,_,rfl,ho⟩
   have ho:Lo R a b out ia ib:=hJ.1;have h1:ia+1 < a.size:=hJ.2.1;have h2:ib < b.size:=hJ.2.2.1;have h3:1+(i+1)<=ia+ib:=hJ.2.2.2;clear hJ;dsimp only;refine Yz (wpS_lift (Z7 ⟨rfl,?_⟩));refine Yz (ZU (Zy (I:=fun j c az=>(∃g,az=setG st g)/\c.1=none/\Lo R a b c.2.1 c.2.2.1 c.2.2.2.1/\c.2.2.1+1 < a.size/\c.2.2.2.1 < b.size/\1+(i+1)<=c.2.2.1+c.2.2.2.1)
    (Q:=fun c az=>(∃g,az=setG st g)/\((∃r,c.1=some r/\Out R a b r)\/(c.1=none/\Lo R a b c.2.1 c.2.2.1 c.2.2.2.1/\c.2.2.1+1 < a.size/\c.2.2.2.1 < b.size/\1+(i+1)<=c.2.2.1+c.2.2.2.1))) ?gstep ?gfin ⟨⟨g,rfl⟩,rfl,(by dsimp only;exact ho),(by dsimp only;exact h1),(by dsimp only;exact h2),(by dsimp only;exact h3)⟩) ?gpost)
   case gfin=>
    rintro⟨r,out,ia,ib,mg,ac,bc⟩ az ⟨e,hr,ho,h1,h2,h3⟩
    exact⟨e,.inr ⟨hr,ho,h1,h2,h3⟩⟩
   case gpost=>
    refine L9 (fun r' out ia ib mg ac bc g ho=>?_) (fun out ia ib mg ac bc g hJ=>?_)
    . exact YD ⟨⟨g,rfl⟩,_,rfl,ho⟩
    . dsimp only;rw[cb];exact Yz (ab1 (YD ⟨⟨_,rfl⟩,rfl,hJ⟩))
   case gstep=>
    clear ho h1 h2 h3 hi;refine G0 ?_;intro j out ia ib mg ac bc g _ hj hJ;have ho:Lo R a b out ia ib:=hJ.1;have h1:ia+1 < a.size:=hJ.2.1;have h2:ib < b.size:=hJ.2.2.1;have h3:1+(i+1)<=ia+ib:=hJ.2.2.2;clear hJ;dsimp only;refine have key:?P:=?pk;?main
    case main=>
     by_cases c0:mg > 1
     . refine au c0 ?_;clear c0;generalize mg - 1=m;revert m
       exact key
     . refine av c0 ?_;clear c0;generalize mg=m;revert m
       exact key
    case pk=>
     intro m;rw[cb];refine Yz (ab1 ?_);refine Yz (aD h2 ?_);refine Yz (eU L hk ha (hb _ h2) (by lia) (by lia) (fun p q pq q2=>sa.rk (by lia) (by lia)) fun k V6 kt kf=>?_);rw[<-bS (R:=R) h2] at kt kf;dsimp only;have Gx:0 < k->rk R a (ia+k - 1)<=rk R b ib:=fun z=>by have:=u6 (kt (k - 1) (by lia));rw[show ia+(k - 1)=ia+k - 1 by lia] at this;exact this
     have Jb:ia+k < a.size->rk R b ib<=rk R a (ia+k):=fun z=>aa9 (u7 (kf k (Yx _) (by lia)));clear kt kf;by_cases c3:k > 0
     . refine au c3 ?_;have tM:=ho.iV sa sb (ia':=ia+k) (by lia) (fun _ _ _=>Gx c3) (by lia);generalize out++a.extract ia (ia+k)=Qv at tM;by_cases c4:(ia+k+1==a.size)=true
       . refine au c4 ?_;have Us:=YL.mp c4;exact YD ⟨⟨_,rfl⟩,.inl ⟨_,rfl,tM.last sa sb (by lia) (by lia) fun _=>by rw[show a.size - 1=ia+k by lia] at cl;exact cl⟩⟩
       refine av c4 ?_;have Us:ia+k+1≠a.size:=fun z=>c4 (YL.mpr z);clear c4;by_cases c9:(ia+k==a.size)=true
       . refine au c9 ?_;exact YD ⟨⟨_,rfl⟩,.inl ⟨_,rfl,tM.done sa sb (by lia) (by lia) (.inr (YL.mp c9))⟩⟩
       refine av c9 ?_;have Yq:ia+k≠a.size:=fun z=>c9 (YL.mpr z);clear c9;refine Yz (aD h2 ?_);have mP:=tM.kj sa sb h2 Jb;by_cases c5:(ib+1==b.size)=true
       . refine au c5 ?_;exact YD ⟨⟨_,rfl⟩,.inl ⟨_,rfl,mP.done sa sb (by lia) (by lia) (.inl (YL.mp c5))⟩⟩
       refine av c5 ?_;have c5:ib+1≠b.size:=fun z=>c5 (YL.mpr z);have hK:ia+k < a.size:=by lia
       refine Yz (aD hK ?_);refine Yz (eU L hk hb (ha _ hK) (by lia) (by lia) (fun p q pq q2=>sb.rk (by lia) (by lia)) fun k2 OV kt kf=>?_);rw[<-bS (R:=R) hK] at kt kf;dsimp only;have lt':0 < k2->rk R b (ib+1+k2 - 1)<=rk R a (ia+k):=fun z=>by have:=aa9 (m6 (kt (k2 - 1) (by lia)));rw[show ib+1+(k2 - 1)=ib+1+k2 - 1 by lia] at this;exact this
       have zb:ib+1+k2 < b.size->rk R a (ia+k)<=rk R b (ib+1+k2):=fun z=>m7 (kf k2 (Yx _) (by lia));clear kt kf;by_cases c6:k2 > 0
       . refine au c6 ?_;have yr:=mP.gF sa sb (ib':=ib+1+k2) (by lia) (fun _ _ _=>lt' c6) (by lia);by_cases c7:(ib+1+k2==b.size)=true
         . refine au c7 ?_;exact YD ⟨⟨_,rfl⟩,.inl ⟨_,rfl,yr.done sa sb (by lia) (by lia) (.inl (YL.mp c7))⟩⟩
         refine av c7 ?_;have CP:ib+1+k2≠b.size:=fun z=>c7 (YL.mpr z);clear c7;refine Yz (aD hK ?_);have iL:=yr.gf sa sb hK zb;by_cases c7:(ia+k+1+1==a.size)=true
         . refine au c7 ?_;have CP:=YL.mp c7;exact YD ⟨⟨_,rfl⟩,.inl ⟨_,rfl,iL.last sa sb (by lia) (by lia) fun _=>by rw[show a.size - 1=ia+k+1 by lia] at cl;exact cl⟩⟩
         refine av c7 ?_;have c7:ia+k+1+1≠a.size:=fun z=>c7 (YL.mpr z);by_cases c8:(decide (k < 7) && decide (k2 < 7))=true
         . refine au c8 ?_;exact YD ⟨⟨_,rfl⟩,.inr ⟨rfl,by dsimp only;exact iL,by dsimp only;lia,by dsimp only;lia,by dsimp only;lia⟩⟩
         . refine av c8 ?_;exact YD ⟨⟨_,rfl⟩,rfl,by dsimp only;exact iL,by dsimp only;lia,by dsimp only;lia,by dsimp only;lia⟩
       . refine av c6 ?_;have Jh:k2=0:=by lia
         subst Jh;refine Yz (aD hK ?_);have iL:=mP.gf sa sb hK zb;by_cases c7:(ia+k+1+1==a.size)=true
         . refine au c7 ?_;have CP:=YL.mp c7;exact YD ⟨⟨_,rfl⟩,.inl ⟨_,rfl,iL.last sa sb (by lia) (by lia) fun _=>by rw[show a.size - 1=ia+k+1 by lia] at cl;exact cl⟩⟩
         refine av c7 ?_;have c7:ia+k+1+1≠a.size:=fun z=>c7 (YL.mpr z);by_cases c8:(decide (k < 7) && decide (0 < 7))=true
         . refine au c8 ?_;exact YD ⟨⟨_,rfl⟩,.inr ⟨rfl,by dsimp only;exact iL,by dsimp only;lia,by dsimp only;lia,by dsimp only;lia⟩⟩
         . refine av c8 ?_;exact YD ⟨⟨_,rfl⟩,rfl,by dsimp only;exact iL,by dsimp only;lia,by dsimp only;lia,by dsimp only;lia⟩
     . refine av c3 ?_;have k0:k=0:=by lia
       subst k0;rw[ac0] at Jb;refine Yz (aD h2 ?_);have mP:=ho.kj sa sb h2 Jb;by_cases c5:(ib+1==b.size)=true
       . refine au c5 ?_;exact YD ⟨⟨_,rfl⟩,.inl ⟨_,rfl,mP.done sa sb (by lia) (by lia) (.inl (YL.mp c5))⟩⟩
       refine av c5 ?_;have c5:ib+1≠b.size:=fun z=>c5 (YL.mpr z);have hK:ia < a.size:=by lia
       refine Yz (aD hK ?_);refine Yz (eU L hk hb (ha _ hK) (by lia) (by lia) (fun p q pq q2=>sb.rk (by lia) (by lia)) fun k2 OV kt kf=>?_);rw[<-bS (R:=R) hK] at kt kf;dsimp only;have lt':0 < k2->rk R b (ib+1+k2 - 1)<=rk R a (ia):=fun z=>by have:=aa9 (m6 (kt (k2 - 1) (by lia)));rw[show ib+1+(k2 - 1)=ib+1+k2 - 1 by lia] at this;exact this
       have zb:ib+1+k2 < b.size->rk R a (ia)<=rk R b (ib+1+k2):=fun z=>m7 (kf k2 (Yx _) (by lia));clear kt kf;by_cases c6:k2 > 0
       . refine au c6 ?_;have yr:=mP.gF sa sb (ib':=ib+1+k2) (by lia) (fun _ _ _=>lt' c6) (by lia);by_cases c7:(ib+1+k2==b.size)=true
         . refine au c7 ?_;exact YD ⟨⟨_,rfl⟩,.inl ⟨_,rfl,yr.done sa sb (by lia) (by lia) (.inl (YL.mp c7))⟩⟩
         refine av c7 ?_;have CP:ib+1+k2≠b.size:=fun z=>c7 (YL.mpr z);clear c7;refine Yz (aD hK ?_);have iL:=yr.gf sa sb hK zb;by_cases c7:(ia+1+1==a.size)=true
         . refine au c7 ?_;have CP:=YL.mp c7;exact YD ⟨⟨_,rfl⟩,.inl ⟨_,rfl,iL.last sa sb (by lia) (by lia) fun _=>by rw[show a.size - 1=ia+1 by lia] at cl;exact cl⟩⟩
         refine av c7 ?_;have c7:ia+1+1≠a.size:=fun z=>c7 (YL.mpr z);by_cases c8:(decide (0 < 7) && decide (k2 < 7))=true
         . refine au c8 ?_;exact YD ⟨⟨_,rfl⟩,.inr ⟨rfl,by dsimp only;exact iL,by dsimp only;lia,by dsimp only;lia,by dsimp only;lia⟩⟩
         . refine av c8 ?_;exact YD ⟨⟨_,rfl⟩,rfl,by dsimp only;exact iL,by dsimp only;lia,by dsimp only;lia,by dsimp only;lia⟩
       . refine av c6 ?_;have Jh:k2=0:=by lia
         subst Jh;refine Yz (aD hK ?_);have iL:=mP.gf sa sb hK zb;by_cases c7:(ia+1+1==a.size)=true
         . refine au c7 ?_;have CP:=YL.mp c7;exact YD ⟨⟨_,rfl⟩,.inl ⟨_,rfl,iL.last sa sb (by lia) (by lia) fun _=>by rw[show a.size - 1=ia+1 by lia] at cl;exact cl⟩⟩
         refine av c7 ?_;have c7:ia+1+1≠a.size:=fun z=>c7 (YL.mpr z);by_cases c8:(decide (0 < 7) && decide (0 < 7))=true
         . refine au c8 ?_;exact YD ⟨⟨_,rfl⟩,.inr ⟨rfl,by dsimp only;exact iL,by dsimp only;lia,by dsimp only;lia,by dsimp only;lia⟩⟩
         . refine av c8 ?_;exact YD ⟨⟨_,rfl⟩,rfl,by dsimp only;exact iL,by dsimp only;lia,by dsimp only;lia,by dsimp only;lia⟩
section
variable{R:Keyed->Int}
structure Hi(R:Keyed->Int)(a b out:Array Keyed)(na nb:Nat):Prop where
 pm:((a.toList.take na++b.toList.take nb)++out.reverse.toList).Perm (a.toList++b.toList)
 so:dU R out.reverse
 la: ∀x∈out.reverse.toList,∀j,j < na->j < a.size->rk R a j<=R x
 lb: ∀x∈out.reverse.toList,∀j,j < nb->j < b.size->rk R b j<=R x
theorem cB{out x:Array Keyed}:(out++x.reverse).reverse=x++out.reverse:=by
 apply ad2.mp;simp
theorem vA{a:Array Keyed}(h:i<=j):a.toList.take j=a.toList.take i++(a.extract i j).toList:=by
 rw[fT];conv=>lhs;rw[show j=i+(j - i) by lia]
 rw[List.take_add]
theorem Hi.iV{a b out:Array Keyed}{na nb:Nat}(h:Hi R a b out na nb)(sa:dU R a)(sb:dU R b){na':Nat}(h1:na'<=na)(h2:na<=a.size)(h3:nb<=b.size)(hc:na' < na->0 < nb->rk R b (nb - 1)<=rk R a na'):Hi R a b (out++(a.extract na' na).reverse) na' nb:=by
 refine⟨?_,?_,fun x hx j j1 j2=>?_,fun x hx j j1 j2=>?_⟩
 . rw[cB,Zh];refine List.Perm.trans ?_ h.pm;rw[vA h1];refine List.Perm.trans (List.Perm.of_eq (Zg _ _ _).symm) (List.Perm.append_right _ ?_);rw[Zg,Zg];exact List.Perm.append_left _ ad7
 . rw[cB];exact(sa.ex _ _).app h.so fun x hx y hy=>by
    obtain⟨k,k1,k2,k3,e⟩:=cS (R:=R) hx;rw[e];exact h.la y hy k k2 k3
 . rw[cB,Zh] at hx;rcases Zi.mp hx with z | z
   . obtain⟨k,k1,k2,k3,e⟩:=cS (R:=R) z;rw[e];exact sa.rk (by lia) k3
   . exact h.la x z j (by lia) j2
 . rw[cB,Zh] at hx;rcases Zi.mp hx with z | z
   . obtain⟨k,k1,k2,k3,e⟩:=cS (R:=R) z;rw[e];have q1:=sa.rk k1 k3;have q2:=hc (by lia) (by lia);have q3:=sb.rk (show j<=nb - 1 by lia) (by lia);lia
   . exact h.lb x z j j1 j2
theorem Hi.gF{a b out:Array Keyed}{na nb:Nat}(h:Hi R a b out na nb)(sa:dU R a)(sb:dU R b){nb':Nat}(h1:nb'<=nb)(h2:nb<=b.size)(h3:na<=a.size)(hc:nb' < nb->0 < na->rk R a (na - 1)<=rk R b nb'):Hi R a b (out++(b.extract nb' nb).reverse) na nb':=by
 refine⟨?_,?_,fun x hx j j1 j2=>?_,fun x hx j j1 j2=>?_⟩
 . rw[cB,Zh];refine List.Perm.trans ?_ h.pm;rw[vA (a:=b) h1];simp only [Zg];exact List.Perm.refl _
 . rw[cB];exact(sb.ex _ _).app h.so fun x hx y hy=>by
    obtain⟨k,k1,k2,k3,e⟩:=cS (R:=R) hx;rw[e];exact h.lb y hy k k2 k3
 . rw[cB,Zh] at hx;rcases Zi.mp hx with z | z
   . obtain⟨k,k1,k2,k3,e⟩:=cS (R:=R) z;rw[e];have q1:=sb.rk k1 k3;have q2:=hc (by lia) (by lia);have q3:=sa.rk (show j<=na - 1 by lia) (by lia);lia
   . exact h.la x z j j1 j2
 . rw[cB,Zh] at hx;rcases Zi.mp hx with z | z
   . obtain⟨k,k1,k2,k3,e⟩:=cS (R:=R) z;rw[e];exact sb.rk (by lia) k3
   . exact h.lb x z j (by lia) j2
theorem Hi.out{a b out:Array Keyed}(h:Hi R a b out 0 0):Out R a b out.reverse:=by
 refine⟨?_,h.so⟩;have:=h.pm;rw[aj0,aj0,Zw,List.nil_append] at this;exact this
theorem Hi.done{a b out:Array Keyed}{na nb:Nat}(h:Hi R a b out na nb)(sa:dU R a)(sb:dU R b)(ha:na<=a.size)(hb:nb<=b.size)(hh:na=0\/nb=0):Out R a b (a.extract 0 na++b.extract 0 nb++out.reverse):=by
 have:=((h.gF sa sb (nb':=0) (Za _) hb ha fun z1 z2=>by lia).iV sa sb (na':=0) (Za _) ha (Za _) fun z1 z2=>by lia).out;rw[cB,cB,<-Array.append_assoc] at this;exact this
theorem Hi.first{a b out:Array Keyed}{na nb:Nat}(h:Hi R a b out na nb)(sa:dU R a)(sb:dU R b)(ha:na<=a.size)(hb:nb<=b.size)(hh:nb=1)(hc:rk R b 0<=rk R a 0):Out R a b (b.extract 0 nb++a.extract 0 na++out.reverse):=by
 have:=((h.iV sa sb (na':=0) (Za _) ha hb fun z1 z2=>by rw[hh];exact hc).gF sa sb (nb':=0) (Za _) hb (Za _) fun z1 z2=>by lia).out;rw[cB,cB,<-Array.append_assoc] at this;exact this
theorem vR{a out:Array Keyed}(h:i < a.size):out.push a[i]=out++(a.extract i (i+1)).reverse:=by
 apply ad2.mp;rw[ae3,Zh,Array.toList_reverse,fT,show i+1 - i=1 by lia];congr 1
 have h':i < a.toList.length:=by simpa using h
 rw[ae4 h',List.take_succ_cons,aj0,Array.getElem_toList];rfl
theorem Hi.gf{a b out:Array Keyed}{na nb:Nat}(h:Hi R a b out na nb)(sa:dU R a)(sb:dU R b)(h1:1<=na)(h2:na<=a.size)(h3:nb<=b.size)(hc:0 < nb->rk R b (nb - 1)<=rk R a (na - 1)):Hi R a b (out.push (a[na - 1]'(by lia))) (na - 1) nb:=by
 rw[vR (show na - 1 < a.size by lia),show na - 1+1=na by lia];exact h.iV sa sb (by lia) h2 h3 fun _ z=>hc z
theorem Hi.kj{a b out:Array Keyed}{na nb:Nat}(h:Hi R a b out na nb)(sa:dU R a)(sb:dU R b)(h1:1<=nb)(h2:nb<=b.size)(h3:na<=a.size)(hc:0 < na->rk R a (na - 1)<=rk R b (nb - 1)):Hi R a b (out.push (b[nb - 1]'(by lia))) na (nb - 1):=by
 rw[vR (show nb - 1 < b.size by lia),show nb - 1+1=nb by lia];exact h.gF sa sb (by lia) h2 h3 fun _ z=>hc z
theorem Hi.start(sa:dU R a)(sb:dU R b)(a1:1<=a.size)(hc:0 < b.size->rk R b (b.size - 1)<=rk R a (a.size - 1)):Hi R a b #[a[a.size - 1]'(by lia)] (a.size - 1) b.size:=
 Hi.gf (out:= #[]) (na:=a.size) ⟨by rw[<-YH,<-YH,ab3,ab3];simp,List.Pairwise.nil,fun x hx=>by simp at hx,fun x hx=>by simp at hx⟩ sa sb a1 (Yx _) (Yx _) hc
end
theorem qZ{st:SortSt}(L:nZ prog w A E s κ R D)(hk:kindOf st=κ)(ha:Dk D a)(hb:Dk D b)(sa:dU R a)(sb:dU R b)(a1:1<=a.size)(b1:1<=b.size)(c0:rk R b 0<=rk R a 0)(cl:rk R b (b.size - 1)<=rk R a (a.size - 1))(h: ∀m g,Out R a b m->Q m (setG st g)):wpS (model prog w) A E s (mF a b) Q st:=by
 rw[sr];dsimp only;refine Yz (wpS_lift (Z7 ⟨rfl,?_⟩));refine Yz (aD (by lia) ?_);have ho:=Hi.start sa sb a1 fun _=>cl;by_cases c1:(a.size - 1==0)=true
 . refine au c1 ?_;exact YD (h _ (gallopOf st) (ho.done sa sb (by lia) (by lia) (.inl (YL.mp c1))))
 refine av c1 ?_;by_cases c2:(b.size==1)=true
 . refine au c2 ?_;exact YD (h _ (gallopOf st) (ho.first sa sb (by lia) (by lia) (YL.mp c2) c0))
 refine av c2 ?_;have Sq:a.size - 1≠0:=fun z=>c1 (YL.mpr z);have G4:b.size≠1:=fun z=>c2 (YL.mpr z);clear c1 c2;refine Yz (ag4 ?_);refine Yz (ZU (Zy (I:=fun i c az=>(∃g,az=setG st g)/\c.1=none/\Hi R a b c.2.2.2.1 c.2.1 c.2.2.1/\1<=c.2.1/\c.2.1<=a.size/\2<=c.2.2.1/\c.2.2.1<=b.size/\1+i<=(a.size - c.2.1)+(b.size - c.2.2.1))
  (Q:=fun c az=>(∃g,az=setG st g)/\ ∃r,c.1=some r/\Out R a b r) ?step ?fin ⟨⟨gallopOf st,rfl⟩,rfl,(by dsimp only;exact ho),by dsimp only;lia,by dsimp only;lia,by dsimp only;lia,by dsimp only;lia,by dsimp only;lia⟩) ?post)
 case post=>
  rintro⟨r,na,nb,out,mg⟩ az ⟨⟨g,rfl⟩,r',h1,h2⟩
  dsimp only at h1 ⊢;subst h1;exact YD (h _ _ h2)
 case fin=>
  rintro⟨r,na,nb,out,mg⟩ az ⟨_,_,ho,h1,h2,h3,h4,h5⟩
  dsimp only at h1 h2 h3 h4 h5;lia
 case step=>
  refine G2 ?_;intro i na nb out mg g _ hi hJ;have ho:Hi R a b out na nb:=hJ.1;have h1:1<=na:=hJ.2.1;have h2:na<=a.size:=hJ.2.2.1;have h3:2<=nb:=hJ.2.2.2.1;have h4:nb<=b.size:=hJ.2.2.2.2.1;have h5:1+i<=(a.size - na)+(b.size - nb):=hJ.2.2.2.2.2;clear hJ;dsimp only;refine Yz (ZU (Zy (I:=fun j c az=>az=setG st g/\c.1=none/\Hi R a b c.2.2.2.1 c.2.1 c.2.2.1/\1<=c.2.1/\c.2.1<=a.size/\2<=c.2.2.1/\c.2.2.1<=b.size/\1+i+min j 1<=(a.size - c.2.1)+(b.size - c.2.2.1))
   (Q:=fun c az=>az=setG st g/\((∃r,c.1=some r/\Out R a b r)\/(c.1=none/\Hi R a b c.2.2.2.1 c.2.1 c.2.2.1/\1<=c.2.1/\c.2.1<=a.size/\2<=c.2.2.1/\c.2.2.1<=b.size/\1+(i+1)<=(a.size - c.2.1)+(b.size - c.2.2.1)))) ?istep ?ifin ⟨rfl,rfl,(by dsimp only;exact ho),(by dsimp only;exact h1),(by dsimp only;exact h2),(by dsimp only;exact h3),(by dsimp only;exact h4),by dsimp only;lia⟩) ?ipost)
  case ifin=>
   rintro⟨r,na,nb,out,ac,bc⟩ az ⟨e,hr,ho,h1,h2,h3,h4,h5⟩
   dsimp only at hr ho h1 h2 h3 h4 h5;exact⟨e,.inr ⟨hr,ho,h1,h2,h3,h4,by dsimp only;lia⟩⟩
  case istep=>
   clear ho h1 h2 h3 h4 h5;refine G1 ?_;intro j na nb out ac bc _ hj hJ;have ho:Hi R a b out na nb:=hJ.1;have h1:1<=na:=hJ.2.1;have h2:na<=a.size:=hJ.2.2.1;have h3:2<=nb:=hJ.2.2.2.1;have h4:nb<=b.size:=hJ.2.2.2.2.1;have h5:1+i+min j 1<=(a.size - na)+(b.size - nb):=hJ.2.2.2.2.2;clear hJ;have uG:na - 1 < a.size:=by lia
   have wI:nb - 1 < b.size:=by lia
   dsimp only;refine Yz (aD wI (Yz (aD uG (Yz (L _ _ _ _ hk (hb _ wI) (ha _ uG) ?_)))));rw[<-bS (R:=R) wI,<-bS (R:=R) uG];cases aw:decide (rk R b (nb - 1) < rk R a (na - 1)) with
   | true=>
    have aw:=Ze aw;have tM:=ho.gf sa sb h1 h2 h4 fun _=>aa9 aw;dsimp only;refine au rfl ?_;refine Yz (aD uG ?_);by_cases c3:(na - 1==0)=true
    . refine au c3 ?_;exact YD ⟨rfl,.inl ⟨_,rfl,tM.done sa sb (by lia) (by lia) (.inl (YL.mp c3))⟩⟩
    refine av c3 ?_;have Ut:na - 1≠0:=fun z=>c3 (YL.mpr z);clear c3;by_cases c4:ac+1>=mg
    . refine au c4 ?_;exact YD ⟨rfl,.inr ⟨rfl,by dsimp only;exact tM,by dsimp only;lia,by dsimp only;lia,by dsimp only;lia,by dsimp only;lia,by dsimp only;lia⟩⟩
    . refine av c4 ?_;exact YD ⟨rfl,rfl,by dsimp only;exact tM,by dsimp only;lia,by dsimp only;lia,by dsimp only;lia,by dsimp only;lia,by dsimp only;lia⟩
   | false=>
    have aw:=ZE aw;have mP:=ho.kj sa sb (by lia) h4 h2 fun _=>ai8.mp aw;dsimp only;refine av YJ ?_;refine Yz (aD wI ?_);by_cases c3:(nb - 1==1)=true
    . refine au c3 ?_;exact YD ⟨rfl,.inl ⟨_,rfl,mP.first sa sb (by lia) (by lia) (YL.mp c3) c0⟩⟩
    refine av c3 ?_;have Ut:nb - 1≠1:=fun z=>c3 (YL.mpr z);clear c3;by_cases c4:bc+1>=mg
    . refine au c4 ?_;exact YD ⟨rfl,.inr ⟨rfl,by dsimp only;exact mP,by dsimp only;lia,by dsimp only;lia,by dsimp only;lia,by dsimp only;lia,by dsimp only;lia⟩⟩
    . refine av c4 ?_;exact YD ⟨rfl,rfl,by dsimp only;exact mP,by dsimp only;lia,by dsimp only;lia,by dsimp only;lia,by dsimp only;lia,by dsimp only;lia⟩
  case ipost=>
   clear ho h1 h2 h3 h4 h5;refine Ma (fun r' na nb out ac bc ho=>?_) (fun na nb out ac bc hJ=>?_)
   . exact YD ⟨⟨g,rfl⟩,_,rfl,ho⟩
   have ho:Hi R a b out na nb:=hJ.1;have h1:1<=na:=hJ.2.1;have h2:na<=a.size:=hJ.2.2.1;have h3:2<=nb:=hJ.2.2.2.1;have h4:nb<=b.size:=hJ.2.2.2.2.1;have h5:1+(i+1)<=(a.size - na)+(b.size - nb):=hJ.2.2.2.2.2;clear hJ;dsimp only;refine Yz (wpS_lift (Z7 ⟨rfl,?_⟩));refine Yz (ZU (Zy (I:=fun j c az=>(∃g,az=setG st g)/\c.1=none/\Hi R a b c.2.2.2.1 c.2.1 c.2.2.1/\1<=c.2.1/\c.2.1<=a.size/\2<=c.2.2.1/\c.2.2.1<=b.size/\1+(i+1)<=(a.size - c.2.1)+(b.size - c.2.2.1))
    (Q:=fun c az=>(∃g,az=setG st g)/\((∃r,c.1=some r/\Out R a b r)\/(c.1=none/\Hi R a b c.2.2.2.1 c.2.1 c.2.2.1/\1<=c.2.1/\c.2.1<=a.size/\2<=c.2.2.1/\c.2.2.1<=b.size/\1+(i+1)<=(a.size - c.2.1)+(b.size - c.2.2.1)))) ?gstep ?gfin ⟨⟨g,rfl⟩,rfl,(by dsimp only;exact ho),(by dsimp only;exact h1),(by dsimp only;exact h2),(by dsimp only;exact h3),(by dsimp only;exact h4),(by dsimp only;exact h5)⟩) ?gpost)
   case gfin=>
    rintro⟨r,na,nb,out,mg,ac,bc⟩ az ⟨e,hr,ho,h1,h2,h3,h4,h5⟩
    exact⟨e,.inr ⟨hr,ho,h1,h2,h3,h4,h5⟩⟩
   case gpost=>
    refine L9 (fun r' na nb out mg ac bc g ho=>?_) (fun na nb out mg ac bc g hJ=>?_)
    . exact YD ⟨⟨g,rfl⟩,_,rfl,ho⟩
    . dsimp only;rw[cb];exact Yz (ab1 (YD ⟨⟨_,rfl⟩,rfl,hJ⟩))
   case gstep=>
    clear ho h1 h2 h3 h4 h5 hi;refine G0 ?_;intro j na nb out mg ac bc g _ hj hJ;have ho:Hi R a b out na nb:=hJ.1;have h1:1<=na:=hJ.2.1;have h2:na<=a.size:=hJ.2.2.1;have h3:2<=nb:=hJ.2.2.2.1;have h4:nb<=b.size:=hJ.2.2.2.2.1;have h5:1+(i+1)<=(a.size - na)+(b.size - nb):=hJ.2.2.2.2.2;clear hJ;dsimp only;refine have key:?P:=?pk;?main
    case main=>
     by_cases c0:mg > 1
     . refine au c0 ?_;clear c0;generalize mg - 1=m;revert m
       exact key
     . refine av c0 ?_;clear c0;generalize mg=m;revert m
       exact key
    case pk=>
     intro m;have wI:nb - 1 < b.size:=by lia
     rw[cb];refine Yz (ab1 ?_);refine Yz (aD wI ?_);refine Yz (eU L hk ha (hb _ wI) (by lia) (by lia) (fun p q pq q2=>sa.rk (by lia) (by lia)) fun k V6 kt kf=>?_);rw[<-bS (R:=R) wI] at kt kf;simp only [ai1] at kt kf;dsimp only;have Gx:0 < k->rk R a (k - 1)<=rk R b (nb - 1):=fun z=>u6 (kt (k - 1) (by lia));have Jb:k < na->rk R b (nb - 1)<=rk R a k:=fun z=>aa9 (u7 (kf k (Yx _) (by lia)));clear kt kf;by_cases c3:na - k > 0
     . refine au c3 ?_;have tM:=ho.iV sa sb (na':=k) (by lia) h2 h4 (fun z _=>Jb z);generalize out++(a.extract k na).reverse=Qv at tM;by_cases c4:(k==0)=true
       . refine au c4 ?_;exact YD ⟨⟨_,rfl⟩,.inl ⟨_,rfl,tM.done sa sb (by lia) (by lia) (.inl (YL.mp c4))⟩⟩
       refine av c4 ?_;have Us:k≠0:=fun z=>c4 (YL.mpr z);clear c4;refine Yz (aD wI ?_);have mP:=tM.kj sa sb (by lia) h4 (by lia) Gx;by_cases c5:(nb - 1==1)=true
       . refine au c5 ?_;exact YD ⟨⟨_,rfl⟩,.inl ⟨_,rfl,mP.first sa sb (by lia) (by lia) (YL.mp c5) c0⟩⟩
       refine av c5 ?_;have K7:nb - 1≠1:=fun z=>c5 (YL.mpr z);clear c5;have hK:k - 1 < a.size:=by lia
       refine Yz (aD hK ?_);refine Yz (eU L hk hb (ha _ hK) (by lia) (by lia) (fun p q pq q2=>sb.rk (by lia) (by lia)) fun k2 OV lt lf=>?_);rw[<-bS (R:=R) hK] at lt lf;simp only [ai1] at lt lf;dsimp only;have lt':0 < k2->rk R b (k2 - 1)<=rk R a (k - 1):=fun z=>aa9 (m6 (lt (k2 - 1) (by lia)));have zb:k2 < nb - 1->rk R a (k - 1)<=rk R b k2:=fun z=>m7 (lf k2 (Yx _) (by lia));clear lt lf;by_cases c6:nb - 1 - k2 > 0
       . refine au c6 ?_;have yr:=mP.gF sa sb (nb':=k2) (by lia) (by lia) (by lia) (fun z _=>zb z);by_cases c7:(k2==1)=true
         . refine au c7 ?_;exact YD ⟨⟨_,rfl⟩,.inl ⟨_,rfl,yr.first sa sb (by lia) (by lia) (YL.mp c7) c0⟩⟩
         refine av c7 ?_;have CP:k2≠1:=fun z=>c7 (YL.mpr z);clear c7;by_cases c8:(k2==0)=true
         . refine au c8 ?_;exact YD ⟨⟨_,rfl⟩,.inl ⟨_,rfl,yr.done sa sb (by lia) (by lia) (.inr (YL.mp c8))⟩⟩
         refine av c8 ?_;have WZ:k2≠0:=fun z=>c8 (YL.mpr z);clear c8;refine Yz (aD hK ?_);have iL:=yr.gf sa sb (by lia) (by lia) (by lia) lt';by_cases c7:(k - 1==0)=true
         . refine au c7 ?_;exact YD ⟨⟨_,rfl⟩,.inl ⟨_,rfl,iL.done sa sb (by lia) (by lia) (.inl (YL.mp c7))⟩⟩
         refine av c7 ?_;have CP:k - 1≠0:=fun z=>c7 (YL.mpr z);clear c7;by_cases c8:(decide (na - k < 7) && decide (nb - 1 - k2 < 7))=true
         . refine au c8 ?_;exact YD ⟨⟨_,rfl⟩,.inr ⟨rfl,by dsimp only;exact iL,by dsimp only;lia,by dsimp only;lia,by dsimp only;lia,by dsimp only;lia,by dsimp only;lia⟩⟩
         . refine av c8 ?_;exact YD ⟨⟨_,rfl⟩,rfl,by dsimp only;exact iL,by dsimp only;lia,by dsimp only;lia,by dsimp only;lia,by dsimp only;lia,by dsimp only;lia⟩
       . refine av c6 ?_;have Jh:k2=nb - 1:=by lia
         refine Yz (aD hK ?_);have iL:=mP.gf sa sb (by lia) (by lia) (by lia) (fun z=>by rw[<-Jh] at z ⊢;exact lt' z);by_cases c7:(k - 1==0)=true
         . refine au c7 ?_;exact YD ⟨⟨_,rfl⟩,.inl ⟨_,rfl,iL.done sa sb (by lia) (by lia) (.inl (YL.mp c7))⟩⟩
         refine av c7 ?_;have CP:k - 1≠0:=fun z=>c7 (YL.mpr z);clear c7;by_cases c8:(decide (na - k < 7) && decide (nb - 1 - k2 < 7))=true
         . refine au c8 ?_;exact YD ⟨⟨_,rfl⟩,.inr ⟨rfl,by dsimp only;exact iL,by dsimp only;lia,by dsimp only;lia,by dsimp only;lia,by dsimp only;lia,by dsimp only;lia⟩⟩
         . refine av c8 ?_;exact YD ⟨⟨_,rfl⟩,rfl,by dsimp only;exact iL,by dsimp only;lia,by dsimp only;lia,by dsimp only;lia,by dsimp only;lia,by dsimp only;lia⟩
     . refine av c3 ?_;have k0:k=na:=by lia
       rw[k0] at Gx;refine Yz (aD wI ?_);have mP:=ho.kj sa sb (by lia) h4 (by lia) Gx;by_cases c5:(nb - 1==1)=true
       . refine au c5 ?_;exact YD ⟨⟨_,rfl⟩,.inl ⟨_,rfl,mP.first sa sb (by lia) (by lia) (YL.mp c5) c0⟩⟩
       refine av c5 ?_;have K7:nb - 1≠1:=fun z=>c5 (YL.mpr z);clear c5;have hK:na - 1 < a.size:=by lia
       refine Yz (aD hK ?_);refine Yz (eU L hk hb (ha _ hK) (by lia) (by lia) (fun p q pq q2=>sb.rk (by lia) (by lia)) fun k2 OV lt lf=>?_);rw[<-bS (R:=R) hK] at lt lf;simp only [ai1] at lt lf;dsimp only;have lt':0 < k2->rk R b (k2 - 1)<=rk R a (na - 1):=fun z=>aa9 (m6 (lt (k2 - 1) (by lia)));have zb:k2 < nb - 1->rk R a (na - 1)<=rk R b k2:=fun z=>m7 (lf k2 (Yx _) (by lia));clear lt lf;by_cases c6:nb - 1 - k2 > 0
       . refine au c6 ?_;have yr:=mP.gF sa sb (nb':=k2) (by lia) (by lia) (by lia) (fun z _=>zb z);by_cases c7:(k2==1)=true
         . refine au c7 ?_;exact YD ⟨⟨_,rfl⟩,.inl ⟨_,rfl,yr.first sa sb (by lia) (by lia) (YL.mp c7) c0⟩⟩
         refine av c7 ?_;have CP:k2≠1:=fun z=>c7 (YL.mpr z);clear c7;by_cases c8:(k2==0)=true
         . refine au c8 ?_;exact YD ⟨⟨_,rfl⟩,.inl ⟨_,rfl,yr.done sa sb (by lia) (by lia) (.inr (YL.mp c8))⟩⟩
         refine av c8 ?_;have WZ:k2≠0:=fun z=>c8 (YL.mpr z);clear c8;refine Yz (aD hK ?_);have iL:=yr.gf sa sb (by lia) (by lia) (by lia) lt';by_cases c7:(na - 1==0)=true
         . refine au c7 ?_;exact YD ⟨⟨_,rfl⟩,.inl ⟨_,rfl,iL.done sa sb (by lia) (by lia) (.inl (YL.mp c7))⟩⟩
         refine av c7 ?_;have CP:na - 1≠0:=fun z=>c7 (YL.mpr z);clear c7;by_cases c8:(decide (na - k < 7) && decide (nb - 1 - k2 < 7))=true
         . refine au c8 ?_;exact YD ⟨⟨_,rfl⟩,.inr ⟨rfl,by dsimp only;exact iL,by dsimp only;lia,by dsimp only;lia,by dsimp only;lia,by dsimp only;lia,by dsimp only;lia⟩⟩
         . refine av c8 ?_;exact YD ⟨⟨_,rfl⟩,rfl,by dsimp only;exact iL,by dsimp only;lia,by dsimp only;lia,by dsimp only;lia,by dsimp only;lia,by dsimp only;lia⟩
       . refine av c6 ?_;have Jh:k2=nb - 1:=by lia
         refine Yz (aD hK ?_);have iL:=mP.gf sa sb (by lia) (by lia) (by lia) (fun z=>by rw[<-Jh] at z ⊢;exact lt' z);by_cases c7:(na - 1==0)=true
         . refine au c7 ?_;exact YD ⟨⟨_,rfl⟩,.inl ⟨_,rfl,iL.done sa sb (by lia) (by lia) (.inl (YL.mp c7))⟩⟩
         refine av c7 ?_;have CP:na - 1≠0:=fun z=>c7 (YL.mpr z);clear c7;by_cases c8:(decide (na - k < 7) && decide (nb - 1 - k2 < 7))=true
         . refine au c8 ?_;exact YD ⟨⟨_,rfl⟩,.inr ⟨rfl,by dsimp only;exact iL,by dsimp only;lia,by dsimp only;lia,by dsimp only;lia,by dsimp only;lia,by dsimp only;lia⟩⟩
         . refine av c8 ?_;exact YD ⟨⟨_,rfl⟩,rfl,by dsimp only;exact iL,by dsimp only;lia,by dsimp only;lia,by dsimp only;lia,by dsimp only;lia,by dsimp only;lia⟩
section
variable{R:Keyed->Int}
theorem ki(h:a[i]?=b[j]?):rk R a i=rk R b j:=by unfold rk;rw[h]
theorem mj{a:Array Keyed}(hj:j<=a.size)(k:Nat):rk R (mirror a i j ((j - i) / 2)) k=if i<=k/\k < j then rk R a (i+j - 1 - k) else rk R a k:=by
 have e:=getElem?_mirror_all (i:=i) (j:=j) (xs:=a) hj k;by_cases c:i<=k/\k < j
 . rw[if_pos c] at e ⊢;exact ki e
 . rw[if_neg c] at e ⊢;exact ki e
theorem Ic{a:Array Keyed}(ha:i < a.size)(hd:d<=i)(k:Nat):rk R (bubble a i d) k=if k=i - d then rk R a i else if i - d < k/\k<=i then rk R a (k - 1) else rk R a k:=by
 have e:=getElem?_bubble (xs:=a) (src:=i) ha d hd k;by_cases c:k=i - d
 . rw[if_pos c] at e ⊢;exact ki e
 . rw[if_neg c] at e ⊢;by_cases c2:i - d < k/\k<=i
   . rw[if_pos c2] at e ⊢;exact ki e
   . rw[if_neg c2] at e ⊢;exact ki e
def bo(R:Keyed->Int)(a:Array Keyed)(i j:Nat):Prop:= ∀x y,i<=x->x<=y->y < j->rk R a x<=rk R a y
theorem bo.more{lo n:Nat}(h:bo R a lo (lo+n))(n1:1<=n)(hl:rk R a (lo+n - 1)<=rk R a (lo+n)):bo R a lo (lo+(n+1)):=fun x y h1 h2 h3=>by
 by_cases c:y < lo+n
 . exact h x y h1 h2 c
 . have:y=lo+n:=by lia
   subst this;by_cases d:x=lo+n
   . rw[d];exact ZV _
   . exact Int.le_trans (h x (lo+n - 1) h1 (by lia) (by lia)) hl
theorem bo.one{lo:Nat}:bo R a lo (lo+1):=fun x y h1 h2 h3=>by rw[show x=y by lia];exact ZV _
structure Dx(R:Keyed->Int)(a:Array Keyed)(lo n q:Nat):Prop where
 ds: ∀i j,lo<=i->i<=j->j < lo+n->rk R a j<=rk R a i
 q1:q+1<=n
 eq: ∀i,lo+n - (q+1)<=i->i < lo+n->rk R a i=rk R a (lo+n - 1)
theorem Dx.turn{lo n q:Nat}(h:Dx R a lo n q)(hn:lo+n<=a.size):rk R (mirror a (lo+n - (q+1)) (lo+n) ((lo+n - (lo+n - (q+1))) / 2)) i=rk R a i:=by
 rw[mj hn];have:=h.q1;split
 . rename_i c;rw[h.eq _ (by lia) (by lia),h.eq i c.1 c.2]
 . rfl
theorem Dx.turned{lo n q:Nat}(h:Dx R a lo n q)(hn:lo+n<=a.size):Dx R (mirror a (lo+n - (q+1)) (lo+n) ((lo+n - (lo+n - (q+1))) / 2)) lo n q:=
 ⟨fun i j x y z=>by rw[h.turn hn,h.turn hn];exact h.ds i j x y z,h.q1,fun i x y=>by rw[h.turn hn,h.turn hn];exact h.eq i x y⟩
theorem Dx.more{lo n q:Nat}(h:Dx R a lo n q)(hl:rk R a (lo+n) < rk R a (lo+n - 1)):Dx R a lo (n+1) 0:=by
 have:=h.q1;refine⟨fun i j x y z=>?_,by lia,fun i x y=>by rw[show i=lo+(n+1) - 1 by lia]⟩;by_cases hj:j < lo+n
 . exact h.ds i j x y hj
 . have:j=lo+n:=by lia
   subst this;by_cases hi:i=lo+n
   . subst hi;exact ZV _
   . exact Int.le_trans (aa9 hl) (h.ds i (lo+n - 1) x (by lia) (by lia))
theorem Dx.alike{lo n q:Nat}(h:Dx R a lo n q)(hl:rk R a (lo+n)=rk R a (lo+n - 1)):Dx R a lo (n+1) (q+1):=by
 have q1:=h.q1;refine⟨fun i j x y z=>?_,by lia,fun i x y=>?_⟩
 . by_cases hj:j < lo+n
   . exact h.ds i j x y hj
   . have:j=lo+n:=by lia
     subst this;by_cases hi:i=lo+n
     . subst hi;exact ZV _
     . rw[hl];exact h.ds i (lo+n - 1) x (by lia) (by lia)
 . rw[show lo+(n+1) - 1=lo+n by lia];by_cases hi:i=lo+n
   . rw[hi]
   . rw[hl];exact h.eq i (by lia) (by lia)
theorem Dx.up{lo n q:Nat}(h:Dx R a lo n q)(hn:lo+n<=a.size):bo R (mirror a lo (lo+n) ((lo+n - lo) / 2)) lo (lo+n):=fun x y h1 h2 h3=>by
 rw[mj hn,mj hn,if_pos ⟨by lia,by lia⟩,if_pos ⟨by lia,by lia⟩];exact h.ds _ _ (by lia) (by lia) (by lia)
end
structure Wx(κ:SortKind)(a₀ ar:Array Keyed)(lo:Nat)(p:Array (Nat × Nat × Nat))(st:SortSt):Prop where
 pm:(arrOf st).Perm a₀
 kind:kindOf st=κ
 failed:failedOf st=none
 pend:pendingOf st=p
 keep: ∀i,i < lo->(arrOf st)[i]?=ar[i]?
section
variable{prog:Program}{w:World}{A:Around}{E:Value->Shared->Prop}{s:Shared}{κ:SortKind}{R:Keyed->Int}{D:Keyed->Prop}{a₀ ar:Array Keyed}{p:Array (Nat × Nat × Nat)}{lo:Nat}
theorem Wx.size{st:SortSt}(h:Wx κ a₀ ar lo p st):(arrOf st).size=a₀.size:=h.pm.size_eq
theorem Wx.dk{st:SortSt}(h:Wx κ a₀ ar lo p st)(hD: ∀x∈a₀.toList,D x):Dk D (arrOf st):=fun i hi=>hD _ ((ZF.mp h.pm).mem_iff.mp (uu hi))
theorem Wx.lt{st:SortSt}(h:Wx κ a₀ ar lo p st)(L:nZ prog w A E s κ R D)(hD: ∀x∈a₀.toList,D x){i j:Nat}(hi:i < a₀.size)(hj:j < a₀.size)(q:Q (some (decide (rk R (arrOf st) i < rk R (arrOf st) j))) st):wpS (model prog w) A E s (ltAt' i j) Q st:=by
 have jN:i < (arrOf st).size:=by rw[h.size];exact hi
 have Dn:j < (arrOf st).size:=by rw[h.size];exact hj
 rw[ltAt'_eq];refine Yz (ag4 ?_);rw[bS jN,bS Dn] at q;exact Yz (aD jN (Yz (aD Dn (L _ _ _ _ h.kind (h.dk hD _ jN) (h.dk hD _ Dn) q))))
theorem Wx.rev{st:SortSt}(h:Wx κ a₀ ar lo p st){i j:Nat}(hi:lo<=i)(hj:j<=a₀.size)(q: ∀az,Wx κ a₀ ar lo p az->arrOf az=mirror (arrOf st) i j ((j - i) / 2)->Q () az):wpS (model prog w) A E s (reverseSlice' i j) Q st:=by
 rw[reverseSlice'_eq];refine ab1 (q _ ⟨(mirror_perm _ _ _ _).trans h.pm,h.kind,h.failed,h.pend,fun k hk=>?_⟩ rfl);show(mirror (arrOf st) i j ((j - i) / 2))[k]?=_;rw[getElem?_mirror_all (by rw[h.size];exact hj),if_neg (by lia)];exact h.keep k hk
theorem Wx.VA{st:SortSt}(h:Wx κ a₀ ar lo p st){i j:Nat}(hj:lo<=j)(bN:j<=i)(hi:i < a₀.size)(q: ∀az,Wx κ a₀ ar lo p az->arrOf az=bubble (arrOf st) i (i - j)->Q () az):wpS (model prog w) A E s (moveDown' i j) Q st:=by
 rw[moveDown'_eq];refine ab1 (q _ ⟨(bubble_perm _ _ _).trans h.pm,h.kind,h.failed,h.pend,fun k hk=>?_⟩ rfl);show(bubble (arrOf st) i (i - j))[k]?=_;rw[getElem?_bubble (by rw[h.size];exact hi) _ (by lia),if_neg (by lia),if_neg (by lia)];exact h.keep k hk
theorem zA(L:nZ prog w A E s κ R D)(hD: ∀x∈a₀.toList,D x){st:SortSt}{eA:Nat}(hn:lo+eA<=a₀.size)(h1:1<=eA)(hW:Wx κ a₀ ar lo p st)(h: ∀m az,Wx κ a₀ ar lo p az->1<=m->m<=eA->bo R (arrOf az) lo (lo+m)->Q (some m) az):wpS (model prog w) A E s (countRun' lo eA) Q st:=by
 rw[countRun'_eq];dsimp only;refine Yz (ZU (Zy (I:=fun i c az=>az=st/\c.1=none/\c.2=i/\bo R (arrOf st) lo (lo+i)) (Q:=fun c az=>az=st/\c.1=none/\1<=c.2/\c.2<=eA/\bo R (arrOf st) lo (lo+c.2)/\(c.2 < eA->rk R (arrOf st) (lo+c.2) < rk R (arrOf st) (lo+c.2 - 1))) ?_ ?_ ⟨rfl,rfl,rfl,bo.one⟩) ?_)
 . rintro x ⟨r,n⟩ az KU KS ⟨rfl,e1,e2,e3⟩
   dsimp only at e1 e2 e3 ⊢;subst e1;subst e2;refine Yz (hW.lt L hD (by lia) (by lia) ?_);cases bw:decide (rk R (arrOf az) (lo+n) < rk R (arrOf az) (lo+n - 1)) with
   | true=>exact YD ⟨rfl,rfl,by dsimp only;lia,by dsimp only;lia,by dsimp only;exact e3,fun _=>by dsimp only;exact Ze bw⟩
   | false=>exact YD ⟨rfl,rfl,rfl,e3.more (by lia) (ai8.mp (ZE bw))⟩
 . rintro⟨r,n⟩ az ⟨f0,f1,f2,f3⟩
   dsimp only at f1 f2 f3;rw[<-f2] at f3;have f2:n=eA:=by lia
   subst f2;exact⟨f0,f1,by dsimp only;lia,Yx _,f3,fun z=>absurd z (Zt _)⟩
 . rintro⟨r,n⟩ az ⟨rfl,e1,e2,e3,sg,MB⟩
   dsimp only at e1 e2 e3 sg MB ⊢;subst e1;dsimp only;by_cases c1:(n==eA)=true
   . rw[if_pos c1];exact YD (h _ _ hW e2 e3 sg)
   rw[if_neg c1];have Sq:n≠eA:=fun z=>c1 (YL.mpr z);clear c1;have MB:=MB (by lia);have sz:=hW.size;by_cases c2:n > 1
   . rw[if_pos c2];refine Yz (hW.lt L hD (by lia) (by lia) ?_);cases bw:decide (rk R (arrOf az) lo < rk R (arrOf az) (lo+n - 1)) with
     | true=>exact YD (h _ _ hW e2 e3 sg)
     | false=>
      have bw:=ZE bw;dsimp only;rw[if_neg YJ];refine Yz (hW.rev (by lia) (by lia) fun rG w1 ea=>?_);refine Yz (wpS_lift (Z7 ⟨rfl,?_⟩));have al: ∀i,lo<=i->i < lo+n->rk R (arrOf az) i=rk R (arrOf az) (lo+n - 1):=fun i i1 i2=>by
       have:=sg lo i (by lia) i1 i2;have:=sg i (lo+n - 1) i1 (by lia) (by lia);lia
      have N6: ∀i,lo<=i->i < lo+n->rk R (arrOf rG) i=rk R (arrOf az) (lo+n - 1):=fun i i1 i2=>by
       rw[ea,mj (by lia),if_pos ⟨i1,i2⟩];exact al _ (by lia) (by lia)
      have W6:rk R (arrOf rG) (lo+n)=rk R (arrOf az) (lo+n):=by rw[ea,mj (by lia),if_neg (by lia)]
      have RQ:Dx R (arrOf rG) lo (n+1) 0:=Dx.more (q:=n - 1) ⟨fun i j x y z=>by rw[N6 i x (by lia),N6 j (by lia) z];exact ZV _,by lia,fun i x y=>by rw[N6 i (by lia) y,N6 (lo+n - 1) (by lia) (by lia)]⟩ (by rw[W6,N6 (lo+n - 1) (by lia) (by lia)];exact MB);refine Yz (ZU (Zy (I:=fun i c az=>Wx κ a₀ ar lo p az/\c.1=none/\c.2.1=i/\Dx R (arrOf az) lo c.2.1 c.2.2) (Q:=fun c az=>Wx κ a₀ ar lo p az/\c.1=none/\c.2.1<=eA/\Dx R (arrOf az) lo c.2.1 c.2.2) ?_ ?_ ⟨w1,rfl,rfl,(by dsimp only;exact RQ)⟩) ?_)
      . rintro x ⟨r,m,q⟩ az KU KS ⟨w',e1,e2,dx⟩
        dsimp only at e1 e2 dx ⊢;subst e1;subst e2;have q1:=dx.q1;have sz:=w'.size;refine Yz (w'.lt L hD (by lia) (by lia) ?_);cases bw:decide (rk R (arrOf az) (lo+m) < rk R (arrOf az) (lo+m - 1)) with
        | true=>
         have bw:=Ze bw;dsimp only;rw[if_pos rfl];by_cases c:q > 0
         . rw[if_pos c];exact Yz (w'.rev (by lia) (by lia) fun gu w2 ea=>YD ⟨w2,rfl,rfl,by dsimp only;rw[ea];exact(dx.turned (by lia)).more (by rw[dx.turn (by lia),dx.turn (by lia)];exact bw)⟩)
         . rw[if_neg c];exact YD ⟨w',rfl,rfl,by dsimp only;exact dx.more bw⟩
        | false=>
         have bw:=ZE bw;dsimp only;rw[if_neg YJ];refine Yz (w'.lt L hD (by lia) (by lia) ?_);cases Sr:decide (rk R (arrOf az) (lo+m - 1) < rk R (arrOf az) (lo+m)) with
         | true=>exact YD ⟨w',rfl,by dsimp only;lia,by dsimp only;exact dx⟩
         | false=>exact YD ⟨w',rfl,rfl,by dsimp only;exact dx.alike (by have:=ZE Sr;lia)⟩
      . rintro⟨r,m,q⟩ az ⟨w',e1,e2,dx⟩
        dsimp only at e2;exact⟨w',e1,by dsimp only;lia,dx⟩
      . rintro⟨r,m,q⟩ az ⟨w2,e1,e3,dx⟩
        dsimp only at e1 e3 dx ⊢;subst e1;have q1:=dx.q1;have sz:=w2.size;by_cases c:q > 0
        . rw[if_pos c];refine Yz (w2.rev (by lia) (by lia) fun gu w3 ea=>?_);have Nu:=dx.turned (by lia);rw[<-ea] at Nu;have HK:=w3.size;refine Yz (w3.rev (by lia) (by lia) fun fK w4 JR=>?_);have sg:=Nu.up (by lia);rw[<-JR] at sg;refine Yz (ZU (Zy (I:=fun i c az=>az=fK/\c.1=none/\c.2=i/\bo R (arrOf fK) lo (lo+i)) (Q:=fun c az=>az=fK/\c.1=none/\1<=c.2/\c.2<=eA/\bo R (arrOf fK) lo (lo+c.2)/\(c.2 < eA->rk R (arrOf fK) (lo+c.2) < rk R (arrOf fK) (lo+c.2 - 1))) ?_ ?_ ⟨rfl,rfl,rfl,sg⟩) ?_)
          . rintro x ⟨r,n⟩ az KU KS ⟨rfl,e1,e2,e3⟩
            dsimp only at e1 e2 e3 ⊢;subst e1;subst e2;refine Yz (w4.lt L hD (by lia) (by lia) ?_);cases bw:decide (rk R (arrOf az) (lo+n) < rk R (arrOf az) (lo+n - 1)) with
            | true=>exact YD ⟨rfl,rfl,by dsimp only;lia,by dsimp only;lia,by dsimp only;exact e3,fun _=>by dsimp only;exact Ze bw⟩
            | false=>exact YD ⟨rfl,rfl,rfl,e3.more (by lia) (ai8.mp (ZE bw))⟩
          . rintro⟨r,n⟩ az ⟨f0,f1,f2,f3⟩
            dsimp only at f1 f2 f3;rw[<-f2] at f3;have f2:n=eA:=by lia
            subst f2;exact⟨f0,f1,by dsimp only;lia,Yx _,f3,fun z=>absurd z (Zt _)⟩
          . rintro⟨r,n⟩ az ⟨rfl,e1,e2,e3,e4,e5⟩
            dsimp only at e1 e2 e3 e4 ⊢;subst e1;exact YD (h _ _ w4 e2 e3 e4)
        . rw[if_neg c];refine Yz (w2.rev (by lia) (by lia) fun fK w4 JR=>?_);have sg:=dx.up (by lia);rw[<-JR] at sg;refine Yz (ZU (Zy (I:=fun i c az=>az=fK/\c.1=none/\c.2=i/\bo R (arrOf fK) lo (lo+i)) (Q:=fun c az=>az=fK/\c.1=none/\1<=c.2/\c.2<=eA/\bo R (arrOf fK) lo (lo+c.2)/\(c.2 < eA->rk R (arrOf fK) (lo+c.2) < rk R (arrOf fK) (lo+c.2 - 1))) ?_ ?_ ⟨rfl,rfl,rfl,sg⟩) ?_)
          . rintro x ⟨r,n⟩ az KU KS ⟨rfl,e1,e2,e3⟩
            dsimp only at e1 e2 e3 ⊢;subst e1;subst e2;refine Yz (w4.lt L hD (by lia) (by lia) ?_);cases bw:decide (rk R (arrOf az) (lo+n) < rk R (arrOf az) (lo+n - 1)) with
            | true=>exact YD ⟨rfl,rfl,by dsimp only;lia,by dsimp only;lia,by dsimp only;exact e3,fun _=>by dsimp only;exact Ze bw⟩
            | false=>exact YD ⟨rfl,rfl,rfl,e3.more (by lia) (ai8.mp (ZE bw))⟩
          . rintro⟨r,n⟩ az ⟨f0,f1,f2,f3⟩
            dsimp only at f1 f2 f3;rw[<-f2] at f3;have f2:n=eA:=by lia
            subst f2;exact⟨f0,f1,by dsimp only;lia,Yx _,f3,fun z=>absurd z (Zt _)⟩
          . rintro⟨r,n⟩ az ⟨rfl,e1,e2,e3,e4,e5⟩
            dsimp only at e1 e2 e3 e4 ⊢;subst e1;exact YD (h _ _ w4 e2 e3 e4)
   . rw[if_neg c2];refine Yz (wpS_lift (Z7 ⟨rfl,?_⟩));have n1:n=1:=by lia
     subst n1;have RQ:Dx R (arrOf az) lo (1+1) 0:=Dx.more (q:=0) ⟨fun i j x y z=>by rw[show i=j by lia];exact ZV _,by lia,fun i x y=>by rw[show i=lo+1 - 1 by lia]⟩ MB;refine Yz (ZU (Zy (I:=fun i c az=>Wx κ a₀ ar lo p az/\c.1=none/\c.2.1=i/\Dx R (arrOf az) lo c.2.1 c.2.2) (Q:=fun c az=>Wx κ a₀ ar lo p az/\c.1=none/\c.2.1<=eA/\Dx R (arrOf az) lo c.2.1 c.2.2) ?_ ?_ ⟨hW,rfl,rfl,(by dsimp only;exact RQ)⟩) ?_)
     . rintro x ⟨r,m,q⟩ az KU KS ⟨w',e1,e2,dx⟩
       dsimp only at e1 e2 dx ⊢;subst e1;subst e2;have q1:=dx.q1;have sz:=w'.size;refine Yz (w'.lt L hD (by lia) (by lia) ?_);cases bw:decide (rk R (arrOf az) (lo+m) < rk R (arrOf az) (lo+m - 1)) with
       | true=>
        have bw:=Ze bw;dsimp only;rw[if_pos rfl];by_cases c:q > 0
        . rw[if_pos c];exact Yz (w'.rev (by lia) (by lia) fun gu w2 ea=>YD ⟨w2,rfl,rfl,by dsimp only;rw[ea];exact(dx.turned (by lia)).more (by rw[dx.turn (by lia),dx.turn (by lia)];exact bw)⟩)
        . rw[if_neg c];exact YD ⟨w',rfl,rfl,by dsimp only;exact dx.more bw⟩
       | false=>
        have bw:=ZE bw;dsimp only;rw[if_neg YJ];refine Yz (w'.lt L hD (by lia) (by lia) ?_);cases Sr:decide (rk R (arrOf az) (lo+m - 1) < rk R (arrOf az) (lo+m)) with
        | true=>exact YD ⟨w',rfl,by dsimp only;lia,by dsimp only;exact dx⟩
        | false=>exact YD ⟨w',rfl,rfl,by dsimp only;exact dx.alike (by have:=ZE Sr;lia)⟩
     . rintro⟨r,m,q⟩ az ⟨w',e1,e2,dx⟩
       dsimp only at e2;exact⟨w',e1,by dsimp only;lia,dx⟩
     . rintro⟨r,m,q⟩ az ⟨w2,e1,e3,dx⟩
       dsimp only at e1 e3 dx ⊢;subst e1;have q1:=dx.q1;have sz:=w2.size;by_cases c:q > 0
       . rw[if_pos c];refine Yz (w2.rev (by lia) (by lia) fun gu w3 ea=>?_);have Nu:=dx.turned (by lia);rw[<-ea] at Nu;have HK:=w3.size;refine Yz (w3.rev (by lia) (by lia) fun fK w4 JR=>?_);have sg:=Nu.up (by lia);rw[<-JR] at sg;refine Yz (ZU (Zy (I:=fun i c az=>az=fK/\c.1=none/\c.2=i/\bo R (arrOf fK) lo (lo+i)) (Q:=fun c az=>az=fK/\c.1=none/\1<=c.2/\c.2<=eA/\bo R (arrOf fK) lo (lo+c.2)/\(c.2 < eA->rk R (arrOf fK) (lo+c.2) < rk R (arrOf fK) (lo+c.2 - 1))) ?_ ?_ ⟨rfl,rfl,rfl,sg⟩) ?_)
         . rintro x ⟨r,n⟩ az KU KS ⟨rfl,e1,e2,e3⟩
           dsimp only at e1 e2 e3 ⊢;subst e1;subst e2;refine Yz (w4.lt L hD (by lia) (by lia) ?_);cases bw:decide (rk R (arrOf az) (lo+n) < rk R (arrOf az) (lo+n - 1)) with
           | true=>exact YD ⟨rfl,rfl,by dsimp only;lia,by dsimp only;lia,by dsimp only;exact e3,fun _=>by dsimp only;exact Ze bw⟩
           | false=>exact YD ⟨rfl,rfl,rfl,e3.more (by lia) (ai8.mp (ZE bw))⟩
         . rintro⟨r,n⟩ az ⟨f0,f1,f2,f3⟩
           dsimp only at f1 f2 f3;rw[<-f2] at f3;have f2:n=eA:=by lia
           subst f2;exact⟨f0,f1,by dsimp only;lia,Yx _,f3,fun z=>absurd z (Zt _)⟩
         . rintro⟨r,n⟩ az ⟨rfl,e1,e2,e3,e4,e5⟩
           dsimp only at e1 e2 e3 e4 ⊢;subst e1;exact YD (h _ _ w4 e2 e3 e4)
       . rw[if_neg c];refine Yz (w2.rev (by lia) (by lia) fun fK w4 JR=>?_);have sg:=dx.up (by lia);rw[<-JR] at sg;refine Yz (ZU (Zy (I:=fun i c az=>az=fK/\c.1=none/\c.2=i/\bo R (arrOf fK) lo (lo+i)) (Q:=fun c az=>az=fK/\c.1=none/\1<=c.2/\c.2<=eA/\bo R (arrOf fK) lo (lo+c.2)/\(c.2 < eA->rk R (arrOf fK) (lo+c.2) < rk R (arrOf fK) (lo+c.2 - 1))) ?_ ?_ ⟨rfl,rfl,rfl,sg⟩) ?_)
         . rintro x ⟨r,n⟩ az KU KS ⟨rfl,e1,e2,e3⟩
           dsimp only at e1 e2 e3 ⊢;subst e1;subst e2;refine Yz (w4.lt L hD (by lia) (by lia) ?_);cases bw:decide (rk R (arrOf az) (lo+n) < rk R (arrOf az) (lo+n - 1)) with
           | true=>exact YD ⟨rfl,rfl,by dsimp only;lia,by dsimp only;lia,by dsimp only;exact e3,fun _=>by dsimp only;exact Ze bw⟩
           | false=>exact YD ⟨rfl,rfl,rfl,e3.more (by lia) (ai8.mp (ZE bw))⟩
         . rintro⟨r,n⟩ az ⟨f0,f1,f2,f3⟩
           dsimp only at f1 f2 f3;rw[<-f2] at f3;have f2:n=eA:=by lia
           subst f2;exact⟨f0,f1,by dsimp only;lia,Yx _,f3,fun z=>absurd z (Zt _)⟩
         . rintro⟨r,n⟩ az ⟨rfl,e1,e2,e3,e4,e5⟩
           dsimp only at e1 e2 e3 e4 ⊢;subst e1;exact YD (h _ _ w4 e2 e3 e4)
theorem zB(L:nZ prog w A E s κ R D)(hD: ∀x∈a₀.toList,D x){st:SortSt}{n ok:Nat}{Q:Bool->SortSt->Prop}(hn:lo+n<=a₀.size)(o1:1<=ok)(o2:ok<=n)(hW:Wx κ a₀ ar lo p st)(sg:bo R (arrOf st) lo (lo+ok))
  (h: ∀az,Wx κ a₀ ar lo p az->bo R (arrOf az) lo (lo+n)->Q true az):wpS (model prog w) A E s (binarySort' lo n ok) Q st:=by
 rw[binarySort'_eq];refine Yz (ZU (Zy (I:=fun k c az=>c=(none,())/\Wx κ a₀ ar lo p az/\bo R (arrOf az) lo (lo+k)) (Q:=fun c az=>c=(none,())/\Wx κ a₀ ar lo p az/\bo R (arrOf az) lo (lo+n)) ?step ?fin ⟨rfl,hW,by rw[Nat.max_eq_left o1];exact sg⟩) ?post)
 case fin=>
  rintro c az ⟨e,w',s'⟩
  exact⟨e,w',by rw[show max (max ok 1) n=n by lia] at s';exact s'⟩
 case post=>
  rintro c az ⟨rfl,w',s'⟩
  exact YD (h az w' s')
 case step=>
  rintro k c az XS XO ⟨rfl,w',s'⟩
  have sz:=w'.size;have k1:1<=k:=by lia
  refine Yz (ZU (Zy (I:=fun x c pG=>pG=az/\c.1=none/\c.2.1<=c.2.2/\c.2.2<=k/\(c.2.2 - c.2.1)+x<=k/\(∀i,i < c.2.1->rk R (arrOf az) (lo+i)<=rk R (arrOf az) (lo+k))/\(∀i,c.2.2<=i->i < k->rk R (arrOf az) (lo+k)<=rk R (arrOf az) (lo+i)))
   (Q:=fun c pG=>pG=az/\c.1=none/\c.2.1<=k/\(∀i,i < c.2.1->rk R (arrOf az) (lo+i)<=rk R (arrOf az) (lo+k))/\(∀i,c.2.1<=i->i < k->rk R (arrOf az) (lo+k)<=rk R (arrOf az) (lo+i))) ?istep ?ifin ⟨rfl,rfl,by dsimp only;lia,by dsimp only;lia,by dsimp only;lia,fun i hi=>by dsimp only at hi;lia,fun i h1 h2=>by dsimp only at h1;lia⟩) ?ipost)
  case ifin=>
   rintro⟨r,l,u⟩ pG ⟨e,e1,e2,e3,e4,e5,e6⟩
   dsimp only at e1 e2 e3 e4 e5 e6;have:l=u:=by lia
   subst this;exact⟨e,e1,e3,e5,e6⟩
  case istep=>
   rintro x ⟨r,l,u⟩ pG _ XH ⟨rfl,h1,h2,h3,h4,h5,h6⟩
   dsimp only at h1 h2 h3 h4 h5 h6 ⊢;subst h1;by_cases Jw:l>=u
   . rw[if_pos Jw];have:l=u:=by lia
     subst this;exact YD ⟨rfl,rfl,h3,h5,h6⟩
   . rw[if_neg Jw];refine Yz (w'.lt L hD (by lia) (by lia) ?_);cases bw:decide (rk R (arrOf pG) (lo+k) < rk R (arrOf pG) (lo+(l+u) / 2)) with
     | true=>
      have bw:=Ze bw;exact YD ⟨rfl,rfl,by dsimp only;lia,by dsimp only;lia,by dsimp only;lia,h5,fun i i1 i2=>by
       dsimp only at i1;have:=s' (lo+(l+u) / 2) (lo+i) (by lia) (by lia) (by lia);lia⟩
     | false=>
      have bw:=ZE bw;exact YD ⟨rfl,rfl,by dsimp only;lia,by dsimp only;lia,by dsimp only;lia,fun i i1=>by
       dsimp only at i1;have:=s' (lo+i) (lo+(l+u) / 2) (by lia) (by lia) (by lia);lia,h6⟩
  case ipost=>
   rintro⟨r,l,u⟩ pG ⟨rfl,h1,h2,h5,h6⟩
   dsimp only at h1 h2 h5 h6 ⊢;subst h1;refine Yz (w'.VA (i:=lo+k) (j:=lo+l) (by lia) (by lia) (by lia) fun gu w2 ea=>YD ⟨rfl,w2,?_⟩);intro x y x1 x2 x3;have bu:=fun z=>Ic (R:=R) (a:=arrOf pG) (i:=lo+k) (d:=lo+k - (lo+l)) (by lia) (by lia) z;rw[ea,bu x,bu y];have e0:lo+k - (lo+k - (lo+l))=lo+l:=by lia
   rw[e0];by_cases a1:x=lo+l
   . rw[if_pos a1];by_cases b1:y=lo+l
     . rw[if_pos b1];exact ZV _
     . rw[if_neg b1,if_pos ⟨by lia,by lia⟩];have:=h6 (y - 1 - lo) (by lia) (by lia);rw[show lo+(y - 1 - lo)=y - 1 by lia] at this;exact this
   . rw[if_neg a1];by_cases a2:lo+l < x/\x<=lo+k
     . rw[if_pos a2,if_neg (by lia),if_pos ⟨by lia,by lia⟩];exact s' _ _ (by lia) (by lia) (by lia)
     . rw[if_neg a2];by_cases b1:y=lo+l
       . rw[if_pos b1];have:=h5 (x - lo) (by lia);rw[show lo+(x - lo)=x by lia] at this;exact this
       . rw[if_neg b1];by_cases b2:lo+l < y/\y<=lo+k
         . rw[if_pos b2];exact s' _ _ (by lia) (by lia) (by lia)
         . rw[if_neg b2];exact s' _ _ (by lia) (by lia) (by lia)
end
section
variable{R:Keyed->Int}
theorem Ap: ∀{L:List Keyed} {n:Nat} {xs:Array Keyed} (k:Nat),sa+n+L.length<=xs.size->((L.zipIdx n).foldl (fun a (p,j)=>a.setIfInBounds (sa+j) p) xs)[k]?=if sa+n<=k/\k < sa+n+L.length then L[k - sa - n]? else xs[k]?
 | [],n,xs,k,_=>by
  rw[if_neg (by rw[af3];lia)];rfl
 | x::L,n,xs,k,h=>by
  rw[YS] at h ⊢;rw[List.zipIdx_cons,List.foldl_cons];rw[Ap (sa:=sa) (L:=L) (n:=n+1) k (by simp;lia)];by_cases c:sa+n<=k/\k < sa+n+(L.length+1)
  . rw[if_pos c];by_cases d:k=sa+n
    . rw[if_neg (by lia),Array.getElem?_setIfInBounds,if_pos d.symm,if_pos (by lia),show k - sa - n=0 by lia];rfl
    . rw[if_pos (by lia),show k - sa - n=(k - sa - (n+1))+1 by lia,List.getElem?_cons_succ]
  . rw[if_neg c,if_neg (by lia),Array.getElem?_setIfInBounds,if_neg (by lia)]
theorem rS: ∀{l:List (Keyed × Nat)} {xs:Array Keyed},(l.foldl (fun a (p,j)=>a.setIfInBounds (sa+j) p) xs).size=xs.size
 | [],xs=>rfl
 | (x,j)::l,xs=>by
  rw[List.foldl_cons,rS];simp
structure O5(a m a':Array Keyed)(sa e:Nat):Prop where
 at_: ∀k,a'[k]?=if sa<=k/\k < e then m[k - sa]? else a[k]?
 sz:a'.size=a.size
theorem Il{a m:Array Keyed}(h:sa+m.size<=a.size):O5 a m (m.toList.zipIdx.foldl (fun a (p,j)=>a.setIfInBounds (sa+j) p) a) sa (sa+m.size):=by
 refine⟨fun k=>?_,rS⟩;have:=Ap (sa:=sa) (L:=m.toList) (n:=0) (xs:=a) k (by rw[YH];exact h);rw[YH,ac0,ai2,Zq] at this;exact this
theorem O5.list(h:O5 a m a' sa e)(he:e=sa+m.size)(hs:e<=a.size):a'.toList=a.toList.take sa++(m.toList++a.toList.drop e):=by
 apply ZN;intro k;rw[Zq,h.at_ k];have l1:(a.toList.take sa).length=sa:=by rw[Zu,YH];lia
 by_cases c:k < sa
 . rw[if_neg (by lia),Y1 (by lia),aa1 c,Zq]
 . rw[Y8 (by lia),l1];by_cases d:k < e
   . rw[if_pos (by lia),Y1 (by rw[YH];lia),Zq]
   . rw[if_neg (by lia),Y8 (by rw[YH];lia),YH,ab7,Zq];congr 1
     lia
def gp(R:Keyed->Int)(a:Array Keyed):Nat->List (Nat × Nat × Nat)->Nat->Prop
 | s,[],e=>s=e
 | s,x::r,e=>x.1=s/\1<=x.2.1/\bo R a x.1 (x.1+x.2.1)/\gp R a (x.1+x.2.1) r e
theorem gp.ch: ∀{s e:Nat} {l:List (Nat × Nat × Nat)},gp R a s l e->Ch s l e
 | s,e,[],h=>h
 | s,e,x::r,h=>⟨h.1,h.2.1,gp.ch h.2.2.2⟩
theorem gp.same: ∀{s e:Nat} {l:List (Nat × Nat × Nat)},gp R a s l e->(∀j,s<=j->j < e->rk R a' j=rk R a j)->gp R a' s l e
 | s,e,[],h,_=>h
 | s,e,x::r,h,hr=>by
  have le:=h.2.2.2.ch.le;have hs:=h.1;refine⟨h.1,h.2.1,fun y z y1 y2 y3=>?_,gp.same h.2.2.2 fun j j1 j2=>hr j (by lia) j2⟩;rw[hr y (by lia) (by lia),hr z (by lia) (by lia)];exact h.2.2.1 y z y1 y2 y3
theorem gp.lb: ∀{s e i:Nat} {l:List (Nat × Nat × Nat)} {x:Nat × Nat × Nat},gp R a s l e->l[i]?=some x->s<=x.1/\bo R a x.1 (x.1+x.2.1)
 | s,e,i,[],x,_,h=>by simp at h
 | s,e,0,z::r,x,h,h1=>by
  cases (show z=x by simpa using h1);exact⟨ag7 h.1.symm,h.2.2.1⟩
 | s,e,i+1,z::r,x,h,h1=>by
  have:=gp.lb h.2.2.2 (show r[i]?=some x by simpa using h1);exact⟨by have:=this.1;have:=h.1;lia,this.2⟩
theorem gp.merge: ∀{s e i:Nat} {l:List (Nat × Nat × Nat)} {x y:Nat × Nat × Nat},gp R a s l e->l[i]?=some x->l[i+1]?=some y->bo R a' x.1 (x.1+(x.2.1+y.2.1))->(∀j,(j < x.1\/x.1+(x.2.1+y.2.1)<=j)->rk R a' j=rk R a j)->gp R a' s ((l.set i (x.1,x.2.1+y.2.1,v)).eraseIdx (i+1)) e
 | s,e,i,[],x,y,h,h1,_,_,_=>by simp at h1
 | s,e,0,[z],x,y,h,h1,h2,_,_=>by simp at h2
 | s,e,0,z::z2::r,x,y,h,h1,h2,sg,hr=>by
  cases (show z=x by simpa using h1);cases (show z2=y by simpa using h2);show z.1=s/\1<=z.2.1+z2.2.1/\bo R a' z.1 (z.1+(z.2.1+z2.2.1))/\gp R a' (z.1+(z.2.1+z2.2.1)) r e;refine⟨h.1,by have:=h.2.1;lia,sg,?_⟩;have:=h.2.2.2.2.2.2;rw[h.2.2.2.1] at this;rw[<-Nat.add_assoc];exact this.same fun j j1 _=>hr j (.inr (by lia))
 | s,e,i+1,z::r,x,y,h,h1,h2,sg,hr=>by
  have lb:=gp.lb h.2.2.2 (show r[i]?=some x by simpa using h1);refine⟨h.1,h.2.1,fun p q p1 p2 p3=>?_,gp.merge h.2.2.2 (by simpa using h1) (by simpa using h2) sg hr⟩;rw[hr p (.inl (by lia)),hr q (.inl (by lia))];exact h.2.2.1 p q p1 p2 p3
theorem gp.push(hn:1<=n): ∀{s e:Nat} {l:List (Nat × Nat × Nat)},gp R a s l e->bo R a e (e+n)->gp R a s (l++ [(e,n,q)]) (e+n)
 | s,e,[],h,sg=>⟨h.symm,hn,sg,rfl⟩
 | s,e,x::r,h,sg=>⟨h.1,h.2.1,h.2.2.1,gp.push hn h.2.2.2 sg⟩
theorem gp.mod(hf: ∀x,(f x).1=x.1/\(f x).2.1=x.2.1): ∀{s e k:Nat} {l:List (Nat × Nat × Nat)},gp R a s l e->gp R a s (l.modify k f) e
 | s,e,k,[],h=>by simpa using h
 | s,e,0,x::r,h=>by
  show(f x).1=s/\1<=(f x).2.1/\bo R a (f x).1 ((f x).1+(f x).2.1)/\gp R a ((f x).1+(f x).2.1) r e;rw[(hf x).1,(hf x).2];exact h
 | s,e,k+1,x::r,h=>⟨h.1,h.2.1,h.2.2.1,gp.mod hf h.2.2.2⟩
theorem gp.len: ∀{s e:Nat} {l:List (Nat × Nat × Nat)},gp R a s l e->s+l.length<=e
 | s,e,[],h=>by rw[af3];exact ag7 h
 | s,e,x::r,h=>by
  have:=gp.len h.2.2.2;have:=h.1;have:=h.2.1;rw[YS];lia
theorem bo.HM(h:bo R a i j)(hj:j<=a.size):dU R (a.extract i j):=by
 unfold dU;rw[ZJ];intro x y hx hy XF;have sz:(a.extract i j).size=j - i:=by rw[ab8];lia
 have wB:x < j - i:=by rw[<-sz,<-YH];exact hx
 have KR:y < j - i:=by rw[<-sz,<-YH];exact hy
 have:=h (i+x) (i+y) (by lia) (by lia) (by lia);rw[bS (by lia),bS (by lia)] at this;simpa using this
theorem vM{a:Array Keyed}(hj:j<=a.size)(hx:x < j - i):rk R (a.extract i j) x=rk R a (i+x):=by
 have sz:(a.extract i j).size=j - i:=by rw[ab8];lia
 rw[bS (by lia),bS (by lia),Array.getElem_extract]
theorem ur{a m a':Array Keyed}(h1:sa<=jM)(h2:jM < sb)(h3:sb < e')(h4:e'<=e)(h5:e<=a.size)(s1:bo R a sa sb)(s2:bo R a sb e)(o:Out R (a.extract jM sb) (a.extract sb e') m)(P:O5 a m a' jM e')(k1:sa < jM->rk R a (jM - 1)<=rk R a sb)(k2:e' < e->rk R a (sb - 1)<=rk R a e'):bo R a' sa e/\a'.toList.Perm a.toList/\ ∀j,(j < jM\/e'<=j)->rk R a' j=rk R a j:=by
 have ms:m.size=e' - jM:=by
  have:=o.1.length_eq;rw[Y9,YH,YH,YH,ab8,ab8] at this;lia
 have out: ∀j,(j < jM\/e'<=j)->rk R a' j=rk R a j:=fun j hj=>ki (by rw[P.at_ j,if_neg (by lia)]);have ins: ∀j,jM<=j->j < e'->rk R a' j=rk R m (j - jM):=fun j j1 j2=>ki (by rw[P.at_ j,if_pos ⟨j1,j2⟩]);have mem: ∀j,jM<=j->j < e'-> ∃k,jM<=k/\k < e'/\rk R a' j=rk R a k:=fun j j1 j2=>by
  rw[ins j j1 j2,bS (by lia)];have hm:=o.1.mem_iff.mp (uu (a:=m) (i:=j - jM) (by lia));rcases Zi.mp hm with z | z
  . obtain⟨k,p1,p2,p3,e⟩:=cS (R:=R) z;exact⟨k,p1,by lia,e⟩
  . obtain⟨k,p1,p2,p3,e⟩:=cS (R:=R) z;exact⟨k,by lia,p2,e⟩
 have lo: ∀x k,sa<=x->x < jM->jM<=k->k < e'->rk R a x<=rk R a k:=fun x k x1 x2 p1 p2=>by
  have a1:=s1 x (jM - 1) x1 (by lia) (by lia);by_cases c:k < sb
  . exact s1 x k x1 (by lia) c
  . have:=k1 (by lia);have:=s2 sb k (Yx _) (by lia) (by lia);lia
 have hi: ∀y k,e'<=y->y < e->jM<=k->k < e'->rk R a k<=rk R a y:=fun y k y1 y2 p1 p2=>by
  by_cases c:k < sb
  . have b1:=s1 k (sb - 1) (by lia) (by lia) (by lia);have b2:=k2 (by lia);have b3:=s2 e' y (by lia) y1 y2;lia
  . exact s2 k y (by lia) (by lia) y2
 refine⟨fun x y x1 x2 x3=>?_,?_,out⟩
 . by_cases cx:x < jM
   . rw[out x (.inl cx)];by_cases cy:y < jM
     . rw[out y (.inl cy)];exact s1 x y x1 x2 (by lia)
     . by_cases Sj:y < e'
       . obtain⟨k,p1,p2,e⟩:=mem y (by lia) Sj;rw[e];exact lo x k x1 cx p1 p2
       . rw[out y (.inr (by lia))];have q1:=lo x (sb - 1) x1 cx (by lia) (by lia);have q2:=hi y (sb - 1) (by lia) x3 (by lia) (by lia);lia
   . by_cases Uo:x < e'
     . by_cases Sj:y < e'
       . rw[ins x (by lia) Uo,ins y (by lia) Sj];exact o.2.rk (by lia) (by lia)
       . obtain⟨k,p1,p2,e⟩:=mem x (by lia) Uo;rw[e,out y (.inr (by lia))];exact hi y k (by lia) x3 p1 p2
     . rw[out x (.inr (by lia)),out y (.inr (by lia))];exact s2 x y (by lia) x2 x3
 . rw[P.list (by lia) (by lia)];have e1:a.toList.take jM++((a.extract jM sb).toList++(a.extract sb e').toList++a.toList.drop e')=a.toList:=by
    rw[fT,fT];have d1:a.toList.drop sb=(a.toList.drop sb).take (e' - sb)++a.toList.drop e':=by
     conv=>lhs;rw[<-Z9 (e' - sb) (a.toList.drop sb)]
     rw[List.drop_drop,show sb+(e' - sb)=e' by lia]
    have d2:a.toList.drop jM=(a.toList.drop jM).take (sb - jM)++a.toList.drop sb:=by
     conv=>lhs;rw[<-Z9 (sb - jM) (a.toList.drop jM)]
     rw[List.drop_drop,show jM+(sb - jM)=sb by lia]
    rw[Zg,<-d1,<-d2,Z9]
   conv=>rhs;rw[<-e1]
   exact List.Perm.append_left _ (List.Perm.append_right _ o.1)
theorem bo.join(s1:bo R a sa sb)(s2:bo R a sb e)(h1:sa < sb)(hl:rk R a (sb - 1)<=rk R a sb):bo R a sa e:=fun x y x1 x2 x3=>by
 by_cases cx:x < sb
 . by_cases cy:y < sb
   . exact s1 x y x1 x2 cy
   . have q1:=s1 x (sb - 1) x1 (by lia) (by lia);have q2:=s2 sb y (Yx _) (by lia) x3;lia
 . exact s2 x y (by lia) x2 x3
end
structure Px(κ:SortKind)(R:Keyed->Int)(a₀:Array Keyed)(lo:Nat)(p:Array (Nat × Nat × Nat))(st:SortSt):Prop where
 pm:(arrOf st).Perm a₀
 kind:kindOf st=κ
 failed:failedOf st=none
 pend:pendingOf st=p
 ch:gp R (arrOf st) 0 p.toList lo
section
variable{prog:Program}{w:World}{A:Around}{E:Value->Shared->Prop}{s:Shared}{κ:SortKind}{R:Keyed->Int}{D:Keyed->Prop}{a₀:Array Keyed}{p:Array (Nat × Nat × Nat)}{lo:Nat}
theorem iC(L:nZ prog w A E s κ R D)(hD: ∀x∈a₀.toList,D x){st:SortSt}{i:Nat}{Q:Bool->SortSt->Prop}(hW:Px κ R a₀ lo p st)(Rg:lo<=a₀.size)(hi:i+1 < p.size)
  (h: ∀p' az,Px κ R a₀ lo p' az->p'.size+1=p.size->(∀j,lo<=j->rk R (arrOf az) j=rk R (arrOf st) j)->Q true az):wpS (model prog w) A E s (mergeAt' i) Q st:=by
 rw[sv];refine Yz (ag4 ?_);obtain⟨⟨sa,na,pw⟩,hx⟩: ∃x,p[i]?=some x:=⟨p[i],Zo (by lia)⟩
 obtain⟨⟨sb,nb,Qs⟩,hy⟩: ∃x,p[i+1]?=some x:=⟨p[i+1],Zo (by lia)⟩
 have wB:p.toList[i]?=some (sa,na,pw):=by rw[Zq];exact hx
 have KR:p.toList[i+1]?=some (sb,nb,Qs):=by rw[Zq];exact hy
 have t2:=hW.ch.ch.two wB KR;have HR:=(hW.ch.lb wB).2;have LV:=(hW.ch.lb KR).2;have hM:=fun(a':Array Keyed)=>hW.ch.merge (a':=a') (v:=pw) wB KR;dsimp only at t2 HR LV hM;obtain⟨n1,e1,n2,e2⟩:=t2;rw[hW.pend,hx,hy];dsimp only;have KZ:((p.setIfInBounds i (sa,na+nb,pw)).eraseIdxIfInBounds (i+1)).toList=(p.toList.set i (sa,na+nb,pw)).eraseIdx (i+1):=by
  rw[Array.toList_eraseIdxIfInBounds,Array.toList_setIfInBounds]
 have Q7:((p.setIfInBounds i (sa,na+nb,pw)).eraseIdxIfInBounds (i+1)).size+1=p.size:=by
  rw[<-YH,KZ,List.length_eraseIdx_of_lt (by rw[Y7,YH];exact hi),Y7,YH];lia
 rw[<-KZ] at hM;generalize (p.setIfInBounds i (sa,na+nb,pw)).eraseIdxIfInBounds (i+1)=p1 at hM Q7 ⊢;clear KZ;have sz:(arrOf st).size=a₀.size:=hW.pm.size_eq;have dk:Dk D (arrOf st):=fun i hi=>hD _ ((ZF.mp hW.pm).mem_iff.mp (uu hi));have KW:sb < (arrOf st).size:=by lia
 refine Yz (DE ?_);refine Yz (aD KW ?_);refine Yz (eU L hW.kind dk (dk _ KW) (by lia) (by lia) (fun x y x1 x2=>HR _ _ (by lia) (by lia) (by lia)) fun k hk kt kf=>?_);rw[<-bS (R:=R) KW] at kt kf;dsimp only;have Gx:0 < k->rk R (arrOf st) (sa+k - 1)<=rk R (arrOf st) sb:=fun z=>by have:=u6 (kt (k - 1) (by lia));rw[show sa+(k - 1)=sa+k - 1 by lia] at this;exact this
 have Jb:k < na->rk R (arrOf st) sb<=rk R (arrOf st) (sa+k):=fun z=>aa9 (u7 (kf k (Yx _) z));clear kt kf;have whole:rk R (arrOf st) (sb - 1)<=rk R (arrOf st) sb->Q true (setPending st p1):=fun z=>by
  refine h p1 _ ⟨hW.pm,hW.kind,hW.failed,rfl,?_⟩ Q7 fun _ _=>rfl;refine hM (arrOf st) ?_ fun j _=>rfl;rw[show sa+(na+nb)=sb+nb by lia];rw[e1] at HR;exact HR.join LV (by lia) z
 by_cases c1:(na - k==0)=true
 . rw[if_pos c1];have Sq:=YL.mp c1;refine YD (whole ?_);have:=Gx (by lia);rw[show sa+k - 1=sb - 1 by lia] at this;exact this
 rw[if_neg c1];have Sq:na - k≠0:=fun z=>c1 (YL.mpr z);clear c1;have Q2:sa+k+(na - k) - 1 < (arrOf st).size:=by lia
 refine Yz (aD Q2 ?_);refine Yz (eU L hW.kind dk (dk _ Q2) (by lia) (by lia) (fun x y x1 x2=>LV _ _ (by lia) (by lia) (by lia)) fun k2 OV lt lf=>?_);rw[<-bS (R:=R) Q2,show sa+k+(na - k) - 1=sb - 1 by lia] at lt lf;dsimp only;have lt':0 < k2->rk R (arrOf st) (sb+k2 - 1)<=rk R (arrOf st) (sb - 1):=fun z=>by have:=aa9 (m6 (lt (k2 - 1) (by lia)));rw[show sb+(k2 - 1)=sb+k2 - 1 by lia] at this;exact this
 have zb:k2 < nb->rk R (arrOf st) (sb - 1)<=rk R (arrOf st) (sb+k2):=fun z=>m7 (lf k2 (Yx _) z);clear lt lf;by_cases c2:(k2==0)=true
 . rw[if_pos c2];have G4:=YL.mp c2;refine YD (whole ?_);have:=zb (by lia);rw[G4,ac0] at this;exact this
 rw[if_neg c2];have G4:k2≠0:=fun z=>c2 (YL.mpr z);clear c2;have sx:((arrOf st).extract (sa+k) sb).size=na - k:=by rw[ab8];lia
 have sy:((arrOf st).extract sb (sb+k2)).size=k2:=by rw[ab8];lia
 have S5:bo R (arrOf st) (sa+k) sb:=fun x y x1 x2 x3=>HR x y (by lia) x2 (by lia);have S4:bo R (arrOf st) sb (sb+k2):=fun x y x1 x2 x3=>LV x y x1 x2 (by lia);have O1: ∀i j,Dk D ((arrOf st).extract i j):=fun i j l hl=>by
  rw[Array.getElem_extract];exact dk _ _
 have fin: ∀(m:Array Keyed) (g:Nat),Out R ((arrOf st).extract (sa+k) sb) ((arrOf st).extract sb (sb+k2)) m->wpS (model prog w) A E s (do
   modify fun s=>setArr s (m.toList.zipIdx.foldl (fun a (p,j)=>a.setIfInBounds (sa+k+j) p) (arrOf s))
   return(failedOf (<-get)).isNone) Q (setG (setPending st p1) g):=fun m g o=>by
  have ms:m.size=na - k+k2:=by
   have:=o.1.length_eq;rw[Y9,YH,YH,YH,sx,sy] at this;exact this
  have pt:=Il (a:=arrOf st) (m:=m) (sa:=sa+k) (by lia);rw[show sa+k+m.size=sb+k2 by lia] at pt;rw[e1] at HR;obtain⟨q1,q2,q3⟩:=ur (sa:=sa) (e:=sb+nb) (by lia) (by lia) (by lia) (by lia) (by lia) HR LV o pt (fun z=>Gx (by lia)) (fun z=>zb (by lia));refine Yz (ab1 (Yz (ag4 ?_)));have hf:(failedOf st).isNone=true:=by rw[hW.failed];rfl
  show wpS _ _ _ _ (pure (failedOf st).isNone) Q _;rw[hf];refine YD (h p1 _ ⟨(ZF.mpr q2).trans hW.pm,hW.kind,hW.failed,rfl,?_⟩ Q7 fun j hj=>q3 j (by lia));refine hM _ ?_ fun j hj=>q3 j (by lia);rw[show sa+(na+nb)=sb+nb by lia];exact q1
 have c0:rk R ((arrOf st).extract sb (sb+k2)) 0<=rk R ((arrOf st).extract (sa+k) sb) 0:=by
  rw[vM (by lia) (by lia),vM (by lia) (by lia),ac0,ac0];exact Jb (by lia)
 have cl:rk R ((arrOf st).extract sb (sb+k2)) (((arrOf st).extract sb (sb+k2)).size - 1)<=rk R ((arrOf st).extract (sa+k) sb) (((arrOf st).extract (sa+k) sb).size - 1):=by
  rw[sx,sy,vM (by lia) (by lia),vM (by lia) (by lia),show sb+(k2 - 1)=sb+k2 - 1 by lia,show sa+k+(na - k - 1)=sb - 1 by lia];exact lt' (by lia)
 by_cases c3:na - k<=k2
 . rw[if_pos c3];exact Yz (qY L hW.kind (O1 _ _) (O1 _ _) (S5.HM (by lia)) (S4.HM (by lia)) (by lia) (by lia) c0 cl fun m g o=>fin m g o)
 . rw[if_neg c3];exact Yz (qZ L hW.kind (O1 _ _) (O1 _ _) (S5.HM (by lia)) (S4.HM (by lia)) (by lia) (by lia) c0 cl fun m g o=>fin m g o)
end
theorem Px.wx{p:Array (Nat × Nat × Nat)}{lo:Nat}{st:SortSt}(h:Px κ R a₀ lo p st):Wx κ a₀ (arrOf st) lo p st:=⟨h.pm,h.kind,h.failed,h.pend,fun _ _=>rfl⟩
theorem Px.back{p:Array (Nat × Nat × Nat)}{lo:Nat}{st az:SortSt}(h:Px κ R a₀ lo p st)(w':Wx κ a₀ (arrOf st) lo p az):Px κ R a₀ lo p az:=⟨w'.pm,w'.kind,w'.failed,w'.pend,h.ch.same fun j _ j2=>ki (w'.keep j j2)⟩
theorem n6(L:nZ prog w A E s κ R D)(hD: ∀x∈a₀.toList,D x){st:SortSt}(hW:Px κ R a₀ 0 #[] st)(h1:1<=a₀.size)(h: ∀az,(arrOf az).Perm a₀->failedOf az=none->bo R (arrOf az) 0 a₀.size->Q () az):wpS (model prog w) A E s sortRuns' Q st:=by
 rw[sortRuns'_eq];refine Yz (ag4 ?_);dsimp only;rw[hW.pm.size_eq];have mr:1<=minRun' a₀.size a₀.size 0:=mC h1;generalize minRun' a₀.size a₀.size 0=ON at mr ⊢;refine Yz (ZU (Zy (I:=fun x (c:Option Unit × Nat) az=>c.1=none/\c.2<=a₀.size/\min x a₀.size<=c.2/\ ∃p,Px κ R a₀ c.2 p az)
  (Q:=fun(c:Option Unit × Nat) az=>c.1=none/\c.2=a₀.size/\ ∃p,Px κ R a₀ c.2 p az) ?step ?fin0 ⟨rfl,Za _,by dsimp only;lia,#[],hW⟩) ?post)
 case fin0=>
  rintro⟨r,lo⟩ az ⟨e1,e2,e3,p,hp⟩
  dsimp only at e1 e2 e3 hp;exact⟨e1,by dsimp only;lia,p,hp⟩
 case post=>
  rintro⟨r,lo⟩ az ⟨e1,e2,p,yv⟩
  dsimp only at e1 e2 yv ⊢;subst e1;subst e2;dsimp only;have pl:=yv.ch.len;rw[YH] at pl;refine Yz (ZU (Zy (I:=fun x c az=>c.1=none/\ ∃p,Px κ R a₀ a₀.size p az/\p.size+x<=a₀.size)
   (Q:=fun c az=>c.1=none/\ ∃p,Px κ R a₀ a₀.size p az/\p.size<=1) ?fstep ?ffin ⟨rfl,p,yv,by lia⟩) ?fpost)
  case ffin=>
   rintro⟨r,u⟩ az ⟨e1,p,hp,hs⟩
   exact⟨e1,p,hp,by rw[show max 0 a₀.size=a₀.size by lia] at hs;lia⟩
  case fpost=>
   rintro⟨r,u⟩ az ⟨e1,p,hp,hs⟩
   dsimp only at e1 ⊢;subst e1;refine YD (h _ hp.pm hp.failed ?_);have ch:=hp.ch;have hl:p.toList.length<=1:=by rw[YH];exact hs
   match hq:p.toList,hl,ch with
   | [],_,ch=>have:0=a₀.size:=ch;lia
   | [x],_,ch=>
    obtain⟨a1,a2,a3,a4⟩:=ch;have a4:x.1+x.2.1=a₀.size:=a4;rw[a4,a1] at a3;exact a3
   | _::_::_,hl,_=>simp at hl
  case fstep=>
   clear yv pl;rintro x ⟨r,u⟩ az _ hx ⟨e1,p,yv,hs⟩
   dsimp only at e1 ⊢;subst e1;refine Yz (ag4 ?_);rw[yv.pend];by_cases c:p.size<=1
   . rw[if_pos c];exact YD ⟨rfl,p,yv,c⟩
   rw[if_neg c];have mg: ∀i,i+1 < p.size->wpS (model prog w) A E s (mergeAt' i) (fun b az=>b=true/\ ∃p',Px κ R a₀ a₀.size p' az/\p'.size+1=p.size) az:=fun i hi=>iC L hD yv (Yx _) hi fun p' gu a b _=>⟨rfl,p',a,b⟩
   have hi: ∀(b:Bool),(if b=true then p.size - 2 - 1 else p.size - 2)+1 < p.size:=fun b=>by cases b <;> simp <;> omega
   refine Yz (ZU (mg _ (hi _)) ?_);rintro b gu ⟨rfl,p2,w2,k2⟩
   exact YD ⟨rfl,p2,w2,by lia⟩
 case step=>
  rintro x ⟨r,lo⟩ az _ hx ⟨e1,e2,e3,p,yv⟩
  dsimp only at e1 e2 e3 yv ⊢;subst e1;by_cases c:lo>=a₀.size
  . rw[if_pos c];exact YD ⟨rfl,by dsimp only;lia,p,yv⟩
  rw[if_neg c];refine Yz (zA L hD (by lia) (by lia) yv.wx fun m rG w1 m1 m2 sg=>?_);have Rv:=yv.back w1;clear w1;dsimp only;by_cases c2:m < ON
  . rw[if_pos c2];refine Yz (wpS_lift (Z7 ⟨rfl,?_⟩));refine Yz (zB L hD (by lia) m1 (by lia) Rv.wx sg fun gu w2 KN=>?_);have uH:=Rv.back w2;have n1:1<=min (a₀.size - lo) ON:=by lia
    have n2:lo+min (a₀.size - lo) ON<=a₀.size:=by lia
    simp only [Bool.not_true,aa0,ad0];generalize min (a₀.size - lo) ON=n at n1 n2 KN ⊢;refine Yz (ag4 ?_);rw[uH.pend];cases hb:p.back? with
    | none=>
     dsimp only;refine Yz (ab1 (YD ⟨rfl,by dsimp only;lia,by dsimp only;lia,_,uH.pm,uH.kind,uH.failed,rfl,?_⟩));show gp R (arrOf gu) 0 ((pendingOf _).push _).toList _;rw[uH.pend,ae3];exact uH.ch.push n1 KN
    | some t=>
     obtain⟨s1,Vq,q1⟩:=t;dsimp only;refine Yz (ZU (Zy (I:=fun x c az=>c.1=none/\ ∃p,Px κ R a₀ lo p az/\bo R (arrOf az) lo (lo+n)) (Q:=fun c az=>c.1=none/\ ∃p,Px κ R a₀ lo p az/\bo R (arrOf az) lo (lo+n)) ?_ (fun _ _ h=>h) ⟨rfl,p,uH,KN⟩) ?_)
     . rintro x ⟨r,u⟩ fK _ _ ⟨e1,p2,w2,s2⟩
       dsimp only at e1 ⊢;subst e1;refine Yz (ag4 ?_);rw[w2.pend];by_cases c:p2.size > 1
       . rw[if_pos c,Zo (show p2.size - 2 < p2.size by lia)];generalize p2[p2.size - 2]=t;obtain⟨t1,t2,Mn⟩:=t;dsimp only;split
         . exact YD ⟨rfl,p2,w2,s2⟩
         . refine Yz (iC L hD w2 e2 (by lia) fun p3 Va w3 k3 kr=>?_);exact YD ⟨rfl,p3,w3,fun a b a1 a2 a3=>by rw[kr a a1,kr b (by lia)];exact s2 a b a1 a2 a3⟩
       . rw[if_neg c];exact YD ⟨rfl,p2,w2,s2⟩
     . rintro⟨r,u⟩ fK ⟨e1,p2,w2,s2⟩
       dsimp only at e1 ⊢;subst e1;refine Yz (ab1 (Yz (ab1 (YD ⟨rfl,by dsimp only;lia,by dsimp only;lia,_,w2.pm,w2.kind,w2.failed,rfl,?_⟩))));show gp R (arrOf fK) 0 (((pendingOf fK).modify ((pendingOf fK).size - 1) _).push _).toList _;rw[w2.pend,ae3,Array.toList_modify];refine gp.push (e:=lo) n1 (gp.mod ?_ w2.ch) s2;exact fun _=>⟨rfl,rfl⟩
  . rw[if_neg c2];have uH:=Rv;have KN:=sg;have n1:=m1;refine Yz (ag4 ?_);rw[uH.pend];cases hb:p.back? with
    | none=>
     dsimp only;refine Yz (ab1 (YD ⟨rfl,by dsimp only;lia,by dsimp only;lia,_,uH.pm,uH.kind,uH.failed,rfl,?_⟩));show gp R (arrOf rG) 0 ((pendingOf _).push _).toList _;rw[uH.pend,ae3];exact uH.ch.push n1 KN
    | some t=>
     obtain⟨s1,Vq,q1⟩:=t;dsimp only;refine Yz (ZU (Zy (I:=fun x c az=>c.1=none/\ ∃p,Px κ R a₀ lo p az/\bo R (arrOf az) lo (lo+m)) (Q:=fun c az=>c.1=none/\ ∃p,Px κ R a₀ lo p az/\bo R (arrOf az) lo (lo+m)) ?_ (fun _ _ h=>h) ⟨rfl,p,uH,KN⟩) ?_)
     . rintro x ⟨r,u⟩ fK _ _ ⟨e1,p2,w2,s2⟩
       dsimp only at e1 ⊢;subst e1;refine Yz (ag4 ?_);rw[w2.pend];by_cases c:p2.size > 1
       . rw[if_pos c,Zo (show p2.size - 2 < p2.size by lia)];generalize p2[p2.size - 2]=t;obtain⟨t1,t2,Mn⟩:=t;dsimp only;split
         . exact YD ⟨rfl,p2,w2,s2⟩
         . refine Yz (iC L hD w2 e2 (by lia) fun p3 Va w3 k3 kr=>?_);exact YD ⟨rfl,p3,w3,fun a b a1 a2 a3=>by rw[kr a a1,kr b (by lia)];exact s2 a b a1 a2 a3⟩
       . rw[if_neg c];exact YD ⟨rfl,p2,w2,s2⟩
     . rintro⟨r,u⟩ fK ⟨e1,p2,w2,s2⟩
       dsimp only at e1 ⊢;subst e1;refine Yz (ab1 (Yz (ab1 (YD ⟨rfl,by dsimp only;lia,by dsimp only;lia,_,w2.pm,w2.kind,w2.failed,rfl,?_⟩))));show gp R (arrOf fK) 0 (((pendingOf fK).modify ((pendingOf fK).size - 1) _).push _).toList _;rw[w2.pend,ae3,Array.toList_modify];refine gp.push (e:=lo) n1 (gp.mod ?_ w2.ch) s2;exact fun _=>⟨rfl,rfl⟩
end fg
namespace bD
open PySem PySem.W PyProof.Rows
variable{N:Nat}{K:Nat->Int}{s:Shared}{cmp:Nat->Nat->(Bool->Shared->Prop)->Shared->Prop}
def UC(N:Nat)(K:Nat->Int)(cmp:Nat->Nat->(Bool->Shared->Prop)->Shared->Prop)(s:Shared):Prop:= ∀i j,i < N->j < N-> ∀C:Bool->Shared->Prop,C (decide (K i < K j)) s->cmp i j C s
structure Pm(N:Nat)(p:Array Nat):Prop where
 pm:p.Perm (List.range N).toArray
theorem Pm.sz(h:Pm N p):p.size=N:=by rw[h.pm.size_eq];simp
noncomputable def kp(K:Nat->Int)(p:Array Nat)(i:Nat):Int:=K (p.getD i 0)
def KH(K:Nat->Int)(p:Array Nat)(n:Nat):Prop:= ∀i j,i<=j->j < n->kp K p i<=kp K p j
end bD
namespace L2
open PySem PySem.Spec PyProof.Rows
abbrev Key:=Sum Int Str
noncomputable def oH:Key->Value->Bool
 | .inl k,v=>Value.isInt k v
 | .inr x,v=>Value.isStrOf x v
noncomputable def QH(w:World):Key->Int
 | .inl k=>hashInt k
 | .inr x=>hashStr w x
theorem bq: ∀{k:Key} {v:Value},oH k v=true->(∃i t,k=Sum.inl i/\v=Value.int i t)\/(∃x t,k=Sum.inr x/\v=Value.str x t)
 | .inl i,v,h=>by
  obtain⟨t,e⟩:=Value.isInt_shape (k:=i) (v:=v) h;exact .inl ⟨i,t,rfl,e⟩
 | .inr x,v,h=>by
  obtain⟨t,e⟩:=Value.isStrOf_shape (x:=x) (v:=v) h;exact .inr ⟨x,t,rfl,e⟩
theorem yk(i:Int)(t:Tok):oH (.inl i) (.int i t)=true:=by simp [oH,Value.isInt]
theorem yj(x:Str)(t:Tok):oH (.inr x) (.str x t)=true:=by simp [oH,Value.isStrOf]
theorem Jf(a b:Int):decide ((Sum.inl a:Key)=Sum.inl b)=(a==b):=by
 by_cases e:a=b
 . subst e;simp
 . have h: ¬(Sum.inl a:Key)=Sum.inl b:=fun q=>e (Sum.inl.inj q);rw[ZI h];exact(ac8.mpr e).symm
theorem Jc(a b:Str):decide ((Sum.inr a:Key)=Sum.inr b)=decide (a=b):=by
 by_cases e:a=b
 . subst e;simp
 . have h: ¬(Sum.inr a:Key)=Sum.inr b:=fun q=>e (Sum.inr.inj q);rw[ZI h,ZI e]
theorem Je(a:Int)(b:Str):decide ((Sum.inl a:Key)=Sum.inr b)=false:=ZI (fun q=>nomatch q)
theorem Jd(a:Str)(b:Int):decide ((Sum.inr a:Key)=Sum.inl b)=false:=ZI (fun q=>nomatch q)
noncomputable def aY(prog:Program)(w:World):PySem.KeyKind prog w Key where
 is:=oH
 hash:=QH w
 inj:=fun v a b ha hb=>by
  rcases bq ha with ⟨i,t,rfl,rfl⟩ | ⟨x,t,rfl,rfl⟩
  . rcases bq hb with ⟨j,u,rfl,e⟩ | ⟨y,u,rfl,e⟩
    . injection e with e1 _;rw[e1]
    . exact nomatch e
  . rcases bq hb with ⟨j,u,rfl,e⟩ | ⟨y,u,rfl,e⟩
    . exact nomatch e
    . injection e with e1 _;rw[e1]
 byValue:=fun k v h=>by
  rcases bq h with ⟨i,t,rfl,rfl⟩ | ⟨x,t,rfl,rfl⟩ <;> rfl
 pyHash:=fun hv h=>by
  rcases bq hv with ⟨i,t,rfl,rfl⟩ | ⟨x,t,rfl,rfl⟩
  . exact wpAny_pyHash_int h
  . exact wpAny_pyHash_str h
 eqBool:=fun hu hv h=>by
  rcases bq hu with ⟨i,t,rfl,rfl⟩ | ⟨x,t,rfl,rfl⟩
  . rcases bq hv with ⟨j,u,rfl,rfl⟩ | ⟨y,u,rfl,rfl⟩
    . rw[Jf] at h;exact wpAny_eqBool_int h
    . rw[Je] at h;exact SeqAt.EqAt.int_str i t y u _ _ _ _ h
  . rcases bq hv with ⟨j,u,rfl,rfl⟩ | ⟨y,u,rfl,rfl⟩
    . rw[Jd] at h;exact SeqAt.EqAt.str_int x t j u _ _ _ _ h
    . rw[Jc] at h;exact wpAny_eqBool_str h
 «strs» :=fun k x t v h=>by
  rcases bq h with ⟨i,u,rfl,e⟩ | ⟨y,u,rfl,e⟩
  . exact nomatch e
  . injection e with e1 _
    subst e1;cases v <;> rfl
theorem sj(prog:Program)(w:World)(i:Int)(t:Tok):(aY prog w).is (.inl i) (.int i t)=true:=yk i t
theorem si(prog:Program)(w:World)(x:Str)(t:Tok):(aY prog w).is (.inr x) (.str x t)=true:=yj x t
inductive V where
 | aI | bl (b:Bool) | int (i:Int) | str (x:Str) | zh (b:Array UInt8) | zc (b:UInt64) | ref (a:Addr) | ty (n:String)
 deriving DecidableEq
def RelV:V->Value->Prop
 | .aI,u=>u=Value.none
 | .bl b,u=>u=Value.bool b
 | .int i,u=> ∃t,u=Value.int i t
 | .str x,u=> ∃t,u=Value.str x t
 | .zh b,u=> ∃t,u=Value.bytes b t
 | .zc b,u=> ∃t,u=Value.float b t
 | .ref a,u=>u=Value.ref a
 | .ty n,u=>u=Value.type n
abbrev Vals:List V->List Value->Prop:=Paired RelV
theorem Vals.length(r:Vals xs us):xs.length=us.length:=Paired.length r
theorem Vals.get: ∀{xs:List V} {us:List Value} {i:Nat} {x:V},Vals xs us->xs[i]?=some x-> ∃u,us[i]?=some u/\RelV x u
 | _,_,_,_,.nil,e=>by simp at e
 | _,_,0,_,.cons r _,e=>by simp at e;subst e;exact⟨_,rfl,r⟩
 | _,_,i+1,x,.cons _ t,e=>by
  obtain⟨u,h1,h2⟩:=Vals.get (i:=i) (x:=x) t (by simpa using e);exact⟨u,by simpa using h1,h2⟩
theorem Vals.set(r:RelV x u): ∀{xs:List V} {us:List Value} (i:Nat),Vals xs us->Vals (xs.set i x) (us.set i u)
 | _,_,_,.nil=> .nil
 | _,_,0,.cons _ t=> .cons r t
 | _,_,i+1,.cons q t=> .cons q (Vals.set r i t)
theorem Vals.append: ∀{xs ys:List V} {us ws:List Value},Vals xs us->Vals ys ws->Vals (xs++ys) (us++ws)
 | _,_,_,_,.nil,s=>s
 | _,_,_,_,.cons r t,s=> .cons r (Vals.append t s)
theorem Vals.take: ∀{xs:List V} {us:List Value} (n:Nat),Vals xs us->Vals (xs.take n) (us.take n)
 | _,_,0,_=> .nil
 | _,_,_+1,.nil=> .nil
 | _,_,n+1,.cons r t=> .cons r (Vals.take n t)
theorem Vals.drop: ∀{xs:List V} {us:List Value} (n:Nat),Vals xs us->Vals (xs.drop n) (us.drop n)
 | _,_,0,r=>r
 | _,_,_+1,.nil=> .nil
 | _,_,n+1,.cons _ t=>Vals.drop n t
def nj:Option V->Option Value->Prop
 | some v,some u=>RelV v u
 | none,none=>True
 | _,_=>False
def KV{κ:Type}:List (κ × V)->List (κ × Value)->Prop:=Paired fun(p:κ × V) (q:κ × Value)=>p.1=q.1/\RelV p.2 q.2
noncomputable def kV:Key->V
 | .inl i=> .int i
 | .inr x=> .str x
def kT(h:Heap)(a:Addr)(items:Array Value):Prop:= ∃o,h.get? a=some o/\o.cls= .type "tuple"/\o.dict=none/\ ∃n,o.data= .seq items n
theorem kT.tup{h:Heap}{a:Addr}{items:Array Value}(x:kT h a items):IsTup h a items:=let ⟨o,e,c,_,d⟩:=x;⟨o,e,c,d⟩
theorem kT.lt(x:kT h a items):a < h.objs.size:=let ⟨_,e,_⟩:=x;YM e
theorem kT.new(h:Heap)(items:Array Value):kT (h.push {cls:= .type "tuple",data:= .seq items}) h.objs.size items:=⟨_,YI _ rfl,rfl,rfl,_,rfl⟩
inductive HO where
  | lst (xs:List V)
  | tup (xs:List V)
  | dK (aG:List (Key × V)) | dT (aG:List (List Key × V))
  | set (S:Int->Bool) (n:Nat)
  | ins (C dx:Addr) (fs:List (Str × V))
  | own (x:Addr)
  | xd (fs:List (Str × V))
  | met (f x:Addr)
  | rP (lo hi:Int)
  | lB (o:Obj) (u:HO)
  | tV (ps:Array Value)
  | ext (φ:Heap->Prop)
abbrev Hp:=Addr->Option HO
noncomputable def upd(H:Hp)(a:Addr)(o:HO):Hp:=fun b=>if b=a then some o else H b
theorem af:upd H a o a=some o:=by unfold upd;rw[if_pos rfl]
theorem ag(h:b≠a):upd H a o b=H b:=by unfold upd;rw[if_neg h]
theorem v7{H:Hp}(h:H a=some o)(h':H b=some u)(d:o≠u):a≠b:=by
 intro e;subst e;rw[h] at h';exact d (Option.some.inj h')
theorem aj{H:Hp}(h:H a=some o)(h':H b=none):a≠b:=by
 intro e;subst e;rw[h] at h';cases h'
noncomputable def bb:List Str:= ["_law_turned_due"]
noncomputable def gU(x:Str):Str:=(x++(".<locals>.":Str))++("<lambda>":Str)
def pe(H:Hp)(ps es:Array Value):Prop:=TriplesOk es.toList/\ ∀pos cv,codeAmong pos es.toList=some cv->
 ∃c oc vs q t t',cv= .ref c/\H c=some (.lB oc (.own c))/\oc.data= .fields vs/\vs[1]?=some (.str q t)/\ps[0]?=some (.str q t')
def g9(K:PySem.W.Frag)(H:Hp):Prop:= ∀x∈bb,∀c P,PySem.W.tabIn K x=some (c,P)-> ∃ps,H P=some (.tV ps)/\ps[0]?=some (.str (gU x) 0)
section
variable (P:Program) (w:World)
def a9(H:Hp)(h:Heap)(a:Addr):HO->Prop
 | .lst xs=>xs.length<=sizeLine/\ ∃(ao:List Value) (n:Nat),Vals xs ao/\h.get? a=some {cls:= .type "list",data:= .seq ao.toArray n}
 | .tup xs=>xs.length<=sizeLine/\ ∃ao:List Value,Vals xs ao/\kT h a ao.toArray
 | .dK aG=>aG.length<=sizeLine/\(a==sysModules)=false/\ ∃vs,KV aG vs/\h.DictOf (aY P w) a vs
 | .dT aG=>aG.length<=sizeLine/\(a==sysModules)=false/\ ∃xs:List (List Key × Addr × Value),
   Paired (fun(p:List Key × V) (q:List Key × Addr × Value)=>p.1=q.1/\H q.2.1=some (.tup (p.1.map kV))/\RelV p.2 q.2.2) aG xs/\
   ∃o es ep,h.get? a=some o/\o.ExactDict/\o.data= .dict es ep/\es.toList=xs.map (entryOfKey (tupleKind (aY P w)))/\(xs.map (·.1)).Nodup
 | .set S n=>h.SetOf (intKind P w) a S n
 | .ins C dx fs=>H dx=some (.own a)/\fs.length<=1000/\dx≠a/\h.get? a=some (PySem.W.instObj C dx)/\
   ∃mA,h.Ns1 dx mA/\(∀f,nj (fs.lookup f) (mA f))/\PySem.Within mA (fs.map (·.1))
 | .own _=> ∃o,h.get? a=some o
 | .xd fs=> ∃mA,h.Ns1 a mA/\ ∀f,nj (fs.lookup f) (mA f)
 | .rP lo hi=> ∃t u v,h.get? a=some {cls:= .type "range",data:= .fields #[.int lo t,.int hi u,.int 1 v]}
 | .lB o u=>h.get? a=some o/\a9 H h a u
 | .tV ps=> ∃es,h.get? a=some (PySem.W.tabObj es)/\pe H ps es
 | .met f x=>h.get? a=some (PySem.W.methodObj (.ref f) (.ref x))
 | .ext φ=>φ h/\(∃o,h.get? a=some o)/\ ∀h1 h2:Heap,φ h1->(∀o,h1.get? a=some o->h2.get? a=some o)->φ h2
def gw(H:Hp)(h:Heap):Prop:= ∀a o,H a=some o->a9 P w H h a o
end
theorem a9.lt(x:a9 P w H h a o):a < h.objs.size:=by
 cases o with
 | lst xs=>obtain⟨_,_,_,_,e⟩:=x;exact YM e
 | tup xs=>obtain⟨_,_,_,p⟩:=x;exact p.lt
 | dK aG=>obtain⟨_,_,_,_,o,_,_,e,_⟩:=x;exact YM e
 | dT aG=>obtain⟨_,_,_,_,o,_,_,e,_⟩:=x;exact YM e
 | set S n=>obtain⟨o,_,_,_,e,_⟩:=x;exact YM e
 | ins C dx fs=>obtain⟨_,_,_,e,_⟩:=x;exact YM e
 | own y=>obtain⟨_,e⟩:=x;exact YM e
 | xd fs=>obtain⟨_,⟨_,_,_,e,_⟩,_⟩:=x;exact YM e
 | rP lo hi=>obtain⟨_,_,_,e⟩:=x;exact YM e
 | lB ob u=>obtain⟨e,_⟩:=x;exact YM e
 | tV ps=>obtain⟨_,e,_⟩:=x;exact YM e
 | met f y=>exact YM (show h.get? a=some _ from x)
 | ext φ=>obtain⟨_,⟨_,e⟩,_⟩:=x;exact YM e
theorem Paired.IV: ∀{l₁:List α} {l₂:List β},Paired F l₁ l₂->(∀a b,F a b->G a b)->Paired G l₁ l₂
 | _,_,.nil,_=> .nil
 | _,_,.cons r t,f=> .cons (f _ _ r) (Paired.IV t f)
theorem a9.jU(x:a9 P w H h a o)(k: ∀b u,(b=a\/H b=some (.own a))->h.get? b=some u->h'.get? b=some u)
  (ho: ∀b,H b=some (.own a)->H' b=some (.own a)) (ht: ∀b xs,H b=some (.tup xs)->H' b=some (.tup xs)) (hz: ∀b o u,H b=some (.lB o u)->H' b=some (.lB o u):=by first | exact fun _ _ _ q=>q | exact fun _ _ _ q=>by rw[ag (aj q (by assumption))];exact q):a9 P w H' h' a o:=by
 induction o with
 | lst xs=>obtain⟨z,ao,n,r,e⟩:=x;exact⟨z,ao,n,r,k _ _ (.inl rfl) e⟩
 | tup xs=>obtain⟨z,ao,r,ob,e,c⟩:=x;exact⟨z,ao,r,ob,k _ _ (.inl rfl) e,c⟩
 | dK aG=>obtain⟨z,y,vs,r,ob,es,ep,e,c⟩:=x;exact⟨z,y,vs,r,ob,es,ep,k _ _ (.inl rfl) e,c⟩
 | dT aG=>
  obtain⟨z,y,xs,r,ob,es,ep,e,c⟩:=x;exact⟨z,y,xs,Paired.IV r fun p q z=>⟨z.1,ht _ _ z.2.1,z.2.2⟩,ob,es,ep,k _ _ (.inl rfl) e,c⟩
 | set S n=>obtain⟨ob,es,ep,t,e,c⟩:=x;exact⟨ob,es,ep,t,k _ _ (.inl rfl) e,c⟩
 | ins C dx fs=>
  obtain⟨d,z,ne,e,mA,⟨od,es,ep,e2,c⟩,r⟩:=x;exact⟨ho _ d,z,ne,k _ _ (.inl rfl) e,mA,⟨od,es,ep,k _ _ (.inr d) e2,c⟩,r⟩
 | own y=>obtain⟨ob,e⟩:=x;exact⟨ob,k _ _ (.inl rfl) e⟩
 | xd fs=>obtain⟨mA,⟨od,es,ep,e,c⟩,r⟩:=x;exact⟨mA,⟨od,es,ep,k _ _ (.inl rfl) e,c⟩,r⟩
 | rP lo hi=>obtain⟨t,u,v,e⟩:=x;exact⟨t,u,v,k _ _ (.inl rfl) e⟩
 | lB ob u ih=>obtain⟨e,q⟩:=x;exact⟨k _ _ (.inl rfl) e,ih q⟩
 | tV ps=>
  obtain⟨es,e,tk,q⟩:=x;refine⟨es,k a _ (.inl rfl) e,tk,fun pos cv z=>?_⟩;obtain⟨c,oc,vs,q',t,t',e1,e2,e3⟩:=q pos cv z;exact⟨c,oc,vs,q',t,t',e1,hz _ _ _ e2,e3⟩
 | met f y=>
  have e:h.get? a=some (PySem.W.methodObj (.ref f) (.ref y)):=x;show h'.get? a=some (PySem.W.methodObj (.ref f) (.ref y));exact k a _ (.inl rfl) e
 | ext φ=>obtain⟨p,⟨o,e⟩,st⟩:=x;exact⟨st _ _ p fun o q=>k _ _ (.inl rfl) q,⟨o,k _ _ (.inl rfl) e⟩,st⟩
theorem gw.lt(x:gw P w H h)(e:H a=some o):a < h.objs.size:=(x a o e).lt
theorem gw.fresh(x:gw P w H h)(e:h.objs.size<=a):H a=none:=by
 cases q:H a with
 | none=>rfl
 | some u=>exact absurd (YW (x.lt q) e) (Zt _)
theorem gw.kept(x:gw P w H h)(k: ∀b u,h.get? b=some u->h'.get? b=some u):gw P w H h':=fun a o e=>
 (x a o e).jU (fun b u _ q=>k b u q) (fun _ q=>q) fun _ _ q=>q
theorem gw.laid(x:gw P w H h)(k: ∀b u,h.get? b=some u->h'.get? b=some u)(hp:h.objs.size<=a)(new:a9 P w (upd H a o) h' a o):gw P w (upd H a o) h':=fun b u e=>by
 have hn:=x.fresh hp;by_cases hb:b=a
 . subst hb;rw[af] at e;cases e;exact new
 . rw[ag hb] at e;exact(x b u e).jU (fun c v _ q=>k c v q) (fun c q=>by rw[ag (aj q hn)];exact q) fun c xs q=>by rw[ag (aj q hn)];exact q
def Rd(H:Hp)(a:Addr)(u:HO):Prop:=H a=some u\/ ∃o,H a=some (.lB o u)
theorem Rd.ok(r:Rd H a u)(x:gw P w H h):a9 P w H h a u:=by
 rcases r with r | ⟨o,r⟩
 . exact x a u r
 . obtain⟨_,q⟩:=x a _ r;exact q
def Oi:Option HO->Prop
 | some (.lst _)=>True
 | some (.dK _)=>True
 | some (.dT _)=>True
 | some (.set _ _)=>True
 | some (.ins _ _ _)=>True
 | some (.ext _)=>True
 | _=>False
theorem gw.write(ok:gw P w H h)(mu:Oi (H x))(he:e=x\/H e=some (.own x))(k: ∀b u,b≠e->h.get? b=some u->h'.get? b=some u)(K2: ∃u,h'.get? e=some u)
  (new:a9 P w (upd H x o') h' x o'):gw P w (upd H x o') h':=fun b u q=>by
 have Mr: ∀c y,H c=some (.own y)->c≠x:=fun c y r z=>by subst z;rw[r] at mu;exact mu
 have Qw: ∀c xs,H c=some (.tup xs)->c≠x:=fun c xs r z=>by subst z;rw[r] at mu;exact mu
 have QB: ∀c o u,H c=some (.lB o u)->c≠x:=fun c o u r z=>by subst z;rw[r] at mu;exact mu
 by_cases hb:b=x
 . subst hb;rw[af] at q;cases q;exact new
 . rw[ag hb] at q;by_cases JB:b=e
   . have q' : H b = some (.own x) := by
       rcases he with z | z
       . exact absurd (JB.trans z) hb
       . rw[JB];exact z
     rw[q] at q';cases q';obtain⟨v,hv⟩:=K2;exact⟨v,by rw[JB];exact hv⟩
   . refine(ok b u q).jU (fun c v hc r=>k c v ?_ r) (fun c r=>by rw[ag (Mr c b r)];exact r) (fun c xs r=>by rw[ag (Qw c xs r)];exact r) fun c o u r=>by rw[ag (QB c o u r)];exact r
     rcases hc with rfl | hc
     . exact JB
     . rintro rfl
       rcases he with z | z
       . exact Mr c b hc z
       . rw[hc] at z;cases z;exact hb rfl
structure Un(fs ex:List Addr)(H H':Hp)(h h':Heap):Prop where
 keep: ∀b o,h.get? b=some o->H b=none->b∉fs->b∉ex->h'.get? b=some o
 slot: ∀b o,h.get? b=some o->H b=none->b∈fs->b∉ex-> ∃sl,h'.get? b=some {o with slots:=sl}
 free: ∀b o,h.get? b=some o->H b=none->b∉ex->H' b=none
 there: ∀b o,h.get? b=some o->b∉ex-> ∃o',h'.get? b=some o'
 nC: ∀b xs,H b=some (.tup xs)->H' b=some (.tup xs)
 nJ: ∀b o u,H b=some (.lB o u)->H' b=some (.lB o u)
 nE: ∀b ps,H b=some (.tV ps)-> ∃more,H' b=some (.tV (ps++more))
section
variable{fs XT ex Yb:List Addr}{H H1 H2:Hp}{h h1 h2 h':Heap}{a x e:Addr}{o:HO}
theorem Un.any(u:Un fs ex H H1 h h1)(q:h.get? b=some ob)(n:H b=none)(hx:b∉ex): ∃sl,h1.get? b=some {ob with slots:=sl}:=by
 by_cases hb:b∈fs
 . exact u.slot b ob q n hb hx
 . exact⟨ob.slots,u.keep b ob q n hb hx⟩
theorem Un.kept(k: ∀b u,h.get? b=some u->h'.get? b=some u):Un fs ex H H h h':=
 ⟨fun b ob q _ _ _=>k b ob q,fun b ob q _ _ _=>⟨ob.slots,k b ob q⟩,fun _ _ _ n _=>n,fun b ob q _=>⟨ob,k b ob q⟩,fun _ _ q=>q,fun _ _ _ q=>q,fun _ ps q=>⟨#[],by rw[q];simp⟩⟩
theorem Un.refl:Un fs ex H H h h:=Un.kept fun _ _ q=>q
theorem Un.laid(k: ∀b u,h.get? b=some u->h'.get? b=some u)(hp:h.objs.size<=a)(hn:H a=none):Un fs ex H (upd H a o) h h' where
 keep:=fun b u q _ _ _=>k b u q
 slot:=fun b u q _ _ _=>⟨u.slots,k b u q⟩
 free:=fun b u q n _=>by rw[ag (Zb (YW (YM q) hp))];exact n
 there:=fun b u q _=>⟨u,k b u q⟩
 nC:=fun b xs q=>by rw[ag (aj q hn)];exact q
 nJ:=fun b u xs q=>by rw[ag (aj q hn)];exact q
 nE:=fun b ps q=>⟨#[],by rw[ag (aj q hn),q];simp⟩
theorem Un.write(mu:Oi (H x))(he:e=x\/H e=some (.own x))(k: ∀b u,b≠e->h.get? b=some u->h'.get? b=some u)(K2: ∃u,h'.get? e=some u):Un fs ex H (upd H x o) h h':=by
 have hx: ∀b,H b=none->b≠x:=fun b n z=>by subst z;rw[n] at mu;exact mu
 have hb: ∀b,H b=none->b≠e:=fun b n z=>by
  subst z;rcases he with r | r
  . exact hx b n r
  . rw[n] at r;cases r
 have hm: ∀b u,H b=some u-> ¬Oi (some u)->b≠x:=fun b u q nm z=>by subst z;rw[q] at mu;exact nm mu
 refine⟨fun b u q n _ _=>k b u (hb b n) q,fun b u q n _ _=>⟨u.slots,k b u (hb b n) q⟩,fun b u q n _=>by rw[ag (hx b n)];exact n,fun b u q _=>?_,
  fun b xs q=>by rw[ag (hm b _ q fun z=>z)];exact q,fun b u xs q=>by rw[ag (hm b _ q fun z=>z)];exact q,fun b ps q=>⟨#[],by rw[ag (hm b _ q fun z=>z),q];simp⟩⟩
 by_cases JB:b=e
 . subst JB;exact K2
 . exact⟨u,k b u JB q⟩
end
noncomputable def xG(h:Heap)(H:Hp):List Addr:=(List.range h.objs.size).filter fun a=>(H a).isSome
noncomputable def qj(h:Heap)(H:Hp):Heap:=PySem.W.hideAll h (xG h H)
theorem yt(h:Heap)(H:Hp):(qj h H).objs.size=h.objs.size:=PySem.W.hideAll_size _ _
theorem Bz{h:Heap}(e:h.get? b=some o)(n:H b=none):(qj h H).get? b=some o:=
 PySem.W.hideAll_get _ e fun hm=>by
  have q:(H b).isSome=true:=(aa6.mp hm).2;rw[n] at q;simp at q
theorem EB(e:(qj h H).get? b=some o):h.get? b=some o/\H b=none:=by
 have e':h.get? b=some o:=PySem.W.of_hideAll (xG h H) e;refine⟨e',?_⟩;cases q:H b with
 | none=>rfl
 | some x=>
  have hm:b∈xG h H:=aa6.mpr ⟨Zp.mpr (YM e'),by simp [q]⟩;have z:(qj h H).get? b=none:=PySem.W.hideAll_none (xG h H) hm;rw[z] at e;cases e
structure Mod(K:PySem.W.Frag)(mg:Str->Option Value)(base:Heap):Prop where
 OO:K.In base
 glob:base.Ns mainGlobals mg
 blt: ∃mb,base.Ns builtinsNs mb/\ ∀x:Str,x≠"__name__"->mb x=bootBuiltins x
 nolimit:base.NoLimit
 bm: ∃bm ob,mg "__builtins__"=some (.ref bm)/\bm≠builtinsNs/\base.get? bm=some ob/\ob.cls= .type "module"/\ob.dict=some builtinsNs/\ob.data= .plain
structure Cx where
 prog:Program
 w:World
 K:PySem.W.Frag
 mg:Str->Option Value
 base:Heap
 A:Around
 N:List Str
 s₀:Shared
 H₀:Hp
 env:Env
 outer:List Env
 stack:List Env
 ex:List Addr
 fn:Str->Bool
 calm:Bool
 pn:List (Addr × Obj)
 xe:Value->Shared->Prop
noncomputable def lC(l:List Env):List Addr:=l.filterMap (·.frame)
noncomputable abbrev Cx.fs (X:Cx):List Addr:=lC X.outer
def O4(sc:Scope)(x:Str):Prop:=sc.names.lookup x=some .local\/sc.names.lookup x=some .cell\/sc.names.lookup x=some .free
def Loc(sc:Scope)(x:Str):Prop:=sc.names.lookup x=some .local\/sc.names.lookup x=some .cell
def Look(env:Env)(h:Heap)(m:Str->Option Value)(x:Str)(u:Value):Prop:=
 (env.kindOf x=some .local/\m x=some u)\/((env.kindOf x=some .cell\/env.kindOf x=some .free)/\ ∃c,env.cells.lookup x=some c/\h.IsCell c (some u))
structure Cx.Ok(X:Cx):Prop where
 mod:Mod X.K X.mg X.base
 kind:X.env.scope.kind= .function
 glob:X.env.globals=mainGlobals
 blt:X.env.builtins=builtinsNs
 above:X.s₀.heap.objs.size<=X.env.locals
 inj: ∀x y c,X.env.cells.lookup x=some c->X.env.cells.lookup y=some c->x=y
 has: ∀x,(X.env.kindOf x=some .cell\/X.env.kindOf x=some .free)-> ∃c,X.env.cells.lookup x=some c
 N0: ∀x c,X.fn x=true->X.env.cells.lookup x=some c->X.s₀.heap.objs.size<=c
 hd:X.calm=true->X.A.handled=none
 frames:X.A.frames=some X.stack
 OF:X.stack=X.outer\/(X.stack=X.env::X.outer/\X.env.frame=some X.env.locals)
 GP: ∀b∈X.ex,b≠X.env.locals/\ ∀x c,X.env.cells.lookup x=some c->c≠b
 bs: ∀b o,X.base.get? b=some o->X.s₀.heap.get? b=some o/\X.H₀ b=none
 FU:X.base.objs.size<=X.s₀.heap.objs.size
 Bc: ∀b o,X.base.get? b=some o->b∉X.ex
 uL: ∀b∈X.ex,b∉X.fs
 mU:X.s₀.heap.FunFrames X.base X.outer
 K4: ∀b∈X.fs,X.H₀ b=none
 tab:g9 X.K X.H₀
structure Inv(X:Cx)(pins:List (Addr × Obj))(σ:List (Option V))(H:Hp)(s:Shared):Prop where
 ok:X.Ok
 os:s.os=X.s₀.os
 bare:AllBare s.gens
 base:Un X.fs X.ex X.H₀ H X.s₀.heap s.heap
 loc: ∃m,s.heap.Ns X.env.locals m/\ ∀(i:Nat) (x:Str) (v:V),X.N[i]?=some x->σ[i]?=some (some v)->O4 X.env.scope x-> ∃u,RelV v u/\Look X.env s.heap m x u
 cell: ∀x c,X.env.cells.lookup x=some c-> ∃v,s.heap.IsCell c v
 free:H X.env.locals=none
 gg: ∀x c,X.env.cells.lookup x=some c->H c=none
 pin: ∀p∈X.pn++pins,s.heap.get? p.1=some p.2/\H p.1=none/\p.1≠X.env.locals/\p.1∉X.fs/\ ∀v,p.2.data≠ .cell v
 aT:gw X.prog X.w H s.heap
 len:σ.length=X.N.length
section
variable{X:Cx}{pins:List (Addr × Obj)}{σ:List (Option V)}{H H':Hp}{s:Shared}{h':Heap}
theorem Cx.Ok.Qy(ok:X.Ok)(e:X.base.get? b=some o):b∉X.fs:=fun hb=>by
 have:=(ok.mU.mem hb).1;rw[e] at this;cases this
theorem Inv.bs(I:Inv X pins σ H s): ∀b o,X.base.get? b=some o->s.heap.get? b=some o/\H b=none:=fun b o e=>
 ⟨I.base.keep b o (I.ok.bs b o e).1 (I.ok.bs b o e).2 (I.ok.Qy e) (I.ok.Bc b o e),I.base.free b o (I.ok.bs b o e).1 (I.ok.bs b o e).2 (I.ok.Bc b o e)⟩
theorem Inv.bk(I:Inv X pins σ H s): ∀b o,X.base.get? b=some o->s.heap.get? b=some o:=fun b o e=>(I.bs b o e).1
theorem g9.on{K:PySem.W.Frag}(T:g9 K H)(u:Un fs ex H H' h h'):g9 K H':=fun x hx c P e=>by
 obtain⟨ps,e1,e2⟩:=T x hx c P e;obtain⟨more,e3⟩:=u.nE P ps e1;refine⟨_,e3,?_⟩;have hl:0 < ps.size:=(ab2.mp e2).1;rw[Array.getElem?_append_left hl];exact e2
theorem Inv.tab(I:Inv X pins σ H s):g9 X.K H:=I.ok.tab.on I.base
theorem Inv.mod(I:Inv X pins σ H s):Mod X.K X.mg X.base:=I.ok.mod
theorem Inv.qf(I:Inv X pins σ H s):X.K.In s.heap:=I.ok.mod.OO.keeps I.bk
theorem Inv.nolimit(I:Inv X pins σ H s):s.heap.NoLimit:=I.ok.mod.nolimit.keeps I.bk
theorem Inv.lt(I:Inv X pins σ H s):X.env.locals < s.heap.objs.size:=let ⟨_,hn,_⟩:=I.loc;hn.lt
theorem Inv.sz(I:Inv X pins σ H s):X.s₀.heap.objs.size<=s.heap.objs.size:=YT I.ok.above (Nat.le_of_lt I.lt)
theorem Inv.Ms(I:Inv X pins σ H s)(h:s.heap.objs.size<=a):a∉X.fs:=fun hb=>by
 obtain⟨_,o,ho,_⟩:=I.ok.mU.mem hb;exact absurd (YW (YM ho) (YT I.sz h)) (Zt _)
theorem Inv.Kg(I:Inv X pins σ H s): ∀x c,X.env.cells.lookup x=some c->c≠X.env.locals:=fun x c e z=>by
 obtain⟨v,o,ho,hd⟩:=I.cell x c e;obtain⟨m,⟨o',es,ep,Jt,BC,_⟩,_⟩:=I.loc;rw[z,Jt] at ho;cases ho;rw[BC] at hd;cases hd
theorem Inv.mU(I:Inv X pins σ H s):s.heap.FunFrames X.base X.outer:=by
 have all: ∀(l:List Env),(∀b∈lC l,b∈X.fs)->X.s₀.heap.FunFrames X.base l->s.heap.FunFrames X.base l:=by
  intro l;induction l with
  | nil=>intro _ _;trivial
  | cons env r ih=>
   intro hs hl;obtain⟨hk,⟨L,o,hf,hn,ho,hd⟩,hr⟩:=hl;have hL:L∈X.fs:=hs L (by unfold lC;rw[ac9,hf];exact YN);obtain⟨sl,e⟩:=I.base.slot L o ho (I.ok.K4 L hL) hL fun z=>I.ok.uL L z hL;exact⟨hk,⟨L,_,hf,hn,e,hd⟩,ih (fun b hb=>hs b (by unfold lC;rw[ac9,hf];exact YQ _ hb)) hr⟩
 exact all X.outer (fun _ hb=>hb) I.ok.mU
theorem Inv.stack(I:Inv X pins σ H s):s.heap.FunFrames X.base X.stack:=by
 rcases I.ok.OF with e | ⟨e,hf⟩
 . rw[e];exact I.mU
 . rw[e];obtain⟨m,hn,_⟩:=I.loc;refine .cons (by rw[I.ok.kind];decide) hf hn ?_ I.mU;exact Heap.get?_none_of_le (YT I.ok.FU I.ok.above)
theorem Inv.pE(I:Inv X pins σ H s): ∀b∈lC X.stack,b∈X.env.locals::X.fs:=fun b hb=>by
 rcases I.ok.OF with e | ⟨e,hf⟩
 . rw[e] at hb;exact YQ _ hb
 . rw[e] at hb;unfold lC at hb;rw[ac9,hf] at hb;exact hb
theorem Inv.pF(I:Inv X pins σ H s): ∀b∈lC X.stack,H b=none:=fun b hb=>by
 rcases YU.mp (I.pE b hb) with e | hb
 . rw[e];exact I.free
 . obtain⟨_,o,ho,_⟩:=I.ok.mU.mem hb;exact I.base.free b o ho (I.ok.K4 b hb) fun z=>I.ok.uL b z hb
theorem Inv.step{g':Array GenState}{t':Nat}{d':Drawn}{ch:List Addr}(I:Inv X pins σ H s)
  (Dq: ∀b∈ch,(b∈X.ex\/X.s₀.heap.objs.size<=b)/\b≠X.env.locals/\(∀x c,X.env.cells.lookup x=some c->c≠b)/\ ∀p∈X.pn++pins,p.1≠b)
  (keep: ∀b o,b≠X.env.locals->b∉X.fs->b∉ch->s.heap.get? b=some o->H b=none->h'.get? b=some o)
  (slot: ∀b o,b≠X.env.locals->b∈X.fs->b∉ch->s.heap.get? b=some o->H b=none-> ∃sl,h'.get? b=some {o with slots:=sl}) (free: ∀b o,b∉ch->s.heap.get? b=some o->H b=none->H' b=none)
  (there: ∀b o,b∉ch->s.heap.get? b=some o-> ∃o',h'.get? b=some o')
  (nC: ∀b xs,H b=some (.tup xs)->H' b=some (.tup xs)) (nJ: ∀b o u,H b=some (.lB o u)->H' b=some (.lB o u)) (nE: ∀b ps,H b=some (.tV ps)-> ∃more,H' b=some (.tV (ps++more)))
  (ns: ∀m,s.heap.Ns X.env.locals m->h'.Ns X.env.locals m) (aT:gw X.prog X.w H' h') (hg:AllBare g'):
  Inv X pins σ H' {s with heap:=h',gens:=g',drawn:=d',toks:=t'}:=by
 have Th: ∀b o,X.s₀.heap.get? b=some o->b≠X.env.locals:=fun b o e=>Zb (YW (YM e) I.ok.above);have OM: ∀b o,X.s₀.heap.get? b=some o->b∉X.ex->b∉ch:=fun b o e hx hb=>by
  rcases(Dq b hb).1 with z | z
  . exact hx z
  . exact absurd (YW (YM e) z) (Zt _)
 have cellK: ∀x c,X.env.cells.lookup x=some c-> ∀v,s.heap.IsCell c v->h'.IsCell c v:=fun x c e v cj=>(by obtain⟨o,ho,hd⟩:=cj;exact(by
  have Mv:c∉ch:=fun z=>(Dq c z).2.2.1 x c e rfl;by_cases hc:c∈X.fs
  . obtain⟨sl,q⟩:=slot c o (I.Kg x c e) hc Mv ho (I.gg x c e);exact⟨_,q,hd⟩
  . exact⟨o,keep c o (I.Kg x c e) hc Mv ho (I.gg x c e),hd⟩))
 refine⟨I.ok,I.os,hg,⟨fun b o e n hb hx=>?_,fun b o e n hb hx=>?_,fun b o e n hx=>?_,fun b o e hx=>?_,fun b xs e=>nC b xs (I.base.nC b xs e),fun b o xs e=>nJ b o xs (I.base.nJ b o xs e),fun b ps e=>?_⟩,?_,fun x c e=>?_,?_,fun x c e=>?_,fun p hp=>?_,aT,I.len⟩
 . exact keep b o (Th b o e) hb (OM b o e hx) (I.base.keep b o e n hb hx) (I.base.free b o e n hx)
 . obtain⟨sl,e1⟩:=I.base.slot b o e n hb hx;obtain⟨Vc,e2⟩:=slot b _ (Th b o e) hb (OM b o e hx) e1 (I.base.free b o e n hx);exact⟨Vc,e2⟩
 . obtain⟨o',e1⟩:=I.base.there b o e hx;exact free b o' (OM b o e hx) e1 (I.base.free b o e n hx)
 . obtain⟨o',e1⟩:=I.base.there b o e hx;exact there b o' (OM b o e hx) e1
 . obtain⟨m1,e1⟩:=I.base.nE b ps e;obtain⟨m2,e2⟩:=nE b _ e1;exact⟨m1++m2,by rw[e2,Array.append_assoc]⟩
 . obtain⟨m,hn,hl⟩:=I.loc;refine⟨m,ns m hn,fun i x v e1 e2 e3=>?_⟩;obtain⟨u,r,l⟩:=hl i x v e1 e2 e3;refine⟨u,r,?_⟩;rcases l with l | ⟨k,c,e,z⟩
   . exact .inl l
   . exact .inr ⟨k,c,e,cellK x c e _ z⟩
 . obtain⟨v,z⟩:=I.cell x c e;exact⟨v,cellK x c e v z⟩
 . obtain⟨m,⟨o,_,_,ho,_⟩,_⟩:=I.loc;exact free _ o (fun z=>(Dq _ z).2.1 rfl) ho I.free
 . obtain⟨v,o,ho,hd⟩:=I.cell x c e;exact free c o (fun z=>(Dq c z).2.2.1 x c e rfl) ho (I.gg x c e)
 . obtain⟨e,n,ne,nf,d⟩:=I.pin p hp;have Mv:p.1∉ch:=fun z=>(Dq p.1 z).2.2.2 p hp rfl;exact⟨keep p.1 p.2 ne nf Mv e n,free p.1 p.2 Mv e n,ne,nf,d⟩
theorem Inv.un(I:Inv X pins σ H s)(u:Un X.fs [] H H' s.heap h')(aT:gw X.prog X.w H' h'):Inv X pins σ H' {s with heap:=h',toks:=t'}:=by
 obtain⟨m,⟨o,es,ep,ho,r⟩,_⟩:=id I.loc;obtain⟨sl,hL⟩:=u.any ho I.free (by simp);exact I.step (g':=s.gens) (d':=s.drawn) (ch:= []) (fun _ z=>nomatch z) (fun b o _ hb _ e n=>u.keep b o e n hb (by simp)) (fun b o _ hb _ e n=>u.slot b o e n hb (by simp)) (fun b o _ e n=>u.free b o e n (by simp)) (fun b o _ e=>u.there b o e (by simp)) u.nC u.nJ u.nE (fun m' hm=>by
  obtain⟨o',GQ,RM,Jt,r'⟩:=hm;rw[ho] at Jt;cases Jt;exact⟨_,GQ,RM,hL,r'⟩) aT I.bare
theorem Inv.call(I:Inv X pins σ H s)(u:Un (lC X.stack) ch H H' s.heap h')(aT:gw X.prog X.w H' h')(hg:AllBare g')(Dq: ∀b∈ch,(b∈X.ex\/X.s₀.heap.objs.size<=b)/\b≠X.env.locals/\(∀x c,X.env.cells.lookup x=some c->c≠b)/\ ∀p∈X.pn++pins,p.1≠b):
  Inv X pins σ H' {s with heap:=h',gens:=g',drawn:=d',toks:=t'}:=by
 obtain⟨m,⟨o,es,ep,ho,r⟩,_⟩:=id I.loc;obtain⟨sl,hL⟩:=u.any ho I.free fun z=>(Dq _ z).2.1 rfl;exact I.step (ch:=ch) Dq (fun b o hL hb hc e n=>u.keep b o e n (fun z=>(YU.mp (I.pE b z)).elim hL hb) hc) (fun b o _ _ hc e n=>u.any e n hc) (fun b o hc e n=>u.free b o e n hc) (fun b o hc e=>u.there b o e hc) u.nC u.nJ u.nE (fun m' hm=>by
  obtain⟨o',GQ,RM,Jt,r'⟩:=hm;rw[ho] at Jt;cases Jt;exact⟨_,GQ,RM,hL,r'⟩) aT hg
theorem Inv.turned(I:Inv X pins σ H s)(k: ∀b o,b≠it->s.heap.get? b=some o->h'.get? b=some o)(hn:H it=none)(hL:it≠X.env.locals)(h1:it∈X.ex\/X.s₀.heap.objs.size<=it)(h2: ∀x c,X.env.cells.lookup x=some c->c≠it)(h3: ∀p∈X.pn++pins,p.1≠it):Inv X pins σ H {s with heap:=h',toks:=t'}:=by
 have Tg: ∀b u,H b=some u->b≠it:=fun b u e z=>by rw[z,hn] at e;cases e
 refine I.step (g':=s.gens) (d':=s.drawn) (ch:= [it]) (fun b hb=>?_) (fun b o _ _ hc e _=>k b o (fun z=>hc (by simp [z])) e) (fun b o _ _ hc e _=>⟨o.slots,k b o (fun z=>hc (by simp [z])) e⟩) (fun _ _ _ _ n=>n)
  (fun b o hc e=>⟨o,k b o (fun z=>hc (by simp [z])) e⟩) (fun _ _ e=>e) (fun _ _ _ e=>e) (fun b ps e=>⟨#[],by rw[e];simp⟩) (fun m hm=>?_) (fun b u e=>?_) I.bare
 . have e:b=it:=by simpa using hb
   subst e;exact⟨h1,hL,h2,h3⟩
 . obtain⟨o,es,ep,ho,r⟩:=hm;exact⟨o,es,ep,k _ o (Ne.symm hL) ho,r⟩
 . refine(I.aT b u e).jU (fun c v hc q=>k c v ?_ q) (fun _ q=>q) fun _ _ q=>q;rcases hc with z | z
   . rw[z];exact Tg b u e
   . exact Tg c _ z
theorem Inv.tok(I:Inv X pins σ H s)(t:Nat):Inv X pins σ H {s with toks:=t}:=I.un (h':=s.heap) (t':=t) Un.refl I.aT
theorem Inv.kept(I:Inv X pins σ H s)(k: ∀b u,s.heap.get? b=some u->h'.get? b=some u):Inv X pins σ H {s with heap:=h',toks:=t'}:=I.un (Un.kept k) (I.aT.kept k)
theorem Inv.laid(I:Inv X pins σ H s)(k: ∀b u,s.heap.get? b=some u->h'.get? b=some u)(hp:s.heap.objs.size<=a)(new:a9 X.prog X.w (upd H a o) h' a o):
  Inv X pins σ (upd H a o) {s with heap:=h',toks:=t'}:=I.un (Un.laid k hp (I.aT.fresh hp)) (I.aT.laid k hp new)
theorem Inv.write(I:Inv X pins σ H s)(mu:Oi (H x))(he:e=x\/H e=some (.own x))(k: ∀b u,b≠e->s.heap.get? b=some u->h'.get? b=some u)(K2: ∃u,h'.get? e=some u)(new:a9 X.prog X.w (upd H x o) h' x o):Inv X pins σ (upd H x o) {s with heap:=h',toks:=t'}:=I.un (Un.write mu he k K2) (I.aT.write mu he k K2 new)
theorem Inv.weak{σ':List (Option V)}(I:Inv X pins σ H s)(hl:σ'.length=σ.length)(w: ∀(i:Nat) v,σ'[i]?=some (some v)->σ[i]?=some (some v)):Inv X pins σ' H s:=
 ⟨I.ok,I.os,I.bare,I.base,let ⟨m,hn,Dl⟩:=I.loc;⟨m,hn,fun i x v e1 e2 e3=>Dl i x v e1 (w i v e2) e3⟩,I.cell,I.free,I.gg,I.pin,I.aT,hl.trans I.len⟩
theorem Inv.kZ(I:Inv X pins σ H s)(h: ∀p∈Mb,s.heap.get? p.1=some p.2/\H p.1=none/\p.1≠X.env.locals/\p.1∉X.fs/\ ∀v,p.2.data≠ .cell v):Inv X Mb σ H s:=
 ⟨I.ok,I.os,I.bare,I.base,I.loc,I.cell,I.free,I.gg,fun p hp=>(Zi.mp hp).elim (fun z=>I.pin p (Z3 _ z)) (h p),I.aT,I.len⟩
theorem se{N:List Str}(hN:N.Nodup){i j:Nat}(a:N[i]?=some x)(b:N[j]?=some x):i=j:=by
 obtain⟨h1,e1⟩:=YB.mp a;obtain⟨h2,e2⟩:=YB.mp b;exact(List.getElem_inj hN).mp (e1.trans e2.symm)
theorem oq(I:Inv X pins σ H s)(hN:X.N.Nodup)(hi:X.N[i]?=some x)(hx:Loc X.env.scope x)(r:RelV v u)(h: ∀s',Inv X pins (σ.set i (some v)) H s'->(∃a,Heap.SameBut a s.heap s'.heap/\(a=X.env.locals\/X.env.cells.lookup x=some a))->Q () s')(hf:X.fn x=true\/X.env.scope.names.lookup x=some .local:=by first | exact .inl rfl | exact .inr rfl | assumption):wpAny M A (storeName X.env x u) Q E s:=by
 obtain⟨m,hn,hl⟩:=id I.loc;have Rq:(X.env.scope.kind== .class || (X.env.scope.kind== .module && X.env.locals !=X.env.globals))=false:=by rw[I.ok.kind];rfl
 have M7:i < σ.length:=by rw[I.len];exact(YB.mp hi).1
 have Kg:=I.Kg;have tracked: ∀{a:Addr} {h':Heap},(∃o,s.heap.get? a=some o/\H a=none)->Heap.SameBut a s.heap h'->gw X.prog X.w H h':=fun{a h'} ha hs b ob e=>by
  obtain⟨_,_,iy⟩:=ha;refine(I.aT b ob e).jU (fun c w' hc q=>(hs.2 c ?_).trans q) (fun _ q=>q) fun _ _ q=>q;rintro rfl
  rcases hc with rfl | hc
  . rw[iy] at e;cases e
  . rw[iy] at hc;cases hc
 rcases hx with hk | hk
 . refine wpAny_storeName_local hk hn (fun h' VY hs=>?_) Rq;obtain⟨oL,_,_,VU,_⟩:=id hn;refine h _ ⟨I.ok,I.os,I.bare,⟨fun b o e n hb hx=>?_,fun b o e n hb hx=>?_,I.base.free,fun b o e hx=>?_,I.base.nC,I.base.nJ,I.base.nE⟩,⟨_,VY,fun j y v' e1 e2 e3=>?_⟩,fun y c e=>?_,I.free,I.gg,fun p hp=>?_,tracked ⟨oL,VU,I.free⟩ hs,by simpa using I.len⟩ ⟨_,hs, .inl rfl⟩
   . exact(hs.2 b (Zb (YW (YM e) I.ok.above))).trans (I.base.keep b o e n hb hx)
   . obtain⟨sl,e1⟩:=I.base.slot b o e n hb hx;exact⟨sl,(hs.2 b (Zb (YW (YM e) I.ok.above))).trans e1⟩
   . obtain⟨o',e1⟩:=I.base.there b o e hx;exact⟨o',(hs.2 b (Zb (YW (YM e) I.ok.above))).trans e1⟩
   . by_cases hj:j=i
     . subst hj;rw[hi] at e1;cases e1;rw[YO M7] at e2;cases e2;exact⟨u,r,.inl ⟨hk,by simp⟩⟩
     . rw[YF (Ne.symm hj)] at e2;obtain⟨u',r',q⟩:=hl j y v' e1 e2 e3;refine⟨u',r',?_⟩;rcases q with ⟨k,e⟩ | ⟨k,c,e,z⟩
       . refine .inl ⟨k,?_⟩;have:y≠x:=fun e=>hj (se hN e1 (e▸hi));simp [this,e]
       . exact .inr ⟨k,c,e,z.sameBut hs (Kg y c e)⟩
   . obtain⟨w',z⟩:=I.cell y c e;exact⟨w',z.sameBut hs (Kg y c e)⟩
   . obtain⟨e,n,ne,nf,d⟩:=I.pin p hp;exact⟨(hs.2 p.1 ne).trans e,n,ne,nf,d⟩
 . have EX : X.fn x = true := by
     rcases hf with z | z
     . exact z
     . rw[z] at hk;cases hk
   obtain⟨c,hc⟩:=I.ok.has x (.inl hk);obtain⟨w',z⟩:=I.cell x c hc;refine wpAny_storeName_cell I.ok.kind hk hc z (fun h' Ds hs=>?_);obtain⟨oc,MV,Rc⟩:=id z;refine h {s with heap:=h'} ⟨I.ok,I.os,I.bare,⟨fun b o e n hb hx=>?_,fun b o e n hb hx=>?_,I.base.free,fun b o e hx=>?_,I.base.nC,I.base.nJ,I.base.nE⟩,⟨m,hn.sameBut hs (Ne.symm (Kg x c hc)),fun j y v' e1 e2 e3=>?_⟩,fun y c' e=>?_,I.free,I.gg,fun p hp=>?_,tracked ⟨oc,MV,I.gg x c hc⟩ hs,by simpa using I.len⟩ ⟨c,hs,.inr hc⟩
   . exact(hs.2 b (Zb (YW (YM e) (I.ok.N0 x c EX hc)))).trans (I.base.keep b o e n hb hx)
   . obtain⟨sl,e1⟩:=I.base.slot b o e n hb hx;exact⟨sl,(hs.2 b (Zb (YW (YM e) (I.ok.N0 x c EX hc)))).trans e1⟩
   . obtain⟨o',e1⟩:=I.base.there b o e hx;exact⟨o',(hs.2 b (Zb (YW (YM e) (I.ok.N0 x c EX hc)))).trans e1⟩
   . by_cases hj:j=i
     . subst hj;rw[hi] at e1;cases e1;rw[YO M7] at e2;cases e2;exact⟨u,r,.inr ⟨.inl hk,c,hc,Ds⟩⟩
     . rw[YF (Ne.symm hj)] at e2;obtain⟨u',r',q⟩:=hl j y v' e1 e2 e3;refine⟨u',r',?_⟩;rcases q with q | ⟨k,c',e,z'⟩
       . exact .inl q
       . refine .inr ⟨k,c',e,z'.sameBut hs ?_⟩;rintro rfl
         exact hj (se hN e1 (I.ok.inj _ _ _ e hc▸hi))
   . by_cases TU:c'=c
     . subst TU;exact⟨_,Ds⟩
     . obtain⟨w2,z2⟩:=I.cell y c' e;exact⟨w2,z2.sameBut hs TU⟩
   . obtain⟨e,n,ne,nf,d⟩:=I.pin p hp;refine⟨(hs.2 p.1 ?_).trans e,n,ne,nf,d⟩;intro q;rw[q,MV] at e;have q':oc=p.2:=Option.some.inj e;exact d w' (by rw[<-q'];exact Rc)
theorem iX(I:Inv X pins σ H s)(hN:X.N.Nodup)(hi:X.N[i]?=some x)(hx:Loc X.env.scope x)(r:RelV v u)(h: ∀s',Inv X pins (σ.set i (some v)) H s'->Q () s')(hf:X.fn x=true\/X.env.scope.names.lookup x=some .local:=by first | exact .inl rfl | exact .inr rfl | assumption):wpAny M A (storeName X.env x u) Q E s:=
 oq I hN hi hx r (fun s' I' _=>h s' I') hf
theorem Inv.xb{s':Shared}(I:Inv X pins σ H s)(ho:s'.os=s.os)(u:Un (lC X.stack) ch H H' s.heap s'.heap)(aT:gw X.prog X.w H' s'.heap)(hg:AllBare s'.gens)(Dq: ∀b∈ch,(b∈X.ex\/X.s₀.heap.objs.size<=b)/\b≠X.env.locals/\(∀x c,X.env.cells.lookup x=some c->c≠b)/\ ∀p∈X.pn++pins,p.1≠b):Inv X pins σ H' s':=by
 obtain⟨h',g',d',t',o'⟩:=s';have e:o'=s.os:=ho;subst e;exact I.call (g':=g') (t':=t') (d':=d') u aT hg Dq
end
abbrev XK:=Value->Option Addr->Hp->Prop
abbrev St:=List (Option V)
abbrev VK:=V->Hp->Prop
abbrev TE:=St->Hp->VK->Prop
abbrev TT:=St->Hp->(Bool->Hp->Prop)->Prop
abbrev TA:=St->Hp->(List V->Hp->Prop)->Prop
structure Ends where
 nx:St->Hp->Prop
 rt:VK
 bk:St->Hp->Prop:=fun _ _=>False
 ct:St->Hp->Prop:=fun _ _=>False
abbrev TS:=Ends->St->Hp->Prop
inductive EP(X:Cx)(pins:List (Addr × Obj))(σ:St)(Q:VK)(u:Value)(s':Shared):Prop
 | mk (v:V) (H':Hp) (h1:Inv X pins σ H' s') (h2:RelV v u) (h3:Q v H')
inductive TP(X:Cx)(pins:List (Addr × Obj))(σ:St)(Q:Bool->Hp->Prop)(b:Bool)(s':Shared):Prop
 | mk (H':Hp) (h1:Inv X pins σ H' s') (h2:Q b H')
inductive AP(X:Cx)(pins:List (Addr × Obj))(σ:St)(Q:List V->Hp->Prop)(us:List Value)(s':Shared):Prop
 | mk (vs:List V) (H':Hp) (h1:Inv X pins σ H' s') (h2:Vals vs us) (h3:Q vs H')
inductive Oc(X:Cx)(pins:List (Addr × Obj))(P:St->Hp->Prop)(s':Shared):Prop
 | mk (σ':St) (H':Hp) (h1:Inv X pins σ' H' s') (h2:P σ' H')
inductive Xa(X:Cx)(pins:List (Addr × Obj))(P:VK)(u:Value)(s':Shared):Prop
 | mk (v:V) (σ':St) (H':Hp) (h1:Inv X pins σ' H' s') (h2:RelV v u) (h3:P v H')
def SP(X:Cx)(pins:List (Addr × Obj))(D:Ends)(f:Flow)(s':Shared):Prop:=
 match f with
 | .next=>Oc X pins D.nx s'
 | .brk=>Oc X pins D.bk s'
 | .cont=>Oc X pins D.ct s'
 | .ret u=>Xa X pins D.rt u s'
def PE(X:Cx)(e:Expr)(t:TE):Prop:=
 ∀(pins:List (Addr × Obj)) (s:Shared) (σ:St) (H:Hp) (Q:VK),Inv X pins σ H s->t σ H Q->wpAny (model X.prog X.w) X.A (eval e X.env) (EP X pins σ Q) X.xe s
def PT(X:Cx)(e:Expr)(t:TT):Prop:=
 ∀(pins:List (Addr × Obj)) (s:Shared) (σ:St) (H:Hp) (Q:Bool->Hp->Prop),Inv X pins σ H s->t σ H Q->wpAny (model X.prog X.w) X.A (isTrue e X.env (eval e X.env)) (TP X pins σ Q) X.xe s
def PW(X:Cx)(e:Expr)(t:TT):Prop:=
 ∀(whole:Sem Value) (pins:List (Addr × Obj)) (s:Shared) (σ:St) (H:Hp) (Q:Bool->Hp->Prop),Inv X pins σ H s->t σ H Q->wpAny (model X.prog X.w) X.A (isTrue e X.env whole) (TP X pins σ Q) X.xe s
theorem PW.pt(h:PW X e t):PT X e t:=h _
def PA(X:Cx)(es:List Expr)(t:TA):Prop:=
 ∀(pos:Pos) (pins:List (Addr × Obj)) (s:Shared) (σ:St) (H:Hp) (Q:List V->Hp->Prop),Inv X pins σ H s->t σ H Q->wpAny (model X.prog X.w) X.A (spliced (backTo pos (starEach es X.env))) (AP X pins σ Q) X.xe s
def PS(X:Cx)(st:Stmt)(t:TS):Prop:=
 ∀(pins:List (Addr × Obj)) (s:Shared) (σ:St) (H:Hp) (D:Ends),Inv X pins σ H s->t D σ H->wpAny (model X.prog X.w) X.A (exec st X.env) (SP X pins D) X.xe s
def qQ(X:Cx)(st:List Stmt)(t:TS):Prop:=
 ∀(pins:List (Addr × Obj)) (s:Shared) (σ:St) (H:Hp) (D:Ends),Inv X pins σ H s->t D σ H->wpAny (model X.prog X.w) X.A (execs st X.env) (SP X pins D) X.xe s
theorem aV(h:wpAny M A t Q E s)(hQ: ∀a s,Q a s->Q' a s):wpAny M A t Q' E s:=Y2 h hQ fun _ _ x=>x
section
variable{X:Cx}
def gG(i:Nat):TE:=fun σ H Q=> ∃v,σ[i]?=some (some v)/\Q v H
def tC(v:V):TE:=fun _ H Q=>Q v H
theorem AH(hN:X.N[i]?=some x)(hv:O4 X.env.scope x)(hd:(x==("__debug__":Str))=false:=by decide)(sJ:(x==("__classdict__":Str))=false:=by decide):PE X (.Name x pos) (gG i):=by
 intro pins s σ H Q I h;obtain⟨v,e,h⟩:=h;obtain⟨m,hn,hl⟩:=I.loc;obtain⟨u,r,l⟩:=hl i x v hN e hv;have fin:EP X pins σ Q u s:=⟨v,H,I,r,h⟩
 rcases l with ⟨hk,hm⟩ | ⟨hk,c,hc,ky⟩
 . exact wpAny_Name (wpAny_loadName_local I.ok.kind hk hn hm fin) hd
 . rcases hk with hk | hk
   . exact wpAny_Name (wpAny_loadName_cell I.ok.kind hk hc ky fin) hd
   . exact wpAny_Name (wpAny_loadName_free I.ok.kind hk hc ky fin sJ) hd
theorem bT{i j pos}:PE X (.Constant (.int i) j pos) (tC (.int i)):=fun _ _ _ H _ I h=>wpAny_Constant_int ⟨.int i,H,I.tok _,⟨_,rfl⟩,h⟩
theorem Mg{b j pos}:PE X (.Constant (.bool b) j pos) (tC (.bl b)):=fun _ _ _ H _ I h=>Constant_bool ⟨.bl b,H,I,rfl,h⟩
theorem AJ{j pos}:PE X (.Constant .none j pos) (tC .aI):=fun _ _ _ H _ I h=>Constant_none ⟨.aI,H,I,rfl,h⟩
theorem iG{x j pos}:PE X (.Constant (.str x) j pos) (tC (.str x)):=fun _ _ _ H _ I h=>Calls.Constant_str ⟨.str x,H,I.tok _,⟨_,rfl⟩,h⟩
def Gl(X:Cx)(x:Str):Prop:=X.env.kindOf x=some .globalImplicit
theorem wg(I:Inv X pins σ H s)(hg:Gl X x)(hm:X.mg x=some u)(h:Q u s)(hd:(x==("__debug__":Str))=false:=by decide):wpAny (model X.prog X.w) X.A (eval (.Name x pos) X.env) Q E s:=
 Calls.Name_function_global I.ok.kind hg (Calls.loadGlobal_global (by rw[I.ok.glob];exact I.mod.glob.keeps I.bk) hm h) hd
theorem fA(I:Inv X pins σ H s)(hg:Gl X x)(hm:X.mg x=none)(hv:bootBuiltins x=some u)(h:Q u s)(hn:x≠"__name__":=by decide)(hd:(x==("__debug__":Str))=false:=by decide):wpAny (model X.prog X.w) X.A (eval (.Name x pos) X.env) Q E s:=by
 obtain⟨mb,h1,h2⟩:=I.mod.blt;exact Calls.Name_function_global I.ok.kind hg (Calls.loadGlobal_builtin (by rw[I.ok.glob];exact I.mod.glob.keeps I.bk) hm (by rw[I.ok.blt];exact h1.keeps I.bk) ((h2 x hn).trans hv) h) hd
theorem Eh(hg:Gl X x)(hm:X.mg x=some u)(r:RelV v u)(hd:(x==("__debug__":Str))=false:=by decide):PE X (.Name x pos) (tC v):=
 fun _ _ _ H _ I h=>wg I hg hm ⟨v,H,I,r,h⟩ hd
theorem aH(hg:Gl X x)(hm:X.mg x=none)(hv:bootBuiltins x=some u)(r:RelV v u)(hn:x≠"__name__":=by decide)(hd:(x==("__debug__":Str))=false:=by decide):PE X (.Name x pos) (tC v):=
 fun _ _ _ H _ I h=>fA I hg hm hv ⟨v,H,I,r,h⟩ hn hd
variable{a b:Expr}{ta tb:TE}{pos:Pos}
def PC(X:Cx)(op:CmpOp)(a b:Expr)(t:TE):Prop:=
 ∀(pins:List (Addr × Obj)) (s:Shared) (σ:St) (H:Hp) (Q:VK),Inv X pins σ H s->t σ H Q->
  wpAny (model X.prog X.w) X.A (eval a X.env) (fun v s₁=>wpAny (model X.prog X.w) X.A (eval b X.env) (fun u s₂=>wpAny (model X.prog X.w) X.A (compareOp op v u) (EP X pins σ Q) X.xe s₂) X.xe s₁) X.xe s
theorem sf(b:Expr)(h:op≠ .In)(h2:op≠ .NotIn):behindInMarks op b=false:=by
 have e1:(op==CmpOp.In)=false:=by cases op <;> first | rfl | exact absurd rfl h
 have e2:(op==CmpOp.NotIn)=false:=by cases op <;> first | rfl | exact absurd rfl h2
 cases b <;> simp [behindInMarks,e1,e2]
def LK(ta:TE):TE:=fun σ H Q=>ta σ H fun x H1=>Q (.bl (decide (x= .aI))) H1
def Gg(ta:TE):TE:=fun σ H Q=>ta σ H fun x H1=>Q (.bl (!decide (x= .aI))) H1
theorem RelV.sd(r:RelV x v):(v==Value.none)=decide (x= .aI):=by
 cases x with
 | aI=>cases r;rfl
 | bl _=>cases r;rfl
 | int _=>obtain⟨t,rfl⟩:=r;rfl
 | str _=>obtain⟨t,rfl⟩:=r;rfl
 | zh _=>obtain⟨t,rfl⟩:=r;rfl
 | zc _=>obtain⟨t,rfl⟩:=r;rfl
 | ref _=>cases r;rfl
 | ty _=>cases r;rfl
theorem AS{j pos'}(ha:PE X a ta):PC X .Is a (.Constant .none j pos') (LK ta):=by
 intro pins s σ H Q I h;refine aV (ha pins s σ H _ I h) fun v s1 jP=>?_;obtain⟨x,H1,I1,r1,q1⟩:=jP;exact Constant_none (is_none_gen ⟨.bl _,H1,I1,by rw[r1.sd];rfl,q1⟩)
theorem Em{j pos'}(ha:PE X a ta):PC X .IsNot a (.Constant .none j pos') (Gg ta):=by
 intro pins s σ H Q I h;refine aV (ha pins s σ H _ I h) fun v s1 lJ=>?_;obtain⟨x,H1,I1,r1,q1⟩:=lJ;exact Constant_none (isnot_none_gen ⟨.bl _,H1,I1,by rw[r1.sd];rfl,q1⟩)
def tB(t:TE):TT:=fun σ H Q=>t σ H fun x H1=> ∃c,x= .bl c/\Q c H1
theorem IF(h:PC X op a b t)(h1:behindInMarks op b=false:=by first | exact sf _ (by decide) (by decide) | rfl):PE X (.Compare a [op] [b] pos) t:=fun pins s σ H Q I hw=>wpAny_Compare1 (h pins s σ H Q I hw) h1
theorem Aq(h:PC X op a b t)(h1:behindInMarks op b=false:=by first | exact sf _ (by decide) (by decide) | rfl):PT X (.Compare a [op] [b] pos) (tB t):=by
 intro pins s σ H Q I hw;refine wpAny_isTrue_Compare1 (aV (h pins s σ H _ I hw) fun v s1 h1=>aV h1 fun u s2 h2=>aV h2 fun c s3 kH=>?_) h1;obtain⟨x,H1,I1,r1,q1⟩:=kH;obtain⟨d,rfl,q⟩:=q1;cases r1;exact ac4 ⟨H1,I1,q⟩
theorem Im(h:PE X e t)(he: ∀whole,isTrue e X.env whole=(do let v<-whole;standAt e.pos;holding [v] (truthy v)):=by intro _;rfl):PT X e (tB t):=by
 intro pins s σ H Q I hw;refine isTrue_plain (aV (h pins s σ H _ I hw) fun v s1 nA=>?_) (he _);obtain⟨x,H1,I1,r1,q1⟩:=nA;obtain⟨d,rfl,q⟩:=q1;cases r1;exact ac4 ⟨H1,I1,q⟩
variable{tA OE:TT}{rest:List Expr}
def Qi(t u:TT):TT:=fun σ H Q=>t σ H fun c H1=>if c=true then u σ H1 Q else Q false H1
def U6(t u:TT):TT:=fun σ H Q=>t σ H fun c H1=>if c=true then Q true H1 else u σ H1 Q
def Qc(t:TT):TT:=fun σ H Q=>t σ H fun c H1=>Q (!c) H1
theorem pw_and1(ha:PT X a tA):PW X (.BoolOp .And [a] pos) tA:=by
 intro wh pins s σ H Q I h;refine isTrue_and (aV (ha pins s σ H Q I h) fun c s1 e=>?_);cases c with
 | true=>exact isTrue_and_nil e
 | false=>exact e
theorem pw_or1(ha:PT X a tA):PW X (.BoolOp .Or [a] pos) tA:=by
 intro wh pins s σ H Q I h;refine isTrue_or (aV (ha pins s σ H Q I h) fun c s1 e=>?_);cases c with
 | false=>exact isTrue_or_nil e
 | true=>exact e
theorem pw_and(ha:PT X a tA)(hb:PW X (.BoolOp .And (b::rest) pos) OE):PW X (.BoolOp .And (a::b::rest) pos) (Qi tA OE):=by
 intro wh pins s σ H Q I h;refine isTrue_and (aV (ha pins s σ H _ I h) fun c s1 pA=>?_);obtain⟨H1,I1,q1⟩:=pA;cases c with
 | true=>exact hb wh pins s1 σ H1 Q I1 q1
 | false=>exact⟨H1,I1,q1⟩
theorem pw_or(ha:PT X a tA)(hb:PW X (.BoolOp .Or (b::rest) pos) OE):PW X (.BoolOp .Or (a::b::rest) pos) (U6 tA OE):=by
 intro wh pins s σ H Q I h;refine isTrue_or (aV (ha pins s σ H _ I h) fun c s1 nz=>?_);obtain⟨H1,I1,q1⟩:=nz;cases c with
 | true=>exact⟨H1,I1,q1⟩
 | false=>exact hb wh pins s1 σ H1 Q I1 q1
theorem Io(ha:PT X a tA):PT X (.UnaryOp .Not a pos) (Qc tA):=by
 intro pins s σ H Q I h;refine isTrue_not (Y2 (ha pins s σ H (fun c H1=>Q (!c) H1) I h) (fun c s' z=>?_) fun _ _ z=>z);obtain⟨H',I',q⟩:=z;exact⟨H',I',q⟩
def LO(ta tb:TE):TE:=fun σ H Q=>ta σ H fun x H1=> ∃c,x= .bl c/\if c=true then tb σ H1 Q else Q (.bl false) H1
def LG(ta:TE):TE:=fun σ H Q=>ta σ H fun x H1=> ∃c,x= .bl c/\Q (.bl (!c)) H1
theorem ID{op}(h:PE X a t):PE X (.BoolOp op [a] pos) t:=fun pins s σ H Q I hw=>BoolOp_one (h pins s σ H Q I hw)
theorem IG(ha:PE X a ta)(hb:PE X (.BoolOp .And (b::rest) pos) tb):PE X (.BoolOp .And (a::b::rest) pos) (LO ta tb):=by
 intro pins s σ H Q I h;refine BoolOp_and (aV (ha pins s σ H _ I h) fun v s1 gx=>?_);obtain⟨x,H1,I1,r1,q1⟩:=gx;obtain⟨c,rfl,q1⟩:=q1;cases r1;refine ac4 ?_;cases c with
 | true=>exact hb pins s1 σ H1 Q I1 q1
 | false=>exact⟨.bl false,H1,I1,rfl,q1⟩
theorem IE(ha:PE X a ta):PE X (.UnaryOp .Not a pos) (LG ta):=by
 intro pins s σ H Q I h;refine UnaryOp_ (aV (ha pins s σ H _ I h) fun v s1 pC=>?_);obtain⟨x,H1,I1,r1,q1⟩:=pC;obtain⟨c,rfl,q1⟩:=q1;cases r1;exact not_of (ac4 ⟨.bl (!c),H1,I1,rfl,q1⟩)
def U7(t:TT)(ta tb:TE):TE:=fun σ H Q=>t σ H fun c H1=>if c=true then ta σ H1 Q else tb σ H1 Q
theorem AL(hc:PT X c tA)(ha:PE X a ta)(hb:PE X b tb):PE X (.IfExp c a b pos) (U7 tA ta tb):=by
 intro pins s σ H Q I h;refine wpAny_IfExp (aV (hc pins s σ H _ I h) fun d s1 jQ=>?_);obtain⟨H1,I1,q1⟩:=jQ;cases d with
 | true=>exact ha pins s1 σ H1 Q I1 q1
 | false=>exact hb pins s1 σ H1 Q I1 q1
end
def cY(K:PySem.W.Frag)(H:Hp)(a:Addr)(xs:List V):Prop:=
 Rd H a (.lst xs)\/
  ∃(o:Obj) (ao:Array Value) (n:Nat),K.lookup a=some o/\o.cls= .type "list"/\o.dict=none/\o.data= .seq ao n/\ao.size<=sizeLine/\Vals xs ao.toList
def dE(K:PySem.W.Frag)(H:Hp)(a:Addr)(xs:List V):Prop:=
 Rd H a (.tup xs)\/
  ∃(o:Obj) (ao:Array Value) (n:Nat),K.lookup a=some o/\o.cls= .type "tuple"/\o.data= .seq ao n/\ao.size<=sizeLine/\Vals xs ao.toList
noncomputable def Sv:Value->Option V
 | .none=>some .aI
 | .bool b=>some (.bl b)
 | .int i _=>some (.int i)
 | .str x _=>some (.str x)
 | .bytes b _=>some (.zh b)
 | .float b _=>some (.zc b)
 | .ref a=>some (.ref a)
 | .type n=>some (.ty n)
 | _=>none
theorem RelV.abs(r:RelV x u):Sv u=some x:=by
 cases x with
 | aI=>cases r;rfl
 | bl _=>cases r;rfl
 | int _=>obtain⟨t,rfl⟩:=r;rfl
 | str _=>obtain⟨t,rfl⟩:=r;rfl
 | zh _=>obtain⟨t,rfl⟩:=r;rfl
 | zc _=>obtain⟨t,rfl⟩:=r;rfl
 | ref _=>cases r;rfl
 | ty _=>cases r;rfl
theorem RelV.inj(r:RelV x u)(q:RelV y u):x=y:=Option.some.inj (r.abs.symm.trans q.abs)
theorem Vals.inj: ∀{xs ys:List V} {us:List Value},Vals xs us->Vals ys us->xs=ys
 | _,_,_,.nil,.nil=>rfl
 | _,_,_,.cons r t,.cons r' t'=>by rw[r.inj r',Vals.inj t t']
theorem cY.of{K:PySem.W.Frag}(h:H a=some (.lst xs)):cY K H a xs:= .inl (.inl h)
theorem dE.of{K:PySem.W.Frag}(h:H a=some (.tup xs)):dE K H a xs:= .inl (.inl h)
theorem Inv.list(I:Inv X pins σ H s)(h:cY X.K H a xs): ∃ao:List Value,Vals xs ao/\PlainL s.heap a ao.toArray/\xs.length<=sizeLine:=by
 rcases h with h | ⟨o,ao,n,hk,hc,hd,hs,hz,r⟩
 . obtain⟨z,ao,n,r,e⟩:=h.ok I.aT;exact⟨ao,r,⟨_,n,e,rfl,rfl,rfl⟩,z⟩
 . refine⟨ao.toList,r,⟨o,n,I.qf a o hk,hc,hd,by simpa using hs⟩,?_⟩;have e:=r.length;simp only [YH] at e;lia
theorem Inv.tuple(I:Inv X pins σ H s)(h:dE X.K H a xs): ∃ao:List Value,Vals xs ao/\IsTup s.heap a ao.toArray/\xs.length<=sizeLine:=by
 rcases h with h | ⟨o,ao,n,hk,hc,hs,hz,r⟩
 . obtain⟨z,ao,r,p⟩:=h.ok I.aT;exact⟨ao,r,p.tup,z⟩
 . refine⟨ao.toList,r,⟨o,I.qf a o hk,hc,n,by simpa using hs⟩,?_⟩;have e:=r.length;simp only [YH] at e;lia
theorem Inv.Bj(I:Inv X pins σ H s)(h:cY X.K H a xs)(h':cY X.K H a ys):xs=ys:=by
 obtain⟨ao,r,⟨o,n,e,_,_,d⟩,_⟩:=I.list h;obtain⟨its',r',⟨o',n',e',_,_,d'⟩,_⟩:=I.list h';rw[e] at e';cases e';rw[d] at d';injection d' with d1 _
 have:ao=its':=by simpa using ZA Array.toList d1
 subst this;exact r.inj r'
theorem Inv.oi(I:Inv X pins σ H s)(h:dE X.K H a xs)(h':dE X.K H a ys):xs=ys:=by
 obtain⟨ao,r,⟨o,e,_,n,d⟩,_⟩:=I.tuple h;obtain⟨its',r',⟨o',e',_,n',d'⟩,_⟩:=I.tuple h';rw[e] at e';cases e';rw[d] at d';injection d' with d1 _
 have:ao=its':=by simpa using ZA Array.toList d1
 subst this;exact r.inj r'
noncomputable abbrev Cx.nB (X:Cx) (E:Value->Shared->Prop):Cx:={X with xe:=E}
noncomputable abbrev Cx.Bb (X:Cx):Cx:=X.nB fun _ _=>False
theorem Cx.Ok.nB{X:Cx}(ok:X.Ok)(E:Value->Shared->Prop):(X.nB E).Ok:=
 ⟨ok.mod,ok.kind,ok.glob,ok.blt,ok.above,ok.inj,ok.has,ok.N0,ok.hd,ok.frames,ok.OF,ok.GP,ok.bs,ok.FU,ok.Bc,ok.uL,ok.mU,ok.K4,ok.tab⟩
theorem Cx.Ok.gB{X:Cx}(ok:(X.nB E).Ok):X.Ok:=
 ⟨ok.mod,ok.kind,ok.glob,ok.blt,ok.above,ok.inj,ok.has,ok.N0,ok.hd,ok.frames,ok.OF,ok.GP,ok.bs,ok.FU,ok.Bc,ok.uL,ok.mU,ok.K4,ok.tab⟩
theorem Inv.nB(I:Inv X pins σ H s)(E:Value->Shared->Prop):Inv (X.nB E) pins σ H s:=⟨I.ok.nB E,I.os,I.bare,I.base,I.loc,I.cell,I.free,I.gg,I.pin,I.aT,I.len⟩
theorem Inv.gB(I:Inv (X.nB E) pins σ H s):Inv X pins σ H s:=⟨I.ok.gB,I.os,I.bare,I.base,I.loc,I.cell,I.free,I.gg,I.pin,I.aT,I.len⟩
theorem SP.gB(h:SP (X.nB E) pins D f s'):SP X pins D f s':=by
 cases f with
 | next=>obtain⟨σ',H',I,q⟩:=h;exact⟨σ',H',I.gB,q⟩
 | brk=>obtain⟨σ',H',I,q⟩:=h;exact⟨σ',H',I.gB,q⟩
 | cont=>obtain⟨σ',H',I,q⟩:=h;exact⟨σ',H',I.gB,q⟩
 | ret u=>obtain⟨v,σ',H',I,r,q⟩:=h;exact⟨v,σ',H',I.gB,r,q⟩
theorem qQ.Bb{st:List Stmt}(h:qQ X.Bb st t):qQ X st t:=fun pins s σ H D I hw=>
 Y2 (h pins s σ H D (I.nB _) hw) (fun _ _ q=>q.gB) fun _ _ z=>False.elim z
section
variable{X:Cx}{st:Stmt}{rest:List Stmt}{t u:TS}{e:Expr}{te:TE}{pos:Pos}
def LH:TS:=fun D σ H=>D.nx σ H
def P8(t u:TS):TS:=fun D σ H=>t {D with nx:=u D} σ H
theorem pV:qQ X [] LH:=fun _ _ σ H _ I h=>wpAny_execs_nil ⟨σ,H,I,h⟩
theorem bK(h1:PS X st t)(h2:qQ X rest u):qQ X (st::rest) (P8 t u):=by
 intro pins s σ H D I h;refine wpAny_execs_cons (aV (h1 pins s σ H {D with nx:=u D} I h) fun f s1 q=>?_);cases f with
 | next=>
  obtain⟨σ',H',I',q⟩:=q;exact h2 pins s1 σ' H' D I' q
 | ret v=>exact q
 | brk=>exact q
 | cont=>exact q
theorem i6(h1:PS X st t):qQ X [st] t:=by
 intro pins s σ H D I h;refine wpAny_execs_cons (aV (h1 pins s σ H D I h) fun f s1 q=>?_);cases f with
 | next=>exact wpAny_execs_nil q
 | ret v=>exact q
 | brk=>exact q
 | cont=>exact q
theorem Inv.quiet(I:Inv X pins σ H s):interactive X.env=false:=by simp [interactive,I.ok.kind]
def LM(te:TE):TS:=fun D σ H=>te σ H fun _ H1=>D.nx σ H1
theorem D9(he:PE X e te)(hs:swapsWith e none pos.line X.env=pure false:=by rfl):PS X (.Expr e pos) (LM te):=by
 intro pins s σ H D I h;exact wpAny_Expr_any (aV (he pins s σ H _ I h) fun v s1 Hh=>(by obtain⟨x,H1,I1,r1,q1⟩:=Hh;exact(⟨σ,H1,I1,q1⟩))) I.quiet hs
def Qa(te:TE):TS:=fun D σ H=>te σ H D.rt
theorem pW(he:PE X e te):PS X (.Return (some e) pos) (Qa te):=by
 intro pins s σ H D I h;exact wpAny_Return_some (aV (he pins s σ H _ I h) fun v s1 zq=>(by obtain⟨x,H1,I1,r1,q1⟩:=zq;exact(⟨x,σ,H1,I1,r1,q1⟩)))
def Qe(c:TT)(t u:TS):TS:=fun D σ H=>c σ H fun b H1=>if b=true then t D σ H1 else u D σ H1
theorem As(hc:PT X c tc)(ha:qQ X a t)(hb:qQ X b u):PS X (.If c a b pos) (Qe tc t u):=by
 intro pins s σ H D I h;refine wpAny_If (aV (hc pins s σ H _ I h) fun d s1 zp=>?_);obtain⟨H1,I1,q1⟩:=zp;cases d with
 | true=>exact ha pins s1 σ H1 D I1 q1
 | false=>exact hb pins s1 σ H1 D I1 q1
end
abbrev TG:=V->St->Hp->(St->Hp->Prop)->Prop
abbrev Km:=List V->St->Hp->(St->Hp->Prop)->Prop
def PG(X:Cx)(target:Expr)(t:TG):Prop:=
 ∀(pins:List (Addr × Obj)) (s:Shared) (σ:St) (H:Hp) (v:V) (u:Value) (Q:St->Hp->Prop),Inv X pins σ H s->RelV v u->t v σ H Q->
  wpAny (model X.prog X.w) X.A (assign target X.env u) (fun _ s'=>Oc X pins Q s') X.xe s
def O8(X:Cx)(ts:List Expr)(t:Km):Prop:=
 ∀(pins:List (Addr × Obj)) (s:Shared) (σ:St) (H:Hp) (vs:List V) (us:List Value) (Q:St->Hp->Prop),Inv X pins σ H s->Vals vs us->t vs σ H Q->
  wpAny (model X.prog X.w) X.A (assignInOrder ((assignEach ts X.env).map (·.2)) us) (fun _ s'=>Oc X pins Q s') X.xe s
abbrev Ob:=V->V->V->Hp->(Hp->Prop)->Prop
def Od(X:Cx)(t:Ob):Prop:=
 ∀(pins:List (Addr × Obj)) (s:Shared) (σ:St) (H:Hp) (o i v:V) (ov iv u:Value) (Q:Hp->Prop),Inv X pins σ H s->RelV o ov->RelV i iv->RelV v u->t o i v H Q->
  wpAny (model X.prog X.w) X.A (setItem ov iv u) (fun _ s'=> ∃H',Inv X pins σ H' s'/\Q H') X.xe s
section
variable{X:Cx}{pos:Pos}
def cQ(i:Nat):TG:=fun v σ H Q=>Q (σ.set i (some v)) H
theorem aE(hN:X.N.Nodup)(hi:X.N[i]?=some x)(hx:Loc X.env.scope x)(hf:X.fn x=true\/X.env.scope.names.lookup x=some .local:=by first | exact .inl rfl | exact .inr rfl | assumption):PG X (.Name x pos) (cQ i):=by
 intro pins s σ H v u Q I r h;exact wpAny_assign_Name (iX I hN hi hx r (fun s' I'=>⟨_,H,I',h⟩) hf)
def yy:Km:=fun vs σ H Q=>vs= []/\Q σ H
def gZ(t:TG)(u:Km):Km:=fun vs σ H Q=> ∃v r,vs=v::r/\t v σ H fun σ' H'=>u r σ' H' Q
theorem cI:O8 X [] yy:=by
 intro pins s σ H vs us Q I r h;obtain⟨e,h⟩:=h;subst e;cases r;exact assignInOrder_nil ⟨σ,H,I,h⟩
theorem aN(h1:PG X e t)(h2:O8 X es u)(hs:(assignEach (e::es) X.env).map (·.2)=assign e X.env::(assignEach es X.env).map (·.2):=by rfl):O8 X (e::es) (gZ t u):=by
 intro pins s σ H vs us Q I r h;obtain⟨v,vr,e1,h⟩:=h;subst e1;cases r with
 | cons r rr=>
  rw[hs];refine assignInOrder_cons (aV (h1 pins s σ H _ _ _ I r h) fun _ s1 zo=>?_);obtain⟨σ1,H1,I1,q1⟩:=zo;exact h2 pins s1 σ1 H1 _ _ Q I1 rr q1
def BM(K:PySem.W.Frag)(n:Nat)(t:Km):TG:=fun v σ H Q=> ∃a xs,v= .ref a/\dE K H a xs/\xs.length=n/\t xs σ H Q
theorem et(hc:X.calm=true)(h:O8 X es t)(hn:(assignEach es X.env).length=n:=by rfl)(Bv:(assignEach es X.env).findIdx? (·.1)=none:=by rfl):PG X (.Tuple es k pos) (BM X.K n t):=by
 intro pins s σ H v u Q I r hw;obtain⟨a,xs,e1,hq,hl,hw⟩:=hw;subst e1;cases r;obtain⟨ao,rv,ht,hz⟩:=I.tuple hq;refine assign_Tuple_tuple (I.ok.hd hc) ht (by simp [hn,<-hl,rv.length]) Bv fun h' hx=>?_;have I1:Inv X pins σ H {s with heap:=h'}:=I.kept (t':=s.toks) fun b o e=>hx b o (Zb (YM e)) e;exact h pins _ σ H xs _ Q I1 (by simpa using rv) hw
def RE(to ti:TE)(t:Ob):TG:=fun v σ H Q=>to σ H fun o H1=>ti σ H1 fun i H2=>t o i v H2 fun H3=>Q σ H3
theorem AF (ho : PE X o to) (hi : PE X i ti) (hs : Od X t) (ha : ∀ v, assign (.Subscript o i pos) X.env v = (do
   let ov<-holding [v] (eval o X.env)
   let iv<-holding [v,ov] (eval i X.env)
   standAt pos
   holding [v,ov,iv] (setItem ov iv v)
   release [v,ov,iv] []):=by intro _;rfl):PG X (.Subscript o i pos) (RE to ti t):=by
 intro pins s σ H v u Q I r h;rw[ha];refine Yr (Zs (aV (ho pins s σ H _ I h) fun ov s1 pB=>?_));obtain⟨x,H1,I1,r1,q1⟩:=pB;refine Yr (Zs (aV (hi pins s1 σ H1 _ I1 q1) fun iv s2 zm=>?_));obtain⟨y,H2,I2,r2,q2⟩:=zm;refine Yr (ZY (Yr (Zs (aV (hs pins s2 σ H2 x y v ov iv u _ I2 r1 r2 r q2) fun _ s3 Hg=>?_))));obtain⟨H3,I3,q3⟩:=Hg;exact wpAny_release ⟨σ,H3,I3,q3⟩
def zV(te:TE)(g:TG):TS:=fun D σ H=>te σ H fun x H1=>g x σ H1 D.nx
theorem pX(he:PE X e te)(hg:PG X tg g)(hs:swapsWithSole [tg] e pos.line X.env=pure false:=by rfl)(hw:swappedStores [tg] e X.env=pure none:=by rfl)(h1:(assignEach [tg] X.env).map (·.2)= [assign tg X.env]:=by rfl):PS X (.Assign [tg] e pos) (zV te g):=by
 intro pins s σ H D I h;refine wpAny_Assign_stores (aV (he pins s σ H _ I h) fun v s1 Hf=>?_) hs hw;obtain⟨x,H1,I1,r1,q1⟩:=Hf;rw[h1];exact aV (hg pins s1 σ H1 x v _ I1 r1 q1) fun _ s2 q=>q
theorem dB(hN:X.N.Nodup)(hi:X.N[i]?=some x)(hx:Loc X.env.scope x)(he:PE X e te)(hs:swapsWith e (some (.Name x pos')) pos.line X.env=pure false:=by rfl)(hf:X.fn x=true\/X.env.scope.names.lookup x=some .local:=by first | exact .inl rfl | exact .inr rfl | assumption):
  PS X (.Assign [.Name x pos'] e pos) (zV te (cQ i)):=by
 intro pins s σ H D I h;refine wpAny_Assign_Name (aV (he pins s σ H _ I h) fun v s1 He=>?_) hs;obtain⟨y,H1,I1,r1,q1⟩:=He;exact iX I1 hN hi hx r1 (fun s2 I2=>⟨_,H1,I2,q1⟩) hf
def Qb(i j:Nat)(ta:TA):TS:=fun D σ H=>ta σ H fun vs H1=> ∃v w,vs= [v,w]/\D.nx ((σ.set i (some v)).set j (some w)) H1
theorem Iq{kt k2 Ar}(hc:X.calm=true)(hN:X.N.Nodup)(hi:X.N[i]?=some x)(hj:X.N[j]?=some y)(bN:i≠j)(hx:X.env.scope.names.lookup x=some .local)(hy:X.env.scope.names.lookup y=some .local)(ha:PA X [a,b] ta)(hw:swappedStores [.Tuple [.Name x px, .Name y py] kt pt] (.Tuple [a,b] k2 Ar) X.env=pure (some [x,y]))(hs:swapsWithSole [.Tuple [.Name x px, .Name y py] kt pt] (.Tuple [a,b] k2 Ar) pos.line X.env=pure false:=by rfl):
  PS X (.Assign [.Tuple [.Name x px,.Name y py] kt pt] (.Tuple [a,b] k2 Ar) pos) (Qb i j ta):=by
 intro pins s σ H D I h;rw[exec_Assign_arm];refine Yr (ZY ?_);rw[hs];refine Yr (Yv ?_);rw[if_neg (by decide)];refine Yr (Tuple_ (aV (ha _ pins s σ H _ I h) fun us s1 Hd=>?_));obtain⟨vs,H1,I1,r1,q1⟩:=Hd;obtain⟨v,w,e1,q1⟩:=q1;subst e1;obtain⟨u1,u2,rfl,rv,Ah⟩: ∃u1 u2,us= [u1,u2]/\RelV v u1/\RelV w u2:=by
  cases r1 with
  | cons p q=>
   cases q with
   | cons p' q'=>
    cases q';exact⟨_,_,rfl,p,p'⟩
 refine Zc ?_ (by show 2<=sizeLine;decide);have I2:Inv X pins σ H1 {s1 with heap:=s1.heap.push {cls:= .type "tuple",data:= .seq [u1,u2].toArray}}:=I1.kept (t':=s1.toks) fun b o e=>Yu _ e;rw[hw];refine Yr (Yv ?_);show wpAny (model X.prog X.w) X.A (do rule "assign.swapped-stores";let items<-unpackItems (.ref s1.heap.objs.size) 2 none;assignInOrder [fun v=>bindName X.env y v,fun v=>bindName X.env x v] items.reverse;pure Flow.next) _ _ _;refine Yr (Z7 (Yr (unpackItems_tuple (items:= #[u1,u2]) (I.ok.hd hc) (IsTup.new s1.heap _) fun h' wB=>?_)));have I3:=I2.kept (h':=h') (t':=s1.toks) fun b o e=>wB b o (Zb (YM e)) e;show wpAny _ _ (assignInOrder [fun v=>bindName X.env y v,fun v=>bindName X.env x v] [u2,u1] >>=fun _=>pure Flow.next) _ _ _;refine Yr (assignInOrder_cons (wpAny_bindName (iX I3 hN hj (.inl hy) Ah (fun s2 I4=>?_) (.inr hy))));refine assignInOrder_cons (wpAny_bindName (iX I4 hN hi (.inl hx) rv (fun s3 I5=>assignInOrder_nil (Yv ?_)) (.inr hx)));rw[List.set_comm _ _ (Ne.symm bN)] at I5;exact⟨_,H1,I5,q1⟩
end
structure It where
 go:Nat->Hp->Prop
 qW:Nat->Hp->V->Hp->Prop
 stop:Nat->Hp->Prop
def cU(X:Cx)(pins:List (Addr × Obj))(H:Hp)(b:Addr):Prop:=
 H b=none/\b≠X.env.locals/\b∉X.fs/\(b∈X.ex\/X.s₀.heap.objs.size<=b)/\(∀x c,X.env.cells.lookup x=some c->c≠b)/\ ∀p∈X.pn++pins,p.1≠b
theorem Inv.jo(I:Inv X pins σ H s)(hb:s.heap.objs.size<=b)(hn:H' b=none):cU X pins H' b:=by
 refine⟨hn,aa8 (YW I.lt hb),I.Ms hb,.inr (YT I.sz hb),fun x c e z=>?_,fun p hp z=>?_⟩
 . obtain⟨v,q⟩:=I.cell x c e;exact absurd (YW q.lt (by rw[z];exact hb)) (Zt _)
 . exact absurd (YW (YM (I.pin p hp).1) (by rw[z];exact hb)) (Zt _)
structure Turn(P:Program)(w:World)(K:PySem.W.Frag)(tg:Expr)(J:It)(fp:List Addr)(it:Addr)(tn:Nat->Heap->Prop):Prop where
 mem:it∈fp
 obj: ∀i h,tn i h-> ∀b∈fp,∃o,h.get? b=some o/\ ∀v,o.data≠ .cell v
 keep: ∀i h h',tn i h->(∀b∈fp,∀o,h.get? b=some o->h'.get? b=some o)->tn i h'
 item: ∀(X:Cx),X.prog=P->X.w=w->X.K=K->X.calm=true-> ∀(i:Nat) (pins:List (Addr × Obj)) (s:Shared) (σ:St) (H:Hp) (E:Value->Shared->Prop),Inv X pins σ H s->(∀b∈fp,cU X pins H b)->tn i s.heap->J.go i H->
  wpAny (model P w) X.A (pyNext (.ref it)) (fun r s1=> ∃u,r=some u/\
   wpAny (model P w) X.A (letOwnedTupleGo tg (.ref it) u) (fun _ s2=> ∃x H',Inv X pins σ H' s2/\RelV x u/\J.qW i H x H'/\tn (i+1) s2.heap/\ ∀b∈fp,H' b=none) E s1) E s
 done: ∀(X:Cx),X.prog=P->X.w=w->X.K=K->X.calm=true-> ∀(i:Nat) (pins:List (Addr × Obj)) (s:Shared) (σ:St) (H:Hp) (E:Value->Shared->Prop),Inv X pins σ H s->(∀b∈fp,cU X pins H b)->tn i s.heap->J.stop i H->
  wpAny (model P w) X.A (pyNext (.ref it)) (fun r s1=>r=none/\Inv X pins σ H s1) E s
 self: ∀(A:Around) (i:Nat) (s:Shared) (Q:Value->Shared->Prop) (E:Value->Shared->Prop),tn i s.heap->Q (.ref it) s->wpAny (model P w) A (pyIter (.ref it)) Q E s
abbrev TI:=St->Hp->(It->Hp->Prop)->Prop
def O7(X:Cx)(pins:List (Addr × Obj))(σ:St)(tg:Expr)(R:It->Hp->Prop)(KQ:Value)(s2:Shared):Prop:=
 ∃(it:Addr) (fp:List Addr) (tn:Nat->Heap->Prop) (J:It) (H':Hp),KQ= .ref it/\Inv X pins σ H' s2/\Turn X.prog X.w X.K tg J fp it tn/\tn 0 s2.heap/\(∀b∈fp,cU X pins H' b)/\R J H'
def PI(X:Cx)(tg iter:Expr)(wi:TI):Prop:=
 ∀(pins:List (Addr × Obj)) (s:Shared) (σ:St) (H:Hp) (R:It->Hp->Prop),Inv X pins σ H s->wi σ H R->
  wpAny (model X.prog X.w) X.A (eval iter X.env) (fun v s1=>wpAny (model X.prog X.w) X.A (pyIter v) (O7 X pins σ tg R) X.xe s1) X.xe s
theorem BH{s:Shared}(ho:s.heap.get? it=some o)(hc:o.cls= .type n)(hd:o.data= .fields vs)(hn: ["enumerate","zip","dict_itemiterator","dict_reverseitemiterator","odict_iterator","itertools.zip_longest","itertools.pairwise"].contains n=false)(hQ:Q () s):wpAny M A (letOwnedTupleGo tg (.ref it) u) Q E s:=by
 unfold letOwnedTupleGo;cases tg <;> first
  | exact Yv hQ
  | (cases u <;> first
    | exact Yv hQ
    | (refine Yr (wpAny_load ho ?_)
       rw[hc,hd];show wpAny M A (if (["enumerate","zip","dict_itemiterator","dict_reverseitemiterator","odict_iterator","itertools.zip_longest","itertools.pairwise"].contains n && vs[0]?==some (rawInt _))=true then _ else _) Q E s;rw[if_neg (by intro h;rw[hn,Bool.false_and] at h;cases h)];exact Yv hQ))
noncomputable def SM(K:PySem.W.Frag)(a:Addr):It:=
 ⟨fun i H=> ∃xs x,cY K H a xs/\xs[i]?=some x,fun i H x H'=>H'=H/\ ∀xs,cY K H a xs->xs[i]?=some x,fun i H=> ∃xs,cY K H a xs/\xs.length<=i⟩
noncomputable def SK(K:PySem.W.Frag)(a:Addr):It:=
 ⟨fun i H=> ∃xs x,dE K H a xs/\xs[i]?=some x,fun i H x H'=>H'=H/\ ∀xs,dE K H a xs->xs[i]?=some x,fun i H=> ∃xs,dE K H a xs/\xs.length<=i⟩
noncomputable def Ol(lo:Int)(n:Nat):It:=⟨fun i _=>i < n,fun i H x H'=>H'=H/\x= .int (lo+i),fun i _=>n<=i⟩
theorem xE{P:Program}{w:World}{K:PySem.W.Frag}{tg:Expr}(a it:Addr):Turn P w K tg (SM K a) [it] it (fun i h=>h.IsListIter it a i) where
 mem:=by simp
 obj:=fun i h st b hb=>by
  have e:b=it:=by simpa using hb
  subst e;obtain⟨o,e,c,d⟩:=st;exact⟨o,e,fun v z=>by rw[d] at z;cases z⟩
 keep:=fun i h h' st k=>st.at fun o e=>k it (by simp) o e
 item:=by
  intro X hP hw hK hc i pins s σ H E I hf st hg;subst hP hw hK;obtain⟨xs,x,hq,hx⟩:=hg;obtain⟨ao,rv,p,hz⟩:=I.list hq;obtain⟨u,hu,ru⟩:=rv.get hx;obtain⟨f0,f1,f2,f3,f4,f5⟩:=hf it (by simp);refine wpAny_pyNext_list_item st p.isList (x:=u) (by simpa using hu) fun h' az sb=>?_;have I1:Inv X pins σ H {s with heap:=h'}:=I.turned (t':=s.toks) (fun b o hb e=>(sb.2 b hb).trans e) f0 f1 f3 f4 f5;obtain⟨o,e,c,d⟩:=id az;exact⟨u,rfl,BH (s:={s with heap:=h'}) e c d (by decide) ⟨x,H,I1,ru,⟨rfl,fun ys hy=>by rw[I.Bj hy hq];exact hx⟩,az,fun b hb=>(hf b hb).1⟩⟩
 done:=by
  intro X hP hw hK hc i pins s σ H E I hf st hg;subst hP hw hK;obtain⟨xs,hq,hx⟩:=hg;obtain⟨ao,rv,p,hz⟩:=I.list hq;obtain⟨f0,f1,f2,f3,f4,f5⟩:=hf it (by simp);have hl:=rv.length;exact wpAny_pyNext_list_end (I.ok.hd hc) st p.isList (by simp;lia) fun h' eb=>⟨rfl,I.turned (t':=s.toks) (fun b o hb e=>eb b o hb e) f0 f1 f3 f4 f5⟩
 self:=fun _ _ _ _ _ st h=>wpAny_pyIter_listiter st h
theorem tS{P:Program}{w:World}{K:PySem.W.Frag}{tg:Expr}(a it:Addr):Turn P w K tg (SK K a) [it] it (fun i h=>h.IsTupleIter it a i) where
 mem:=by simp
 obj:=fun i h st b hb=>by
  have e:b=it:=by simpa using hb
  subst e;obtain⟨o,e,c,d⟩:=st;exact⟨o,e,fun v z=>by rw[d] at z;cases z⟩
 keep:=fun i h h' st k=>st.at fun o e=>k it (by simp) o e
 item:=by
  intro X hP hw hK hc i pins s σ H E I hf st hg;subst hP hw hK;obtain⟨xs,x,hq,hx⟩:=hg;obtain⟨ao,rv,p,hz⟩:=I.tuple hq;obtain⟨u,hu,ru⟩:=rv.get hx;obtain⟨f0,f1,f2,f3,f4,f5⟩:=hf it (by simp);refine wpAny_pyNext_tuple_item st (show s.heap.IsTuple a ao.toArray from p) (x:=u) (by simpa using hu) fun h' az sb=>?_;have I1:Inv X pins σ H {s with heap:=h'}:=I.turned (t':=s.toks) (fun b o hb e=>(sb.2 b hb).trans e) f0 f1 f3 f4 f5;obtain⟨o,e,c,d⟩:=id az;exact⟨u,rfl,BH (s:={s with heap:=h'}) e c d (by decide) ⟨x,H,I1,ru,⟨rfl,fun ys hy=>by rw[I.oi hy hq];exact hx⟩,az,fun b hb=>(hf b hb).1⟩⟩
 done:=by
  intro X hP hw hK hc i pins s σ H E I hf st hg;subst hP hw hK;obtain⟨xs,hq,hx⟩:=hg;obtain⟨ao,rv,p,hz⟩:=I.tuple hq;obtain⟨f0,f1,f2,f3,f4,f5⟩:=hf it (by simp);have hl:=rv.length;exact wpAny_pyNext_tuple_end (I.ok.hd hc) st (show s.heap.IsTuple a ao.toArray from p) (by simp;lia) fun h' eb=>⟨rfl,I.turned (t':=s.toks) (fun b o hb e=>eb b o hb e) f0 f1 f3 f4 f5⟩
 self:=fun _ _ _ _ _ st h=>wpAny_pyIter_tupleiter st h
theorem tT{P:Program}{w:World}{K:PySem.W.Frag}{tg:Expr}(it:Addr)(lo:Int)(n:Nat):Turn P w K tg (Ol lo n) [it] it (fun i h=>IsRangeIter h it (lo+(i:Nat)*1) ((n:Int) - (i:Nat)) 1) where
 mem:=by simp
 obj:=fun i h st b hb=>by
  have e:b=it:=by simpa using hb
  subst e;exact⟨_,st,fun v z=>by
   have z':Data.fields _=Data.cell v:=z;cases z'⟩
 keep:=fun i h h' st k=>k it (by simp) _ st
 item:=by
  intro X hP hw hK hc i pins s σ H E I hf st hg;subst hP hw hK;obtain⟨f0,f1,f2,f3,f4,f5⟩:=hf it (by simp);have W:=Walks.range (prog:=X.prog) (w:=X.w) (I.ok.hd hc) it lo 1 n;refine W.item i s _ _ hg st fun v h' tk hv az kk=>?_;obtain⟨t,rfl⟩:=hv;have I1:Inv X pins σ H {s with heap:=h',toks:=tk}:=I.turned (fun b o hb e=>kk b o (by simpa using hb) e) f0 f1 f3 f4 f5;refine⟨_,rfl,BH (s:={s with heap:=h',toks:=tk}) (n:="range_iterator") az rfl rfl (by decide) ⟨.int (lo+i),H,I1,⟨t,?_⟩,⟨rfl,rfl⟩,az,fun b hb=>(hf b hb).1⟩⟩;rw[Int.mul_one]
 done:=by
  intro X hP hw hK hc i pins s σ H E I hf st hg;subst hP hw hK;obtain⟨f0,f1,f2,f3,f4,f5⟩:=hf it (by simp);exact wpAny_pyNext_range_end (I.ok.hd hc) st (by have:n<=i:=hg;lia) fun h' eb=>⟨rfl,I.turned (t':=s.toks) (fun b o hb e=>eb b o hb e) f0 f1 f3 f4 f5⟩
 self:=fun _ _ _ _ _ st h=>wpAny_pyIter_rangeiter st h
section
variable{X:Cx}{tg:Expr}
def MI(K:PySem.W.Frag)(tl:TE):TI:=fun σ H R=>tl σ H fun x H1=> ∃a,x= .ref a/\(∃xs,cY K H1 a xs)/\R (SM K a) H1
def QR(K:PySem.W.Frag)(tl:TE):TI:=fun σ H R=>tl σ H fun x H1=> ∃a,x= .ref a/\(∃xs,dE K H1 a xs)/\R (SK K a) H1
theorem Ee(hl:PE X l tl):PI X tg l (MI X.K tl):=by
 intro pins s σ H R I h;refine aV (hl pins s σ H _ I h) fun v s1 PQ=>?_;obtain⟨x,H1,I1,r1,q1⟩:=PQ;obtain⟨a,e,⟨xs,hq⟩,q⟩:=q1;subst e;cases r1;obtain⟨ao,rv,p,hz⟩:=I1.list hq;refine ac5 p.isList ?_;refine⟨s1.heap.objs.size,[s1.heap.objs.size],_,_,H1,rfl,I1.kept (t':=s1.toks) fun b o e=>Yu _ e,xE a _,⟨_,YI _ rfl,rfl,rfl⟩,fun b hb=>?_,q⟩;have e:b=s1.heap.objs.size:=by simpa using hb
 subst e;exact I1.jo (Yx _) (I1.aT.fresh (Yx _))
theorem IA(hl:PE X l tl):PI X tg l (QR X.K tl):=by
 intro pins s σ H R I h;refine aV (hl pins s σ H _ I h) fun v s1 PN=>?_;obtain⟨x,H1,I1,r1,q1⟩:=PN;obtain⟨a,e,⟨xs,hq⟩,q⟩:=q1;subst e;cases r1;obtain⟨ao,rv,p,hz⟩:=I1.tuple hq;refine Z1 (show s1.heap.IsTuple a ao.toArray from p) ?_;refine⟨s1.heap.objs.size,[s1.heap.objs.size],_,_,H1,rfl,I1.kept (t':=s1.toks) fun b o e=>Yu _ e,tS a _,⟨_,YI _ rfl,rfl,rfl⟩,fun b hb=>?_,q⟩;have e:b=s1.heap.objs.size:=by simpa using hb
 subst e;exact I1.jo (Yx _) (I1.aT.fresh (Yx _))
theorem rQ{lo hi:Int}(I:Inv X pins σ H s)(h1: -(2^62)<=lo)(h2:lo < 2^62)(h3: -(2^62)<=hi)(h4:hi < 2^62)(q:R (Ol lo (hi - lo).toNat) H):wpAny (model X.prog X.w) X.A (pyIter (.ref s.heap.objs.size)) (O7 X pins σ tg R) E {s with heap:=s.heap.push {cls:= .type "range",data:= .fields #[.int lo t,.int hi u,.int 1 v]},toks:=tk}:=by
 refine wpAny_pyIter_range (IsRange.new ..) (small_one h1 h2 h3 h4) ?_;have I1:Inv X pins σ H {s with heap:=s.heap.push {cls:= .type "range",data:= .fields #[.int lo t,.int hi u,.int 1 v]},toks:=tk}:=I.kept fun b o e=>Yu _ e;refine⟨(s.heap.push {cls:= .type "range",data:= .fields #[.int lo t,.int hi u,.int 1 v]}).objs.size,[(s.heap.push {cls:= .type "range",data:= .fields #[.int lo t,.int hi u,.int 1 v]}).objs.size],_,_,H,rfl,
  I1.kept (t':=tk) fun b o e=>Yu _ e,tT _ lo (hi - lo).toNat,?_,fun b hb=>?_,q⟩
 . have e1:lo+((0:Nat):Int)*1=lo:=by simp
   have e2:(((hi - lo).toNat:Nat):Int) - ((0:Nat):Int)=Builtin.Range.rangeSize lo hi 1:=by rw[rangeSize_one];split <;> lia
   show IsRangeIter _ _ (lo+((0:Nat):Int)*1) ((((hi - lo).toNat:Nat):Int) - ((0:Nat):Int)) 1;rw[e1,e2];exact YI _ rfl
 . have e:b=(s.heap.push {cls:= .type "range",data:= .fields #[.int lo t, .int hi u, .int 1 v]}).objs.size:=by simpa using hb
   subst e;exact I1.jo (Yx _) (I1.aT.fresh (Yx _))
def MH(ta:TA):TI:=fun σ H R=>ta σ H fun vs H1=> ∃j:Int,vs= [.int j]/\ -(2^62)<=j/\j < 2^62/\R (Ol 0 j.toNat) H1
def MG(ta:TA):TI:=fun σ H R=>ta σ H fun vs H1=> ∃i j:Int,vs= [.int i,.int j]/\(-(2^62)<=i/\i < 2^62/\ -(2^62)<=j/\j < 2^62)/\R (Ol i (j - i).toNat) H1
theorem xT(hg:Gl X "range")(hm:X.mg "range"=none)(ha:PA X [a] ta)(hs:starEach [a] X.env= [(false,eval a X.env)]:=by rfl):PI X tg (.Call (.Name "range" p) [a] [] pos) (MH ta):=by
 intro pins s σ H R I h;refine Call_ (fA I hg hm boot_range (aa7 (aV (ha pos pins s σ H _ I h) fun us s1 PM=>?_) hs rfl));obtain⟨vs,H1,I1,r1,q1⟩:=PM;obtain⟨j,e,q1,q2,q⟩:=q1;subst e;cases r1 with
 | cons r rr=>
  cases rr;obtain⟨t,rfl⟩:=r;exact call_range_1 (rQ I1 (by lia) (by lia) q1 q2 (by simpa using q))
theorem xS(hg:Gl X "range")(hm:X.mg "range"=none)(ha:PA X [a,b] ta)(hs:starEach [a,b] X.env= [(false,eval a X.env),(false,eval b X.env)]:=by rfl)(kq:starEach [b] X.env= [(false,eval b X.env)]:=by rfl):
  PI X tg (.Call (.Name "range" p) [a,b] [] pos) (MG ta):=by
 intro pins s σ H R I h;refine Call_ (fA I hg hm boot_range (aa7 (aV (ha pos pins s σ H _ I h) fun us s1 PL=>?_) (by rw[hs,kq]) (by rw[kq];rfl)));obtain⟨vs,H1,I1,r1,q1⟩:=PL;obtain⟨i,j,e,⟨q1,q2,q3,q4⟩,q⟩:=q1;subst e;cases r1 with
 | cons r rr=>
  cases rr with
  | cons r' rr=>
   cases rr;obtain⟨t,rfl⟩:=r;obtain⟨t',rfl⟩:=r';exact call_range_2 (rQ I1 q1 q2 q3 q4 q)
def Qf(wi:TI)(g:TG)(tb:TS):TS:=fun D σ H=>wi σ H fun J H1=> ∃W:Nat->Nat->St->Hp->Prop,(∃m,W 0 m σ H1)/\ ∀i m σ H,W i m σ H->
 (J.stop i H/\D.nx σ H)\/(J.go i H/\ ∃N:St->Hp->Prop,(∀σ' H',N σ' H'-> ∃m',m' < m/\W (i+1) m' σ' H')/\ ∀x H',J.qW i H x H'->g x σ H' fun σ2 H2=>tb {D with nx:=N,ct:=N,bk:=D.nx} σ2 H2)
noncomputable def iF(fp:List Addr)(h:Heap):List (Addr × Obj):=fp.filterMap fun b=>(h.get? b).map fun o=>(b,o)
theorem bA{h:Heap}(hb:b∈fp)(e:h.get? b=some o):(b,o)∈iF fp h:=af7.mpr ⟨b,hb,by rw[e];rfl⟩
theorem x6(hp:p∈iF fp h):p.1∈fp/\h.get? p.1=some p.2:=by
 obtain⟨b,hb,e⟩:=af7.mp hp;cases q:h.get? b with
 | none=>rw[q] at e;cases e
 | some o=>
  rw[q] at e;have e':(b,o)=p:=Option.some.inj e;subst e';exact⟨hb,q⟩
theorem Inv.pinned(I:Inv X pins σ H s)(hf: ∀b∈fp,cU X pins H b)(ho: ∀b∈fp,∃o,s.heap.get? b=some o/\ ∀v,o.data≠ .cell v):Inv X (pins++iF fp s.heap) σ H s:=
 I.kZ fun p hp=>(Zi.mp hp).elim (fun z=>I.pin p (YR _ z)) fun z=>by
  obtain⟨hb,e⟩:=x6 z;obtain⟨f0,f1,f2,_⟩:=hf p.1 hb;obtain⟨o,e',d⟩:=ho p.1 hb;rw[e] at e';cases e';exact⟨e,f0,f1,f2,d⟩
theorem Inv.dW(I:Inv X (pins++pl) σ H s):Inv X pins σ H s:=I.kZ fun p hp=>I.pin p (YR _ (Z3 _ hp))
theorem Ir(hp:PassesOwn (model X.prog X.w) X.A X.env X.xe)(hc:X.calm=true)(hi:PI X tg iter wi)(hg:PG X tg g)(hb:qQ X body tb)(hs: ∀x,foldedSetIterable iter X.env x=pure x:=by intro _;rfl):PS X (.For tg iter body [] pos) (Qf wi g tb):=by
 intro pins s σ H D I h;refine wpAny_For (aV (hi pins s σ H _ I h) fun v s1 h1=>aV h1 fun KQ s2 h2=>?_) hs;obtain⟨it,fp,tn,J,H2,e,I2,T,gu,f2,W,⟨m0,w0⟩,turn⟩:=h2;subst e;have tZ: ∀{H':Hp},(∀b∈fp,H' b=none)-> ∀b∈fp,cU X pins H' b:=fun hn b hb=>⟨hn b hb,(f2 b hb).2⟩
 refine codeAny_forLoop_any (fun n s'=> ∃i σ' H',Inv X pins σ' H' s'/\tn i s'.heap/\(∀b∈fp,H' b=none)/\W i n σ' H') ?_ m0 ⟨0,σ,H2,I2,gu,fun b hb=>(f2 b hb).1,w0⟩;rintro n s3 ⟨i,σ3,H3,I3,fK,T3,w3⟩
 rcases turn i n σ3 H3 w3 with ⟨stop,qn⟩ | ⟨go,N,hN,step⟩
 . refine ah8 hp (aV (T.done X rfl rfl rfl hc i pins s3 σ3 H3 X.xe I3 (tZ T3) fK stop) fun r s4 PJ=>?_);obtain⟨hr,I4⟩:=PJ;subst hr;exact wpAny_execs_nil ⟨σ3,H3,I4,qn⟩
 . refine ah8 hp (aV (T.item X rfl rfl rfl hc i pins s3 σ3 H3 X.xe I3 (tZ T3) fK go) fun r s4 PH=>?_);obtain⟨u,hr,h4⟩:=PH;subst hr;refine ah8 hp (aV h4 fun _ s5 PD=>?_);obtain⟨x,H5,I5,r5,y5,t5,yA⟩:=PD;have Xi:=I5.pinned (tZ yA) (T.obj _ _ t5);refine ah8 hp (aV (hg _ s5 σ3 H5 x u _ Xi r5 (step x H5 y5)) fun _ s6 PB=>?_);obtain⟨σ6,H6,I6,q6⟩:=PB;refine ah8 hp (aV (hb _ s6 σ6 H6 _ I6 q6) fun f s7 q7=>?_);have again: ∀{σ7:St} {H7:Hp},Inv X (pins++iF fp s5.heap) σ7 H7 s7->N σ7 H7-> ∃m,m < n/\ ∃i σ' H',Inv X pins σ' H' s7/\tn i s7.heap/\(∀b∈fp,H' b=none)/\W i m σ' H':=fun{σ7 H7} I7 n7=>by
    obtain⟨m',hm,w7⟩:=hN σ7 H7 n7;refine⟨m',hm,i+1,σ7,H7,I7.dW,T.keep _ _ _ t5 fun b hb o e=>(I7.pin (b,o) (YR _ (YR _ (bA hb e)))).1,fun b hb=>?_,w7⟩;obtain⟨o,e,d⟩:=T.obj _ _ t5 b hb;exact(I7.pin (b,o) (YR _ (YR _ (bA hb e)))).2.1
   cases f with
   | next=>obtain⟨σ7,H7,I7,n7⟩:=q7;exact again I7 n7
   | cont=>obtain⟨σ7,H7,I7,n7⟩:=q7;exact again I7 n7
   | brk=>obtain⟨σ7,H7,I7,q7⟩:=q7;exact⟨σ7,H7,I7.dW,q7⟩
   | ret v=>obtain⟨x7,σ7,H7,I7,r7,q7⟩:=q7;exact⟨x7,σ7,H7,I7.dW,r7,q7⟩
end
abbrev R2:=V->V->Hp->VK->Prop
def kR(X:Cx)(f:Value->Value->Sem Value)(r:R2):Prop:=
 ∀(pins:List (Addr × Obj)) (s:Shared) (σ:St) (H:Hp) (x y:V) (v u:Value) (Q:VK),Inv X pins σ H s->RelV x v->RelV y u->r x y H Q->
  wpAny (model X.prog X.w) X.A (f v u) (EP X pins σ Q) X.xe s
def Sx(X:Cx)(f:Value->Sem Value)(r:V->Hp->VK->Prop):Prop:=
 ∀(pins:List (Addr × Obj)) (s:Shared) (σ:St) (H:Hp) (x:V) (v:Value) (Q:VK),Inv X pins σ H s->RelV x v->r x H Q->
  wpAny (model X.prog X.w) X.A (f v) (EP X pins σ Q) X.xe s
def dJ(X:Cx)(f:Value)(r:List V->Hp->VK->Prop):Prop:=
 ∀(pins:List (Addr × Obj)) (s:Shared) (σ:St) (H:Hp) (xs:List V) (us:List Value) (Q:VK),Inv X pins σ H s->Vals xs us->r xs H Q->
  wpAny (model X.prog X.w) X.A (call f us) (EP X pins σ Q) X.xe s
def KJ(r:R2)(ta tb:TE):TE:=fun σ H Q=>ta σ H fun x H1=>tb σ H1 fun y H2=>r x y H2 Q
def U4(r:V->Hp->VK->Prop)(ta:TE):TE:=fun σ H Q=>ta σ H fun x H1=>r x H1 Q
def rI(C:Int->Int->Prop)(g:Int->Int->V):R2:=fun x y H Q=> ∃i j,x= .int i/\y= .int j/\C i j/\Q (g i j) H
def D5(g:Int->Int->V):R2:=fun x y H Q=> ∃i j,x= .int i/\y= .int j/\Q (g i j) H
def rU(g:Int->V):V->Hp->VK->Prop:=fun x H Q=> ∃i,x= .int i/\Q (g i) H
section
variable{X:Cx}{a b c:Expr}{ta tb tc:TE}{pos:Pos}
theorem Kk(ha:PE X a ta)(hb:PE X b tb){pins:List (Addr × Obj)}{s:Shared}{σ:St}{H:Hp}{R:V->V->Hp->Prop}(I:Inv X pins σ H s)
  (h:ta σ H fun x H1=>tb σ H1 fun y H2=>R x y H2) {Q:Value->Shared->Prop} {f:Value->Value->Sem Value}
  (hf: ∀v u s2 x y H2,Inv X pins σ H2 s2->RelV x v->RelV y u->R x y H2->wpAny (model X.prog X.w) X.A (f v u) Q X.xe s2):
  wpAny (model X.prog X.w) X.A (eval a X.env) (fun v s₁=>wpAny (model X.prog X.w) X.A (eval b X.env) (fun u s₂=>wpAny (model X.prog X.w) X.A (f v u) Q X.xe s₂) X.xe s₁) X.xe s:=by
 refine aV (ha pins s σ H _ I h) fun v s1 Pz=>?_;obtain⟨x,H1,I1,r1,q1⟩:=Pz;refine aV (hb pins s1 σ H1 _ I1 q1) fun u s2 Py=>?_;obtain⟨y,H2,I2,r2,q2⟩:=Py;exact hf v u s2 x y H2 I2 r1 r2 q2
theorem cJ(ho:kR X (binaryOp op) r)(ha:PE X a ta)(hb:PE X b tb):PE X (.BinOp a op b pos) (KJ r ta tb):=by
 intro pins s σ H Q I h;exact wpAny_BinOp (Kk ha hb I h fun v u s2 x y H2 I2 rx ry q=>ho pins s2 σ H2 x y v u Q I2 rx ry q)
theorem Me(ho:Sx X (unaryOp op) r)(ha:PE X a ta):PE X (.UnaryOp op a pos) (U4 r ta):=by
 intro pins s σ H Q I h;exact UnaryOp_ (aV (ha pins s σ H _ I h) fun v s1 Pw=>(by obtain⟨x,H1,I1,r1,q1⟩:=Pw;exact(ho pins s1 σ H1 x v Q I1 r1 q1)))
theorem OJ{C:Int->Int->Prop}{g:Int->Int->Int}(rule: ∀(i j:Int) (t u:Tok) (s:Shared) (Q:Value->Shared->Prop) (E:Value->Shared->Prop),C i j->Q (.int (g i j) s.toks) {s with toks:=s.toks+1}->wpAny (model X.prog X.w) X.A (f (.int i t) (.int j u)) Q E s):
  kR X f (rI C fun i j=> .int (g i j)):=by
 intro pins s σ H x y v u Q I rx ry h;obtain⟨i,j,rfl,rfl,hc,q⟩:=h;obtain⟨t,rfl⟩:=rx;obtain⟨t',rfl⟩:=ry;exact rule i j t t' s _ _ hc ⟨.int (g i j),H,I.tok _,⟨_,rfl⟩,q⟩
theorem Mm{g:Int->Int->Int}(rule: ∀(i j:Int) (t u:Tok) (s:Shared) (Q:Value->Shared->Prop) (E:Value->Shared->Prop),Q (.int (g i j) s.toks) {s with toks:=s.toks+1}->wpAny (model X.prog X.w) X.A (f (.int i t) (.int j u)) Q E s):
  kR X f (D5 fun i j=> .int (g i j)):=by
 intro pins s σ H x y v u Q I rx ry h;obtain⟨i,j,rfl,rfl,q⟩:=h;obtain⟨t,rfl⟩:=rx;obtain⟨t',rfl⟩:=ry;exact rule i j t t' s _ _ ⟨.int (g i j),H,I.tok _,⟨_,rfl⟩,q⟩
theorem Er{g:Int->Int->Bool}(rule: ∀(i j:Int) (t u:Tok) (s:Shared) (Q:Value->Shared->Prop) (E:Value->Shared->Prop),Q (.bool (g i j)) s->wpAny (model X.prog X.w) X.A (f (.int i t) (.int j u)) Q E s):
  kR X f (D5 fun i j=> .bl (g i j)):=by
 intro pins s σ H x y v u Q I rx ry h;obtain⟨i,j,rfl,rfl,q⟩:=h;obtain⟨t,rfl⟩:=rx;obtain⟨t',rfl⟩:=ry;exact rule i j t t' s _ _ ⟨.bl (g i j),H,I,rfl,q⟩
def SV(i j:Int):Prop:=0 < j/\j < 1073741824
def KG(i j:Int):Prop:=0<=j/\j<=1000000/\i.natAbs < 2^64
def y8(i j:Int):Prop:=(-(2^64) < i/\i < 2^64)\/(-(2^64) < j/\j < 2^64)
theorem y8.ok(h:y8 i j):IntMulOk i j:=by
 rcases h with ⟨h1,h2⟩ | ⟨h1,h2⟩
 . exact .of_left (intBits_le_64 h1 h2)
 . exact .of_right (intBits_le_64 h1 h2)
theorem mw:kR X (binaryOp .Add) (D5 fun i j=> .int (i+j)):=Mm fun _ _ _ _ _ _ _ q=>add_int q
theorem IH:kR X (binaryOp .Sub) (D5 fun i j=> .int (i - j)):=Mm fun _ _ _ _ _ _ _ q=>sub_int q
theorem iI:kR X (binaryOp .Mult) (rI y8 fun i j=> .int (i*j)):=OJ fun _ _ _ _ _ _ _ hc q=>mul_int q hc.ok
theorem En:kR X (binaryOp .FloorDiv) (rI SV fun i j=> .int (i / j)):=OJ fun i j _ _ _ _ _ hc q=>by
 have h1:(0:Int) < j:=hc.1;have h2:j < 1073741824:=hc.2;exact floordiv_int (by lia) (by rw[Int.fdiv_eq_ediv_of_nonneg i (by lia)];exact q) (.inl (PyProof.noPylong_small (by lia)))
theorem jY:kR X (binaryOp .Mod) (rI (fun _ j=>0 < j) fun i j=> .int (i % j)):=OJ fun i j _ _ _ _ _ hc q=>by
 have h1:(0:Int) < j:=hc;exact mod_int' (by lia) (by rw[Int.fmod_eq_emod_of_nonneg i (by lia)];exact q)
theorem II:kR X (binaryOp .Pow) (rI KG fun i j=> .int (i^j.toNat)):=OJ fun _ _ _ _ _ _ _ hc q=>pow_int_small hc.1 hc.2.1 hc.2.2 q
theorem U1{g:Int->Int}(rule: ∀(i:Int) (t:Tok) (s:Shared) (Q:Value->Shared->Prop) (E:Value->Shared->Prop),Q (.int (g i) s.toks) {s with toks:=s.toks+1}->wpAny (model X.prog X.w) X.A (f (.int i t)) Q E s):
  Sx X f (rU fun i=> .int (g i)):=by
 intro pins s σ H x v Q I rx h;obtain⟨i,rfl,q⟩:=h;obtain⟨t,rfl⟩:=rx;exact rule i t s _ _ ⟨.int (g i),H,I.tok _,⟨_,rfl⟩,q⟩
theorem Hw:Sx X (unaryOp .USub) (rU fun i=> .int (-i)):=U1 fun _ _ _ _ _ q=>neg_int q
end
noncomputable def DW:V->V->Bool
 | .aI,.aI=>true | .aI,.int _=>true | .int _,.aI=>true | .aI,.bl _=>true | .bl _,.aI=>true | .aI,.str _=>true | .str _,.aI=>true
 | .int _,.int _=>true | .bl _,.bl _=>true | .str _,.str _=>true | .zh _,.zh _=>true
 | .int _,.str _=>true | .str _,.int _=>true | .bl _,.str _=>true | .str _,.bl _=>true
 | _,_=>false
def Tc:R2:=fun x y H Q=>DW x y=true/\Q (.bl (decide (x=y))) H
def Ta:R2:=fun x y H Q=>DW x y=true/\Q (.bl (!decide (x=y))) H
theorem wR:decide (V.int i=V.int j)=(i==j):=by
 rw[ai0];simp
theorem Cm:decide (V.bl i=V.bl j)=(i==j):=by
 rw[ai0];simp
theorem wQ:decide (V.str i=V.str j)=(i==j):=by
 rw[ai0];simp
theorem wU:decide (V.zh i=V.zh j)=(i.toList==j.toList):=by
 rw[ai0];cases i;cases j;simp
section
variable{X:Cx}{a b c:Expr}{ta tb tc:TE}{pos:Pos}
theorem aS(I:Inv X pins σ H s)(q:Q (.bl k) H)(e:k=k'):EP X pins σ Q (.bool k') s:=by
 subst e;exact⟨.bl k,H,I,rfl,q⟩
theorem Gr:kR X (compareOp .Eq) Tc:=by
 intro pins s σ H x y v u Q I rx ry h;obtain⟨hs,q⟩:=h;cases x with
 | aI=>
  cases rx;cases y with
  | aI=>cases ry;exact PySem.EqNone.eq_none_none (aS I q rfl)
  | bl j=>cases ry;exact PySem.EqNone.eq_none_bool (aS I q rfl)
  | int j=>obtain⟨t',rfl⟩:=ry;exact PySem.EqNone.eq_none_int (aS I q rfl)
  | str j=>obtain⟨t',rfl⟩:=ry;exact PySem.EqNone.eq_none_str (aS I q rfl)
  | _=>exact absurd (show false=true from hs) YJ
 | bl i=>
  cases rx;cases y with
  | aI=>cases ry;exact PySem.EqNone.eq_bool_none (aS I q rfl)
  | bl j=>cases ry;exact eq_bool (aS I q Cm)
  | str j=>obtain⟨t',rfl⟩:=ry;exact PySem.EqMixed.eq_bool_str (aS I q rfl)
  | _=>exact absurd (show false=true from hs) YJ
 | int i=>
  obtain⟨t,rfl⟩:=rx;cases y with
  | aI=>cases ry;exact PySem.EqNone.eq_int_none (aS I q rfl)
  | int j=>obtain⟨t',rfl⟩:=ry;exact eq_int (aS I q wR)
  | str j=>obtain⟨t',rfl⟩:=ry;exact PySem.EqMixed.eq_int_str (aS I q rfl)
  | _=>exact absurd (show false=true from hs) YJ
 | str i=>
  obtain⟨t,rfl⟩:=rx;cases y with
  | aI=>cases ry;exact PySem.EqNone.eq_str_none (aS I q rfl)
  | bl j=>cases ry;exact PySem.EqMixed.eq_str_bool (aS I q rfl)
  | int j=>obtain⟨t',rfl⟩:=ry;exact PySem.EqMixed.eq_str_int (aS I q rfl)
  | str j=>obtain⟨t',rfl⟩:=ry;exact eq_str (aS I q wQ)
  | _=>exact absurd (show false=true from hs) YJ
 | zh i=>
  obtain⟨t,rfl⟩:=rx;cases y with
  | zh j=>obtain⟨t',rfl⟩:=ry;exact PySem.W.eq_bytes (aS I q wU)
  | _=>exact absurd (show false=true from hs) YJ
 | _=>exact absurd (show false=true from hs) YJ
theorem Mh:kR X (compareOp .NotEq) Ta:=by
 intro pins s σ H x y v u Q I rx ry h;obtain⟨hs,q⟩:=h;cases x with
 | aI=>
  cases rx;cases y with
  | aI=>cases ry;exact PySem.EqNone.ne_none_none (aS I q rfl)
  | bl j=>cases ry;exact PySem.EqNone.ne_none_bool (aS I q rfl)
  | int j=>obtain⟨t',rfl⟩:=ry;exact PySem.EqNone.ne_none_int (aS I q rfl)
  | str j=>obtain⟨t',rfl⟩:=ry;exact PySem.EqNone.ne_none_str (aS I q rfl)
  | _=>exact absurd (show false=true from hs) YJ
 | bl i=>
  cases rx;cases y with
  | aI=>cases ry;exact PySem.EqNone.ne_bool_none (aS I q rfl)
  | bl j=>cases ry;exact ne_bool (aS I q (ZA not Cm))
  | str j=>obtain⟨t',rfl⟩:=ry;exact PySem.EqMixed.ne_bool_str (aS I q rfl)
  | _=>exact absurd (show false=true from hs) YJ
 | int i=>
  obtain⟨t,rfl⟩:=rx;cases y with
  | aI=>cases ry;exact PySem.EqNone.ne_int_none (aS I q rfl)
  | int j=>obtain⟨t',rfl⟩:=ry;exact ne_int (aS I q (ZA not wR))
  | str j=>obtain⟨t',rfl⟩:=ry;exact PySem.EqMixed.ne_int_str (aS I q rfl)
  | _=>exact absurd (show false=true from hs) YJ
 | str i=>
  obtain⟨t,rfl⟩:=rx;cases y with
  | aI=>cases ry;exact PySem.EqNone.ne_str_none (aS I q rfl)
  | bl j=>cases ry;exact PySem.EqMixed.ne_str_bool (aS I q rfl)
  | int j=>obtain⟨t',rfl⟩:=ry;exact PySem.EqMixed.ne_str_int (aS I q rfl)
  | str j=>obtain⟨t',rfl⟩:=ry;exact ne_str (aS I q (ZA not wQ))
  | _=>exact absurd (show false=true from hs) YJ
 | zh i=>
  obtain⟨t,rfl⟩:=rx;cases y with
  | zh j=>obtain⟨t',rfl⟩:=ry;exact PySem.W.ne_bytes (aS I q (ZA not wU))
  | _=>exact absurd (show false=true from hs) YJ
 | _=>exact absurd (show false=true from hs) YJ
theorem Mi:kR X (compareOp .Lt) (D5 fun i j=> .bl (decide (i < j))):=Er fun _ _ _ _ _ _ _ q=>lt_int q
theorem Mj:kR X (compareOp .LtE) (D5 fun i j=> .bl (decide (i<=j))):=Er fun _ _ _ _ _ _ _ q=>le_int q
theorem Mk:kR X (compareOp .Gt) (D5 fun i j=> .bl (decide (j < i))):=Er fun _ _ _ _ _ _ _ q=>gt_int q
theorem Ml:kR X (compareOp .GtE) (D5 fun i j=> .bl (decide (j<=i))):=Er fun _ _ _ _ _ _ _ q=>ge_int q
theorem fO(b:Expr)(h:op≠ .In:=by decide)(h2:op≠ .NotIn:=by decide):behindInMarks op b=false:=by
 have e1:(op==CmpOp.In)=false:=by cases op <;> first | rfl | exact absurd rfl h
 have e2:(op==CmpOp.NotIn)=false:=by cases op <;> first | rfl | exact absurd rfl h2
 cases b <;> simp [behindInMarks,e1,e2]
theorem vY(ho:kR X (compareOp op) r)(ha:PE X a ta)(hb:PE X b tb)(hm:behindInMarks op b=false):PE X (.Compare a [op] [b] pos) (KJ r ta tb):=by
 intro pins s σ H Q I h;exact wpAny_Compare1 (Kk ha hb I h fun v u s2 x y H2 I2 rx ry q=>ho pins s2 σ H2 x y v u Q I2 rx ry q) hm
def LA(t:TE):TT:=fun σ H Q=>t σ H fun x H'=> ∃k,x= .bl k/\Q k H'
theorem pU(ho:kR X (compareOp op) r)(ha:PE X a ta)(hb:PE X b tb)(hm:behindInMarks op b=false):PT X (.Compare a [op] [b] pos) (LA (KJ r ta tb)):=by
 intro pins s σ H Q I h;refine wpAny_isTrue_Compare1 (aV (ha pins s σ H _ I h) fun v s1 ⟨x,H1,I1,r1,q1⟩=>aV (hb pins s1 σ H1 _ I1 q1) fun u s2 ⟨y,H2,I2,r2,q2⟩=>
  aV (ho pins s2 σ H2 x y v u _ I2 r1 r2 q2) fun c s3 ⟨z,H3,I3,r3,k,e,q3⟩=>?_) hm
 subst e;cases r3;exact ac4 ⟨H3,I3,q3⟩
theorem mJ:(sizeLine:Nat) < 2^63:=by rw[ZR];decide
theorem vals1(r:Vals [x] us): ∃u,us= [u]/\RelV x u:=by
 cases r with
 | cons r1 r2=>cases r2;exact⟨_,rfl,r1⟩
theorem vals2(r:Vals [x,y] us): ∃u w',us= [u,w']/\RelV x u/\RelV y w':=by
 cases r with
 | cons r1 r2=>
  cases r2 with
  | cons r3 r4=>cases r4;exact⟨_,_,rfl,r1,r3⟩
theorem yN(hc:X.calm=true):dJ X (.builtin "max") (fun xs H Q=> ∃i j,xs= [.int i,.int j]/\Q (.int (if j > i then j else i)) H):=by
 intro pins s σ H xs us Q I r h;obtain⟨i,j,rfl,q⟩:=h;obtain⟨u,w',rfl,⟨t,rfl⟩,⟨t',rfl⟩⟩:=vals2 r;refine max_two_ints (I.ok.hd hc) fun h' tk k=>⟨_,H,I.kept k,?_,q⟩
 by_cases hj:j > i
 . rw[if_pos hj,if_pos hj];exact⟨_,rfl⟩
 . rw[if_neg hj,if_neg hj];exact⟨_,rfl⟩
end
structure Kq(h:Heap)(x dx C:Addr)(mA:Str->Option Value):Prop where
 obj:h.get? x=some (PySem.W.instObj C dx)
 ns:h.Ns1 dx mA
 ne:dx≠x
theorem yg{h:Heap}(n:h.Ns1 dx mA): ∃od,h.get? dx=some od/\ ∀name,PySem.W.lookIn name od=some (mA name):=by
 obtain⟨o,es,ep,ho,hd,hk,_,hm⟩:=n;refine⟨o,ho,fun name=>?_⟩;have e:=hm name;unfold nsFind findBy at e;rw[<-Array.find?_toList] at e;unfold PySem.W.lookIn;rw[hd];dsimp only;split
 . rename_i y q;rw[q] at e;exact ZA some e
 . rename_i q;rw[q] at e;have a:es.toList.any (·.refKey)=false:=by
    rw[List.any_eq_false];intro y hy;obtain⟨z,t,kL⟩:=hk y (Array.mem_toList_iff.mp hy);simp [DictEntry.refKey,kL]
   have a': ¬es.toList.any (·.refKey)=true:=by rw[a];exact YJ
   rw[if_neg a'];exact ZA some e
theorem Kq.look(I:Kq h x dx C mA): ∃od,PySem.W.InstAt h x (PySem.W.instObj C dx) C (some od)/\ ∀name,PySem.W.lookIn name od=some (mA name):=
 let ⟨od,ho,hl⟩:=yg I.ns
 ⟨od,⟨I.obj,rfl,rfl,ho⟩,hl⟩
theorem nj.some_of(r:nj (some v) o): ∃u,o=some u/\RelV v u:=by
 cases o with
 | none=>exact(show False from r).elim
 | some u=>exact⟨u,rfl,r⟩
theorem EO(aT:gw P w H h)(e:H a=some (.ins C dx fs)): ∃mA,Kq h a dx C mA/\(∀f,nj (fs.lookup f) (mA f))/\PySem.Within mA (fs.map (·.1))/\fs.length<=1000/\H dx=some (.own a):=by
 obtain⟨d,z,ne,ob,mA,n,r,q⟩:=(show a9 P w H h a (.ins C dx fs) from aT a _ e)
 exact⟨mA,⟨ob,n,ne⟩,r,q,z,d⟩
structure SU(K:PySem.W.Frag)(C:Addr):Prop where
 pg:PySem.W.plainGet K C Str.empty=true
 hd:PySem.W.hasDictIn K C=true
 po:PySem.W.plainOver K C=true
 sa:PySem.W.findIn K (.ref C) "__setattr__"=some (some (.builtin "object.__setattr__"))
theorem SU.get{K:PySem.W.Frag}(c:SU K C)(f:Str):PySem.W.plainGet K C f=true:=c.pg
section
variable{X:Cx}{pins:List (Addr × Obj)}{σ:St}{H:Hp}{s:Shared}{A:Around}{E:Value->Shared->Prop}{Q:Value->Shared->Prop}{c:Value}{b:Bool}
inductive kQ(K:PySem.W.Frag)(H:Hp):V->Value->Prop where
 | aI:kQ K H .aI (.type "NoneType")
 | bl (x:Bool):kQ K H (.bl x) (.type "bool")
 | int (i:Int):kQ K H (.int i) (.type "int")
 | str (x:Str):kQ K H (.str x) (.type "str")
 | zc (x:UInt64):kQ K H (.zc x) (.type "float")
 | lst {a:Addr} {xs:List V} (e:H a=some (.lst xs)):kQ K H (.ref a) (.type "list")
 | lB {a:Addr} {o:Obj} {xs:List V} (e:H a=some (.lB o (.lst xs))):kQ K H (.ref a) (.type "list")
 | tup {a:Addr} {xs:List V} (e:H a=some (.tup xs)):kQ K H (.ref a) (.type "tuple")
 | dK {a:Addr} {aG:List (Key × V)} (e:H a=some (.dK aG)):kQ K H (.ref a) (.type "dict")
 | dT {a:Addr} {aG:List (List Key × V)} (e:H a=some (.dT aG)):kQ K H (.ref a) (.type "dict")
 | ins {a C dx:Addr} {fs:List (Str × V)} (e:H a=some (.ins C dx fs)) (cl:SU K C) (ha:PySem.W.findIn K (.ref C) "__class__"=some (some (.builtin "object.__class__")))
   (hn:PySem.W.specialIn K (.builtin "object.__class__") "__get__"=some (some (.builtin "getset_descriptor.__get__"))) (Tx:PySem.W.takesIn K (.builtin "object.__class__")=some true)
   (hm:PySem.W.mroIn K C (.type "object")=some true):kQ K H (.ref a) (.ref C)
theorem dR(I:Inv X pins σ H s)(rx:RelV x u)(ty:kQ X.K H x t)(e:PySem.W.kitOne X.K t c=some b)(h: ∀tk,Q (.bool b) {s with toks:=tk}):
  wpAny (model X.prog X.w) A (call (.builtin "isinstance") [u,c]) Q E s:=by
 cases ty with
 | aI=>cases (show u=Value.none from rx);exact Z0 PySem.W.kitx_none I.qf True.intro e (fun z=>nomatch z) h
 | bl y=>cases (show u=Value.bool y from rx);exact Z0 PySem.W.kitx_bool I.qf True.intro e (fun z=>nomatch z) h
 | int i=>obtain⟨t,q⟩:=(show∃t,u=Value.int i t from rx);cases q;exact Z0 PySem.W.kitx_int I.qf True.intro e (fun z=>nomatch z) h
 | str y=>obtain⟨t,q⟩:=(show∃t,u=Value.str y t from rx);cases q;exact Z0 PySem.W.kitx_str I.qf True.intro e (fun z=>nomatch z) h
 | zc y=>obtain⟨t,q⟩:=(show∃t,u=Value.float y t from rx);cases q;exact Z0 PySem.W.kitx_float I.qf True.intro e (fun z=>nomatch z) h
 | @lst a xs ea=>
  cases (show u=Value.ref a from rx);obtain⟨_,_,n,_,h1⟩:=(show a9 X.prog X.w H s.heap a (.lst xs) from I.aT a _ ea)
  exact Z0 PySem.W.kitx_list I.qf ⟨_,h1,rfl⟩ e (fun z=>nomatch z) h
 | @lB a ob xs ea=>
  cases (show u=Value.ref a from rx);obtain⟨_,_,_,n,_,h1⟩:=(show a9 X.prog X.w H s.heap a (.lB ob (.lst xs)) from I.aT a _ ea)
  exact Z0 PySem.W.kitx_list I.qf ⟨_,h1,rfl⟩ e (fun z=>nomatch z) h
 | @tup a xs ea=>
  cases (show u=Value.ref a from rx);obtain⟨_,_,_,p⟩:=(show a9 X.prog X.w H s.heap a (.tup xs) from I.aT a _ ea)
  obtain⟨o,h1,h2,_⟩:=p;exact Z0 PySem.W.kitx_tuple I.qf ⟨o,h1,h2⟩ e (fun z=>nomatch z) h
 | @dK a aG ea=>
  cases (show u=Value.ref a from rx);obtain⟨_,_,vs,_,p⟩:=(show a9 X.prog X.w H s.heap a (.dK aG) from I.aT a _ ea)
  obtain⟨o,es,ep,h1,h2,_⟩:=p;exact Z0 PySem.W.kitx_dict I.qf ⟨o,h1,h2.1⟩ e (fun z=>nomatch z) h
 | @dT a aG ea=>
  cases (show u=Value.ref a from rx);obtain⟨_,_,xs,_,o,es,ep,h1,h2,_⟩:=(show a9 X.prog X.w H s.heap a (.dT aG) from I.aT a _ ea)
  exact Z0 PySem.W.kitx_dict I.qf ⟨o,h1,h2.1⟩ e (fun z=>nomatch z) h
 | @ins a C dx fs ea cl ha hn Tx hm=>
  cases (show u=Value.ref a from rx);obtain⟨mA,O,_⟩:=EO I.aT ea;obtain⟨od,J,_⟩:=O.look;exact Z0 (PySem.W.kitx_own (cl.get _) cl.hd ha hn Tx hm) I.qf J e (fun z=>nomatch z) h
end
structure bM(k:Nat)(A:Around):Prop where
 hd:A.handled=none
 dp:A.depth+3*k+5 < recursionLimit
 un:A.units+16*k+200 < cLine
 gd:A.guards=some []
theorem bM.mono(r:bM k A)(h:j<=k):bM j A:=⟨r.hd,by have:=r.dp;lia,by have:=r.un;lia,r.gd⟩
theorem bM.deeper(r:bM (k+1) A)(env:Env):bM k (A.deeper env):=
 ⟨r.hd,by have:=r.dp;show A.depth+1+3*k+5 < _;lia,by have:=r.un;show A.units+3+16*k+200 < _;lia,r.gd⟩
theorem bM.depth(r:bM k A):A.depth < recursionLimit:=by have:=r.dp;lia
theorem bM.units(r:bM k A):A.units+64 < cLine:=by have:=r.un;lia
theorem bM.zJ(r:bM k A):A.units < cLine:=by have:=r.un;lia
def rF:TA:=fun _ H Q=>Q [] H
def lY(ta:TE)(tr:TA):TA:=fun σ H Q=>ta σ H fun x H1=>tr σ H1 fun xs H2=>Q (x::xs) H2
section
variable{X:Cx}{e:Expr}{es:List Expr}{te:TE}{t:TA}{pos:Pos}
theorem aF:PA X [] rF:=fun _ _ _ _ H Q I h=>Calls.spliced_nil ⟨[],H,I,.nil,h⟩
theorem ah(ha:PE X e te)(hr:PA X es t)(hs:starEach (e::es) X.env=(false,eval e X.env)::starEach es X.env:=by rfl):PA X (e::es) (lY te t):=by
 intro pos pins s σ H Q I h;rw[hs];show wpAny _ _ (spliced ((false,eval e X.env)::backTo pos (starEach es X.env))) _ _ s;refine Calls.spliced_cons (aV (ha pins s σ H _ I h) fun u s1 Pu=>?_);obtain⟨x,H1,I1,r1,q1⟩:=Pu;exact aV (hr pos pins s1 σ H1 _ I1 q1) fun us s2 Pq=>(by obtain⟨xs,H2,I2,r2,q2⟩:=Pq;exact(⟨x::xs,H2,I2,.cons r1 r2,q2⟩))
def P7(t:TA):TE:=fun σ H Q=>t σ H fun xs H1=>xs.length<=sizeLine/\ ∀p,H1 p=none->Q (.ref p) (upd H1 p (.tup xs))
def LJ(t:TA):TE:=fun σ H Q=>t σ H fun xs H1=>xs.length<=sizeLine/\ ∀p,H1 p=none->Q (.ref p) (upd H1 p (.lst xs))
theorem AI{x1}(h:PA X es t):PE X (.Tuple es x1 pos) (P7 t):=by
 intro pins s σ H Q I hq;refine wpAny_Tuple_spliced (aV (h pos pins s σ H _ I hq) fun us s1 ⟨xs,H1,I1,r,z,q⟩=>⟨by rw[<-r.length];exact z,?_⟩);have hf:H1 s1.heap.objs.size=none:=I1.aT.fresh (Yx _);refine⟨.ref s1.heap.objs.size,upd H1 s1.heap.objs.size (.tup xs),I1.laid (t':=s1.toks) (fun b u e=>Yu _ e) (Yx _) ?_,rfl,q _ hf⟩;exact⟨z,us,r,⟨_,YI _ rfl,rfl,rfl,_,rfl⟩⟩
theorem pZ(h:PA X es t):PE X (.List es pos) (LJ t):=by
 intro pins s σ H Q I hq;refine wpAny_List_spliced (aV (h pos pins s σ H _ I hq) fun us s1 ⟨xs,H1,I1,r,z,q⟩=>⟨by rw[<-r.length];exact z,?_⟩);have hf:H1 s1.heap.objs.size=none:=I1.aT.fresh (Yx _);refine⟨.ref s1.heap.objs.size,upd H1 s1.heap.objs.size (.lst xs),I1.laid (t':=s1.toks) (fun b u e=>Yu _ e) (Yx _) ?_,rfl,q _ hf⟩;exact⟨z,us,0,r,YI _ rfl⟩
end
abbrev Sp:=List V->Hp->VK->XK->Prop
abbrev Hb:=List Env->Hp->Shared->XK->Value->Shared->Prop
structure F8(P:Program)(w:World)(K:PySem.W.Frag)(mg:Str->Option Value)(base:Heap)(A:Around)(outer:List Env)(s:Shared)(H:Hp):Prop where
 frames:A.frames=some outer
 mod:Mod K mg base
 bs: ∀b o,base.get? b=some o->s.heap.get? b=some o/\H b=none
 FU:base.objs.size<=s.heap.objs.size
 mU:s.heap.FunFrames base outer
 K4: ∀b∈lC outer,H b=none
 aT:gw P w H s.heap
 bare:AllBare s.gens
 tab:g9 K H
def CE(outer:List Env)(P:Program)(w:World)(H:Hp)(s:Shared)(Q:VK)(u:Value)(s':Shared):Prop:=
 ∃v H',s'.os=s.os/\AllBare s'.gens/\Un (lC outer) [] H H' s.heap s'.heap/\gw P w H' s'.heap/\RelV v u/\Q v H'
def CR(CX:Hb)(outer:List Env)(P:Program)(w:World)(H:Hp)(s:Shared)(Q:VK)(E:XK)(r:Result)(s':Shared):Prop:=
 match r with
 | .ok (.ret u)=>CE outer P w H s Q u s'
 | .ok _=>False
 | .error e=>CX outer H s E e s'
structure bp(P:Program)(w:World)(K:PySem.W.Frag)(mg:Str->Option Value)(base:Heap)(CX:Hb)(k:Nat)(f:Addr)(fd:FuncData)(ps:List Str)(sp:Sp):Prop where
 len: ∀vs H Q E,sp vs H Q E->vs.length=ps.length
 run: ∀(A:Around) (outer:List Env) (s:Shared) (H:Hp) (args:Args) (us:List Value) (vs:List V) (Q:VK) (E:XK),bM k A->F8 P w K mg base A outer s H->BindsTo s fd args (ps.zip us)->Vals vs us->sp vs H Q E->
  codeAny (model P w) A (.call (.ref f) args) (CR CX outer P w H s Q E) s
theorem bp.imp{P:Program}{w:World}{K:PySem.W.Frag}{k:Nat}(F:bp P w K mg base CX k f fd ps sp)(h: ∀vs H Q E,Vb vs H Q E->sp vs H Q E):bp P w K mg base CX k f fd ps Vb:=
 ⟨fun vs H Q E q=>F.len vs H Q E (h _ _ _ _ q),fun A outer s H args us vs Q E hr he hb hv hs=>F.run A outer s H args us vs Q E hr he hb hv (h _ _ _ _ hs)⟩
theorem Inv.RN(I:Inv X pins σ H s):F8 X.prog X.w X.K X.mg X.base X.A X.stack s H:=
 ⟨I.ok.frames,I.ok.mod,I.bs,YT I.ok.FU I.sz,I.stack,I.pF,I.aT,I.bare,I.tab⟩
theorem Inv.after(I:Inv X pins σ H s)(h:CE X.stack X.prog X.w H s Q u s'):EP X pins σ Q u s':=by
 obtain⟨v,H',os,bare,un,aT,r,q⟩:=h;obtain⟨hh,g,d,t,Vj⟩:=s';obtain rfl:Vj=s.os:=os;exact⟨v,H',I.call (h':=hh) (g':=g) (d':=d) (t':=t) (ch:= []) un aT bare (fun b z=>absurd z (by simp)),r,q⟩
def zU(sp:Sp)(dvs:List V)(E:XK)(t:TA):TE:=fun σ H Q=>t σ H fun vs H1=>sp (vs++dvs) H1 Q E
def Binds(K:PySem.W.Frag)(fd:FuncData)(ps:List Str)(ds:List Value):Prop:=
 ∀(s:Shared) (us:List Value),K.In s.heap->(us++ds).length=ps.length->BindsTo s fd ⟨us,[]⟩ (ps.zip (us++ds))
theorem Binds.all{K:PySem.W.Frag}{ps:List Str}(h: ∀us:List Value,us.length=ps.length->bindArgs fd ⟨us,[]⟩=pure (ps.zip us)):Binds K fd ps []:=fun s us _ hl=>by
 rw[Zw] at hl ⊢;exact .of_eq (h us hl)
def Passes(CX:Hb)(X:Cx)(E:XK):Prop:= ∀(pins:List (Addr × Obj)) (σ:St) (H:Hp) (s:Shared) (e:Value) (s':Shared),Inv X pins σ H s->CX X.stack H s E e s'->X.xe e s'
theorem Ai(F:bp X.prog X.w X.K X.mg X.base CX k f fd ps sp)(hr:bM k X.A)(hb:Binds X.K fd ps ds)(hd:Vals dvs ds)(hx:Passes CX X E)(I:Inv X pins σ H s)(r:Vals vs us)(h:sp (vs++dvs) H Q E):wpAny (model X.prog X.w) X.A (call (.ref f) us) (EP X pins σ Q) X.xe s:=by
 have r2:Vals (vs++dvs) (us++ds):=r.append hd;have hl:(us++ds).length=ps.length:=by rw[<-r2.length];exact F.len _ _ _ _ h
 refine wpAny_call (ag5 (F.run X.A X.stack s H ⟨us,[]⟩ (us++ds) (vs++dvs) Q E hr I.RN (hb s us I.qf hl) r2 h) fun r s' hq=>?_);cases r with
 | error e=>exact hx pins σ H s e s' I hq
 | ok fl=>
  cases fl with
  | ret u=>exact I.after hq
  | next=>exact False.elim hq
  | brk=>exact False.elim hq
  | cont=>exact False.elim hq
theorem El(F:bp X.prog X.w X.K X.mg X.base CX k f fd ps sp)(hr:bM k X.A)(hg:Gl X x)(hm:X.mg x=some (.ref f))(hk:PySem.W.keepIn X.K (.ref f)=true)(hb:Binds X.K fd ps ds)(hd:Vals dvs ds)(hx:Passes CX X E)
  (ha:PA X (e::es) t) (lu:(x==("__debug__":Str))=false:=by decide) (he:starEach (e::es) X.env=(false,eval e X.env)::starEach es X.env:=by rfl) (cN:(backTo pos (starEach es X.env)).any (·.1)=false:=by rfl):
  PE X (.Call (.Name x p) (e::es) [] pos) (zU sp dvs E t):=by
 intro pins s σ H Q I h;refine ab6 (wg I hg hm ?_ lu);refine PySem.W.callWith_K (h₀:=X.base) I.ok.mod.OO hk (aV (ha pos pins s σ H _ I h) fun us s1 ⟨vs,H1,I1,r,q⟩=>⟨I1.qf,?_⟩) he cN;exact Ai F hr hb hd hx I1 r q
def PK(X:Cx)(kn:List Keyword)(t:TA):Prop:=
 ∀(pos:Pos) (pins:List (Addr × Obj)) (s:Shared) (σ:St) (H:Hp) (Q:List V->Hp->Prop),Inv X pins σ H s->t σ H Q->wpAny (model X.prog X.w) X.A (evalAll ((backToKw pos (keywordEach kn X.env)).map (·.2))) (AP X pins σ Q) X.xe s
theorem Az:PK X [] rF:=fun _ _ _ _ H Q I h=>wpAny_evalAll_nil ⟨[],H,I,.nil,h⟩
theorem vX(ha:PE X e te)(hr:PK X kn t):PK X (⟨nm,e,qd⟩::kn) (lY te t):=by
 intro pos pins s σ H Q I h;show wpAny _ _ (evalAll ((do let v<-eval e X.env;standAt pos;pure v)::(backToKw pos (keywordEach kn X.env)).map (·.2))) _ _ s;refine wpAny_evalAll_cons (Yr (aV (ha pins s σ H _ I h) fun u s1 ⟨x,H1,I1,r1,q1⟩=>Yr (ZY (Yv ?_))));exact aV (hr pos pins s1 σ H1 _ I1 q1) fun us s2 Pp=>(by obtain⟨xs,H2,I2,r2,q2⟩:=Pp;exact(⟨x::xs,H2,I2,.cons r1 r2,q2⟩))
structure aM(N P:List Str)(sc:Scope):Prop where
 kind:sc.kind= .function
 co:sc.isCoroutine=false
 gen:sc.isGenerator=false
 nd:N.Nodup
 pre:N.take P.length=P
 par: ∀x∈P,sc.names.lookup x=some .local\/sc.names.lookup x=some .cell
 IT: ∀y∈sc.names,y.2≠ .free
theorem o7{kindOf:Str->Option NameKind}: ∀{binds:List (Str × Value)} {m:Str->Option Value},(∀v,(x,v)∉binds)->bindL kindOf binds m x=m x
 | [],_,_=>rfl
 | (n,v)::r,m,h=>by
  unfold bindL;rw[o7 fun w hw=>h w (YQ _ hw)];split
  . have:x≠n:=by rintro rfl;exact h v YN
    simp [this]
  . rfl
theorem o9{kindOf:Str->Option NameKind}: ∀{binds:List (Str × Value)} {m:Str->Option Value},(∀v,(x,v)∉binds)->bindC kindOf binds m x=m x
 | [],_,_=>rfl
 | (n,v)::r,m,h=>by
  unfold bindC;rw[o9 fun w hw=>h w (YQ _ hw)];split
  . rfl
  . have:x≠n:=by rintro rfl;exact h v YN
    simp [this]
theorem o8{kindOf:Str->Option NameKind}: ∀{P:List Str} {vs:List Value} {i:Nat} {m:Str->Option Value},P.Nodup->P[i]?=some x->vs[i]?=some v->kindOf x=some .local->
  bindL kindOf (P.zip vs) m x=some v
 | [],_,_,_,_,h,_,_=>by simp at h
 | _::_,[],_,_,_,_,h,_=>by simp at h
 | p::P,w::vs,0,m,nd,h1,h2,hk=>by
  simp at h1 h2;subst h1;subst h2;show bindL kindOf ((p,w)::P.zip vs) m p=_;unfold bindL;rw[o7 fun v hv=>(ad6.mp nd).1 (List.of_mem_zip hv).1,if_pos hk];simp
 | p::P,w::vs,i+1,m,nd,h1,h2,hk=>by
  show bindL kindOf ((p,w)::P.zip vs) m x=_;unfold bindL;exact o8 (i:=i) (ad6.mp nd).2 (by simpa using h1) (by simpa using h2) hk
theorem pd{kindOf:Str->Option NameKind}: ∀{P:List Str} {vs:List Value} {i:Nat} {m:Str->Option Value},P.Nodup->P[i]?=some x->vs[i]?=some v->kindOf x≠some .local->
  bindC kindOf (P.zip vs) m x=some v
 | [],_,_,_,_,h,_,_=>by simp at h
 | _::_,[],_,_,_,_,h,_=>by simp at h
 | p::P,w::vs,0,m,nd,h1,h2,hk=>by
  simp at h1 h2;subst h1;subst h2;show bindC kindOf ((p,w)::P.zip vs) m p=_;unfold bindC;rw[o9 fun v hv=>(ad6.mp nd).1 (List.of_mem_zip hv).1,if_neg hk];simp
 | p::P,w::vs,i+1,m,nd,h1,h2,hk=>by
  show bindC kindOf ((p,w)::P.zip vs) m x=_;unfold bindC;exact pd (i:=i) (ad6.mp nd).2 (by simpa using h1) (by simpa using h2) hk
noncomputable def start(N:List Str)(vs:List V):St:=vs.map some++List.replicate (N.length - vs.length) none
noncomputable def kN(CX:Hb)(P:Program)(w:World)(K:PySem.W.Frag)(mg:Str->Option Value)(base:Heap)(N:List Str)(qual:Str)(scope:Scope)(f:Addr)(cd:Value)(A:Around)(outer:List Env)(s:Shared)(H:Hp)(E:XK):Cx where
 prog:=P
 w:=w
 K:=K
 mg:=mg
 base:=base
 A:=A.deeper (envOfC qual scope s.heap.objs.size f cd)
 N:=N
 s₀:=s
 H₀:=H
 env:=envOfC qual scope s.heap.objs.size f cd
 outer:=outer
 stack:=envOfC qual scope s.heap.objs.size f cd::outer
 ex:= []
 calm:=true
 fn:=fun _=>true
 pn:= []
 xe:=fun e s'=>wpAny (model P w) (A.deeper (envOfC qual scope s.heap.objs.size f cd)) (leaving (envOfC qual scope s.heap.objs.size f cd) e) (fun _ rN=>CX outer H s E e rN) (fun e' rN=>CX outer H s E e' rN) s'
theorem jE{sc:Scope}(h:sc.names.lookup x=some .cell): ∃c,(cellsFrom n sc.names []).lookup x=some c:=by
 have q:=PySem.W.cellsFrom_some sc.names n [] (.inl h);exact Option.isSome_iff_exists.mp q
theorem yq{CX:Hb}{P:Program}{w:World}{K:PySem.W.Frag}{A:Around}{vs:List V}(S:aM N ps scope)(hd:A.handled=none)(e0:F8 P w K mg base A outer s H)(hl:vs.length=ps.length)(r:Vals vs us)(x:InCallC s s.heap.objs.size (bindL (envOfC qual scope s.heap.objs.size f cd).kindOf (ps.zip us) fun _=>none) (cellsFrom (s.heap.objs.size+1) scope.names []) (bindC (envOfC qual scope s.heap.objs.size f cd).kindOf (ps.zip us) fun _=>none) s1):
  Inv (kN CX P w K mg base N qual scope f cd A outer s H E) [] (start N vs) H s1:=by
 have cN:ps.length<=N.length:=by have:=ZA List.length S.pre;rw[Zu] at this;lia
 obtain⟨h1,tk,rfl,hk⟩:=x.done;have Mt: ∀b:Addr,b∉(kN CX P w K mg base N qual scope f cd A outer s H E).ex:=fun b z=>absurd (show b∈([]:List Addr) from z) (by simp);refine⟨⟨e0.mod,S.kind,rfl,rfl,Yx _,fun y z c h1 h2=>?_,fun y hy=>?_,fun y c _ h=>?_,fun _=>hd,Around.frames_deeper e0.frames,.inr ⟨rfl,rfl⟩,fun b z=>absurd z (Mt b),e0.bs,e0.FU,fun b _ _=>Mt b,fun b z=>absurd z (Mt b),e0.mU,e0.K4,e0.tab⟩,
  rfl,e0.bare,Un.kept hk,⟨_,x.toInCall.ns,fun i y v h1 h2 h3=>?_⟩,fun y c h=>⟨_,x.cell y c h⟩,e0.aT.fresh (Yx _),fun y c h=>?_,fun p hp=>absurd (show p∈([]:List (Addr × Obj)) from hp) (by simp),e0.aT.kept hk,?_⟩
 . exact name_of_addr x.apart (Zn h1) (Zn h2)
 . have hy:scope.names.lookup y=some .cell\/scope.names.lookup y=some .free:=hy;rcases hy with hy | hy
   . exact jE hy
   . exact absurd rfl (S.IT _ (Zn hy))
 . exact Nat.le_of_lt (x.above y c (Zn h))
 . have hi : i < vs.length := by
     unfold start at h2;by_cases hi:i < vs.length
     . exact hi
     . rw[Y8 (by simpa using hi)] at h2;rw[YY] at h2;split at h2 <;> cases h2
   have ha:vs[i]?=some v:=by
    unfold start at h2;rw[Y1 (by simpa using hi),YC] at h2;cases e:vs[i]? with
    | none=>rw[e] at h2;cases h2
    | some a=>rw[e] at h2;cases h2;rfl
   obtain⟨u,hu,rv⟩:=r.get ha;have hp:ps[i]?=some y:=by
    rw[<-S.pre,aa1 (by lia)];exact h1
   have Tj:ps.Nodup:=by rw[<-S.pre];exact S.nd.sublist (List.take_sublist _ _)
   refine⟨u,rv,?_⟩;rcases S.par y (Zd hp) with k | k
   . exact .inl ⟨k,o8 Tj hp hu k⟩
   . obtain⟨c,e⟩:=jE (n:=s.heap.objs.size+1) k;refine .inr ⟨.inl k,c,e,?_⟩;have q:=x.cell y c e;rw[pd Tj hp hu (by show scope.names.lookup y≠_;rw[k];decide)] at q;exact q
 . exact e0.aT.fresh (Nat.le_of_lt (x.above y c (Zn h)))
 . unfold start;show _=N.length;rw[Y9,Yt,ZZ];lia
theorem GL {CX : Hb} {P : Program} {w : World} {K : PySem.W.Frag} {mg : Str -> Option Value} {base : Heap} {k : Nat} {f : Addr} {name qual : Str} {params : Arguments} {body : List Stmt} {scope : Scope} {dV kV doc pm bZ ct oc : Value} (lk : K.lookup f = some ⟨oc, od, .func (PySem.W.fnOf name qual params body scope dV kV doc pm an bZ ct), y9⟩) (sJ : PySem.W.codeIn K bZ qual = true) (S : aM N ps scope) (len : ∀ vs H Q E, sp vs H Q E -> vs.length = ps.length) (fG : ∀ (A : Around) (outer : List Env) (s : Shared) (H : Hp) (vs : List V) (Q : VK) (E : XK), bM k (A.deeper (envOfC qual scope s.heap.objs.size f bZ)) -> sp vs H Q E ->
   ∃t,qQ (kN CX P w K mg base N qual scope f bZ A outer s H E) body t/\t {nx:=fun _ H'=>Q .aI H',rt:=Q} (start N vs) H):
  bp P w K mg base CX (k+1) f (PySem.W.fnOf name qual params body scope dV kV doc pm an bZ ct) ps sp:=by
 refine⟨len,fun A outer s H args us vs Q E hr e0 hb r GG=>?_⟩;have hl:=len _ _ _ _ GG;have KX:K.In s.heap:=e0.mod.OO.keeps fun b o e=>(e0.bs b o e).1;have lim:s.heap.NoLimit:=e0.mod.nolimit.keeps fun b o e=>(e0.bs b o e).1;have M3: ∀y∈ps.zip us,scope.names.lookup y.1=some .local\/(scope.names.lookup y.1=some .cell/\((cellsFrom (s.heap.objs.size+1) scope.names []).lookup y.1).isSome=true):=fun Po hy=>(by obtain⟨n,v⟩:=Po;exact(by
  rcases S.par n (List.of_mem_zip hy).1 with q | q
  . exact .inl q
  . exact .inr ⟨q,PySem.W.cellsFrom_some _ _ _ (.inl q)⟩))
 refine codeAny_call_function hr.depth (KX _ _ lk) rfl S.co S.gen rfl (PySem.W.codeRec_of KX sJ) (hb _ _ _ _ ?_);refine wpAny_newFunctionEnv_cells S.kind M3 fun env he s1 x=>?_;subst he;refine⟨lim.keeps x.toInCall.keep,codeAny_func ?_⟩;obtain⟨t,ht,hq⟩:=fG A outer s H vs Q E (hr.deeper _) GG;have I:Inv (kN CX P w K mg base N qual scope f bZ A outer s H E) [] (start N vs) H s1:=yq S hr.hd e0 hl r x;refine Y2 (ht [] s1 (start N vs) H _ I hq) (fun fl s' hs=>?_) fun e s' hs=>hs;have fin: ∀{σ':St} {H':Hp} {v:V} {u:Value},Inv (kN CX P w K mg base N qual scope f bZ A outer s H E) [] σ' H' s'->RelV v u->Q v H'->CE outer P w H s Q u s':=
  fun{σ' H' v u} J rv q=>⟨v,H',J.os,J.bare,J.base,J.aT,rv,q⟩
 cases fl with
 | ret u=>
  obtain⟨v,σ',H',J,rv,q⟩:=hs;exact fin J rv q
 | next=>
  obtain⟨σ',H',J,q⟩:=hs;exact fin (v:=V.aI) (u:=Value.none) J rfl q
 | brk=>
  obtain⟨_,_,_,q⟩:=hs;exact False.elim q
 | cont=>
  obtain⟨_,_,_,q⟩:=hs;exact False.elim q
section
variable{X:Cx}{x:Str}{p pos:Pos}{e:Expr}{es:List Expr}{t:TA}{id T:String}{r:List V->Hp->VK->Prop}
def Qg(r:List V->Hp->VK->Prop)(t:TA):TE:=fun σ H Q=>t σ H fun vs H1=>r vs H1 Q
theorem i9(hc:dJ X (.builtin id) r)(hg:Gl X x)(hm:X.mg x=none)(hv:bootBuiltins x=some (.builtin id))(ha:PA X (e::es) t)(hn:x≠"__name__":=by decide)(lu:(x==("__debug__":Str))=false:=by decide)
  (he:starEach (e::es) X.env=(false,eval e X.env)::starEach es X.env:=by rfl) (cN:(backTo pos (starEach es X.env)).any (·.1)=false:=by rfl):PE X (.Call (.Name x p) (e::es) [] pos) (Qg r t):=by
 intro pins s σ H Q I h;refine ab6 (fA I hg hm hv ?_ hn lu);exact PyProof.Rows.callWith_builtin1 (aV (ha pos pins s σ H _ I h) fun us s1 Pn=>(by obtain⟨vs,H1,I1,r1,q1⟩:=Pn;exact(hc pins s1 σ H1 vs us Q I1 r1 q1))) he cN
theorem ic(hc:dJ X (.type T) r)(hg:Gl X x)(hm:X.mg x=none)(hv:bootBuiltins x=some (.type T))(ha:PA X (e::es) t)(hn:x≠"__name__":=by decide)(lu:(x==("__debug__":Str))=false:=by decide)
  (he:starEach (e::es) X.env=(false,eval e X.env)::starEach es X.env:=by rfl) (cN:(backTo pos (starEach es X.env)).any (·.1)=false:=by rfl):PE X (.Call (.Name x p) (e::es) [] pos) (Qg r t):=by
 intro pins s σ H Q I h;refine ab6 (fA I hg hm hv ?_ hn lu);exact aa7 (aV (ha pos pins s σ H _ I h) fun us s1 Pk=>(by obtain⟨vs,H1,I1,r1,q1⟩:=Pk;exact(hc pins s1 σ H1 vs us Q I1 r1 q1))) he cN
end
end L2
namespace HT
open PySem PyProof.Rows
theorem Am(A:Around)(s:Shared)(a:Int)(t:Tok)(c:Int)(u:Tok)(prog:Program)(w:World)(E:Value->Shared->Prop)(Q:Value->Shared->Prop)(h:Q (.bool (decide (a < c))) s):
  wpAny (model prog w) A (richCompare .Lt (.int a t) (.int c u)) Q E s:=
 (PyProof.Rows.lt_int h:wpAny (model prog w) A (compareOp .Lt (.int a t) (.int c u)) Q E s)
section
variable{prog:Program}{w:World}{A:Around}{E:Value->Shared->Prop}{s:Shared}
theorem FQ{vs ws:List Value}(ht:IsTup s.heap t vs.toArray)(hb:IsTup s.heap b ws.toArray)(hv:vs≠ [])(h1:ws= []->Q (.ref t) s)(h2:ws≠ []->Q (.ref s.heap.objs.size) {s with heap:=s.heap.push {cls:= .type "tuple",data:= .seq (vs++ws).toArray}})(hsz:vs.length+ws.length<=sizeLine):wpAny (model prog w) A (binaryOp .Add (.ref t) (.ref b)) Q E s:=by
 obtain⟨⟨cls,dd,data,sl⟩,ho,hc,n,hd⟩:=id ht;obtain⟨⟨Sk,K5,data2,HQ⟩,K0,Dr,n2,hd2⟩:=id hb;simp only at hc hd Dr hd2;subst hc hd Dr hd2;have e:vs.toArray++ws.toArray=(vs++ws).toArray:=by simp
 by_cases hw:ws= []
 . exact concat_meets ⟨_, ho, rfl⟩ ⟨_, K0, rfl⟩ noFill_tuple_add seq_tuple_add PySem.F.slot_tuple_add aj2 (ai7 _ _)
     (tuple_addW1 t b vs.toArray ws.toArray n n2 dd K5 sl HQ (by simpa using hv) (by simp [hw])) ⟨ho,K0,h1 hw⟩
 . refine concat_meets ⟨_, ho, rfl⟩ ⟨_, K0, rfl⟩ noFill_tuple_add seq_tuple_add PySem.F.slot_tuple_add aj2 (ai7 _ _)
     (tuple_addW2 t b vs.toArray ws.toArray n n2 dd K5 sl HQ (by simpa using hv) (by simpa using hw) (by rw[YG,YG];exact hsz)) ⟨ho,K0,?_⟩
   rw[e];exact h2 hw
noncomputable def cV(n d:Nat):Option Int->Nat
 | none=>d
 | some v=>if v < 0 then(v+(n:Int)).toNat else min v.toNat n
theorem mf(n d:Nat):cV n d none=d:=rfl
theorem i5(n d k:Nat):cV n d (some (k:Int))=min k n:=by
 show(if (k:Int) < 0 then((k:Int)+(n:Int)).toNat else min (k:Int).toNat n)=min k n;rw[if_neg (by lia),ZD]
theorem HX(n d:Nat)(hd:d<=n)(o:Option Int):cV n d o<=n:=by
 cases o with
 | none=>exact hd
 | some v=>
  show(if v < 0 then(v+(n:Int)).toNat else min v.toNat n)<=n;by_cases hv:v < 0
  . rw[if_pos hv];lia
  . rw[if_neg hv];exact Nat.min_le_right _ _
theorem xa(v:Int)(n d:Nat):(if v < 0 then max (v+(n:Int)) 0 else min v (n:Int))=((cV n d (some v):Nat):Int):=by
 show(if v < 0 then max (v+(n:Int)) 0 else min v (n:Int))=(((if v < 0 then(v+(n:Int)).toNat else min v.toNat n):Nat):Int)
 by_cases hv:v < 0
 . simp only [if_pos hv];lia
 . simp only [if_neg hv];lia
theorem u9(lo hi:Option Int)(n:Nat):Builtin.Slice.sliceAdjust lo hi 1 (n:Int)=(((cV n 0 lo:Nat):Int),((cV n n hi:Nat):Int)):=by
 have h1: ¬((1:Int) < 0):=by lia
 unfold Builtin.Slice.sliceAdjust;simp only [h1,ad0];refine Prod.ext ?_ ?_
 . cases lo with
   | none=>rfl
   | some v=>exact xa v n 0
 . cases hi with
   | none=>rfl
   | some v=>exact xa v n n
theorem uf(i j:Nat):Builtin.Slice.slicePlaces (i:Int) (j:Int) 1=j - i:=by
 unfold Builtin.Slice.slicePlaces;have h1:(1:Int) > 0:=by lia
 simp only [h1,if_true,Int.ediv_one];split <;> lia
theorem dX(p:IsPart v o)(h:Q o s):wpAny (model prog w) A (Builtin.Slice.slicePartIndex v) Q E s:=by
 cases p with
 | none=>exact ai9 h
 | int i t=>exact slicePart_int h
theorem fD{sl:Addr}{vl vu:Value}{lo hi:Option Int}{n:Nat}{Q:Int × Int × Nat->Shared->Prop}(hs:s.heap.IsSliceOf sl vl vu .none)(pl:IsPart vl lo)(pu:IsPart vu hi)
  (h:Q (((cV n 0 lo:Nat):Int),1,cV n n hi - cV n 0 lo) s):wpAny (model prog w) A (Builtin.Slice.sliceApplied (.ref sl) (pure (n:Int))) Q E s:=by
 obtain⟨os,Bw,GI,EZ⟩:=id hs;unfold Builtin.Slice.sliceApplied Builtin.Slice.sliceFields;refine Yr (Yr (ZG Bw EZ (x:=vl) rfl (Yr (ZG Bw EZ (x:=vu) rfl (Yr (ZG Bw EZ (x:= .none) rfl (Yv ?_)))))));refine Yr (ai9 ?_);show wpAny _ _ (if ((1:Int)==0)=true then _ else _) _ _ s;rw[if_neg (by decide)];refine Yr (dX pl (Yr (dX pu (Yr (Yv ?_)))));show wpAny _ _ (match Builtin.Slice.sliceAdjust lo hi 1 (n:Int) with | (lo,hi)=>pure (lo,(1:Int),Builtin.Slice.slicePlaces lo hi 1)) _ _ s;rw[u9 lo hi n];show wpAny _ _ (pure (((cV n 0 lo:Nat):Int),(1:Int),Builtin.Slice.slicePlaces ((cV n 0 lo:Nat):Int) ((cV n n hi:Nat):Int) 1)) _ _ s;rw[uf];exact Yv h
theorem AB(xs:Array Value)(i k:Nat):((List.range k).filterMap fun(m:Nat)=>xs[((i:Int)+(m:Int)*1).toNat]?).toArray=((xs.toList.drop i).take k).toArray:=by
 have e:(fun(m:Nat)=>xs[((i:Int)+(m:Int)*1).toNat]?)=fun m=>xs[i+m]?:=by
  funext m
  have:((i:Int)+(m:Int)*1).toNat=i+m:=by lia
  rw[this]
 rw[e];have:=pick_run xs i k;rw[List.filterMap_map] at this;have e2:((fun x=>xs[x]?) ∘ fun x=>i+x)=fun m=>xs[i+m]?:=rfl;rw[e2] at this;rw[this]
theorem jj{t sl:Addr}{items:Array Value}{vl vu:Value}{lo hi:Option Int}(ht:IsTup s.heap t items)(hs:s.heap.IsSliceOf sl vl vu .none)(pl:IsPart vl lo)(pu:IsPart vu hi)(hw: ¬(cV items.size 0 lo=0/\cV items.size items.size hi=items.size))(h:Q (.ref s.heap.objs.size) {s with heap:=s.heap.push {cls:= .type "tuple",data:= .seq ((items.toList.drop (cV items.size 0 lo)).take (cV items.size items.size hi - cV items.size 0 lo)).toArray}})(hsz:items.size<=sizeLine):wpAny (model prog w) A (getItem (.ref t) (.ref sl)) Q E s:=by
 have wC:sizeOk (.seq ((items.toList.drop (cV items.size 0 lo)).take (cV items.size items.size hi - cV items.size 0 lo)).toArray):=by
  show((items.toList.drop (cV items.size 0 lo)).take (cV items.size items.size hi - cV items.size 0 lo)).toArray.size<=sizeLine;rw[YG,Zu,ZM,YH];lia
 have hj:cV items.size items.size hi<=items.size:=HX _ _ (Yx _) hi;obtain⟨os,Bw,GI,EZ⟩:=id hs;have JD:s.TypeIs (.ref sl) "slice":=⟨os,Bw,GI⟩
 unfold getItem;try with_reducible refine Zs ?_
 first | refine Yr (Yv ?_) | skip
 refine Yr (aj3 ht.typeIs (by decide) ?_);refine Yr (ZH (name:=Str.ofString "__getitem__") ht.typeIs Zz
  (ZP Zz ht.typeIs ah7 ?_ (ai3 _ _)))
 show wpAny _ _ (Builtin.Tuple.tupleItemsOf (.ref t) >>=_) _ _ s;refine Yr (tupleItemsOf_ ht ?_);refine Yr (wpAny_typeOf JD ?_);rw[if_pos (by decide)];refine Yr (fD hs pl pu ?_);have VX: ¬((((cV items.size 0 lo:Nat):Int)==0 && (1:Int)==1 && (cV items.size items.size hi - cV items.size 0 lo)==items.size)=true):=by
  intro q;rw[ae7,ae7] at q;have q1:((cV items.size 0 lo:Nat):Int)=0:=eq_of_beq q.1.1;have q2:cV items.size items.size hi - cV items.size 0 lo=items.size:=eq_of_beq q.2;exact hw ⟨by lia,by lia⟩
 show wpAny _ _ (if (((cV items.size 0 lo:Nat):Int)==0 && (1:Int)==1 && (cV items.size items.size hi - cV items.size 0 lo)==items.size)=true then _ else _) _ _ s;rw[if_neg VX,AB];first
  | exact Yr (m:=Builtin.Tuple.tupleExact _) (Zc (Yv ⟨_,rfl,Yv h⟩) wC)
  | exact Yr (m:=Builtin.Tuple.tupleExact _) (Zc (Yr (Yv (Yv ⟨_,rfl,Yv h⟩))) wC)
  | exact Yr (Yr (m:=Builtin.Tuple.tupleExact _) (Zc (Yv (Yv ⟨_,rfl,Yv h⟩)) wC))
  | exact Yr (Yr (m:=Builtin.Tuple.tupleExact _) (Zc (Yv ⟨_,rfl,Yv h⟩) wC))
end
end HT
namespace L2
open PySem PySem.Spec PyProof.Rows
abbrev TO:=St->Hp->(Option Int->Hp->Prop)->Prop
def PO(X:Cx)(e:Option Expr)(t:TO):Prop:=
 ∀(pins:List (Addr × Obj)) (s:Shared) (σ:St) (H:Hp) (Q:Option Int->Hp->Prop),Inv X pins σ H s->t σ H Q->
  wpAny (model X.prog X.w) X.A (evalPart e X.env) (fun u s'=> ∃o H',Inv X pins σ H' s'/\IsPart u o/\Q o H') X.xe s
def DQ:TO:=fun _ H Q=>Q none H
def LF(t:TE):TO:=fun σ H Q=>t σ H fun x H1=> ∃i,x= .int i/\Q (some i) H1
theorem intsAre_of{ns:List Int}: ∀{us:List Value},Vals (ns.map V.int) us->IntsAre us ns:=by
 induction ns with
 | nil=>intro us r;rw[List.map_nil] at r;cases r;exact .nil
 | cons n ns ih=>
  intro us r;rw[YV] at r;cases r with
  | cons r1 r2=>
   obtain⟨t,e⟩:=r1;subst e;exact .cons n t (ih r2)
section
variable{X:Cx}{e:Expr}{te:TE}{lo hi:Option Expr}{tl th:TO}{pos p2:Pos}
theorem vW:PO X none DQ:=by
 intro pins s σ H Q I h;rw[evalPart_none];exact Yv ⟨none,H,I,.none,h⟩
theorem vV(h:PE X e te):PO X (some e) (LF te):=by
 intro pins s σ H Q I hw;rw[evalPart_some];refine aV (h pins s σ H _ I hw) fun u s1 Pj=>?_;obtain⟨x,H1,I1,r1,q1⟩:=Pj;obtain⟨i,rfl,q⟩:=q1;obtain⟨t,rfl⟩:=r1;exact⟨some i,H1,I1,.int i t,q⟩
def qO(X:Cx)(r:V->Option Int->Option Int->Hp->VK->Prop):Prop:=
 ∀(pins:List (Addr × Obj)) (s:Shared) (σ:St) (H:Hp) (x:V) (v vl vu:Value) (lo hi:Option Int) (sl:Addr) (Q:VK),Inv X pins σ H s->RelV x v->s.heap.IsSliceOf sl vl vu .none->IsPart vl lo->IsPart vu hi->r x lo hi H Q->
  ∃T id,typeLookup (.type T) "__getitem__"=pure (some (.builtin id))/\s.TypeIs v T/\wpAny (model X.prog X.w) X.A (getItem v (.ref sl)) (EP X pins σ Q) X.xe s
def U5(r:V->Option Int->Option Int->Hp->VK->Prop)(te:TE)(tl th:TO):TE:=fun σ H Q=>te σ H fun x H1=>tl σ H1 fun l H2=>th σ H2 fun u H3=>r x l u H3 Q
theorem rW(hr:qO X r)(he:PE X e te)(hl:PO X lo tl)(hu:PO X hi th):PE X (.Subscript e (.Slice lo hi none p2) pos) (U5 r te tl th):=by
 intro pins s σ H Q I h;refine Subscript_ (aV (he pins s σ H _ I h) fun v s1 Ph=>?_);obtain⟨x,H1,I1,r1,q1⟩:=Ph;refine wpAny_Slice (aV (hl pins s1 σ H1 _ I1 q1) fun vl s2 ⟨l,H2,I2,pl,q2⟩=>aV (hu pins s2 σ H2 _ I2 q2) fun vu s3 Pg=>?_);obtain⟨u,H3,I3,pu,q3⟩:=Pg;rw[evalPart_none];refine Yv ?_;have I4:Inv X pins σ H3 {s3 with heap:=s3.heap.push {cls:= .type "slice",data:= .fields #[vl,vu,.none]}}:=I3.kept (t':=s3.toks) fun b ob q=>Yu _ q;obtain⟨T,id,hT,ht,hg⟩:=hr pins {s3 with heap:=s3.heap.push {cls:= .type "slice",data:= .fields #[vl,vu,.none]}} σ H3 x v vl vu l u s3.heap.objs.size Q I4 r1 (Heap.IsSliceOf.new ..) pl pu q3;show wpAny (model X.prog X.w) X.A (subscriptTail e (.Slice lo hi none p2) v (.ref s3.heap.objs.size)) (EP X pins σ Q) X.xe {s3 with heap:=s3.heap.push {cls:= .type "slice",data:= .fields #[vl,vu,.none]}};exact tail_any (ops:= [.ref s3.heap.objs.size,v]) ht hT hg (by with_unfolding_all rfl)
noncomputable def mX(xs:List V)(lo hi:Option Int):List V:=(xs.drop (HT.cV xs.length 0 lo)).take (HT.cV xs.length xs.length hi - HT.cV xs.length 0 lo)
theorem kC(xs:List V)(lo hi:Option Int):(mX xs lo hi).length<=xs.length:=by
 unfold mX;rw[Zu,ZM];lia
theorem Vals.v5(r:Vals xs us):us= []↔xs= []:=by
 cases r with
 | nil=>simp
 | cons _ _=>simp
end
noncomputable def wq(n:Nat)(i:Int):Option Nat:=if 0<=i then(if i < n then some i.toNat else none) else if -(n:Int)<=i then some (i+n).toNat else none
noncomputable def kO{α:Type}(xs:List α)(i:Int):Option α:=(wq xs.length i).bind fun j=>xs[j]?
theorem wm(h:wq n i=some j):seqIndex? i n=some j/\j < n/\ -(n:Int)<=i/\i < n:=by
 unfold wq at h;by_cases h0:0<=i
 . rw[if_pos h0] at h;by_cases h1:i < n
   . rw[if_pos h1] at h;have e:i.toNat=j:=Option.some.inj h;exact⟨by rw[seqIndex_of h0 h1,e],by lia,by lia,h1⟩
   . rw[if_neg h1] at h;cases h
 . rw[if_neg h0] at h;by_cases h1: -(n:Int)<=i
   . rw[if_pos h1] at h;have e:(i+n).toNat=j:=Option.some.inj h;exact⟨by rw[seqIndex_neg (by lia) h1,e],by lia,h1,by lia⟩
   . rw[if_neg h1] at h;cases h
theorem qK(h:kO xs i=some v): ∃j,seqIndex? i xs.length=some j/\xs[j]?=some v/\j < xs.length/\ -(xs.length:Int)<=i/\i < xs.length:=by
 unfold kO at h;cases e:wq xs.length i with
 | none=>rw[e] at h;cases h
 | some j=>
  rw[e] at h;obtain⟨h1,h2,h3,h4⟩:=wm e;exact⟨j,h1,h,h2,h3,h4⟩
theorem aZ{j:Nat}(h:xs[j]?=some v):kO xs (j:Int)=some v:=by
 have hj:j < xs.length:=(YB.mp h).1;have e:wq xs.length (j:Int)=some j:=by
  unfold wq;rw[if_pos (by lia),if_pos (by lia)];simp
 unfold kO;rw[e];exact h
theorem tD(xs:List α)(v:α):kO (xs++ [v]) (-1)=some v:=by
 have hl:(xs++ [v]).length=xs.length+1:=by simp
 have e:wq (xs++ [v]).length (-1)=some xs.length:=by
  unfold wq;rw[hl,if_neg (by decide),if_pos (by lia)];congr 1
  lia
 unfold kO;rw[e];show(xs++ [v])[xs.length]?=some v;simp
def qP(b:Expr):Prop:= ∀o i,subscripted b false o i=operate [o,i] (getItem o i)
def F4(X:Cx)(r:R2):Prop:=
 ∀(value slice:Expr) (pins:List (Addr × Obj)) (s:Shared) (σ:St) (H:Hp) (x y:V) (v u:Value) (Q:VK),Inv X pins σ H s->RelV x v->RelV y u->r x y H Q->
  subscripted slice false v u=operate [v,u] (getItem v u)->wpAny (model X.prog X.w) X.A (subscriptTail value slice v u) (EP X pins σ Q) X.xe s
def Ux(X:Cx)(id:String)(r:V->List V->Hp->VK->Prop):Prop:=
 ∀(pins:List (Addr × Obj)) (s:Shared) (σ:St) (H:Hp) (x:V) (xs:List V) (v:Value) (us:List Value) (Q:VK),Inv X pins σ H s->RelV x v->Vals xs us->r x xs H Q->
  wpAny (model X.prog X.w) X.A (call (.builtin id) (v::us)) (EP X pins σ Q) X.xe s
section
variable{X:Cx}{a b:Expr}{ta tb:TE}{pos:Pos}
theorem F4.or(h:F4 X r)(h':F4 X r'):F4 X (fun x y H Q=>r x y H Q\/r' x y H Q):=by
 intro value slice pins s σ H x y v u Q I rx ry q hs;rcases q with q | q
 . exact h value slice pins s σ H x y v u Q I rx ry q hs
 . exact h' value slice pins s σ H x y v u Q I rx ry q hs
theorem AK(hr:F4 X r)(ha:PE X a ta)(hb:PE X b tb)(hs:qP b):PE X (.Subscript a b pos) (KJ r ta tb):=by
 intro pins s σ H Q I h;exact Subscript_ (Kk ha hb I h fun v u s2 x y H2 I2 rx ry q=>hr a b pins s2 σ H2 x y v u Q I2 rx ry q (hs _ _))
def L7(K:PySem.W.Frag):R2:=fun x y H Q=> ∃p xs i v,x= .ref p/\y= .int i/\cY K H p xs/\kO xs i=some v/\Q v H
def L5(K:PySem.W.Frag):R2:=fun x y H Q=> ∃p xs i v,x= .ref p/\y= .int i/\dE K H p xs/\kO xs i=some v/\Q v H
def L6:R2:=fun x y H Q=> ∃z i c,x= .str z/\y= .int i/\z.length<=sizeLine/\kO z.cps.toList i=some c/\Q (.str ⟨#[c]⟩) H
theorem qg:F4 X (L7 X.K):=by
 intro value slice pins s σ H x y v u Q I rx ry h hs;obtain⟨p,xs,i,z,rfl,rfl,hq,he,q⟩:=h;cases rx;obtain⟨t,rfl⟩:=ry;obtain⟨ao,r,pl,hz⟩:=I.list hq;obtain⟨j,h1,h2,h3,h4,h5⟩:=qK he;obtain⟨w,ew,Ah⟩:=r.get h2;have hl:=r.length;have hn:=mJ;have fin:EP X pins σ Q w s:=⟨z,H,I,Ah,q⟩
 by_cases h0:0<=i
 . have hj : i.toNat = j := by
     rw[seqIndex_of h0 h5] at h1;exact Option.some.inj h1
   exact item_listR pl.isList h0 (by lia) (by rw[hj];simpa using ew) fin hs
 . have hj : (i + (ao.toArray.size : Int)).toNat = j := by
     rw[seqIndex_neg (by lia) h4] at h1;rw[YG,<-hl];exact Option.some.inj h1
   exact subscriptTail_builtinR (x:=w) pl.isList.typeIs slot_list_getitem.lookup
    (wpAny_getItem_list_neg (Q:=fun r s'=>r=w/\EP X pins σ Q r s') pl.isList (by lia) (by rw[YG] <;> lia) (by lia) (by rw[hj];simpa using ew) ⟨rfl,fin⟩) hs
theorem Ji:F4 X (L5 X.K):=by
 intro value slice pins s σ H x y v u Q I rx ry h hs;obtain⟨p,xs,i,z,rfl,rfl,hq,he,q⟩:=h;cases rx;obtain⟨t,rfl⟩:=ry;obtain⟨ao,r,pl,hz⟩:=I.tuple hq;obtain⟨j,h1,h2,h3,h4,h5⟩:=qK he;obtain⟨w,ew,Ah⟩:=r.get h2;have hl:=r.length;have hn:=mJ;have fin:EP X pins σ Q w s:=⟨z,H,I,Ah,q⟩
 exact subscriptTail_builtinR (x:=w) pl.typeIs slot_tuple_getitem.lookup
  (getItem_tuple (j:=j) (Q:=fun r s'=>r=w/\EP X pins σ Q r s') pl (by lia) (by lia) (by rw[YG,<-hl];exact h1) (by simpa using ew) ⟨rfl,fin⟩) hs
theorem Jj:F4 X L6:=by
 intro value slice pins s σ H x y v u Q I rx ry h hs;obtain⟨z,i,c,rfl,rfl,hz,he,q⟩:=h;obtain⟨t,rfl⟩:=rx;obtain⟨t',rfl⟩:=ry;obtain⟨j,h1,h2,h3,h4,h5⟩:=qK he;have hl:z.cps.toList.length=z.length:=by simp [Str.length]
 rw[hl] at h1 h4 h5;have hn:=mJ;exact tail_any (typeIs_str s z t) slot_str_getitem.lookup (getItem_str (c:=c) (by
  have e1:decide (i < -(2^63:Int))=false:=ZI (by lia);have e2:decide (i>=2^63)=false:=ZI (by lia);rw[e1,e2,Bool.or_false]) (by rw[h1];simpa using h2) ⟨.str ⟨#[c]⟩,H,I.tok _,⟨_,rfl⟩,q⟩) hs
def Tb(K:PySem.W.Frag):R2:=fun x y H Q=>L7 K x y H Q\/L5 K x y H Q\/L6 x y H Q
theorem Jk:F4 X (Tb X.K):=qg.or (Ji.or Jj)
theorem uw(ao:List Value)(n j:Nat)(u:Value):Obj.mapSeq (·.setIfInBounds j u) {cls:= .type "list",data:= .seq ao.toArray n}={cls:= .type "list",data:= .seq (ao.set j u).toArray n}:=by
 simp [Obj.mapSeq]
theorem Inv.lst{pins:List (Addr × Obj)}{σ:St}{H:Hp}{s:Shared}{p:Addr}{xs:List V}(I:Inv X pins σ H s)(h:H p=some (.lst xs)):
  ∃(ao:List Value) (n:Nat),Vals xs ao/\s.heap.get? p=some {cls:= .type "list",data:= .seq ao.toArray n}/\xs.length<=sizeLine:=by
 obtain⟨z,ao,n,r,e⟩:=I.aT p _ h;exact⟨ao,n,r,e,z⟩
theorem Inv.IX{ao its':List Value}(I:Inv X pins σ H s)(h:H p=some (.lst xs))(ho:s.heap.get? p=some {cls:= .type "list",data:= .seq ao.toArray n})(hf:f {cls:= .type "list",data:= .seq ao.toArray n}={cls:= .type "list",data:= .seq its'.toArray n'})(r:Vals ys its')(hz:ys.length<=sizeLine)(t:Nat):
  Inv X pins σ (upd H p (.lst ys)) {s with heap:=s.heap.update p f,toks:=t}:=by
 have e:(s.heap.update p f).get? p=some {cls:= .type "list",data:= .seq its'.toArray n'}:=by
  rw[ab9 f ho (by rw[hf] <;> rfl),hf]
 refine I.write (x:=p) (e:=p) (by rw[h];trivial) (.inl rfl) (fun b u hb q=>(Z4 _ _ (Ne.symm hb)).trans q) ⟨_,e⟩ ?_;exact⟨hz,its',n',r,e⟩
def L4:V->V->V->Hp->(Hp->Prop)->Prop:=fun o i v H Q=> ∃p xs k j,o= .ref p/\i= .int k/\H p=some (.lst xs)/\wq xs.length k=some j/\Q (upd H p (.lst (xs.set j v)))
theorem set_list:Od X L4:=by
 intro pins s σ H o i v ov iv u Q I ro ri rv h;obtain⟨p,xs,k,j,rfl,rfl,hp,hj,q⟩:=h;cases ro;obtain⟨t,rfl⟩:=ri;obtain⟨ao,n,r,ho,hz⟩:=I.lst hp;obtain⟨h1,h2,h3,h4⟩:=wm hj;have hl:=r.length;have hn:=mJ;have I':Inv X pins σ (upd H p (.lst (xs.set j v))) {s with heap:=s.heap.update p (Obj.mapSeq (·.setIfInBounds j u))}:=
  I.IX hp ho (uw ao n j u) (r.set rv j) (by rw[Y7];exact hz) s.toks
 by_cases h0:0<=k
 . have hk : k.toNat = j := by
     rw[seqIndex_of h0 h4] at h1;exact Option.some.inj h1
   exact PySem.W.ki_setAt ho h0 (by lia) (by rw[YG,<-hl];exact h4) (by rw[hk];exact⟨_,I',q⟩)
 . have hk : (k + (ao.toArray.size : Int)).toNat = j := by
     rw[seqIndex_neg (by lia) h3] at h1;rw[YG,<-hl];exact Option.some.inj h1
   exact PySem.W.ki_setBack ho (by lia) (by rw[YG,<-hl];exact h3) (by lia) (by rw[hk];exact⟨_,I',q⟩)
theorem pK(lo hi:Option Int)(n:Nat):(sliceBounds lo hi none n).1=((HT.cV n 0 lo:Nat):Int)/\(sliceBounds lo hi none n).2.1=((HT.cV n n hi:Nat):Int)/\(sliceBounds lo hi none n).2.2=1:=by
 refine⟨?_,?_,rfl⟩
 . cases lo with
   | none=>simp [sliceBounds,HT.cV]
   | some i=>
    simp only [sliceBounds,HT.cV,Option.getD_none,show(1:Int) > 0 by decide,if_true];by_cases h:i < 0
    . simp only [h,if_true] <;> lia
    . simp only [h,ad0] <;> lia
 . cases hi with
   | none=>simp [sliceBounds,HT.cV]
   | some i=>
    simp only [sliceBounds,HT.cV,Option.getD_none,show(1:Int) > 0 by decide,if_true];by_cases h:i < 0
    . simp only [h,if_true] <;> lia
    . simp only [h,ad0] <;> lia
theorem nG(ao:List Value)(lo hi:Option Int):slicePick ao.toArray lo hi none=((ao.drop (HT.cV ao.length 0 lo)).take (HT.cV ao.length ao.length hi - HT.cV ao.length 0 lo)).toArray:=by
 obtain⟨h1,h2,h3⟩:=pK lo hi ao.toArray.size;unfold slicePick;rw[h1,h2,h3];simp only [sliceRange_one,pick_run,YG] <;> rfl
def Qo(K:PySem.W.Frag):V->Option Int->Option Int->Hp->VK->Prop:=fun x lo hi H Q=> ∃a xs,x= .ref a/\cY K H a xs/\ ∀p,H p=none->Q (.ref p) (upd H p (.lst (mX xs lo hi)))
theorem DU:qO X (Qo X.K):=by
 intro pins s σ H x v vl vu lo hi sl Q I rx hs pl pu h;obtain⟨a,xs,rfl,hx,q⟩:=h;cases rx;obtain⟨ao,r,ht,hz⟩:=I.list hx;have hlen:=r.length;refine⟨"list",_,slot_list_getitem.lookup,ht.isList.typeIs,?_⟩;refine wpAny_getItem_list_slice ht.isList hs pl pu .none (by simp) ?_ (by rw[YG] <;> lia);rw[nG,<-hlen];refine⟨.ref s.heap.objs.size,_,I.laid (t':=s.toks) (o:= .lst (mX xs lo hi)) (fun b ob q=>Yu _ q) (Yx _) ?_,rfl,q _ (I.aT.fresh (Yx _))⟩;exact⟨YT (kC xs lo hi) hz,_,0,(r.drop (HT.cV xs.length 0 lo)).take (HT.cV xs.length xs.length hi - HT.cV xs.length 0 lo),YI _ rfl⟩
noncomputable def eD:V->Bool
 | .aI=>true
 | .bl _=>true
 | .int _=>true
 | .str _=>true
 | _=>false
noncomputable def ze:V->V->Bool
 | .aI,.aI=>true
 | .bl a,.bl b=>a==b
 | .bl a,.int b=>(if a then 1 else 0)==b
 | .int a,.bl b=>a==(if b then 1 else 0)
 | .int a,.int b=>a==b
 | .str a,.str b=>a==b
 | _,_=>false
theorem BZ(ry:RelV y u)(rx:RelV x v)(fy:eD y=true)(fx:eD x=true):SeqAt.EqAt A s u v (ze y x):=by
 cases y with
 | aI=>
  cases ry;cases x with
  | aI=>cases rx;exact SeqAt.EqAt.same _
  | bl b=>cases rx;exact SeqAt.EqAt.none_bool b
  | int b=>obtain⟨t,rfl⟩:=rx;exact SeqAt.EqAt.none_int b t
  | str b=>obtain⟨t,rfl⟩:=rx;exact SeqAt.EqAt.none_str b t
  | _=>exact absurd (show false=true from fx) YJ
 | bl a=>
  cases ry;cases x with
  | aI=>cases rx;exact SeqAt.EqAt.bool_none a
  | bl b=>cases rx;exact SeqAt.EqAt.bool_bool a b
  | int b=>obtain⟨t,rfl⟩:=rx;exact SeqAt.EqAt.bool_int a b t
  | str b=>obtain⟨t,rfl⟩:=rx;exact SeqAt.EqAt.bool_str a b t
  | _=>exact absurd (show false=true from fx) YJ
 | int a=>
  obtain⟨t',rfl⟩:=ry;cases x with
  | aI=>cases rx;exact SeqAt.EqAt.int_none a t'
  | bl b=>cases rx;exact SeqAt.EqAt.int_bool a t' b
  | int b=>obtain⟨t,rfl⟩:=rx;exact SeqAt.EqAt.int_int a t' b t
  | str b=>obtain⟨t,rfl⟩:=rx;exact SeqAt.EqAt.int_str a t' b t
  | _=>exact absurd (show false=true from fx) YJ
 | str a=>
  obtain⟨t',rfl⟩:=ry;cases x with
  | aI=>cases rx;exact SeqAt.EqAt.str_none a t'
  | bl b=>cases rx;exact SeqAt.EqAt.str_bool a t' b
  | int b=>obtain⟨t,rfl⟩:=rx;exact SeqAt.EqAt.str_int a t' b t
  | str b=>obtain⟨t,rfl⟩:=rx;exact SeqAt.EqAt.str_str a t' b t
  | _=>exact absurd (show false=true from fx) YJ
 | _=>exact absurd (show false=true from fy) YJ
noncomputable def uM(x:V)(u:Value):Bool:=match u with
 | .none=>ze .aI x
 | .bool b=>ze (.bl b) x
 | .int i _=>ze (.int i) x
 | .str z _=>ze (.str z) x
 | _=>false
theorem BY(r:RelV y u)(f:eD y=true):uM x u=ze y x:=by
 cases y with
 | aI=>cases r;rfl
 | bl b=>cases r;rfl
 | int i=>obtain⟨t,rfl⟩:=r;rfl
 | str z=>obtain⟨t,rfl⟩:=r;rfl
 | _=>exact absurd (show false=true from f) YJ
theorem jH: ∀{xs:List V} {us:List Value},Vals xs us->xs.all eD=true->us.any (uM x)=xs.any fun y=>ze y x
 | _,_,.nil,_=>rfl
 | y::xs,u::us,.cons r t,f=>by
  rw[aj7,ae7] at f;rw[ad9,ad9,BY r f.1,jH t f.2]
theorem gS(rx:RelV x v)(fx:eD x=true): ∀{xs:List V} {us:List Value},Vals xs us->xs.all eD=true-> ∀u∈us,SeqAt.EqAt A s u v (uM x u)
 | _,_,.nil,_=>fun u hu=>by cases hu
 | y::xs,u::us,.cons r t,f=>fun u' hu=>by
  rw[aj7,ae7] at f;rcases YU.mp hu with rfl | hu
  . rw[BY r f.1];exact BZ r rx f.1 fx
  . exact gS rx fx t f.2 u' hu
noncomputable def nI(x:V)(xs:List V):Bool:=xs.any fun y=>ze y x
def Qq(K:PySem.W.Frag)(neg:Bool):R2:=fun x y H Q=> ∃p xs,y= .ref p/\(cY K H p xs\/dE K H p xs)/\eD x=true/\xs.all eD=true/\Q (.bl (if neg then !nI x xs else nI x xs)) H
theorem xV:kR X (compareOp .In) (Qq X.K false):=by
 intro pins s σ H x y v u Q I rx ry h;obtain⟨p,xs,rfl,hq,fx,fs,q⟩:=h;cases ry;rcases hq with hq | hq
 . obtain⟨ao,r,pl,hz⟩:=I.list hq;refine SeqAt.in_listAt (uM x) pl.isList (fun w hw=>gS rx fx r fs w (by simpa using hw)) ⟨.bl _,H,I,rfl,?_⟩;rw[show ao.toArray.any (uM x)=ao.any (uM x) by simp,jH r fs];exact q
 . obtain⟨ao,r,pl,hz⟩:=I.tuple hq;refine SeqAt.in_tupleAt (uM x) pl (fun w hw=>gS rx fx r fs w (by simpa using hw)) ⟨.bl _,H,I,rfl,?_⟩;rw[show ao.toArray.any (uM x)=ao.any (uM x) by simp,jH r fs];exact q
theorem p4:kR X (compareOp .NotIn) (Qq X.K true):=by
 intro pins s σ H x y v u Q I rx ry h;obtain⟨p,xs,rfl,hq,fx,fs,q⟩:=h;cases ry;rcases hq with hq | hq
 . obtain⟨ao,r,pl,hz⟩:=I.list hq;refine SeqAt.notIn_listAt (uM x) pl.isList (fun w hw=>gS rx fx r fs w (by simpa using hw)) ⟨.bl _,H,I,rfl,?_⟩;rw[show ao.toArray.any (uM x)=ao.any (uM x) by simp,jH r fs];exact q
 . obtain⟨ao,r,pl,hz⟩:=I.tuple hq;refine SeqAt.notIn_tupleAt (uM x) pl (fun w hw=>gS rx fx r fs w (by simpa using hw)) ⟨.bl _,H,I,rfl,?_⟩;rw[show ao.toArray.any (uM x)=ao.any (uM x) by simp,jH r fs];exact q
theorem jF:dJ X (.builtin "len") (fun xs H Q=> ∃p ys,xs= [.ref p]/\(cY X.K H p ys\/dE X.K H p ys)/\Q (.int ys.length) H):=by
 intro pins s σ H xs us Q I r h;obtain⟨p,ys,rfl,hq,q⟩:=h;obtain⟨u,rfl,rx⟩:=vals1 r;cases rx;have hn:=mJ;rcases hq with hq | hq
 . obtain⟨ao,r',pl,hz⟩:=I.list hq;have hlen:=r'.length;exact Calls.call_len_list pl.isList (by simp only [YG] <;> lia) ⟨.int ys.length,H,I.tok _,⟨s.toks+1,by rw[YG,hlen]⟩,q⟩
 . obtain⟨ao,r',pl,hz⟩:=I.tuple hq;have hlen:=r'.length;exact len_tuple pl (by simp only [YG] <;> lia) ⟨.int ys.length,H,I.tok _,⟨s.toks+1,by rw[YG,hlen]⟩,q⟩
theorem qC:dJ X (.type "list") (fun xs H Q=> ∃p ys,xs= [.ref p]/\(cY X.K H p ys\/dE X.K H p ys)/\ ∀l,H l=none->Q (.ref l) (upd H l (.lst ys))):=by
 intro pins s σ H xs us Q I r h;obtain⟨p,ys,rfl,hq,q⟩:=h;obtain⟨u,rfl,rx⟩:=vals1 r;cases rx;have fin: ∀(ao:List Value),Vals ys ao->ys.length<=sizeLine-> ∀(h':Heap) (c':Nat),(∀b o',s.heap.get? b=some o'->h'.get? b=some o')->
   h'.get? s.heap.objs.size=some {cls:= .type "list",dict:=none,data:= .seq ao.toArray c',slots:= #[]}->EP X pins σ Q (.ref s.heap.objs.size) {s with heap:=h'}:=fun ao r' hz h' c' kp e=>
  ⟨.ref s.heap.objs.size,_,I.laid (t':=s.toks) kp (Yx _) (show a9 X.prog X.w _ h' _ (.lst ys) from⟨hz,ao,c',r',e⟩),rfl,q _ (I.aT.fresh (Yx _))⟩
 rcases hq with hq | hq
 . obtain⟨ao,r',pl,hz⟩:=I.list hq;have hlen:=r'.length;obtain⟨o,ho,hc,n,hd⟩:=pl.isList;exact call_list_seq p (.inl rfl) ho hc hd (fun h' c' kp e=>fin ao r' hz h' c' kp e) (by simp only [YG] <;> lia)
 . obtain⟨ao,r',pl,hz⟩:=I.tuple hq;have hlen:=r'.length;obtain⟨o,ho,hc,n,hd⟩:=pl;exact call_list_seq p (.inr rfl) ho hc hd (fun h' c' kp e=>fin ao r' hz h' c' kp e) (by simp only [YG] <;> lia)
theorem iB:dJ X (.type "tuple") (fun xs H Q=> ∃p ys,xs= [.ref p]/\((cY X.K H p ys/\ ∀l,H l=none->Q (.ref l) (upd H l (.tup ys)))\/(dE X.K H p ys/\Q (.ref p) H))):=by
 intro pins s σ H xs us Q I r h;obtain⟨p,ys,rfl,h⟩:=h;obtain⟨u,rfl,rx⟩:=vals1 r;cases rx;rcases h with ⟨hq,q⟩ | ⟨hq,q⟩
 . obtain⟨ao,r',pl,hz⟩:=I.list hq;have hlen:=r'.length;refine call_tuple_list pl.isList (fun h' kp=>?_) (by simp only [YG] <;> lia);have I1:Inv X pins σ H {s with heap:=h'}:=I.kept (t':=s.toks) kp;have I2:Inv X pins σ (upd H h'.objs.size (.tup ys)) {s with heap:=h'.push {cls:= .type "tuple",data:= .seq ao.toArray}}:=
    I1.laid (t':=s.toks) (fun b o e=>Yu _ e) (Yx _) (show a9 X.prog X.w _ _ _ (.tup ys) from⟨hz,ao,r',kT.new _ _⟩)
   exact⟨.ref h'.objs.size,_,I2,rfl,q _ (I1.aT.fresh (Yx _))⟩
 . obtain⟨ao,r',pl,hz⟩:=I.tuple hq;exact call_tuple_same pl ⟨.ref p,H,I,rfl,q⟩
def PZ(K:PySem.W.Frag)(T:String)(x:V)(H:Hp):Prop:=match x with
 | .str _=>T="str"
 | .int _=>T="int"
 | .ref p=>(T="list"/\ ∃xs,cY K H p xs)\/(T="tuple"/\ ∃o,K.lookup p=some o/\o.cls= .type "tuple"/\o.dict=none)\/
   (T="dict"/\((∃aG,H p=some (.dK aG))\/ ∃aG,H p=some (.dT aG)))\/(T="set"/\ ∃S n,H p=some (.set S n))\/(T="tuple"/\ ∃xs,H p=some (.tup xs))
 | _=>False
theorem zK(I:Inv X pins σ H s)(r:RelV x v)(ty:PZ X.K T x H):
  s.TypeIs v T/\ ∀a,v= .ref a-> ∃ob,s.heap.get? a=some ob/\ob.dict=none:=by
 cases x with
 | str z=>
  obtain⟨t,rfl⟩:=r;cases (show T="str" from ty);exact⟨typeIs_str s z t,fun _ e=>nomatch e⟩
 | int i=>
  obtain⟨t,rfl⟩:=r;cases (show T="int" from ty);exact⟨typeIs_int s i t,fun _ e=>nomatch e⟩
 | ref p=>
  cases r;rcases ty with ⟨rfl,xs,hq⟩ | ⟨rfl,o,hk,hc,hd⟩ | ⟨rfl,hk⟩ | ⟨rfl,S,n,hk⟩ | ⟨rfl,xs,hk⟩
  . obtain⟨ao,_,pl,_⟩:=I.list hq;refine⟨pl.isList.typeIs,fun a e=>?_⟩;cases e;obtain⟨o,n,e,c,hd,_⟩:=pl;exact⟨o,e,hd⟩
  . refine⟨⟨o,I.qf p o hk,hc⟩,fun a e=>?_⟩;cases e;exact⟨o,I.qf _ o hk,hd⟩
  . have z : ∃ o, s.heap.get? p = some o /\ o.ExactDict := by
      rcases hk with ⟨aG,hk⟩ | ⟨aG,hk⟩
      . obtain⟨_,_,_,_,o,_,_,e,ex,_⟩:=I.aT p _ hk;exact⟨o,e,ex⟩
      . obtain⟨_,_,_,_,o,_,_,e,ex,_⟩:=I.aT p _ hk;exact⟨o,e,ex⟩
    obtain⟨o,e,ex⟩:=z;refine⟨⟨o,e,ex.1⟩,fun a e2=>?_⟩;cases e2;exact⟨o,e,ex.2.1⟩
  . obtain⟨o,_,_,_,e,ex,_⟩:=I.aT p _ hk;refine⟨⟨o,e,ex.1⟩,fun a e2=>?_⟩;cases e2;exact⟨o,e,ex.2.1⟩
  . obtain⟨_,_,_,o,e,c,dn,_⟩:=(show a9 X.prog X.w H s.heap p (.tup xs) from I.aT p _ hk)
    refine⟨⟨o,e,c⟩,fun a e2=>?_⟩;cases e2;exact⟨o,e,dn⟩
 | _=>exact False.elim ty
def Qh(K:PySem.W.Frag)(T:String)(r:V->List V->Hp->VK->Prop)(to:TE):TE:=fun σ H Q=>to σ H fun x H1=>PZ K T x H1/\r x [] H1 Q
def U8(K:PySem.W.Frag)(T:String)(r:V->List V->Hp->VK->Prop)(to:TE)(t:TA):TE:=fun σ H Q=>to σ H fun x H1=>PZ K T x H1/\t σ H1 fun xs H2=>r x xs H2 Q
variable{o e:Expr}{es:List Expr}{to:TE}{t:TA}{name:Str}{apos eG:Pos}{T id:String}{r:V->List V->Hp->VK->Prop}
theorem AR(pa:PlainAttrs T)(slot:Slot T name id)(Q0:typeOf (.builtin id)=pure (.type "method_descriptor"))(hm:Ux X id r)(ho:PE X o to)
  (jf:attributeBase o name X.env (eval o X.env)=eval o X.env:=by rfl) (je:(apos.endLine==eG.line)=true:=by rfl):PE X (.Call (.Attribute o name apos) [] [] eG) (Qh X.K T r to):=by
 intro pins s σ H Q I h;refine wpAny_Call_method0_late jf je (aV (ho pins s σ H _ I h) fun v s1 Pf=>?_);obtain⟨x,H1,I1,r1,ty,q1⟩:=Pf;obtain⟨h1,h2⟩:=zK I1 r1 ty;exact⟨T,id,pa,slot,Q0,h1,h2,Calls.callWith_builtin rfl (PySem.evalArgs_none (hm pins s1 σ H1 x [] v [] Q I1 r1 .nil q1))⟩
theorem Mf(pa:PlainAttrs T)(slot:Slot T name id)(Q0:typeOf (.builtin id)=pure (.type "method_descriptor"))(hm:Ux X id r)(ho:PE X o to)(ha:PA X (e::es) t)
  (jf:attributeBase o name X.env (eval o X.env)=eval o X.env:=by rfl)
  (Jy:((backTo eG (starEach (e::es) X.env)).all (fun x=>!x.1) && (backToKw eG (keywordEach [] X.env)).all (fun x=>x.1.isSome)
   && decide ((e::es).length+([]:List Keyword).length+(if ([]:List Keyword).isEmpty then 0 else 1) < 30))=true:=by rfl)
  (je:(apos.endLine==eG.line)=true:=by rfl) (hs:starEach (e::es) X.env=(false,eval e X.env)::starEach es X.env:=by rfl) (uD:(backTo eG (starEach es X.env)).any (·.1)=false:=by rfl):
  PE X (.Call (.Attribute o name apos) (e::es) [] eG) (U8 X.K T r to t):=by
 intro pins s σ H Q I h;refine wpAny_Call_method_late jf Jy je rfl (aV (ho pins s σ H _ I h) fun v s1 Pe=>?_);obtain⟨x,H1,I1,r1,ty,q1⟩:=Pe;obtain⟨h1,h2⟩:=zK I1 r1 ty;refine⟨T,id,pa,slot,Q0,h1,h2,?_⟩;have hA:=ha eG pins s1 σ H1 _ I1 q1;rw[hs] at hA ⊢;refine Calls.callWith_builtin (by show(false || (backTo eG (starEach es X.env)).any (·.1))=false;rw[uD] <;> rfl) (Calls.evalArgs_plain ?_);exact aV hA fun us s2 Pd=>(by obtain⟨vs,H2,I2,r2,q2⟩:=Pd;exact(hm pins s2 σ H2 x vs v us Q I2 r1 r2 q2))
end
def SH(X:Cx)(id:String)(r:V->List V->Hp->VK->Prop):Prop:=
 ∀(pins:List (Addr × Obj)) (s:Shared) (σ:St) (H:Hp) (x:V) (xs:List V) (v:Value) (us:List Value) (Q:VK),Inv X pins σ H s->RelV x v->Vals xs us->r x xs H Q->
  wpAny (model X.prog X.w) X.A (call (.builtin id) (v::us)) (EP X pins σ Q) X.xe s
theorem Vals.one: ∀{x:V} {us:List Value},Vals [x] us-> ∃u,us= [u]/\RelV x u
 | _,_,.cons r .nil=>⟨_,rfl,r⟩
theorem Vals.zero: ∀{us:List Value},Vals [] us->us= []
 | _,.nil=>rfl
theorem Vals.reverse(h:Vals xs us):Vals xs.reverse us.reverse:=by
 induction h with
 | nil=>exact .nil
 | cons r t ih=>rw[ae2,ae2];exact Vals.append ih (.cons r .nil)
theorem Inv.IZ{ao its':List Value}(I:Inv X pins σ H s)(hH:H l=some (.lst xs))(e:s.heap.get? l=some {cls:= .type "list",data:= .seq ao.toArray n})(hf:f ao.toArray=its'.toArray)(hv:Vals ys its')(hz:ys.length<=sizeLine):
  Inv X pins σ (upd H l (.lst ys)) {s with heap:=s.heap.update l (Obj.mapSeq f),toks:=t'}:=by
 have q:=PySem.IsL.update e f;rw[hf] at q;refine I.write (x:=l) (e:=l) (by rw[hH];exact trivial) (.inl rfl) (fun b' u hb hu=>(Z4 s.heap (Obj.mapSeq f) (Ne.symm hb)).trans hu) ⟨_,q⟩ ?_;exact⟨hz,its',_,hv,q⟩
theorem Inv.IY(I:Inv X pins σ H s)(hH:H l=some (.lst xs)):xs.length<=sizeLine/\ ∃(ao:List Value) (n:Nat),Vals xs ao/\xs.length=ao.length/\s.heap.get? l=some {cls:= .type "list",data:= .seq ao.toArray n}:=by
 obtain⟨z,ao,n,r,e⟩:=I.aT l _ hH;exact⟨z,ao,n,r,r.length,e⟩
section
variable{X:Cx}
def D7:V->List V->Hp->VK->Prop:=fun x vs H Q=> ∃l xs y,x= .ref l/\vs= [y]/\H l=some (.lst xs)/\xs.length < sizeLine/\Q .aI (upd H l (.lst (xs++ [y])))
theorem j3:SH X "list.append" D7:=by
 intro pins s σ H x vs v us Q I rx rv h;obtain⟨l,xs,y,rfl,rfl,hH,hz,q⟩:=h;cases rx;obtain⟨u,rfl,ru⟩:=rv.one;obtain⟨z,ao,n,r,hl,e⟩:=I.IY hH;refine call_meets F.slot_list_append ⟨_,e,rfl⟩ F.entry_list_append (F.args_list_append_2 _ _) (PySem.list_append l ao.toArray n u (by rw[YG];lia)) ⟨e,?_⟩;refine⟨.aI,_,I.IZ (its':=ao++ [u]) hH e (by simp) (r.append (.cons ru .nil)) ?_,rfl,q⟩;rw[Y9,List.length_singleton];lia
def Ao:V->List V->Hp->VK->Prop:=fun x vs H Q=> ∃l xs,x= .ref l/\vs= []/\H l=some (.lst xs)/\Q .aI (upd H l (.lst xs.reverse))
theorem uq:SH X "list.reverse" Ao:=by
 intro pins s σ H x vs v us Q I rx rv h;obtain⟨l,xs,rfl,rfl,hH,q⟩:=h;cases rx;have QX:=rv.zero;subst QX;obtain⟨z,ao,n,r,hl,e⟩:=I.IY hH;refine call_meets F.slot_list_reverse ⟨_,e,rfl⟩ F.entry_list_reverse (F.args_list_reverse_1 _) (AutoSeq1.list_reverse_list_0 l ao.toArray n (by rw[YG];lia)) ⟨e,?_⟩;refine⟨.aI,_,I.IZ (its':=ao.reverse) hH e (by simp) r.reverse ?_,rfl,q⟩;rw[ZQ];lia
def Ij:V->List V->Hp->VK->Prop:=fun x vs H Q=> ∃l xs,x= .ref l/\vs= []/\H l=some (.lst xs)/\Q .aI (upd H l (.lst []))
theorem Bh:SH X "list.clear" Ij:=by
 intro pins s σ H x vs v us Q I rx rv h;obtain⟨l,xs,rfl,rfl,hH,q⟩:=h;cases rx;have QX:=rv.zero;subst QX;obtain⟨z,ao,n,r,hl,e⟩:=I.IY hH;refine call_meets F.slot_list_clear ⟨_,e,rfl⟩ F.entry_list_clear (F.args_list_clear_1 _) (AutoSeq1.list_clear_list_0 l ao.toArray n (by rw[YG];lia)) ⟨e,?_⟩;exact⟨.aI,_,I.IZ (its':= []) (ys:= []) hH e rfl .nil (Za _),rfl,q⟩
end
section
variable{κ:Type}[DecidableEq κ]
noncomputable def fM(aG:List (κ × V))(k:κ):Option V:=(aG.find? fun kv=>decide (kv.1=k)).map (·.2)
noncomputable def putK(aG:List (κ × V))(k:κ)(v:V):List (κ × V):=
 if (aG.any fun kv=>decide (kv.1=k))=true then aG.map (fun kv=>if kv.1=k then(kv.1,v) else kv) else aG++ [(k,v)]
theorem lR{p:κ × V}(e:p.1=k):fM (p::r) k=some p.2:=by simp [fM,af4,e]
theorem lU{p:κ × V}(e: ¬p.1=k):fM (p::r) k=fM r k:=by simp [fM,af4,e]
theorem rh(k:κ): ∀aG:List (κ × V),(aG.any fun kv=>decide (kv.1=k))=(fM aG k).isSome
 | []=>rfl
 | p::r=>by
  rw[ad9];by_cases e:p.1=k
  . simp only [lR e,Zf e,Bool.true_or,Option.isSome_some]
  . rw[lU e,ZI e,Bool.false_or];exact rh k r
theorem cF(aG:List (κ × V))(k:κ)(v:V):(putK aG k v).length<=aG.length+1:=by
 unfold putK;split
 . rw[Yt];lia
 . rw[Y9,YS,af3];lia
theorem nj.yo(r:nj o u):o.isSome=u.isSome:=by
 cases o with
 | none=>cases u with
  | none=>rfl
  | some _=>exact(show False from r).elim
 | some _=>cases u with
  | none=>exact(show False from r).elim
  | some _=>rfl
theorem KV.val(r:KV aG vs)(k:κ):nj (fM aG k) (valueAt vs k):=by
 unfold KV at r;induction r with
 | nil=>exact True.intro
 | @cons p q ps qs h t ih=>
  obtain⟨h1,h2⟩:=h;by_cases e:p.1=k
  . have e':q.1=k:=h1.symm.trans e;have b:valueAt (q::qs) k=some q.2:=by simp [valueAt,af4,e']
    rw[lR e,b];exact h2
  . have e': ¬q.1=k:=fun z=>e (h1.trans z);have b:valueAt (q::qs) k=valueAt qs k:=by simp [valueAt,af4,e']
    rw[lU e,b];exact ih
theorem KV.any(r:KV aG vs)(k:κ):(aG.any fun kv=>decide (kv.1=k))=vs.any fun kv=>decide (kv.1=k):=by
 unfold KV at r;induction r with
 | nil=>rfl
 | cons h t ih=>rw[ad9,ad9,ih,h.1]
theorem KV.Ih(r:KV aG vs)(k:κ)(ry:RelV y u):
  KV (aG.map fun kv=>if kv.1=k then(kv.1,y) else kv) (vs.map fun kv=>if kv.1=k then(kv.1,u) else kv):=by
 unfold KV at r ⊢;induction r with
 | nil=>exact .nil
 | @cons p q ps qs h t ih=>
  rw[YV,YV];refine .cons ?_ ih;obtain⟨h1,h2⟩:=h;by_cases e:p.1=k
  . rw[if_pos e,if_pos (h1.symm.trans e)];exact⟨h1,ry⟩
  . rw[if_neg e,if_neg (fun z=>e (h1.trans z))];exact⟨h1,h2⟩
theorem KV.put(r:KV aG vs)(k:κ)(ry:RelV y u):KV (putK aG k y) (stored vs k u):=by
 unfold putK stored;rw[r.any k];by_cases e:(vs.any fun kv=>decide (kv.1=k))=true
 . rw[if_pos e,if_pos e];exact r.Ih k ry
 . rw[if_neg e,if_neg e];exact Paired.snoc r ⟨rfl,ry⟩
theorem KV.length{aG:List (κ × V)}(r:KV aG vs):aG.length=vs.length:=Paired.length r
end
theorem sE(r:RelV (kV k) u):(aY P w).is k u=true:=by
 cases k with
 | inl i=>obtain⟨t,e⟩:=(show∃t,u=Value.int i t from r);subst e;exact sj P w i t
 | inr x=>obtain⟨t,e⟩:=(show∃t,u=Value.str x t from r);subst e;exact si P w x t
theorem oM: ∀{ks:List Key} {us:List Value},Vals (ks.map kV) us->ItemsAre (aY P w) ks us
 | [],_,r=>by rw[List.map_nil] at r;cases r;exact .nil
 | k::ks,_,r=>by
  rw[YV] at r;cases r with
  | cons h t=>exact .cons (sE h) (oM t)
abbrev KT(H:Hp):List (List Key × V)->List (List Key × Addr × Value)->Prop:=Paired fun p q=>p.1=q.1/\H q.2.1=some (.tup (p.1.map kV))/\RelV p.2 q.2.2
theorem KT.val(r:KT H aG xs)(k:List Key):nj (fM aG k) ((atKey xs k).map (·.2)):=by
 induction r with
 | nil=>exact True.intro
 | @cons p q ps qs h t ih=>
  obtain⟨h1,_,h2⟩:=h;by_cases e:p.1=k
  . have e':q.1=k:=h1.symm.trans e;have b:atKey (q::qs) k=some q.2:=by simp [atKey,af4,e']
    rw[lR e,b];exact h2
  . have e': ¬q.1=k:=fun z=>e (h1.trans z);have b:atKey (q::qs) k=atKey qs k:=by simp [atKey,af4,e']
    rw[lU e,b];exact ih
theorem KT.Ih(r:KT H aG xs)(k:List Key)(ry:RelV y u):
  KT H (aG.map fun kv=>if kv.1=k then(kv.1,y) else kv) (xs.map (putAt k u)):=by
 induction r with
 | nil=>exact .nil
 | @cons p q ps qs h t ih=>
  rw[YV,YV];refine .cons ?_ ih;obtain⟨h1,h2,h3⟩:=h;unfold putAt;by_cases e:p.1=k
  . rw[if_pos e,if_pos (h1.symm.trans e)];exact⟨h1,h2,ry⟩
  . rw[if_neg e,if_neg (fun z=>e (h1.trans z))];exact⟨h1,h2,h3⟩
theorem KT.put(r:KT H aG xs)(k:List Key)(hb:H b=some (.tup (k.map kV)))(ry:RelV y u):
  KT H (putK aG k y) (storedH xs k b u):=by
 have e:(aG.any fun kv=>decide (kv.1=k))=(atKey xs k).isSome:=by
  rw[rh,(r.val k).yo,Option.isSome_map]
 unfold putK storedH;rw[e];by_cases q:(atKey xs k).isSome=true
 . rw[if_pos q,if_pos q];exact r.Ih k ry
 . rw[if_neg q,if_neg q];exact Paired.snoc r ⟨rfl,hb,ry⟩
theorem KT.keeps(r:KT H aG xs)(ht: ∀b ys,H b=some (.tup ys)->H' b=some (.tup ys)):KT H' aG xs:=
 Paired.IV r fun _ _ z=>⟨z.1,ht _ _ z.2.1,z.2.2⟩
theorem Gm(ok:gw P w H h)(e:Rd H a u):a9 P w H h a u:=e.ok ok
theorem Cd(ok:gw P w H h)(e:Rd H a (.dK aG)):aG.length<=sizeLine/\(a==sysModules)=false/\ ∃vs,KV aG vs/\h.DictOf (aY P w) a vs:=
 show a9 P w H h a (.dK aG) from Gm ok e
theorem Ce(ok:gw P w H h)(e:H a=some (.dK aG)):aG.length<=sizeLine/\(a==sysModules)=false/\ ∃vs,KV aG vs/\h.DictOf (aY P w) a vs:=Cd ok (.inl e)
theorem qe{ks:List Key}(ok:gw P w H h)(e:H a=some (.tup (ks.map kV))):(tupleKind (aY P w)).is h ks a:=by
 obtain⟨_,ao,r,o,h1,h2,_,n,h3⟩:=(show a9 P w H h a (.tup (ks.map kV)) from ok a _ e)
 exact⟨o,ao.toArray,n,h1,h2,h3,by simpa using oM r⟩
theorem Ca(ok:gw P w H h)(e:Rd H a (.dT aG)):aG.length<=sizeLine/\(a==sysModules)=false/\
  ∃xs,KT H aG xs/\h.DictOfH (tupleKind (aY P w)) a xs:=by
 obtain⟨z,y,xs,r,o,es,ep,h1,h2,h3,h4,h5⟩:=(show a9 P w H h a (.dT aG) from Gm ok e)
 refine⟨z,y,xs,r,o,es,ep,h1,h2,h3,h4,fun x hx=>?_,h5⟩;have all: ∀{l:List (List Key × V)} {m:List (List Key × Addr × Value)},KT H l m-> ∀x∈m,(tupleKind (aY P w)).is h x.1 x.2.1:=by
  intro l m q;induction q with
  | nil=>intro x hx;exact nomatch hx
  | @cons p q ps qs hq t ih=>
   intro x hx;rcases YU.mp hx with e | hx
   . subst e;exact qe ok (by rw[<-hq.1];exact hq.2.1)
   . exact ih x hx
 exact all r x hx
theorem sT(ok:gw P w H h)(e:H a=some (.dT aG)):aG.length<=sizeLine/\(a==sysModules)=false/\
  ∃xs,KT H aG xs/\h.DictOfH (tupleKind (aY P w)) a xs:=Ca ok (.inl e)
def kW(H:Hp)(a:Addr)(y:V)(r:Option V):Prop:=
 (∃aG k,Rd H a (.dK aG)/\y=kV k/\r=fM aG k)\/ ∃aG k b,Rd H a (.dT aG)/\y= .ref b/\H b=some (.tup (k.map kV))/\r=fM aG k
def kU(H:Hp)(a:Addr)(y v:V)(H':Hp):Prop:=
 (∃aG k,H a=some (.dK aG)/\y=kV k/\aG.length < sizeLine/\H'=upd H a (.dK (putK aG k v)))\/
 ∃aG k b,H a=some (.dT aG)/\y= .ref b/\H b=some (.tup (k.map kV))/\aG.length < sizeLine/\H'=upd H a (.dT (putK aG k v))
theorem kW.k{H:Hp}{a:Addr}{aG:List (Key × V)}{k:Key}(e:H a=some (.dK aG)):kW H a (kV k) (fM aG k):= .inl ⟨aG,k,.inl e,rfl,rfl⟩
theorem kW.t{k:List Key}(e:H a=some (.dT aG))(eb:H b=some (.tup (k.map kV))):kW H a (.ref b) (fM aG k):= .inr ⟨aG,k,b,.inl e,rfl,eb,rfl⟩
theorem kU.k{H:Hp}{a:Addr}{aG:List (Key × V)}{k:Key}(e:H a=some (.dK aG))(hl:aG.length < sizeLine):kU H a (kV k) v (upd H a (.dK (putK aG k v))):= .inl ⟨aG,k,e,rfl,hl,rfl⟩
theorem kU.t{k:List Key}(e:H a=some (.dT aG))(eb:H b=some (.tup (k.map kV)))(hl:aG.length < sizeLine):
  kU H a (.ref b) v (upd H a (.dT (putK aG k v))):= .inr ⟨aG,k,b,e,rfl,eb,hl,rfl⟩
theorem Inv.big(I:Inv X pins σ H s):sysModules < s.heap.objs.size:=by
 have h:mainGlobals < s.heap.objs.size:=(I.mod.glob.keeps I.bk).lt;exact Nat.lt_trans (by decide) h
theorem yK(hu:A.units+1 < cLine)(I:Inv X pins σ H s)(g:kW H a y (some v))(ry:RelV y u)(h: ∀w' s',Inv X pins σ H s'->RelV v w'->Q w' s'):
  wpAny (model X.prog X.w) A (getItem (.ref a) u) Q E s:=by
 rcases g with ⟨aG,k,e,ey,l⟩ | ⟨aG,k,b,e,ey,eb,l⟩
 . subst ey;obtain⟨z,hd,vs,rel,dd⟩:=Cd I.aT e;obtain⟨w',hw,Ah⟩:=nj.some_of (v:=v) (o:=valueAt vs k) (by rw[l];exact rel.val k);exact wpAny_getItem_of (sE ry) dd.mapOf hw (h w' _ (I.tok _) Ah)
 . subst ey;cases (show u=Value.ref b from ry);obtain⟨z,hd,xs,rel,dd⟩:=Ca I.aT e;obtain⟨w',hw,Ah⟩:=nj.some_of (v:=v) (o:=(atKey xs k).map (·.2)) (by rw[l];exact rel.val k);obtain⟨p,hp,VT⟩:=ab0.mp hw;refine wpAny_getItem_heap (tupleKind_room_in1 hu) (qe I.aT eb) dd hp ?_;rw[VT];exact h w' _ (I.tok _) Ah
theorem ie(I:Inv X pins σ H s)(mu:Oi (H a))(hs:Heap.SameBut a s.heap h')(he: ∃q,h'.get? a=some q)(new:a9 X.prog X.w (upd H a ob) h' a ob):
  Inv X pins σ (upd H a ob) {s with heap:=h',toks:=t'}:=
 I.write (x:=a) (e:=a) mu (.inl rfl) (fun b q hb z=>(hs.2 b hb).trans z) he new
theorem uP{h':Heap}{aG:List (Key × V)}(z:aG.length<=sizeLine)(hd:(a==sysModules)=false)(rel:KV aG vs)(dd:h'.DictOf (aY P w) a vs):
  a9 P w H' h' a (.dK aG):=⟨z,hd,vs,rel,dd⟩
theorem yJ(hu:A.units+1 < cLine)(I:Inv X pins σ H s)(g:kU H a y v H')(ry:RelV y u)(rv:RelV v r)(h: ∀s',Inv X pins σ H' s'->Q () s'):
  wpAny (model X.prog X.w) A (setItem (.ref a) u r) Q E s:=by
 rcases g with ⟨aG,k,e,ey,l,eH⟩ | ⟨aG,k,b,e,ey,eb,l,eH⟩
 . subst ey eH;obtain⟨z,hd,vs,rel,dd⟩:=Ce I.aT e;have hz:vs.length<=sizeLine:=by rw[<-rel.length];exact z
   have hl:(putK aG k v).length<=sizeLine:=by have:=cF aG k v;lia
   refine wpAny_setItem_pairs (hsz:=hz) (sE ry) dd fun h' zf hs=>h _ ?_;have he: ∃q,h'.get? a=some q:=let ⟨q,_,_,hq,_⟩:=zf;⟨q,hq⟩;exact ie I (by rw[e];exact True.intro) hs he (uP hl hd (rel.put k rv) zf)
 . subst ey eH;cases (show u=Value.ref b from ry);obtain⟨z,hd,xs,rel,dd⟩:=sT I.aT e;have hz:xs.length<=sizeLine:=by rw[<-Paired.length rel];exact z
   have hl:(putK aG k v).length<=sizeLine:=by have:=cF aG k v;lia
   refine wpAny_setItem_heap (hsz:=hz) (tupleKind_room_in1 hu) (qe I.aT eb) dd fun h' zf hs=>h _ ?_;obtain⟨q,es,ep,hq,h2,h3,h4,_,h5⟩:=zf;refine ie I (by rw[e];exact True.intro) hs ⟨q,hq⟩ ⟨hl,hd,_,(rel.put k eb rv).keeps fun c ys ec=>?_,q,es,ep,hq,h2,h3,h4,h5⟩;rw[ag (v7 ec e (fun z=>nomatch z))];exact ec
def Kr(i:Expr):Prop:= ∀ov iv,subscripted i false ov iv=operate [ov,iv] (getItem ov iv)
theorem DR{prog:Program}{w:World}{A:Around}{E:Value->Shared->Prop}{s:Shared}{env:Env}{value slice:Expr}{pos:Pos}{T id:String}(hl:typeLookup (.type T) "__getitem__"=pure (some (.builtin id)))(hs:Kr slice)(h:wpAny (model prog w) A (eval value env) (fun o s₁=>wpAny (model prog w) A (eval slice env) (fun i s₂=>s₂.TypeIs o T/\wpAny (model prog w) A (getItem o i) Q E s₂) E s₁) E s):
  wpAny (model prog w) A (eval (.Subscript value slice pos) env) Q E s:=by
 refine Subscript_ (Y2 h (fun o s₁ h₁=>Y2 h₁ (fun i s₂ h₂=>?_) fun _ _ x=>x) fun _ _ x=>x);obtain⟨hT,h₂⟩:=h₂;unfold subscriptTail;refine Yr ?_;rw[getitemInPython_of_ne hT.not_modules];refine Yr (wpAny_specialOf hT hl ?_);have fin:wpAny (model prog w) A (subscripted slice false o i) (fun r s₃=>wpAny (model prog w) A (letTemporaryGo value o r >>=fun _=>pure r) Q E s₃) E s₂:=by
  rw[hs o i];exact wpAny_operating (Y2 h₂ (fun r s₃ h₃=>Yr (wpAny_letTemporaryGo (Yv h₃))) fun _ _ x=>x)
 first
  | exact Yv (Yr fin)
  | exact Yr (Yv (Yr fin))
  | exact Yr fin
theorem sV(I:Inv X pins σ H s)(g:kW H a y o):s.TypeIs (.ref a) "dict":=by
 rcases g with ⟨aG,k,e,_,_⟩ | ⟨aG,k,b,e,_,_,_⟩
 . obtain⟨_,_,vs,_,dd⟩:=Cd I.aT e;exact dd.typeIs
 . obtain⟨_,_,xs,_,dd⟩:=Ca I.aT e;exact dd.typeIs
def LN(td ty:TE):TE:=fun σ H Q=>td σ H fun x H1=>ty σ H1 fun y H2=> ∃a v,x= .ref a/\kW H2 a y (some v)/\Q v H2
def LX(td ty tv:TE):TS:=fun D σ H=>tv σ H fun v H1=>td σ H1 fun x H2=>ty σ H2 fun y H3=> ∃a H4,x= .ref a/\kU H3 a y v H4/\D.nx σ H4
theorem i8(hu:X.A.units+1 < cLine)(ho:PE X o td)(hi:PE X i ty)(hs:Kr i):PE X (.Subscript o i pos) (LN td ty):=by
 intro pins s σ H Q I h;refine DR PySem.F.slot_dict_getitem.lookup hs (aV (ho pins s σ H _ I h) fun u s1 ⟨x,H1,I1,rx,q1⟩=>aV (hi pins s1 σ H1 _ I1 q1) fun iv s2 Pc=>?_);obtain⟨y,H2,I2,ry,a,v,ex,g,q2⟩:=Pc;subst ex;obtain rfl:u=Value.ref a:=rx;exact⟨sV I2 g,yK hu I2 g ry fun w' s3 I3 Ah=>⟨v,H2,I3,Ah,q2⟩⟩
theorem vT(hu:X.A.units+1 < cLine)(ho:PE X o td)(hi:PE X i ty)(hv:PE X value tv)(hs:swapsWith value (some (.Subscript o i pos')) pos.line X.env=pure false):
  PS X (.Assign [.Subscript o i pos'] value pos) (LX td ty tv):=by
 intro pins s σ H D I h;refine wpAny_Assign_Subscript (aV (hv pins s σ H _ I h) fun r s1 ⟨v,H1,I1,rv,q1⟩=>aV (ho pins s1 σ H1 _ I1 q1) fun u s2 ⟨x,H2,I2,rx,q2⟩=>aV (hi pins s2 σ H2 _ I2 q2) fun iv s3 Pb=>?_) hs;obtain⟨y,H3,I3,ry,a,H4,ex,g,q3⟩:=Pb;subst ex;obtain rfl:u=Value.ref a:=rx;exact yJ hu I3 g ry rv fun s4 I4=>⟨σ,H4,I4,q3⟩
theorem Cf(h:Heap)(hb:sysModules < h.objs.size):a9 P w H (h.push {cls:= .type "dict",data:= .dict #[]}) h.objs.size (.dK []):=
 ⟨Za _,ac8.mpr (Ne.symm (Zb hb)),[],.nil,Heap.DictOf.new h⟩
theorem jy(h:Heap)(hb:sysModules < h.objs.size):a9 P w H (h.push {cls:= .type "dict",data:= .dict #[]}) h.objs.size (.dT []):=
 ⟨Za _,ac8.mpr (Ne.symm (Zb hb)),[],.nil,_,#[],0,YI _ rfl,⟨rfl,rfl,rfl⟩,rfl,rfl,ab5⟩
def HI:TE:=fun _ H Q=> ∀p,H p=none->Q (.ref p) (upd H p (.dT []))
theorem AM:PE X (.Dict [] [] pos) HI:=fun pins s σ H Q I h=>
 wpAny_Dict_empty ⟨.ref s.heap.objs.size,_,I.laid (a:=s.heap.objs.size) (o:= .dT []) (t':=s.toks) (fun _ _ q=>Yu _ q) (Yx _) (jy s.heap I.big),rfl,h _ (I.aT.fresh (Yx _))⟩
def tX:List (TE × TE)->St->Hp->(List (V × V)->Hp->Prop)->Prop
 | [],_,H,Q=>Q [] H
 | (tk,tv)::r,σ,H,Q=>tk σ H fun x H1=>tv σ H1 fun y H2=>tX r σ H2 fun ps H3=>Q ((x,y)::ps) H3
abbrev VV:List (V × V)->List (Value × Value)->Prop:=Paired fun p q=>RelV p.1 q.1/\RelV p.2 q.2
def O6(X:Cx)(pos:Pos)(keys:List (Option Expr))(values:List Expr)(Hz:List (TE × TE)):Prop:=
 ∀(pins:List (Addr × Obj)) (s:Shared) (σ:St) (H:Hp) (Q:List (V × V)->Hp->Prop),Inv X pins σ H s->tX Hz σ H Q->
  wpAny (model X.prog X.w) X.A (evalPairs (pairTrees keys values X.env pos)) (fun vs s'=> ∃ps H',Inv X pins σ H' s'/\VV ps vs/\Q ps H') X.xe s
theorem Ec:O6 X pos [] [] []:=fun pins s σ H Q I h=>pairTrees_nil_walk ⟨[],H,I,.nil,h⟩
theorem rV(hk:PE X k tk)(hv:PE X v tv)(hr:O6 X pos ks vs Hz):
  O6 X pos (some k::ks) (v::vs) ((tk,tv)::Hz):=fun pins s σ H Q I h=>
 pairTrees_cons_walk (aV (hk pins s σ H _ I h) fun u s1 Lj=>(by obtain⟨x,H1,I1,rx,q1⟩:=Lj;exact(aV (hv pins s1 σ H1 _ I1 q1) fun w2 s2 Li=>(by obtain⟨y,H2,I2,ry,q2⟩:=Li;exact(
  aV (hr pins s2 σ H2 _ I2 q2) fun ws s3 Lh=>(by obtain⟨ps,H3,I3,rel,q3⟩:=Lh;exact(⟨(x,y)::ps,H3,I3,.cons ⟨rx,ry⟩ rel,q3⟩)))))))
noncomputable def iJ(aG more:List (Key × V)):List (Key × V):=more.foldl (fun acc kv=>putK acc kv.1 kv.2) aG
theorem KV.merge: ∀{more:List (Key × V)} {rs:List (Key × Value)} {aG:List (Key × V)} {vs:List (Key × Value)},KV more rs->KV aG vs->KV (iJ aG more) (merged vs rs):=by
 intro more rs aG vs r;unfold KV at r;induction r generalizing aG vs with
 | nil=>intro q;exact q
 | @cons p q ps qs h t ih=>
  intro r0;have e:KV (putK aG p.1 p.2) (stored vs q.1 q.2):=by
   have:=r0.put p.1 h.2;rw[<-h.1];exact this
  exact ih e
theorem iu: ∀(more aG:List (Key × V)),(iJ aG more).length<=aG.length+more.length
 | [],aG=>by show aG.length<=aG.length+0;lia
 | p::r,aG=>by
  have h1:=iu r (putK aG p.1 p.2);have h2:=cF aG p.1 p.2;show(iJ (putK aG p.1 p.2) r).length<=_;rw[YS];lia
theorem mZ: ∀{aG:List (Key × V)} {ws:List (Value × Value)},VV (aG.map fun kv=>(kV kv.1,kv.2)) ws-> ∃rs,Carries (aY P w) ws rs/\KV aG rs
 | [],_,r=>by rw[List.map_nil] at r;cases r;exact⟨[],True.intro,.nil⟩
 | p::aG,_,r=>by
  rw[YV] at r;cases r with
  | @cons a b as bs h t=>
   obtain⟨rs,c,q⟩:=mZ (P:=P) (w:=w) t;obtain⟨b1,b2⟩:=b;exact⟨(p.1,b2)::rs,⟨sE h.1,rfl,c⟩,.cons ⟨rfl,h.2⟩ q⟩
def Gh(Hz:List (TE × TE)):TE:=fun σ H Q=> ∀p,H p=none->tX Hz σ (upd H p (.dK [])) fun ps H2=>H2 p=some (.dK [])/\ ∃aG:List (Key × V),ps=aG.map (fun kv=>(kV kv.1,kv.2))/\aG.length<=15/\Q (.ref p) (upd H2 p (.dK (iJ [] aG)))
theorem Ej(h:O6 X pos keys values Hz)(JC:keys.all (·.isSome)=true)(hl:keys.length=values.length)(h0:keys≠ [])(WJ:keys.length<=15):PE X (.Dict keys values pos) (Gh Hz):=by
 intro pins s σ H Q I q;have hn:=I.aT.fresh (Yx s.heap.objs.size);have I1:=I.laid (a:=s.heap.objs.size) (o:= .dK []) (h':=s.heap.push {cls:= .type "dict",data:= .dict #[]}) (t':=s.toks) (fun _ _ q=>Yu _ q) (Yx _) (Cf s.heap I.big);refine wpAny_Dict_walk (knd:=aY X.prog X.w) JC hl h0 WJ (aV (h pins _ σ _ _ I1 (q _ hn)) fun ws s2 Lg=>?_);obtain⟨ps,H2,I2,rel,e,aG,ep,lk,q2⟩:=Lg;subst ep;obtain⟨rs,c,rk⟩:=mZ (P:=X.prog) (w:=X.w) rel;obtain⟨z,hd,U0,r0,dd⟩:=Ce I2.aT e;cases r0;refine⟨rs,c,dd,fun h' zf hs=>⟨.ref s.heap.objs.size,_,?_,rfl,q2⟩⟩;have hz:(iJ [] aG).length<=sizeLine:=by
  have h1:=iu aG [];rw[af3] at h1;rw[ZR];lia
 have he: ∃q,h'.get? s.heap.objs.size=some q:=let ⟨q,_,_,hq,_⟩:=zf;⟨q,hq⟩;exact ie I2 (by rw[e];exact True.intro) hs he (uP hz hd (rk.merge .nil) zf)
end L2
namespace UD
open PySem PySem.W PySem.Calls PyProof.Rows
theorem kK: ∀(ns:List Int) (vs:List Value),WellAll P h vs (ns.map WData.int)->IntsAre vs ns:=by
 intro ns;induction ns with
 | nil=>
  intro vs w;rw[List.map_nil] at w;cases w;exact .nil
 | cons n ns ih=>
  intro vs w;rw[YV] at w;cases w with
  | cons a b=>
   cases a;exact .cons _ _ (ih _ b)
theorem xO{l:OpenLaw}(hn:l.most=some n)(EU:l.row.toRowW.claim.pre args=true)(QV:WellAll P h vals args):
  ∃a vs ns,vals= [Value.ref a]/\args= [WData.list (ns.map WData.int)]/\h.get? a=some {cls:= .type "list",data:= .seq vs.toArray}/\IntsAre vs ns/\ns.length<=n:=by
 have VO:WShape.hasAll [] args [.list .int]=true:=(pre_splitW EU).1;have hc:l.pre.holds [] {args:=args}=true:=(pre_splitW EU).2;obtain⟨d,r,rfl,h1,h2⟩:=hasAllW_cons VO;obtain rfl:=hasAllW_nil h2;obtain⟨xs,rfl,h3⟩:=hasW_list h1;obtain⟨ns,rfl⟩:=items_int h3;have hlen:ns.length<=n:=by
  unfold OpenLaw.pre at hc;have h4:(WTm.not (.lt (.lit (.int (n:Int))) (.len (.arg 0)))).holds [] {args:= [.list (ns.map .int)]}=true:=by
   have h4:=(holds_andW hc).1;rw[hn] at h4;exact h4
  have h5:=condW_of h4 (w_not (w_lt w_lit (w_len_list (w_arg rfl))));rw[Yt] at h5;refine Nat.le_of_not_lt fun q=>?_;have q':(n:Int) < ((ns.length:Nat):Int):=by lia
  first
   | (rw[Zf q'] at h5;exact absurd h5 (by decide))
   | (simp at h5;lia)
 cases QV with
 | cons w1 w2=>
  cases w2;cases w1 with
  | list ho JC=>exact⟨_,_,ns,rfl,rfl,ho,kK ns _ JC,hlen⟩
theorem xR(l:OpenLaw)(args:List WData):l.row.toRowW.claim.post args (.bool true) args=true:=
 postW_of (r:=l.row.toRowW) (X:=(true==true))
  (show WShape.has [] (.bool true) .bool=true by first | rfl | decide | simp [WShape.has,WShape.arms,WShape.armsAll])
  (show(WTm.eq .res (.lit (.bool true))).value [] {args:=args,res:=some (.bool true),after:=args}=some (.bool (true==true)) from w_eq_bool (w_res rfl) w_lit) rfl
theorem tx {l : OpenLaw} {d : DefRec} (hn : l.most = some n) (Nb : d.params.defaults = []) (call : ∀ (w : World) (s₀ s₁ : Shared) (mg mb : Str -> Option Value) (fa : Addr) (o : Obj) (pm cd doc : Value) (a : Addr) (vs : List Value) (ns : List Int),
   Ground q loose [] XP w s₀ mg mb s₁.heap->YP w s₁.heap->
   s₁.heap.get? fa=some o->o.data= .func (docDef d.name d.params d.body d.scope pm cd doc)->s₁.heap.CodeRec cd d.name->mg d.name=some (.ref fa)->
   s₁.heap.get? a=some {cls:= .type "list",data:= .seq vs.toArray}->IntsAre vs ns->ns.length<=n->s₁.gens= #[]->
   codeAny (model l.prog w) callerA (.call (.ref fa) ⟨[.ref a],[]⟩) (fun r s'=>r= .ok (.ret (.bool true))/\OldK s₁.heap s'.heap/\s'.os=s₁.os/\AllBare s'.gens) s₁):
  WalkO q loose XP YP l.row.toRowW d [] (fun f vs=>PySem.call f vs):=by
 intro w s₀ s₁ mg mb G Y fa o pm cd doc dV kV ho hd sJ hD MW hg args vals as EU V0 XJ QV Rg;obtain rfl:dV= .none:=Dflts.none hD Nb;obtain rfl:kV= .none:=Dflts.noKw hD;obtain⟨a,vs,ns,rfl,rfl,Js,hints,hlen⟩:=xO hn EU QV;refine enter_call (ag5 (call w s₀ s₁ mg mb fa o pm cd doc a vs ns G Y ho (fd_plain hd) sJ MW Js hints hlen hg) fun r s' hq=>?_);obtain⟨rfl,h2,h3,h4⟩:=hq;exact⟨.inl ⟨.bool true,.bool true,[],rfl,fun _=>rfl,.bool true,xR l _,fun _=>⟨List.Pairwise.nil,fun _ hm=>(nomatch hm)⟩⟩,h2,h3,h4⟩
end UD
namespace L2
open PySem PySem.Spec PyProof.Rows
theorem n9: ∀{vs:List Value} {ns:List Int},IntsAre vs ns->Vals (ns.map V.int) vs
 | _,_,.nil=> .nil
 | _,_,.cons n t h=> .cons ⟨t,rfl⟩ (n9 h)
def Ko(H:Hp):Prop:= ∀b,H b=none\/(∃o xs,H b=some (.lB o (.lst xs)))\/ ∃ps,H b=some (.tV ps)
noncomputable def bj(K:PySem.W.Frag)(b:Addr):Option Str:=bb.find? fun x=>decide ((PySem.W.tabIn K x).map (·.2)=some b)
noncomputable def pD(K:PySem.W.Frag)(H:Hp):Hp:=fun b=>match bj K b with
 | some x=>some (.tV #[.str (gU x) 0])
 | none=>H b
theorem HE{K:PySem.W.Frag}(e:bj K b=some x):pD K H b=some (.tV #[.str (gU x) 0]):=by unfold pD;rw[e]
theorem HD{K:PySem.W.Frag}(e:bj K b=none):pD K H b=H b:=by unfold pD;rw[e]
theorem Bk{K:PySem.W.Frag}{s₁:Shared}{vs:List Value}(KX:K.In s₁.heap)(Di:s₁.heap.Ns mainGlobals mg)(hb:s₁.heap.Ns builtinsNs mb)(Rr: ∀x:Str,x≠"__name__"->mb x=bootBuiltins x)(Rh:s₁.heap.NoLimit)(hg:s₁.gens= #[])(ha:s₁.heap.get? a=some {cls:= .type "list",data:= .seq vs.toArray})(hi:IntsAre vs ns)(hl:ns.length<=sizeLine)(hr:bM k callerA)(F: ∀base:Heap,K.In base->base.Ns mainGlobals mg->bp P w K mg base CX k fa fd [x] sp)(Nf: ∀(s:Shared) (u:Value),BindsTo s fd ⟨[u],[]⟩ [(x,u)])(GG: ∀H:Hp,Ko H->cY K H a (ns.map V.int)->sp [.ref a] H (fun v _=>v= .bl true) fun _ _ _=>False)(WH: ∃bm ob,mg "__builtins__"=some (.ref bm)/\bm≠builtinsNs/\s₁.heap.get? bm=some ob/\ob.cls= .type "module"/\ob.dict=some builtinsNs/\ob.data= .plain)(Nj:PySem.W.noTabs K=true)(Ni: ∀x∈bb,∃c P,PySem.W.tabIn K x=some (c,P)/\PySem.W.CodeHd s₁.heap c P/\s₁.heap.get? P=some (PySem.W.tabObj #[]))(Rw: ∀x∈bb,∀y∈bb,∀c c' P,PySem.W.tabIn K x=some (c,P)->PySem.W.tabIn K y=some (c',P)->x=y)(RC: ∀H e s',CX [] H s₁ (fun _ _ _=>False) e s'->False):
  codeAny (model P w) callerA (.call (.ref fa) ⟨[.ref a],[]⟩) (fun r s'=>r= .ok (.ret (.bool true))/\OldK s₁.heap s'.heap/\s'.os=s₁.os/\AllBare s'.gens) s₁:=by
 have rv:=n9 hi;have QF:=hi.length;have core: ∀H:Hp,Ko H->cY K H a (ns.map V.int)->gw P w H s₁.heap->(∀b,H b≠none->b=a\/ ∃c,PySem.W.CodeHd s₁.heap c b/\s₁.heap.get? b=some (PySem.W.tabObj #[]))->(H a≠none->K.lookup a=none)->g9 K H->
   codeAny (model P w) callerA (.call (.ref fa) ⟨[.ref a],[]⟩) (fun r s'=>r= .ok (.ret (.bool true))/\OldK s₁.heap s'.heap/\s'.os=s₁.os/\AllBare s'.gens) s₁:=by
  intro H hO hS aT hA hK Ff;have qH: ∀{b:Addr} {o:Obj},s₁.heap.get? b=some o->H b=none->(qj s₁.heap H).get? b=some o:=fun e n=>Bz e n;have Mt: ∀{b:Addr} {o:Obj} {es:Array DictEntry} {ep:Nat},s₁.heap.get? b=some o->o.data= .dict es ep->H b=none:=fun{b o es ep} e d=>by
   cases q:H b with
   | none=>rfl
   | some u=>
    rcases hA b (by rw[q];simp) with e' | ⟨_,_,e'⟩
    . subst e';rw[ha] at e;cases e;have d':Data.seq vs.toArray _=Data.dict es ep:=d;cases d'
    . rw[e'] at e;cases e;have d':Data.fields #[]=Data.dict es ep:=d;cases d'
  have OL: ∀{b:Addr} {m:Str->Option Value},s₁.heap.Ns b m->(qj s₁.heap H).Ns b m:=fun{b m} Lf=>(by obtain⟨o,es,ep,e,d,r⟩:=Lf;exact(⟨o,es,ep,qH e (Mt e d),d,r⟩))
  have TX:K.In (qj s₁.heap H):=fun b o e=>qH (KX b o e) (by
   cases q:H b with
   | none=>rfl
   | some u=>
    rcases hA b (by rw[q];simp) with e' | ⟨_,_,e'⟩
    . subst e';rw[hK (by rw[q];simp)] at e;cases e
    . have e2:=KX b o e;rw[e'] at e2;cases e2;have h2:=ab4.mp Nj (b,_) (PySem.W.mem_of_lookupK e);exact absurd (show false=true from h2) YJ)
  have hM:Mod K mg (qj s₁.heap H):=⟨TX,OL Di,⟨mb,OL hb,Rr⟩,let ⟨mc,h1,h2⟩:=Rh;⟨mc,OL h1,h2⟩,by
   obtain⟨bm,ob,e1,e2,e3,e4,e5,e6⟩:=WH;refine⟨bm,ob,e1,e2,qH e3 ?_,e4,e5,e6⟩;cases q:H bm with
   | none=>rfl
   | some u=>
    rcases hA bm (by rw[q];simp) with e' | ⟨_,_,e'⟩
    . rw[e',ha] at e3;cases e3;have z:Value.type "list"=Value.type "module":=e4;injection z with z;exact absurd z (by decide)
    . rw[e'] at e3;cases e3;cases e4⟩
  have e0:F8 P w K mg (qj s₁.heap H) callerA [] s₁ H:=⟨rfl,hM,fun b o e=>EB e,ag7 (yt _ _),trivial,fun b hb=>absurd (show b∈([]:List Addr) from hb) (by simp),aT,.of_eq hg,Ff⟩
  refine ag5 ((F _ TX (OL Di)).run callerA [] s₁ H ⟨[.ref a],[]⟩ [.ref a] [.ref a] _ _ hr e0 (Nf s₁ (.ref a)) (.cons rfl .nil) (GG H hO hS)) fun r s' h=>?_;cases r with
  | error e=>exact(RC H e s' h).elim
  | ok fl=>
   cases fl with
   | next=>exact False.elim h
   | brk=>exact False.elim h
   | cont=>exact False.elim h
   | ret u=>
    obtain⟨v,H',os,bare,un,MU,r',q⟩:=h;have q':v= .bl true:=q;subst q';obtain rfl:u=Value.bool true:=r';refine⟨rfl,⟨fun b o e=>?_,fun b o e=>un.there b o e (by simp)⟩,os,bare⟩;cases q:H b with
    | none=>exact .inl <| un.keep b o e q (by intro z;exact absurd (show b∈([]:List Addr) from z) (by simp)) (by simp)
    | some u=>
     rcases hO b with z | ⟨ob,xs,z⟩ | ⟨ps,z⟩
     . rw[q] at z;cases z
     . refine .inl ?_;have z2:=un.nJ b ob _ z;obtain⟨e1,_⟩:=aT b _ z;obtain⟨e2,_⟩:=MU b _ z2;rw[e] at e1;cases e1;exact e2
     . obtain⟨more,z2⟩:=un.nE b ps z;obtain⟨es,e2,_⟩:=MU b _ z2;rcases hA b (by rw[q];simp) with e' | ⟨c,hc,e'⟩
       . subst e';obtain⟨GQ,e3,_⟩:=aT b _ z;rw[ha] at e3;cases e3
       . rw[e'] at e;cases e;exact .inr (.inl ⟨(hc.tab e').isCodeTable,rfl,#[],es,rfl,by rw[e2];simp⟩)
 have Lw: ∀{b:Addr} {x:Str} {c P:Addr},x∈bb->PySem.W.tabIn K x=some (c,P)->s₁.heap.get? P=some (PySem.W.tabObj #[])/\PySem.W.CodeHd s₁.heap c P:=fun{b x c P} hx e=>by
  obtain⟨c',P',e1,e2,e3⟩:=Ni x hx;rw[e] at e1;cases e1;exact⟨e3,e2⟩
 have wa: ∀{b x},bj K b=some x->x∈bb/\ ∃c,PySem.W.tabIn K x=some (c,b):=fun{b x} e=>by
  refine⟨List.mem_of_find?_eq_some e,?_⟩;have q:=Ze (List.find?_some (p:=fun x=>decide ((PySem.W.tabIn K x).map (·.2)=some b)) e);obtain⟨⟨c,P⟩,e1,e2⟩:=ab0.mp q;have e2:P=b:=e2;subst e2;exact⟨c,e1⟩
 have Ez: ∀{x c P},x∈bb->PySem.W.tabIn K x=some (c,P)->bj K P=some x:=fun{x c P} hx e=>by
  cases q:bj K P with
  | none=>
   have:=List.find?_eq_none.mp q x hx;exact absurd (by rw[e];exact Zf rfl) this
  | some y=>
   obtain⟨hy,c',e'⟩:=wa q;rw[Rw y hy x hx c' c P e' e]
 have CW: ∀{b x} (H:Hp),bj K b=some x->pD K H b=some (.tV #[.str (gU x) 0]):=fun{b x} H e=>HE e;have qM: ∀{b} (H:Hp),bj K b=none->pD K H b=H b:=fun{b} H e=>HD e;have Uu: ∀H,g9 K (pD K H):=fun H x hx c P e=>⟨_,CW _ (Ez hx e),rfl⟩
 have vB: ∀{b x},bj K b=some x-> ∃c,PySem.W.CodeHd s₁.heap c b/\s₁.heap.get? b=some (PySem.W.tabObj #[]):=fun{b x} e=>by
  obtain⟨hx,c,e1⟩:=wa e;obtain⟨e2,e3⟩:=Lw (b:=b) hx e1;exact⟨c,e3,e2⟩
 have Bi:bj K a=none:=by
  cases q:bj K a with
  | none=>rfl
  | some x=>
   obtain⟨c,_,e⟩:=vB q;rw[ha] at e;cases e
 have Gf: ∀{H b x},bj K b=some x->a9 P w H s₁.heap b (.tV #[.str (gU x) 0]):=fun{H b x} e=>by
  obtain⟨c,_,e1⟩:=vB e;exact⟨#[],e1,trivial,fun pos cv z=>nomatch z⟩
 cases hk:K.lookup a with
 | some o=>
  have e:=KX a o hk;rw[ha] at e;cases e;refine core (pD K fun _=>none) (fun b=>?_) (.inr ⟨_,vs.toArray,_,hk,rfl,rfl,rfl,by rw[YG,QF];exact hl,by simpa using rv⟩) (fun b u z=>?_) (fun b z=>?_) (fun z=>absurd (qM (fun _=>none) Bi) z) (Uu _)
  . cases q:bj K b with
    | none=>exact .inl (qM _ q)
    | some x=>exact .inr (.inr ⟨_,CW _ q⟩)
  . cases q:bj K b with
    | none=>
     rw[qM _ q] at z;cases z
    | some x=>
     rw[CW _ q] at z;cases z;exact Gf q
  . cases q:bj K b with
    | none=>exact absurd (qM (fun _=>none) q) z
    | some x=>exact .inr (vB q)
 | none=>
  refine core (pD K fun b=>if b=a then some (.lB {cls:= .type "list",data:= .seq vs.toArray} (.lst (ns.map V.int))) else none) (fun b=>?_) (.inl (.inr ⟨{cls:= .type "list",data:= .seq vs.toArray},(qM _ Bi).trans (if_pos rfl)⟩)) (fun b u z=>?_) (fun b z=>?_) (fun _=>hk) (Uu _)
  . cases q:bj K b with
    | none=>
     by_cases hb:b=a
     . exact .inr (.inl ⟨_,_,(qM _ q).trans (if_pos hb)⟩)
     . exact .inl ((qM _ q).trans (if_neg hb))
    | some x=>exact .inr (.inr ⟨_,CW _ q⟩)
  . cases q:bj K b with
    | none=>
     rw[qM _ q] at z;by_cases hb:b=a
     . have z':=(if_pos hb).symm.trans z;cases z';subst hb;exact⟨ha,by rw[Yt];exact hl,vs,_,rv,ha⟩
     . have z':=(if_neg hb).symm.trans z;cases z'
    | some x=>
     rw[CW _ q] at z;cases z;exact Gf q
  . cases q:bj K b with
    | none=>
     by_cases hb:b=a
     . exact .inl hb
     . exact absurd ((qM _ q).trans (if_neg hb)) z
    | some x=>exact .inr (vB q)
theorem DH {l : PySem.W.OpenLaw} {n k : Nat} {q : Program} {loose : List Str} {XP : (Str -> Option Value) -> Heap -> Prop} {YP : World -> Heap -> Prop} {d : DefRec} {K : Params -> PySem.W.Frag} {CX : World -> Hb} {sp : World -> Sp} (hn : l.most = some n) (OS : n <= sizeLine) (Nb : d.params.defaults = []) (hr : bM k callerA) (hY : ∀ (w : World) (h : Heap), YP w h -> (K w.params).In h) (F : ∀ (w : World) (mg : Str -> Option Value) (fa : Addr) (h : Heap), (K w.params).In h -> h.Ns mainGlobals mg -> mg d.name = some (.ref fa) ->
   ∃fd:FuncData,(∀(s:Shared) (u:Value),BindsTo s fd ⟨[u],[]⟩ [(x,u)])/\
    ∀base:Heap,(K w.params).In base->base.Ns mainGlobals mg->bp l.prog w (K w.params) mg base (CX w) k fa fd [x] (sp w)) (GG: ∀(w:World) (H:Hp) (a:Addr) (ns:List Int),ns.length<=n->Ko H->cY (K w.params) H a (ns.map V.int)->sp w [.ref a] H (fun v _=>v= .bl true) fun _ _ _=>False) (RC: ∀(w:World) (H:Hp) (s:Shared) (e:Value) (s':Shared),CX w [] H s (fun _ _ _=>False) e s'->False) (Nj: ∀w:World,PySem.W.noTabs (K w.params)=true) (Ni: ∀(w:World),∀x∈bb,∃d c P,(recsOf q).find? (fun e=>e.name==x)=some d/\PySem.W.tabIn (K w.params) x=some (c,P)) (Rw: ∀(w:World),∀x∈bb,∀y∈bb,∀c c' P,PySem.W.tabIn (K w.params) x=some (c,P)->PySem.W.tabIn (K w.params) y=some (c',P)->x=y):
  PySem.W.WalkO q loose XP YP l.row.toRowW d [] (fun f vs=>PySem.call f vs):=by
 refine UD.tx hn Nb fun w s₀ s₁ mg mb fa o pm cd doc a vs ns G Y ho hd sJ MW Js hints hlen hg=>?_;have KX:=hY w _ Y;obtain⟨fd,hb,hF⟩:=F w mg fa _ KX G.T.g MW;exact Bk KX G.T.g G.T.b G.T.builtins G.T.nolimit hg Js hints (YT hlen OS) hr hF hb (fun H hO hS=>GG w H a ns hlen hO hS) G.T.bmain (Nj w) (fun x hx=>by
  obtain⟨dx,c,P,e1,e2⟩:=Ni w x hx;obtain⟨e3,e4⟩:=PySem.W.tab_of G.T KX e1 e2;exact⟨c,P,e2,e3,e4⟩) (Rw w) fun H e s'=>RC w H s₁ e s'
noncomputable def fU(s:Stmt):Arguments:=match s with
 | .FunctionDef _ a _ _ _ _ _ _ _ _=>a
 | _=>{posonlyargs:= [],args:= [],vararg:=none,kwonlyargs:= [],kw_defaults:= [],kwarg:=none,defaults:= []}
noncomputable def cc(s:Stmt):List Stmt:=match s with
 | .FunctionDef _ _ b _ _ _ _ _ _ _=>b
 | _=> []
noncomputable def ae(s:Stmt):Scope:=match s with
 | .FunctionDef _ _ _ _ _ _ sc _ _ _=>sc
 | _=>{kind:= .function,names:= [],isGenerator:=false,isCoroutine:=false}
abbrev eM:Hb:=fun _ _ _ _ _ _=>False
abbrev E0:XK:=fun _ _ _=>False
theorem Gp:Passes eM X E0:=fun _ _ _ _ _ _ _ h=>h.elim
structure ip(K:PySem.W.Frag)(x qual:Str)(st:Stmt)(f:Addr)(fd:FuncData):Prop where
 ex: ∃(oc:Value) (od:Option Addr) (kV doc pm:Value) (an:Option Addr) (bZ ct:Value) (y9:Array (Option Value)),
  fd=PySem.W.fnOf x qual (fU st) (cc st) (ae st) .none kV doc pm an bZ ct/\K.lookup f=some ⟨oc,od,.func fd,y9⟩/\PySem.W.codeIn K bZ qual=true
 kp:PySem.W.keepIn K (.ref f)=true
section
variable{P:Program}{w:World}{K:PySem.W.Frag}{mg:Str->Option Value}{base:Heap}
theorem ip.ok {x qual : Str} {st : Stmt} {k : Nat} (F : ip K x qual st f fd) (S : aM N ps (ae st)) (len : ∀ vs H Q E, sp vs H Q E -> vs.length = ps.length) (fG : ∀ (bZ : Value) (A : Around) (outer : List Env) (s : Shared) (H : Hp) (vs : List V) (Q : VK) (E : XK), bM k (A.deeper (envOfC qual (ae st) s.heap.objs.size f bZ)) -> sp vs H Q E ->
   ∃t,qQ (kN eM P w K mg base N qual (ae st) f bZ A outer s H E).Bb (cc st) t/\t {nx:=fun _ H'=>Q .aI H',rt:=Q} (start N vs) H):bp P w K mg base eM (k+1) f fd ps sp:=by
 obtain⟨oc,od,kV,doc,pm,an,bZ,ct,y9,rfl,lk,sJ⟩:=F.ex;refine GL lk sJ S len fun A outer s H vs Q E hr GG=>?_;obtain⟨t,h,q⟩:=fG bZ A outer s H vs Q E hr GG;exact⟨t,h.Bb,q⟩
theorem JH{x qual:Str}{st:Stmt}{f:Addr}{oc:Value}{od an:Option Addr}{y9:Array (Option Value)}{kV doc pm bZ ct:Value}(l:K.lookup f=some ⟨oc,od, .func (PySem.W.fnOf x qual (fU st) (cc st) (ae st) .none kV doc pm an bZ ct),y9⟩)
  (c:PySem.W.codeIn K bZ qual=true) (k:PySem.W.keepIn K (.ref f)=true):ip K x qual st f (PySem.W.fnOf x qual (fU st) (cc st) (ae st) .none kV doc pm an bZ ct):=⟨⟨oc,od,kV,doc,pm,an,bZ,ct,y9,rfl,l,c⟩,k⟩
end
theorem cw(hr:bM k A):A.units+1 < cLine:=af6 (Nat.add_le_add_left (by decide:1<=64) _) hr.units
theorem pv(i:Nat)(hN:X.N[i]?=some x:=by rfl)(hv:O4 X.env.scope x:=by first | exact Or.inl rfl | exact Or.inr (Or.inl rfl) | exact Or.inr (Or.inr rfl))(hd:(x==("__debug__":Str))=false:=by decide)(sJ:(x==("__classdict__":Str))=false:=by decide):PE X (.Name x pos) (gG i):=AH hN hv hd sJ
theorem bF{A B:Prop}(h:B):if false=true then A else B:=by
 rw[if_neg YJ];exact h
theorem dD{A B:Prop}(h:A):if true=true then A else B:=by
 rw[if_pos rfl];exact h
theorem QK{c A B:Prop} [Decidable c](h1:c->A)(h2: ¬c->B):if c then A else B:=by
 by_cases h:c
 . rw[if_pos h];exact h1 h
 . rw[if_neg h];exact h2 h
def aC(H H':Hp):Prop:= ∀b o,H b=some o->H' b=some o
theorem aC.refl(H:Hp):aC H H:=fun _ _ h=>h
noncomputable def m5(scope:Scope)(cl:List (Str × Addr))(C:Addr)(env:Env):Env:=
 {scope:=relabel scope env,locals:=C,globals:=env.globals,cells:=cellsFrom (C+1) scope.names cl,qual:=env.qual,func:=none,code:=env.code,frame:=env.frame,builtins:=env.builtins}
noncomputable def dA(X:Cx)(N:List Str)(scope:Scope)(s:Shared)(H:Hp)(cl:List (Str × Addr))(C:Addr)(ex:List Addr):Cx:=
 {X with N:=N,s₀:=s,H₀:=H,env:=m5 scope cl C X.env,outer:=X.stack,ex:=ex,fn:=fun x=>decide (scope.names.lookup x=some .cell),pn:= [],xe:=fun _ _=>False}
theorem bg: ∀(names:List (Str × NameKind)) (n:Nat) (acc:List (Str × Addr)),cellsFrom n names acc=cellsFrom n names []++acc
 | [],_,_=>rfl
 | (name,kind)::r,n,acc=>by
  unfold cellsFrom;split
  . rw[bg r (n+1) ((name,n)::acc),bg r (n+1) [(name,n)],Zg];rfl
  . exact bg r n acc
theorem fB: ∀(names:List (Str × NameKind)) (n:Nat) {x:Str} {c:Addr},(x,c)∈cellsFrom n names []->(x,NameKind.cell)∈names
 | [],_,_,_,h=>by simp [cellsFrom] at h
 | (name,kind)::r,n,x,c,h=>by
  unfold cellsFrom at h;split at h
  . rename_i hk;rw[bg] at h;rcases Zi.mp h with q | q
    . exact YQ _ (fB r _ q)
    . have e:(x,c)=(name,n):=by simpa using q
      cases e;have:kind= .cell:=by simpa using hk
      subst this;exact YN
  . exact YQ _ (fB r _ h)
theorem fw{α:Type}: ∀{l:List (Str × α)} {x:Str} {v:α},(l.map (·.1)).Nodup->(x,v)∈l->l.lookup x=some v
 | (k,w)::r,x,v,nd,h=>by
  rw[YV] at nd;obtain⟨h1,h2⟩:=ad6.mp nd;rw[Zm];rcases YU.mp h with e | h'
  . cases e;simp
  . have Dj : (x == k) = false := by
      rw[ac8];intro e;exact h1 (e▸YE.mpr ⟨(x,v),h',rfl⟩)
    rw[Dj];exact fw h2 h'
theorem gT{env:Env}: ∀{names:List (Str × NameKind)} {x:Str} {k:NameKind},
  (names.map fun(n,k)=>if (k==NameKind.free && env.scope.kind== .function && env.kindOf n==some .cell) then(n,NameKind.cell) else(n,k)).lookup x=some k->
  names.lookup x=some k\/(k= .cell/\names.lookup x=some .free)
 | [],_,_,h=>by simp at h
 | (n,k0)::r,x,k,h=>by
  have ih:= @gT env r x k;rw[YV] at h;cases hx:x==n with
  | true=>
   by_cases hc:(k0==NameKind.free && env.scope.kind== .function && env.kindOf n==some .cell)=true
   . dsimp only at h;rw[if_pos hc,Zm,hx] at h;cases h;right;refine⟨rfl,?_⟩;rw[Zm,hx];simp only [ae7] at hc;have:k0= .free:=by simpa using hc.1.1
     rw[this]
   . dsimp only at h;rw[if_neg hc,Zm,hx] at h;left;rw[Zm,hx];exact h
  | false=>
   have h':(r.map fun(n,k)=>if (k==NameKind.free && env.scope.kind== .function && env.kindOf n==some .cell) then(n,NameKind.cell) else(n,k)).lookup x=some k:=by
    by_cases hc:(k0==NameKind.free && env.scope.kind== .function && env.kindOf n==some .cell)=true
    . dsimp only at h;rw[if_pos hc,Zm,hx] at h;exact h
    . dsimp only at h;rw[if_neg hc,Zm,hx] at h;exact h
   rw[Zm,hx];exact ih h'
theorem dG{env:Env}: ∀{names:List (Str × NameKind)} {x:Str},names.lookup x=some .free->
  (names.map fun(n,k)=>if (k==NameKind.free && env.scope.kind== .function && env.kindOf n==some .cell) then(n,NameKind.cell) else(n,k)).lookup x=some .free\/
  (names.map fun(n,k)=>if (k==NameKind.free && env.scope.kind== .function && env.kindOf n==some .cell) then(n,NameKind.cell) else(n,k)).lookup x=some .cell
 | [],_,h=>by simp at h
 | (n,k0)::r,x,h=>by
  have ih:= @dG env r x;rw[YV];dsimp only;cases hx:x==n with
  | true=>
   rw[Zm,hx] at h;cases h;by_cases hc:(NameKind.free==NameKind.free && env.scope.kind== .function && env.kindOf n==some .cell)=true
   . right;rw[if_pos hc,Zm,hx]
   . left;rw[if_neg hc,Zm,hx]
  | false=>
   rw[Zm,hx] at h;by_cases hc:(k0==NameKind.free && env.scope.kind== .function && env.kindOf n==some .cell)=true
   . rw[if_pos hc];simp only [Zm,hx];exact ih h
   . rw[if_neg hc];simp only [Zm,hx];exact ih h
theorem eJ{scope:Scope}{env:Env}(h: ∀x∈scope.names,x.2= .free-> ∃c,env.cells.lookup x.1=some c):
  ∃cl,closureFor scope env=pure cl/\(∀x c,(x,c)∈cl->env.cells.lookup x=some c)/\ ∀x,(x,NameKind.free)∈scope.names-> ∃c,(x,c)∈cl:=by
 have gen: ∀(names:List (Str × NameKind)) (acc:List (Str × Addr)),(∀x∈names,x.2= .free-> ∃c,env.cells.lookup x.1=some c)->(∀x c,(x,c)∈acc->env.cells.lookup x=some c)->
   ∃cl,(forIn names acc (fun(x:Str × NameKind) (cs:List (Str × Addr))=>match x with | (name,kind)=>if kind== .free then(do let a<-cellOf env name;pure (ForInStep.yield ((name,a)::cs))) else pure (ForInStep.yield cs)):Sem (List (Str × Addr)))=pure cl/\
    (∀x c,(x,c)∈cl->env.cells.lookup x=some c)/\(∀p∈acc,p∈cl)/\ ∀x,(x,NameKind.free)∈names-> ∃c,(x,c)∈cl:=by
  intro names;induction names with
  | nil=>intro acc _ ha;exact⟨acc,by rw[List.forIn_nil],ha,fun _ hp=>hp,fun x hx=>by simp at hx⟩
  | cons p r ih=>
   intro acc hn ha;obtain⟨n,k⟩:=p;rw[List.forIn_cons];by_cases hk:(k==NameKind.free)=true
   . have Dm:k= .free:=by simpa using hk
     obtain⟨c,hc⟩:=hn (n,k) YN Dm;obtain⟨cl,e1,e2,e3,e4⟩:=ih ((n,c)::acc) (fun x hx=>hn x (YQ _ hx)) (fun x c' hx=>by
      rcases YU.mp hx with e | hx
      . cases e;exact hc
      . exact ha x c' hx)
     refine⟨cl,?_,e2,fun q hq=>e3 q (YQ _ hq),fun x hx=>?_⟩
     . dsimp only;rw[if_pos hk];have:cellOf env n=pure c:=by unfold cellOf;rw[hc]
       rw[this];exact e1
     . rcases YU.mp hx with e | hx
       . cases e;exact⟨c,e3 _ YN⟩
       . exact e4 x hx
   . obtain⟨cl,e1,e2,e3,e4⟩:=ih acc (fun x hx=>hn x (YQ _ hx)) ha;refine⟨cl,?_,e2,e3,fun x hx=>?_⟩
     . dsimp only;rw[if_neg hk];exact e1
     . rcases YU.mp hx with e | hx
       . cases e;exact absurd rfl hk
       . exact e4 x hx
 obtain⟨cl,e1,e2,_,e4⟩:=gen scope.names [] h (fun _ _ hx=>nomatch hx);refine⟨cl,?_,e2,e4⟩;unfold closureFor;first
  | exact e1
  | (simp only [bind_pure];exact e1)
theorem qA (I : Nat -> Shared -> Prop) (turn : ∀ n s, I n s -> wpAny (model prog w) A (pyNext it) (fun r s₁ => match r with
   | none=>R (.ok .next) s₁
   | some v=>wpAny (model prog w) A (letOwnedTupleGo target it v) (fun _ s₀=>wpAny (model prog w) A (assign target env v) (fun _ s₂=>
     wpAny (model prog w) A (forIn ifs true fun c r=>if r=true then do let ok<-isTrue c env (eval c env);pure (ForInStep.yield ok) else pure (ForInStep.yield r)) (fun ok s₃=>
      if ok=true then wpAny (model prog w) A (eval elt env) (fun x s₄=>
       wpAny (model prog w) A (call (.builtin "list.append") [acc,x]) (fun _ s₅=> ∃m,m < n/\I m s₅) (fun _ _=>False) s₄) (fun _ _=>False) s₃
      else∃m,m < n/\I m s₃) (fun _ _=>False) s₂) (fun _ _=>False) s₀) (fun _ _=>False) s₁) (fun _ _=>False) s) (n:Nat) (h:I n s):codeAny (model prog w) A (.compLoop (.ListComp elt [⟨target,iter,ifs,0⟩] scope pos) 0 it acc env) R s:=by
 refine codeAny_loop rfl I (fun n s hI=>?_) n h;show wpAny _ A ((compTurn (.ListComp elt [⟨target,iter,ifs,0⟩] scope pos) 0 it acc env).onRaise (fun x=>do noteFrame x env;theTreesLotGoes x)) _ _ s;refine wpAny_noted ?_;rw[compTurn_list];refine Yr (ZY (Yr (Y2 (turn n s hI) (fun r s₁ h₁=>?_) fun _ _ h'=>h'.elim)));cases r with
 | none=>exact Yv h₁
 | some v=>
  refine Yr (Y2 h₁ (fun _ s₀ h₀=>?_) fun _ _ h'=>h'.elim);refine Yr (Y2 h₀ (fun _ s₂ h₂=>Yr (Y2 h₂ (fun ok s₃ h₃=>?_) fun _ _ h'=>h'.elim)) fun _ _ h'=>h'.elim);cases ok with
  | false=>exact Yv ⟨rfl,h₃⟩
  | true=>
   exact Yr (Yr (Y2 h₃ (fun x s₄ h₄=>Yr (Y2 h₄ (fun _ s₅ h₅=>Yv (Yv ⟨rfl,h₅⟩)) fun _ _ h'=>h'.elim)) fun _ _ h'=>h'.elim))
def PF(X:Cx)(ifs:List Expr)(t:TT):Prop:=
 ∀(pins:List (Addr × Obj)) (s:Shared) (σ:St) (H:Hp) (Q:Bool->Hp->Prop),Inv X pins σ H s->t σ H Q->
  wpAny (model X.prog X.w) X.A (forIn ifs true fun c r=>if r=true then do let ok<-isTrue c X.env (eval c X.env);pure (ForInStep.yield ok) else pure (ForInStep.yield r)) (TP X pins σ Q) X.xe s
def zQ:TT:=fun _ H Q=>Q true H
theorem AG:PF X [] zQ:=fun _ _ _ H _ I h=>wpAny_tests_nil ⟨H,I,h⟩
theorem IB(h:PT X c t):PF X [c] t:=fun pins s σ H Q I hw=>wpAny_tests_one (h pins s σ H Q I hw)
noncomputable def gq(nt:Nat)(js:List Nat)(σ:St):St:=List.replicate nt none++js.map fun j=>(σ[j]?).join
structure iS(X:Cx)(N:List Str)(nt:Nat)(js:List Nat)(scope:Scope):Prop where
 kind:scope.kind= .function
 nd:(scope.names.map (·.1)).Nodup
 len:nt<=N.length
 NZ:js.map (fun j=>X.N[j]?)=(N.drop nt).map some
 fr: ∀x∈N.drop nt,scope.names.lookup x=some .free
 DV: ∀x∈scope.names,x.2= .free->X.env.kindOf x.1=some .cell\/X.env.kindOf x.1=some .free
theorem iS.names(S:iS X N nt js scope): ∀x∈scope.names,x.2= .local->scope.names.lookup x.1=some .local:=fun x hx e=>by
 obtain⟨n,k⟩:=x;cases e;exact fw S.nd hx
theorem kc(S:iS X N nt js scope)(hc:X.calm=true)(I:Inv X pins σ H s)(hf: ∀b∈fp,cU X pins H b)(TN: ∀b∈fp,b < s.heap.objs.size)(c1: ∀x c,(x,c)∈cl->X.env.cells.lookup x=some c)(c2: ∀x,(x,NameKind.free)∈scope.names-> ∃c,(x,c)∈cl):
  Inv (dA X N scope s H cl s.heap.objs.size fp) [] (gq nt js σ) H {s with heap:=pushCells (s.heap.push {cls:= .type "dict",data:= .dict #[]}) scope.names,toks:=tk}:=by
 have keep: ∀b o,s.heap.get? b=some o->(pushCells (s.heap.push {cls:= .type "dict",data:= .dict #[]}) scope.names).get? b=some o:=fun b o e=>ac1 _ _ b o (Yu _ e);have ok:=cellsFrom_ok scope.names (s.heap.push {cls:= .type "dict",data:= .dict #[]}) (s.heap.objs.size+1) [] ⟨fun _ _ hm=>(nomatch hm),List.Pairwise.nil⟩ (by rw[ZK];exact Yx _);rw[ZK] at ok;have split: ∀x c,(cellsFrom (s.heap.objs.size+1) scope.names cl).lookup x=some c->(x,c)∈cellsFrom (s.heap.objs.size+1) scope.names []\/(x,c)∈cl:=fun x c e=>by
  rw[bg] at e;exact Zi.mp (Zn e)
 have old: ∀x c,(x,c)∈cl->c < s.heap.objs.size:=fun x c h=>by
  obtain⟨v,q⟩:=I.cell x c (c1 x c h);exact q.lt
 have new: ∀x c,(x,c)∈cellsFrom (s.heap.objs.size+1) scope.names []->s.heap.objs.size+1<=c:=fun x c h=>(ok.empty x c h).2;have fresh: ∀b,s.heap.objs.size<=b->H b=none:=fun b hb=>I.aT.fresh hb;have sZ: ∀x,scope.names.lookup x=some .free-> ∀c,X.env.cells.lookup x=some c->(cellsFrom (s.heap.objs.size+1) scope.names cl).lookup x=some c:=fun x hx c Wl=>by
  obtain⟨c',Ds⟩:=c2 x (Zn hx);have e1:(cellsFrom (s.heap.objs.size+1) scope.names []).lookup x=none:=by
   cases e:(cellsFrom (s.heap.objs.size+1) scope.names []).lookup x with
   | none=>rfl
   | some d=>
    have:=fw S.nd (fB _ _ (Zn e));rw[hx] at this;cases this
  have e2: ∃d,cl.lookup x=some d:=by
   cases e:cl.lookup x with
   | some d=>exact⟨d,rfl⟩
   | none=>
    exfalso;have: ∀{l:List (Str × Addr)},(x,c')∈l->l.lookup x≠none:=fun{l}=>by
     induction l with
     | nil=>intro h;simp at h
     | cons p r ih=>
      intro h;obtain⟨k,v⟩:=p;rw[Zm];cases hb:x==k with
      | true=>simp
      | false=>
       rcases YU.mp h with q | q
       . cases q;simp at hb
       . exact ih q
    exact this Ds e
  obtain⟨d,hd⟩:=e2;have:d=c:=by
   have:=c1 x d (Zn hd);rw[Wl] at this;cases this;rfl
  subst this;rw[bg,List.lookup_append,e1,hd];rfl
 have WL: ∀b,b≠X.env.locals->b∉X.fs->b∉lC X.stack:=fun b h1 h2 hb=>(YU.mp (I.pE b hb)).elim h1 h2;refine⟨⟨I.ok.mod,S.kind,I.ok.glob,I.ok.blt,Yx _,fun x y c e1 e2=>?_,fun x hx=>?_,fun x c h1 h2=>?_,I.ok.hd,I.ok.frames,.inl rfl,fun b hb=>⟨?_,fun x c e=>?_⟩,fun b o e=>⟨I.bk b o e,(I.bs b o e).2⟩,?_,fun b o e hb=>?_,fun b hb=>?_,I.stack,I.pF,I.tab⟩,
  rfl,I.bare,Un.kept keep,⟨_,(Heap.Ns.new s.heap (.type "dict")).keeps (ac1 _ _),fun i x v e1 e2 e3=>?_⟩,fun x c e=>?_,fresh _ (Yx _),fun x c e=>?_,fun p hp=>absurd (show p∈([]:List (Addr × Obj)) from hp) (by simp),I.aT.kept keep,?_⟩
 . rcases split x c e1 with h1 | h1 <;> rcases split y c e2 with h2 | h2
   . exact name_of_addr ok.apart h1 h2
   . exact absurd (YW (old y c h2) (ag1 (new x c h1))) (Zt _)
   . exact absurd (YW (old x c h1) (ag1 (new y c h2))) (Zt _)
   . exact I.ok.inj x y c (c1 x c h1) (c1 y c h2)
 . have own : scope.names.lookup x = some .cell -> ∃ c, (cellsFrom (s.heap.objs.size + 1) scope.names cl).lookup x = some c := fun h => by
     obtain⟨c,e⟩:=jE (n:=s.heap.objs.size+1) h;exact⟨c,by rw[bg,List.lookup_append,e];rfl⟩
   have T1:scope.names.lookup x=some .free-> ∃c,(cellsFrom (s.heap.objs.size+1) scope.names cl).lookup x=some c:=fun h=>by
    obtain⟨c,e⟩:=I.ok.has x (S.DV _ (Zn h) rfl);exact⟨c,sZ x h c e⟩
   rcases hx with h | h <;> rcases gT h with q | ⟨z,q⟩
   . exact own q
   . exact T1 q
   . exact T1 q
   . cases z
 . have h1:scope.names.lookup x=some .cell:=by simpa [dA] using h1
   obtain⟨d,e⟩:=jE (n:=s.heap.objs.size+1) h1;have h2:(cellsFrom (s.heap.objs.size+1) scope.names cl).lookup x=some c:=h2;rw[bg,List.lookup_append,e] at h2;have:d=c:=by simpa using h2
   subst this;exact ag1 (new x d (Zn e))
 . exact Zb (TN b hb)
 . rcases split x c e with h | h
   . exact aa8 (YW (TN b hb) (ag1 (new x c h)))
   . exact(hf b hb).2.2.2.2.1 x c (c1 x c h)
 . exact YT I.ok.FU I.sz
 . rcases(hf b hb).2.2.2.1 with z | z
   . exact I.ok.Bc b o e z
   . exact absurd (YW (YM e) (YT I.ok.FU z)) (Zt _)
 . exact WL b (hf b hb).2.1 (hf b hb).2.2.1
 . have hi : nt <= i := by
     apply Nat.le_of_not_lt;intro df;unfold gq at e2;rw[Y1 (by simpa using df),YY,if_pos df] at e2;cases e2
   have yF:(js.map fun j=>(σ[j]?).join)[i - nt]?=some (some v):=by
    unfold gq at e2;rw[Y8 (by simpa using hi),ZZ] at e2;exact e2
   rw[YC] at yF;have JS:(N.drop nt)[i - nt]?=some x:=by
    rw[ab7];have:nt+(i - nt)=i:=by lia
    rw[this];exact e1
   cases hj:js[i - nt]? with
   | none=>rw[hj] at yF;cases yF
   | some j=>
    rw[hj] at yF;have qv:(σ[j]?).join=some v:=by simpa using yF
    have hσ:σ[j]?=some (some v):=by
     cases q:σ[j]? with
     | none=>rw[q] at qv;cases qv
     | some o=>rw[q] at qv;simpa using qv
    have hX:X.N[j]?=some x:=by
     have:=ZA (fun l=>l[i - nt]?) S.NZ;simp only [YC,hj,JS,ah9] at this;exact Option.some.inj this
    have iy:=S.fr x (Zd JS);have hk:=S.DV _ (Zn iy) rfl;obtain⟨m,_,hl⟩:=I.loc;obtain⟨u,ru,lk⟩:=hl j x v hX hσ (by rcases hk with q | q;exact .inr (.inl q);exact .inr (.inr q));refine⟨u,ru,?_⟩;rcases lk with ⟨Dm,_⟩ | ⟨_,c,Fb,ky⟩
    . rcases hk with q | q <;> rw[q] at Dm <;> cases Dm
    . refine .inr ⟨?_,c,sZ x iy c Fb,ky.keeps keep⟩;rcases dG (env:=X.env) iy with q | q
      . exact .inr q
      . exact .inl q
 . rcases split x c e with h | h
   . exact⟨none,(ok.empty x c h).1⟩
   . obtain⟨v,q⟩:=I.cell x c (c1 x c h);exact⟨v,q.keeps keep⟩
 . rcases split x c e with h | h
   . exact fresh _ (ag1 (new x c h))
   . exact I.gg x c (c1 x c h)
 . unfold gq;show _=N.length;rw[Y9,ZZ,Yt];have:=ZA List.length S.NZ;rw[Yt,Yt,ZM] at this;have:=S.len;lia
def iR(nt:Nat)(g:TG):Prop:= ∀v σ H (Q:St->Hp->Prop),g v σ H Q->g v σ H fun σ' H'=>Q σ' H'/\σ'.length=σ.length/\ ∀k,nt<=k->σ'[k]?=σ[k]?
def xq(nt:Nat)(g:Km):Prop:= ∀vs σ H (Q:St->Hp->Prop),g vs σ H Q->g vs σ H fun σ' H'=>Q σ' H'/\σ'.length=σ.length/\ ∀k,nt<=k->σ'[k]?=σ[k]?
theorem ba(h:i < nt:=by decide):iR nt (cQ i):=fun v σ H Q q=>⟨q,by simp,fun k hk=>by rw[YF (by lia)]⟩
theorem BJ:xq nt yy:=fun vs σ H Q cj=>(by obtain⟨e,q⟩:=cj;exact(⟨e,q,rfl,fun _ _=>rfl⟩))
def xo(g:Km):Prop:= ∀vs σ H (Q Q':St->Hp->Prop),(∀σ' H',Q σ' H'->Q' σ' H')->g vs σ H Q->g vs σ H Q'
theorem oQ:xo yy:=fun vs σ H Q Q' hq dM=>(by obtain⟨e,q⟩:=dM;exact(⟨e,hq _ _ q⟩))
theorem uJ(hu:xo u):xo (gZ (cQ i) u):=fun vs σ H Q Q' hq iU=>(by obtain⟨v,r,e,q⟩:=iU;exact(⟨v,r,e,hu r _ _ Q Q' hq q⟩))
theorem oR(h:i < nt:=by decide)(hm:xo u)(hu:xq nt u):xq nt (gZ (cQ i) u):=fun vs σ H Q cj=>(by obtain⟨v,r,e,q⟩:=cj;exact(by
 refine⟨v,r,e,hm _ _ _ _ _ (fun σ' H' z=>?_) (hu r (σ.set i (some v)) H Q q)⟩;obtain⟨z1,z2,z3⟩:=z;refine⟨z1,by simpa using z2,fun k hk=>?_⟩;rw[z3 k hk,YF (by lia)]))
theorem BI{nt n:Nat}{K:PySem.W.Frag}(h:xq nt t):iR nt (BM K n t):=fun v σ H Q lJ=>(by obtain⟨a,xs,e,sq,l,q⟩:=lJ;exact(⟨a,xs,e,sq,l,h xs σ H Q q⟩))
def Ha(nt:Nat)(js:List Nat)(g:TG)(tc:TT)(te:TE)(σ:St)(Q:VK)(D:Addr)(J:It)(H0:Hp):Prop:=
 ∃W:Nat->Nat->List V->Hp->Prop,(∃m,W 0 m [] H0)/\ ∀i m acc H,W i m acc H->
  (J.stop i H/\Q (.ref D) H)\/(J.go i H/\acc.length < sizeLine/\ ∃B:List V->Hp->Prop,(∀bG H',B bG H'-> ∃m',m' < m/\W (i+1) m' bG H')/\ ∀x H',J.qW i H x H'->g x (gq nt js σ) H' fun σ2 H2=>
   tc σ2 H2 fun b H3=>if b=true then te σ2 H3 fun v H4=>H4 D=some (.lst acc)/\B (acc++ [v]) (upd H4 D (.lst (acc++ [v]))) else B acc H3)
def vE(nt:Nat)(js:List Nat)(wi:TI)(g:TG)(tc:TT)(te:TE):TE:=fun σ H Q=>wi σ H fun J H1=> ∀D,H1 D=none->Ha nt js g tc te σ Q D J (upd H1 D (.lst []))
theorem fm{s:Shared}(h: ∀iP:Env,{iP with scope:=relabel scope env}=m5 scope cl s.heap.objs.size env->iP.locals=s.heap.objs.size->Q iP {s with heap:=pushCells (s.heap.push {cls:= .type "dict",data:= .dict #[]}) scope.names}):
  wpAny M A (newFunctionEnv scope env.globals cl [] env.qual none .none (some env)) Q E s:=by
 simp only [newFunctionEnv,Option.isSome_some,if_true];refine Yr (wpAny_alloc ?_);refine Yr (wpAny_layCells _ (fun name kind cells=>by cases V4:kind==NameKind.cell <;> simp [V4]) _ _ _ _ ?_);rw[show({s with heap:=s.heap.push {cls:= .type "dict",data:= .dict #[]}}:Shared).heap.objs.size=s.heap.objs.size+1 from ZK ..];first
  | exact Yv (h _ rfl rfl)
  | exact Yr (Yv (Yv (h _ rfl rfl)))
theorem oZ{elt tg iter:Expr}{ifs:List Expr}{pos:Pos}{g:TG}{tc:TT}{te:TE}{cl:List (Str × Addr)}{Q:VK}{E:Value->Shared->Prop}{RR:Value->Addr->Result->Shared->Prop}(S:iS X N nt js scope)(hc:X.calm=true)(hg: ∀s H cl C ex,PG (dA X N scope s H cl C ex) tg g)(eB:iR nt g)(hf: ∀s H cl C ex,PF (dA X N scope s H cl C ex) ifs tc)(he: ∀s H cl C ex,PE (dA X N scope s H cl C ex) elt te){tn:Nat->Heap->Prop}(I:Inv X pins σ H s)(T:Turn X.prog X.w X.K tg J fp it tn)(st:tn 0 s.heap)(ff: ∀b∈fp,cU X pins H b)(c1: ∀x c,(x,c)∈cl->X.env.cells.lookup x=some c)(c2: ∀x,(x,NameKind.free)∈scope.names-> ∃c,(x,c)∈cl)(R: ∀D,H D=none->Ha nt js g tc te σ Q D J (upd H D (.lst [])))(fin: ∀(D C:Addr) (s':Shared) (H':Hp),Inv X pins σ H' s'->cU X pins H' C->(∃m,s'.heap.Ns C m)->Q (.ref D) H'->RR (.ref D) C (.ok .next) s'):
  wpAny (model X.prog X.w) X.A (newList []) (fun acc s₃=>wpAny (model X.prog X.w) X.A (newFunctionEnv scope X.env.globals cl [] X.env.qual none .none (some X.env)) (fun iP s₄=>
   codeAny (model X.prog X.w) X.A (.compStart (.ListComp elt [⟨tg,iter,ifs,0⟩] scope pos) 0 (.ref it) acc {iP with scope:=relabel scope X.env}) (RR acc iP.locals) s₄) E s₃) E s:=by
 refine Zc (fm fun iP sS B9=>?_);rw[sS,B9];dsimp only;have hD:H s.heap.objs.size=none:=I.aT.fresh (Yx _);obtain⟨W,⟨m0,w0⟩,turn⟩:=R s.heap.objs.size hD;have kD: ∀b u,s.heap.get? b=some u->(s.heap.push {cls:= .type "list",data:= .seq ([]:List Value).toArray}).get? b=some u:=fun b u e=>Yu _ e;have I3:Inv X pins σ (upd H s.heap.objs.size (.lst [])) {s with heap:=s.heap.push {cls:= .type "list",data:= .seq ([]:List Value).toArray},toks:=s.toks}:=
  I.laid kD (Yx _) ⟨Za _,[],_,.nil,YI _ rfl⟩
 have fs: ∀b∈fp,b < s.heap.objs.size:=fun b hb=>by
  obtain⟨o,e,_⟩:=T.obj _ _ st b hb;exact YM e
 have GN: ∀b∈fp,cU X pins (upd H s.heap.objs.size (.lst [])) b:=fun b hb=>⟨by rw[ag (Zb (fs b hb))];exact(ff b hb).1,(ff b hb).2⟩
 have I4:=kc (tk:=s.toks) S hc I3 GN (fun b hb=>by show b < (s.heap.push _).objs.size;rw[ZK];exact ZS (fs b hb)) c1 c2;dsimp only at I4;have Nm:(s.heap.push {cls:= .type "list",data:= .seq ([]:List Value).toArray}).objs.size=s.heap.objs.size+1:=ZK ..;generalize hY:dA X N scope {s with heap:=s.heap.push {cls:= .type "list",data:= .seq ([]:List Value).toArray},toks:=s.toks} (upd H s.heap.objs.size (.lst [])) cl (s.heap.push {cls:= .type "list",data:= .seq ([]:List Value).toArray}).objs.size fp=Y at I4;have TV:=hY;have nh:Y.env=m5 scope cl (s.heap.push {cls:= .type "list",data:= .seq ([]:List Value).toArray}).objs.size X.env:=by rw[<-hY];rfl
 have bY:Y.prog=X.prog:=by rw[<-hY];rfl
 have Yw:Y.w=X.w:=by rw[<-hY];rfl
 have YA:Y.A=X.A:=by rw[<-hY];rfl
 have YK:Y.K=X.K:=by rw[<-hY];rfl
 have jI:Y.calm=true:=by rw[<-hY];exact hc
 have qU:Y.xe=fun _ _=>False:=by rw[<-hY];rfl
 have tF:Y.ex=fp:=by rw[<-hY];rfl
 have N8:Y.pn= []:=by rw[<-hY];rfl
 have N9:Y.fs=lC X.stack:=by rw[<-hY];rfl
 have G7:Y.s₀={s with heap:=s.heap.push {cls:= .type "list",data:= .seq ([]:List Value).toArray},toks:=s.toks}:=by rw[<-hY];rfl
 have Oa:Y.H₀=upd H s.heap.objs.size (.lst []):=by rw[<-hY];rfl
 have Na:PG Y tg g:=by rw[<-hY];exact hg _ _ _ _ _
 have Rm:PF Y ifs tc:=by rw[<-hY];exact hf _ _ _ _ _
 have Rp:PE Y elt te:=by rw[<-hY];exact he _ _ _ _ _
 have hm:(Y.N.length:Nat)=(gq nt js σ).length:=I4.len.symm;rw[<-nh,<-bY,<-Yw,<-YA];have BP: ∀{H':Hp} (_: ∀b∈fp,H' b=none),∀b∈fp,cU Y [] H' b:=fun{H'} hn b hb=>by
  refine⟨hn b hb,(I4.ok.GP b (by rw[tF];exact hb)).1,I4.ok.uL b (by rw[tF];exact hb),.inl (by rw[tF];exact hb),(I4.ok.GP b (by rw[tF];exact hb)).2,fun p hp=>?_⟩;rw[N8] at hp;simp at hp
 have back: ∀{H':Hp} {s':Shared} {σ':St},Inv Y [] σ' H' s'->Inv X pins σ H' s'/\cU X pins H' Y.env.locals/\ ∃m,s'.heap.Ns Y.env.locals m:=fun{H' s' σ'} J=>by
  have hb:Un (lC X.stack) fp (upd H s.heap.objs.size (.lst [])) H' (s.heap.push {cls:= .type "list",data:= .seq ([]:List Value).toArray}) s'.heap:=by
   have:=J.base;rw[N9,tF,Oa,G7] at this;exact this
  have loc:Y.env.locals=s.heap.objs.size+1:=by rw[nh];exact Nm
  have os:s'.os=s.os:=by
   have:=J.os;rw[G7] at this;exact this
  have aT:gw X.prog X.w H' s'.heap:=by
   have:=J.aT;rw[bY,Yw] at this;exact this
  refine⟨I3.xb (ch:=fp) os hb aT J.bare fun b hb=>⟨(ff b hb).2.2.2.1,(ff b hb).2.1,(ff b hb).2.2.2.2.1,(ff b hb).2.2.2.2.2⟩,?_,let ⟨m,q,_⟩:=J.loc;⟨m,q⟩⟩;exact I.jo (by rw[loc];exact ah6 _) J.free
 have loop:codeAny (model Y.prog Y.w) Y.A (.compLoop (.ListComp elt [⟨tg,iter,ifs,0⟩] scope pos) 0 (.ref it) (.ref s.heap.objs.size) Y.env) (RR (.ref s.heap.objs.size) Y.env.locals)
   {s with heap:=pushCells ((s.heap.push {cls:= .type "list",data:= .seq ([]:List Value).toArray}).push {cls:= .type "dict",data:= .dict #[]}) scope.names}:=by
  refine qA (fun n s'=> ∃i acc H',Inv Y [] (gq nt js σ) H' s'/\tn i s'.heap/\(∀b∈fp,H' b=none)/\W i n acc H') ?_ m0
   ⟨0,[],_,I4,T.keep _ _ _ st fun b _ o e=>ac1 _ _ b o (Yu _ (kD b o e)),fun b hb=>(GN b hb).1,w0⟩
  rintro n s5 ⟨i,acc,H5,I5,t5,yA,w5⟩
  rcases turn i n acc H5 w5 with ⟨stop,q⟩ | ⟨go,hlen,B,hB,step⟩
  . have hd:=T.done Y bY Yw YK jI i [] s5 _ H5 (fun _ _=>False) I5 (BP yA) t5 stop;rw[<-bY,<-Yw] at hd;refine aV hd fun r s6 kH=>?_;obtain⟨hr,I6⟩:=kH;subst hr;obtain⟨b1,b2,b3⟩:=back I6;exact fin _ _ _ _ b1 b2 b3 q
  . have hd:=T.item Y bY Yw YK jI i [] s5 _ H5 (fun _ _=>False) I5 (BP yA) t5 go;rw[<-bY,<-Yw] at hd;refine aV hd fun r s6 nA=>?_;obtain⟨u,hr,h6⟩:=nA;subst hr;refine aV h6 fun _ s7 pA=>?_;obtain⟨x,H7,I7,r7,y7,t4,JI⟩:=pA;have Kv:=I7.pinned (BP JI) (T.obj _ _ t4);have g7:=eB _ _ _ _ (step x H7 y7);have h7:=Na _ s7 _ H7 x u _ Kv r7 g7;rw[qU] at h7;refine aV h7 fun _ s8 nz=>?_;obtain⟨σ8,H8,I8,q8,l8,k8⟩:=nz;have h8:=Rm _ s8 σ8 H8 _ I8 q8;rw[qU] at h8;refine aV h8 fun b s9 gx=>?_;obtain⟨H9,I9,q9⟩:=gx;have again: ∀{kF:Hp} {ir:Shared} {bG:List V},Inv Y ([]++iF fp s7.heap) σ8 kF ir->B bG kF-> ∃m,m < n/\ ∃i acc H',Inv Y [] (gq nt js σ) H' ir/\tn i ir.heap/\(∀b∈fp,H' b=none)/\W i m acc H':=fun{kF ir bG} tH xg=>by
     obtain⟨m',Ju,Ho⟩:=hB bG kF xg;refine⟨m',Ju,i+1,bG,kF,tH.dW.weak l8.symm fun k v e=>?_,T.keep _ _ _ t4 fun b hb o e=>(tH.pin (b,o) (YR _ (YR _ (bA hb e)))).1,fun b hb=>?_,Ho⟩
     . by_cases hk:nt<=k
       . rw[k8 k hk];exact e
       . exfalso;unfold gq at e;rw[Y1 (by simp;lia),YY,if_pos (by lia)] at e;cases e
     . obtain⟨o,e,d⟩:=T.obj _ _ t4 b hb;exact(tH.pin (b,o) (YR _ (YR _ (bA hb e)))).2.1
    cases b with
    | false=>
     rw[if_neg YJ] at q9 ⊢;exact again I9 q9
    | true=>
     rw[if_pos rfl] at q9 ⊢;have h9:=Rp _ s9 σ8 H9 _ I9 q9;rw[qU] at h9;refine aV h9 fun y ir jS=>?_;obtain⟨v,kF,tH,L8,JF,Ik⟩:=jS;have Fg:=(j3 (X:=Y) _ ir σ8 kF (.ref s.heap.objs.size) [v] (.ref s.heap.objs.size) [y] (fun _ H'=>B (acc++ [v]) H') tH rfl (.cons L8 .nil) ⟨_,acc,v,rfl,rfl,JF,hlen,Ik⟩)
     rw[qU] at Fg;refine aV Fg fun _ LY pC=>?_;obtain⟨_,Dz,F5,_,Qr⟩:=pC;exact again F5 Qr
 have sR:(s.heap.push {cls:= .type "list",data:= .seq ([]:List Value).toArray}).objs.size=Y.env.locals:=by rw[nh];rfl
 rw[sR];exact codeAny_compStart_list loop (by rw[bY,Yw,YA] at*;exact T.self _ 0 _ _ _ (T.keep _ _ _ st fun b _ o e=>ac1 _ _ b o (Yu _ (kD b o e))) loop)
theorem Ek(S:iS X N nt js scope)(hc:X.calm=true)(hi:PI X tg iter wi)(hg: ∀s H cl C ex,PG (dA X N scope s H cl C ex) tg g)(eB:iR nt g)(hf: ∀s H cl C ex,PF (dA X N scope s H cl C ex) ifs tc)(he: ∀s H cl C ex,PE (dA X N scope s H cl C ex) elt te)(hs: ∀x,foldedSetIterable iter X.env x=pure x:=by intro _;rfl):PE X (.ListComp elt [⟨tg,iter,ifs,0⟩] scope pos) (vE nt js wi g tc te):=by
 intro pins s σ H Q I h;obtain⟨cl,Dp,c1,c2⟩:=eJ (scope:=scope) (env:=X.env) fun x hx e=>I.ok.has x.1 (S.DV x hx e);rw[eval_ListComp];refine ae9 (use:=none) rfl hs Dp S.kind S.names (aV (hi pins s σ H _ I h) fun v s1 h1=>aV h1 fun KQ s2 h2=>?_);obtain⟨it,fp,tn,J,H2,rfl,I2,T,gu,f2,R⟩:=h2;refine oZ (RR:=fun acc C=>compPost (model X.prog X.w) X.A X.xe none (EP X pins σ Q) acc C) S hc hg eB hf he I2 T gu f2 c1 c2 R fun D C s' H' I' fo jQ q=>?_;obtain⟨m,hn⟩:=jQ;refine⟨m,hn,fun h' sb=>⟨.ref D,H',?_,rfl,q⟩⟩;obtain⟨f0,f1,_,f3,f4,f5⟩:=fo;exact I'.turned (t':=s'.toks) (fun b o hb e=>(sb.2 b hb).trans e) f0 f1 f3 f4 f5
theorem vU{pos pos' py:Pos}(hN:X.N.Nodup)(M9:X.N[i]?=some y)(hy:Loc X.env.scope y)(S:iS X N nt js scope)(hc:X.calm=true)(hi:PI X tg iter wi)(hg: ∀s H cl C ex,PG (dA X N scope s H cl C ex) tg g)(eB:iR nt g)(hf: ∀s H cl C ex,PF (dA X N scope s H cl C ex) ifs tc)(he: ∀s H cl C ex,PE (dA X N scope s H cl C ex) elt te)(MP:swapsWith (.ListComp elt [⟨tg,iter,ifs,0⟩] scope pos) (some (.Name y py)) pos'.line X.env=pure true:=by rfl)(hs: ∀x,foldedSetIterable iter X.env x=pure x:=by intro _;rfl)(EX:X.fn y=true\/X.env.scope.names.lookup y=some .local:=by first | exact .inl rfl | exact .inr rfl | assumption):
  PS X (.Assign [.Name y py] (.ListComp elt [⟨tg,iter,ifs,0⟩] scope pos) pos') (zV (vE nt js wi g tc te) (cQ i)):=by
 intro pins s σ H D I h;obtain⟨cl,Dp,c1,c2⟩:=eJ (scope:=scope) (env:=X.env) fun x hx e=>I.ok.has x.1 (S.DV x hx e);rw[exec_Assign_Name_used _ _ _ _ MP];refine Yr (ZY (Yr ?_));show wpAny _ _ (do let _<-comprehension (.ListComp elt [⟨tg,iter,ifs,0⟩] scope pos) scope X.env _ (newList []) false (eval iter X.env) (some (assign (.Name y py) X.env))) _ _ s;refine Yr (Y2 (ae9 (use:=some (assign (.Name y py) X.env)) (Q:=fun _ s'=>SP X pins D .next s') rfl hs Dp S.kind S.names
  (aV (hi pins s σ H _ I h) fun v s1 h1=>aV h1 fun KQ s2 h2=>?_)) (fun _ s' hq=>Yv (Yv hq)) fun _ _ e=>e)
 obtain⟨it,fp,tn,J,H2,rfl,I2,T,gu,f2,R⟩:=h2;refine oZ (RR:=fun acc C=>compPost (model X.prog X.w) X.A X.xe (some (assign (.Name y py) X.env)) (fun _ s'=>SP X pins D .next s') acc C) (Q:=fun x H1=>cQ i x σ H1 D.nx) S hc hg eB hf he I2 T gu f2 c1 c2 R fun Da C s' H' I' fo zr q=>?_;obtain⟨m,hn⟩:=zr;show wpAny _ _ (assign (.Name y py) X.env (.ref Da)) _ _ _;obtain⟨f0,f1,_,f3,f4,f5⟩:=fo;refine wpAny_assign_Name (oq I' hN M9 hy (v:= .ref Da) rfl (fun rN SO tP=>?_) EX);obtain⟨a,sb,ha⟩:=tP;have WG:C≠a:=by
  rcases ha with z | z
  . rw[z];exact f1
  . exact Ne.symm (f4 _ _ z)
 refine⟨m,hn.sameBut sb WG,fun h' Vd=>⟨_,H',?_,q⟩⟩;exact SO.turned (t':=rN.toks) (fun b o hb e=>(Vd.2 b hb).trans e) f0 f1 f3 f4 f5
open AutoSeq1 (wpAny_loadPart')
theorem Jm(q1:typeLookup (.type T) "__init__"=pure (some (.builtin "object.__init__")))(q2:Bind.madeBy (.type T)=pure (some newId))(q3:(some newId !=some "object.__new__")=true):Meets (Builtin.«object.__init__» ⟨me::more,kw⟩) (fun _ R s=>s.TypeIs me T/\R (.ok (.ret .none)) s):=by
 refine Meets.of_wp fun prog w A R s cj=>?_;obtain⟨hT,hq⟩:=cj;cases more with
 | nil=>
  cases kw with
  | nil=>exact Yv ⟨_,rfl,hq⟩
  | cons p r=>
   repeat (any_goals (first | assumption | wp_step))
   all_goals exact⟨_,rfl,hq⟩
 | cons a r=>
  repeat (any_goals (first | assumption | wp_step))
  all_goals exact⟨_,rfl,hq⟩
theorem m4(ft:TypeCalled T newId "object.__init__")(Dj:(some newId !=some "object.__new__")=true)(c1:checkTypeCall T ⟨xs,kw⟩=pure ())(c2:checkBuiltinCall newId ⟨.type T::xs,kw⟩=pure ())(c3: ∀ob,argsOk "object.__init__" ⟨ob::xs,kw⟩)(eN:entryFor table newId=some B)(mt:Meets (B ⟨.type T::xs,kw⟩) S)(h:S A.in1 (wants (fun ob z=>z.TypeIs ob T/\Q ob z) E) s):wpAny (model prog w) A (call (.type T) xs kw) Q E s:=by
 obtain⟨c,tl,Rf⟩:=ft.mro;have TJ:=ft.made;have ET:=ft.sub;refine wpAny_call (codeAny_of_tree (show wpAny _ _ (callAny (.type T) _) _ _ _ from Yv ⟨Code.quiet_builtin _ (by decide+kernel),ac2 F.entry_type_call ?_⟩));rw[Around.under_plain (weight_type_call_type T xs kw) (units_type_call_type T xs kw)];have k1:=ft.notType;have k2:=ft.canCreate;repeat (any_goals (first | assumption | wp_step))
 refine ag5 (codeAny_call_builtin ft.plain eN (wpAny_of_eq c2 (mt prog w A.in1 _ s h))) fun r z hr=>?_;match r,hr with
 | .error e,hr=>exact hr
 | .ok (.ret ob),hr=>
  obtain⟨hT,hq⟩:=hr;have l1:=ft.init.lookup;have l2:=ft.init.bind ob;repeat (any_goals (first | assumption | wp_step))
  refine ag5 (codeAny_call_builtin ft.init.plain F.entry_object_init (ft.init.check _ _ _ _ _ _ _ _ hT (c3 ob) (Jm ft.init.lookup ft.made Dj prog w A.in1 (wants (fun v z'=>v= .none/\Q ob z') E) z ⟨hT,rfl,hq⟩))) fun r2 z2 wD=>?_;match r2,wD with
  | .error e,wD=>exact wD
  | .ok (.ret v),wD=>
   obtain⟨rfl,XM⟩:=wD;repeat (any_goals (first | assumption | wp_step))
  | .ok .next,wD=>exact wD.elim
  | .ok .brk,wD=>exact wD.elim
  | .ok .cont,wD=>exact wD.elim
 | .ok .next,hr=>exact hr.elim
 | .ok .brk,hr=>exact hr.elim
 | .ok .cont,hr=>exact hr.elim
open AutoSeq1 (wpAny_loadPart')
noncomputable def jw(h:Heap)(t:Addr)(k:Int):Heap:=
 (h.push {cls:= .type "tuple_iterator",data:= .fields #[.ref t,.int 0 0]}).push {cls:= .type "enumerate",data:= .fields #[.none,.bool false,.ref h.objs.size,rawInt k,.none,.none]}
def sQ(t:Addr)(k:Int):PySem.Spec:=fun _ R s=>(∃items,s.heap.IsTuple t items)/\R (.ok (.ret (.ref (s.heap.push {cls:= .type "tuple_iterator",data:= .fields #[.ref t,.int 0 0]}).objs.size))) {s with heap:=jw s.heap t k}
theorem B7(t:Addr):Meets (Builtin.«enumerate.__new__» ⟨[.type "enumerate",.ref t],[]⟩) (sQ t 0):=
 .of_wp fun prog w A R s cj=>(by obtain⟨⟨items,hT⟩,h⟩:=cj;exact(by
  obtain⟨hp,g,d,tk,os⟩:=s;have ET:=sub_enumerate;obtain⟨⟨c,O2,dt,sl⟩,hl,hc,n,hd⟩:=id hT;replace hc:c= .type "tuple":=hc
  replace hd:dt= .seq items n:=hd
  subst hc hd;wp_walk using ZO hl
  refine wpAny_stack_any fun st=>Yv ?_;split
  . rename_i c _ _ _ _ _;cases (c==Value.type "enumerate") <;> (wp_walk using ZO hl,Z1 hT;exact⟨_,rfl,h⟩)
  . wp_walk using ZO hl,Z1 hT
    exact⟨_,rfl,h⟩))
theorem B6(t:Addr)(u:Tok):Meets (Builtin.«enumerate.__new__» ⟨[.type "enumerate",.ref t],[("start",.int 1 u)]⟩) (sQ t 1):=
 .of_wp fun prog w A R s dM=>(by obtain⟨⟨items,hT⟩,h⟩:=dM;exact(by
  obtain⟨hp,g,d,tk,os⟩:=s;have ET:=sub_enumerate;obtain⟨⟨c,O2,dt,sl⟩,hl,hc,n,hd⟩:=id hT;replace hc:c= .type "tuple":=hc
  replace hd:dt= .seq items n:=hd
  subst hc hd;wp_walk using ZO hl
  refine wpAny_stack_any fun st=>Yv ?_;split
  . rename_i c _ _ _ _ _;cases (c==Value.type "enumerate") <;> (wp_walk using ZO hl,Z1 hT;exact⟨_,rfl,h⟩)
  . wp_walk using ZO hl,Z1 hT
    exact⟨_,rfl,h⟩))
open AutoSeq1 (wpAny_loadPart')
theorem rq(a1:s.heap.IsTupleIter it t j)(a2:s.heap.IsTuple t ao)(a3:ao[j]?=some y)(k: ∀h',h'.IsTupleIter it t (j+1)->Heap.SameBut it s.heap h'->Q y {s with heap:=h'}):wpAny (model prog w) A (Builtin.SmallTypes.nextOf (.ref it)) Q E s:=by
 obtain⟨ob,b1,b2,b3⟩:=id a1;obtain⟨ot,d1,_,nt,d2⟩:=a2;unfold Builtin.SmallTypes.nextOf;refine Yr (ZH (name:=Str.ofString "__next__") a1.typeIs ae0 (ZP ae0 a1.typeIs F.entry_tuple_iterator_next ?_ (F.args_tuple_iterator_next_1 _)));show wpAny _ _ (field (.ref it) 0 >>=_) _ _ s;refine Yr (ZG b1 b3 (x:= .ref t) rfl ?_);show wpAny _ _ (if (Value.ref t==Value.none)=true then _ else _) _ _ s;rw[if_neg (show¬(Value.ref t==Value.none)=true from fun z=>nomatch (show false=true from z))];show wpAny _ _ (field (.ref it) 1 >>=_) _ _ s;refine Yr (ZG b1 b3 (x:= .int j 0) rfl ?_);show wpAny _ _ (seqItems? (.ref t) >>=_) _ _ s;refine Yr (aa2 d1 d2 ?_);simp only [ZD,a3];refine Yr (wpAny_setField b1 b3 (by simp) (Yv ⟨y,rfl,Yv (k _ ⟨_,ab9 _ b1 (Obj.isFreed_of_fields (ai4 b3 _)),(Obj.cls_mapFields ..).trans b2,by rw[ai4 b3];simp [rawInt]⟩ (ZX ..))⟩))
theorem rA(hh:A.handled=none)(a1:s.heap.IsTupleIter it t j)(a2:s.heap.IsTuple t ao)(a3:ao[j]?=none)(k: ∀h' e,Heap.ExtBut it s.heap h'->(∃o,h'.get? e=some o/\o.cls= .type "StopIteration")->E (.ref e) {s with heap:=h'}):wpAny (model prog w) A (Builtin.SmallTypes.nextOf (.ref it)) Q E s:=by
 obtain⟨ob,b1,b2,b3⟩:=id a1;obtain⟨ot,d1,_,nt,d2⟩:=a2;unfold Builtin.SmallTypes.nextOf;refine Yr (ZH (name:=Str.ofString "__next__") a1.typeIs ae0 (ZP ae0 a1.typeIs F.entry_tuple_iterator_next ?_ (F.args_tuple_iterator_next_1 _)));show wpAny _ _ (field (.ref it) 0 >>=_) _ _ s;refine Yr (ZG b1 b3 (x:= .ref t) rfl ?_);show wpAny _ _ (if (Value.ref t==Value.none)=true then _ else _) _ _ s;rw[if_neg (show¬(Value.ref t==Value.none)=true from fun z=>nomatch (show false=true from z))];show wpAny _ _ (field (.ref it) 1 >>=_) _ _ s;refine Yr (ZG b1 b3 (x:= .int j 0) rfl ?_);show wpAny _ _ (seqItems? (.ref t) >>=_) _ _ s;refine Yr (aa2 d1 d2 ?_);simp only [ZD,a3];refine Yr (Z7 (Yr (wpAny_setField b1 b3 (by simp) ?_)));show wpAny _ _ (newExc (.type "StopIteration") [] >>=_) _ _ _;refine Yr ?_;simp only [newExc,newTuple];refine Yr (Zc ?_ (by size_fits));refine Yr (m:=firstArgMember _ _) (wpAny_of_eq (a:=Value.none) (by first | rfl | (simp only [firstArgMember];rfl)) (Zc ?_ (by size_fits)));simp only [raiseNew];refine Yr (wpAny_handled ?_);first | rw[show A.in1.handled=none from hh] | rw[hh]
 exact Yr (Yv (wpAny_throw (k _ _ (((ZX ..).extBut.push _).push _) ⟨_,YI _ rfl,rfl⟩)))
theorem sU{prog:Program}{w:World}{A:Around}(hh:A.handled=none)(it t:Addr)(Dj:t≠it)(ao:Array Value)(k:Nat):
  Draws prog w A it [it,t] (ao.size+k) (fun i v=>k<=i/\ao[i - k]?=some v) (fun i h=>k<=i/\h.IsTupleIter it t (i - k)/\h.IsTuple t ao) where
 live:=fun _ _ cj=>(by obtain⟨_,st,_⟩:=cj;exact(let ⟨o,ho,_⟩:=st;⟨o,ho⟩))
 frame:=fun _ _ _ dM hk=>(by obtain⟨l,st,gu⟩:=dM;exact(⟨l,let ⟨o,q,r⟩:=st;⟨o,hk it (by simp) o q,r⟩,let ⟨o,q,r⟩:=gu;⟨o,hk t (by simp) o q,r⟩⟩))
 item:=fun i s Q E hi ⟨l,st,gu⟩ hQ=>by
  have df:i - k < ao.size:=by grind
  refine rq st gu (y:=ao[i - k]) (by simp [df]) fun h' q1 q2=>hQ _ h' s.toks ⟨l,by simp [df]⟩ ⟨by grind,?_,?_⟩ q2
  . rw[show i+1 - k=i - k+1 by grind];exact q1
  . obtain⟨o,q,r⟩:=gu;exact⟨o,(q2.2 t Dj).trans q,r⟩
 done:=fun s Q E jP hE=>(by obtain⟨l,st,gu⟩:=jP;exact(rA hh st gu (by simp) hE))
section
variable{X:Cx}{pins:List (Addr × Obj)}{σ:St}{H:Hp}{s:Shared}
theorem Inv.og{h':Heap}{t':Nat}{ch:List Addr}(I:Inv X pins σ H s)(hc: ∀b∈ch,cU X pins H b)(hT:s.heap.objs.size<=T)(k: ∀b u,b∉ch->s.heap.get? b=some u->h'.get? b=some u)(new:a9 X.prog X.w (upd H T o) h' T o):Inv X pins σ (upd H T o) {s with heap:=h',toks:=t'}:=by
 have nT:H T=none:=I.aT.fresh hT;have ne: ∀b u,s.heap.get? b=some u->b≠T:=fun b u e z=>absurd (YW (YM e) (z▸hT)) (Zt _);have xG: ∀b u,H b=some u->b∉ch:=fun b u e z=>by rw[(hc b z).1] at e;cases e
 refine I.step (g':=s.gens) (d':=s.drawn) (ch:=ch) (fun b hb=>?_) (fun b u _ _ hn e _=>k b u hn e) (fun b u _ _ hn e _=>⟨u.slots,k b u hn e⟩) (fun b u hn e n=>by rw[ag (ne b u e)];exact n)
  (fun b u hn e=>⟨u,k b u hn e⟩) (fun b xs e=>by rw[ag (aj e nT)];exact e) (fun b ob u e=>by rw[ag (aj e nT)];exact e) (fun b ps e=>⟨#[],by rw[ag (aj e nT),e];simp⟩) (fun m hm=>?_) (fun b u e=>?_) I.bare
 . obtain⟨f0,f1,f2,f3,f4,f5⟩:=hc b hb;exact⟨f3,f1,f4,f5⟩
 . obtain⟨ob,es,ep,ho,r⟩:=hm;exact⟨ob,es,ep,k _ ob (fun z=>(hc _ z).2.1 rfl) ho,r⟩
 . by_cases hb:b=T
   . subst hb;rw[af] at e;cases e;exact new
   . rw[ag hb] at e;refine(I.aT b u e).jU (fun c v Ds q=>k c v ?_ q) (fun c q=>by rw[ag (aj q nT)];exact q) fun c xs q=>by rw[ag (aj q nT)];exact q
     rcases Ds with z | z
     . rw[z];exact xG b u e
     . exact xG c _ z
noncomputable def Ld(K:PySem.W.Frag)(a:Addr)(k:Nat):It:=
 ⟨fun i H=> ∃xs x,dE K H a xs/\xs[i]?=some x,fun i H x H'=> ∃p y,x= .ref p/\H p=none/\H'=upd H p (.tup [.int ((i+k:Nat):Int),y])/\ ∀xs,dE K H a xs->xs[i]?=some y,fun i H=> ∃xs,dE K H a xs/\xs.length=i⟩
theorem xF{P:Program}{w:World}{K:PySem.W.Frag}{es:List Expr}{x1}{tp:Pos}(a e it:Addr)(k:Nat)(Ro:e≠it):
  Turn P w K (.Tuple es x1 tp) (Ld K a k) [e,it] e (fun i h=>(∃old,IsEnum h e it ((i+k:Nat):Int) old)/\h.IsTupleIter it a i) where
 mem:=by simp
 obj:=fun i h st b hb=>by
  obtain⟨⟨old,rG⟩,gu⟩:=st;rcases YU.mp hb with q | q
  . subst q;exact⟨_,rG,fun v z=>nomatch (show Data.fields _=Data.cell v from z)⟩
  . have q:b=it:=by simpa using q
    subst q;obtain⟨o,q1,q2,q3⟩:=gu;exact⟨o,q1,fun v z=>by rw[q3] at z;cases z⟩
 keep:=fun i h h' st kk=>by
  obtain⟨⟨old,rG⟩,gu⟩:=st;exact⟨⟨old,kk e (by simp) _ rG⟩,gu.at fun o q=>kk it (by simp) o q⟩
 item:=by
  intro X hP hw hK hc i pins s σ H E I hf st hg;subst hP hw hK;obtain⟨xs,x,hq,hx⟩:=hg;obtain⟨ao,rv,p,hz⟩:=I.tuple hq;obtain⟨u,hu,ru⟩:=rv.get hx;obtain⟨⟨old,rG⟩,gu⟩:=st;have ha: ∃o,s.heap.get? a=some o:=let ⟨o,q,_⟩:=p;⟨o,q⟩;have Wu:a≠e:=by
   rintro rfl
   obtain⟨o,q1,q2,_⟩:=p;rw[rG] at q1;cases q1;injection q2 with z;exact absurd z (by decide)
  have Ru:a≠it:=by
   rintro rfl
   obtain⟨o,q1,q2,_⟩:=p;obtain⟨o',r1,r2,_⟩:=gu;rw[r1] at q1;cases q1;rw[r2] at q2;injection q2 with z;exact absurd z (by decide)
  have D:=sU (prog:=X.prog) (w:=X.w) (A:=X.A.in1) (I.ok.hd hc) it a Ru ao.toArray k;have hlen:i < ao.length:=(YB.mp hu).1;refine wpAny_pyNext_enum_itemD D rG ⟨by lia,by rw[show i+k - k=i by lia];exact gu,p⟩ (by simp;lia) Ro (by simp [Ro,Ne.symm Wu]) fun y h' tk hy ho oN ht hsz hk=>?_;obtain⟨_,hy⟩:=hy;rw[show i+k - k=i by lia] at hy;have ey:y=u:=by
   have:ao[i]?=some y:=by simpa using hy
   rw[hu] at this;cases this;rfl
  subst ey;refine⟨_,rfl,?_⟩;refine wpAny_letOwnedTupleGo_enum ho fun h2 Wh Qm=>?_;have Nh:e < s.heap.objs.size:=YM rG;have M8:it < s.heap.objs.size:=let ⟨o,q,_⟩:=gu;YM q;have I1:Inv X pins σ (upd H s.heap.objs.size (.tup [.int ((i+k:Nat):Int),x])) {s with heap:=h2,toks:=tk+1}:=by
   refine I.og (ch:= [e,it]) hf (Yx _) (fun b o hb q=>?_) ⟨by show 2<=sizeLine;decide,[.int ((i+k:Nat):Int) tk,y],.cons ⟨_,rfl⟩ (.cons ru .nil),?_⟩
   . have h1:b≠e:=fun z=>hb (by simp [z]);have yw:b≠it:=fun z=>hb (by simp [z]);exact(Qm.2 b h1).trans (hk b o h1 yw q)
   . exact⟨_,(Qm.2 _ (aa8 Nh)).trans ht,rfl,rfl,_,rfl⟩
  refine⟨.ref s.heap.objs.size,_,I1,rfl,⟨_,x,rfl,I.aT.fresh (Yx _),rfl,fun ys hy=>by rw[I.oi hy hq];exact hx⟩,⟨⟨y,?_⟩,?_⟩,fun b hb=>?_⟩
  . rw[show((i+1+k:Nat):Int)=((i+k:Nat):Int)+1 by lia];exact Wh
  . obtain⟨_,q,_⟩:=oN;rw[show i+k+1 - k=i+1 by lia] at q;exact q.at fun o z=>(Qm.2 it (Ne.symm Ro)).trans z
  . rw[ag (fun z=>?_)]
    . exact(hf b hb).1
    . rcases YU.mp hb with q | q
      . subst q;exact absurd (z▸Nh) (Zt _)
      . have q:b=it:=by simpa using q
        subst q;exact absurd (z▸M8) (Zt _)
 done:=by
  intro X hP hw hK hc i pins s σ H E I hf st hg;subst hP hw hK;obtain⟨xs,hq,hx⟩:=hg;obtain⟨ao,rv,p,hz⟩:=I.tuple hq;obtain⟨⟨old,rG⟩,gu⟩:=st;have Ru:a≠it:=by
   rintro rfl
   obtain⟨o,q1,q2,_⟩:=p;obtain⟨o',r1,r2,_⟩:=gu;rw[r1] at q1;cases q1;rw[r2] at q2;injection q2 with z;exact absurd z (by decide)
  have hl:=rv.length;have D:=sU (prog:=X.prog) (w:=X.w) (A:=X.A.in1) (I.ok.hd hc) it a Ru ao.toArray k;obtain⟨f0,f1,f2,f3,f4,f5⟩:=hf it (by simp);refine wpAny_pyNext_enum_endD D rG ⟨by simp,?_,p⟩ fun h' eb=>⟨rfl,I.turned (t':=s.toks) (fun b o hb q=>eb b o hb q) f0 f1 f3 f4 f5⟩
  rw[show ao.toArray.size+k - k=i by simp;lia];exact gu
 self:=fun A i s Q E st h=>by
  obtain⟨⟨old,rG⟩,_⟩:=st;exact wpAny_pyIter_enum rG h
end
section
variable{X:Cx}{tg:Expr}{a b:Expr}{ta tb:TE}{pos:Pos}
def MJ(K:PySem.W.Frag)(k:Nat)(ta:TA):TI:=fun σ H R=>ta σ H fun vs H1=> ∃a,vs= [.ref a]/\(∃xs,dE K H1 a xs)/\R (Ld K a k) H1
def Jn(K:PySem.W.Frag)(ta:TA)(tk:TA):TI:=fun σ H R=>ta σ H fun vs H1=>tk σ H1 fun zs H2=> ∃a,vs= [.ref a]/\zs= [.int 1]/\(∃xs,dE K H2 a xs)/\R (Ld K a 1) H2
theorem kA{x1}{k:Nat}(I:Inv X pins σ H s)(q:R (Ld X.K p k) H):
  wpAny (model X.prog X.w) X.A (pyIter (.ref (s.heap.push {cls:= .type "tuple_iterator",data:= .fields #[.ref p,.int 0 0]}).objs.size)) (O7 X pins σ (.Tuple es x1 tp) R) E {s with heap:=jw s.heap p k,toks:=tk}:=by
 have z:(s.heap.push {cls:= .type "tuple_iterator",data:= .fields #[.ref p,.int 0 0]}).objs.size=s.heap.objs.size+1:=ZK ..;have he:IsEnum (jw s.heap p k) (s.heap.objs.size+1) s.heap.objs.size k .none:=by
  have:=YI (s.heap.push {cls:= .type "tuple_iterator",data:= .fields #[.ref p,.int 0 0]}) (o:={cls:= .type "enumerate",data:= .fields #[.none,.bool false,.ref s.heap.objs.size,rawInt k,.none,.none]}) rfl;rw[z] at this;exact this
 have hi:(jw s.heap p k).IsTupleIter s.heap.objs.size p 0:=⟨_,Yu _ (YI _ rfl),rfl,rfl⟩
 rw[z];refine wpAny_pyIter_enum he ?_;refine⟨s.heap.objs.size+1,[s.heap.objs.size+1,s.heap.objs.size],_,Ld X.K p k,H,rfl,I.kept fun c o e=>Yu _ (Yu _ e),xF p _ _ k (Nat.succ_ne_self _),⟨⟨.none,?_⟩,hi⟩,fun c hc=>?_,q⟩
 . rw[ai1];exact he
 . have hle : s.heap.objs.size <= c := by
     rcases YU.mp hc with q | q
     . rw[q];exact ah6 _
     . have q:c=s.heap.objs.size:=by simpa using q
       rw[q];exact Yx _
   exact I.jo hle (I.aT.fresh hle)
theorem AE{x1}(hg:Gl X "enumerate")(hm:X.mg "enumerate"=none)(ha:PA X [e] t)(hs:starEach [e] X.env= [(false,eval e X.env)]:=by rfl):
  PI X (.Tuple es x1 tp) (.Call (.Name "enumerate" p) [e] [] pos) (MJ X.K 0 t):=by
 intro pins s σ H R I h;refine Call_ (fA I hg hm boot_enumerate (aa7 (aV (ha pos pins s σ H _ I h) fun us s1 cj=>?_) hs rfl));obtain⟨vs,H1,I1,r1,q1⟩:=cj;obtain⟨p,rfl,⟨xs,hq⟩,q⟩:=q1;obtain⟨u,rfl,ru⟩:=vals1 r1;cases ru;obtain⟨ao,rv,pt,hz⟩:=I1.tuple hq;exact m4 F.called_enumerate (by decide) (F.typeCall_enumerate_1 _) (F.newCall_enumerate_1 _) (fun obj=>F.args_object_init_2 obj _) F.entry_enumerate_new (B7 p) ⟨⟨_,pt⟩,⟨_,YI _ rfl,rfl⟩,kA (k:=0) I1 q⟩
theorem yC(a b:Value):checkTypeCall "enumerate" ⟨[a],[("start",b)]⟩=pure ():=by kernel_rfl
theorem yD(a b:Value):checkBuiltinCall "enumerate.__new__" ⟨[.type "enumerate",a],[("start",b)]⟩=pure ():=by kernel_rfl
theorem Ba(a b c:Value):argsOk "object.__init__" ⟨[a,b],[("start",c)]⟩:=by unfold argsOk;kernel_rfl
theorem nU{M:Model}{A:Around}{E:Value->Shared->Prop}{s:Shared}{env:Env}{pos:Pos}{T:String}{Q:Value->Shared->Prop}{e:Expr}{rest:List Expr}(h:wpAny M A (spliced (backTo pos (starEach (e::rest) env))) (fun vs z=>wpAny M A (evalAll ((backToKw pos (keywordEach kn env)).map (·.2))) (fun ks z2=>wpAny M A (call (.type T) vs (((backToKw pos (keywordEach kn env)).filterMap (·.1)).zip ks)) Q E z2) E z) E s)(k1:backTo pos (starEach (e::rest) env)=(false,eval e env)::backTo pos (starEach rest env):=by rfl)(k2:(backTo pos (starEach (e::rest) env)).any (·.1)=false:=by rfl)(k3:(backToKw pos (keywordEach kn env)).all (·.1.isSome)=true:=by rfl)(k4:(backToKw pos (keywordEach kn env)).any (·.1.isNone)=false:=by rfl):
  wpAny M A (callWith pos (.type T) [] (backTo pos (starEach (e::rest) env)) (backToKw pos (keywordEach kn env))) Q E s:=by
 have g:wpAny M A (evalArgs (.type T) true (backTo pos (starEach (e::rest) env)) (backToKw pos (keywordEach kn env))) (fun a z=>wpAny M A (call (.type T) ([]++a.pos) a.kw) Q E z) E s:=by
  rw[k1] at h ⊢;exact evalArgs_kwB k3 h
 unfold callWith;refine Yr (Zs (Y2 g (fun a z gz=>Yr (ZY ?_)) fun _ _ x=>x));simp only [k2,k4,Bool.or_false];exact Yr (Yv (Yr (Y2 gz (fun r z2 hr=>Yr (Zs (wpAny_point (Yv hr)))) fun _ _ x=>x)))
theorem AD{x1}(hg:Gl X "enumerate")(hm:X.mg "enumerate"=none)(ha:PA X [e] t)(hk:PK X kn tk)(wH:(backToKw pos (keywordEach kn X.env)).filterMap (·.1)=(["start"]:List Str):=by rfl)(k1:backTo pos (starEach [e] X.env)=(false,eval e X.env)::backTo pos (starEach [] X.env):=by rfl)(k2:(backTo pos (starEach [e] X.env)).any (·.1)=false:=by rfl)(k3:(backToKw pos (keywordEach kn X.env)).all (·.1.isSome)=true:=by rfl)(k4:(backToKw pos (keywordEach kn X.env)).any (·.1.isNone)=false:=by rfl):
  PI X (.Tuple es x1 tp) (.Call (.Name "enumerate" p) [e] kn pos) (Jn X.K t tk):=by
 intro pins s σ H R I h;refine ab6 (fA I hg hm boot_enumerate (nU (aV (ha pos pins s σ H _ I h) fun us s1 iU=>?_) k1 k2 k3 k4));obtain⟨vs,H1,I1,r1,q1⟩:=iU;refine aV (hk pos pins s1 σ H1 _ I1 q1) fun ws s2 jP=>?_;obtain⟨zs,H2,I2,rz,q2⟩:=jP;obtain⟨p,rfl,rfl,⟨xs,hq⟩,q⟩:=q2;obtain⟨u,rfl,ru⟩:=vals1 r1;cases ru;obtain⟨u2,rfl,⟨zM,rfl⟩⟩:=vals1 rz;obtain⟨ao,rv,pt,hz⟩:=I2.tuple hq;rw[wH];exact m4 F.called_enumerate (by decide) (yC _ _) (yD _ _) (fun obj=>Ba obj _ _) F.entry_enumerate_new (B6 p zM) ⟨⟨_,pt⟩,⟨_,YI _ rfl,rfl⟩,kA (k:=1) I2 q⟩
def vP(K:PySem.W.Frag):R2:=fun x y H Q=> ∃p q xs,x= .ref p/\y= .ref q/\cY K H p xs/\cY K H q []/\Q (.bl xs.isEmpty) H
theorem oE(hu:X.A.units < cLine):kR X (compareOp .Eq) (vP X.K):=by
 intro pins s σ H x y v u Q I rx ry h;obtain⟨p,q,xs,rfl,rfl,h1,h2,hq⟩:=h;cases rx;cases ry;obtain⟨ao,rv,pl,_⟩:=I.list h1;obtain⟨de,nv,Ed,_⟩:=I.list h2;cases nv;cases rv with
 | nil=>exact SeqAt.eq_listAt (e:=fun _=>true) pl.isList Ed.isList rfl hu (fun j h1 _=>absurd h1 (by simp)) ⟨.bl true,H,I,rfl,hq⟩
 | cons r rr=>exact SeqAt.eq_list_lengthsAt pl.isList Ed.isList (by simp) hu ⟨.bl false,H,I,rfl,hq⟩
def Oz(i j:Int):Prop:=0 < j/\j < 2^64
theorem Qz(h1:0 < j)(h2:j < 2^64):Builtin.divisionGoesByPylong i j=false:=by
 have e:j.natAbs < 2^64:=by lia
 have l:j.natAbs.log2 < 64:=by
  rw[Nat.log2_lt (by lia)];exact e
 unfold Builtin.divisionGoesByPylong;have: ¬(if (j==0)=true then 0 else j.natAbs.log2 / 30+1) > 300:=by
  split <;> lia
 simp only [ZI this,Bool.false_and]
theorem jG:dJ X (.builtin "divmod") (fun xs H Q=> ∃i j,xs= [.int i,.int j]/\Oz i j/\ ∀p,H p=none->Q (.ref p) (upd H p (.tup [.int (i / j),.int (i % j)]))):=by
 intro pins s σ H xs us Q I r h;obtain⟨i,j,rfl,⟨h1,h2⟩,q⟩:=h;obtain⟨u,u2,rfl,⟨t,rfl⟩,⟨t',rfl⟩⟩:=vals2 r;refine divmod_int (by lia) ?_ (.inl (Qz h1 h2));rw[Int.fdiv_eq_ediv_of_nonneg i (by lia),Int.fmod_eq_emod_of_nonneg i (by lia)];refine⟨.ref s.heap.objs.size,_,I.laid (o:= .tup [.int (i / j),.int (i % j)]) (fun b o e=>Yu _ e) (Yx _) ⟨by show 2<=sizeLine;decide,[.int (i / j) s.toks,.int (i % j) (s.toks+1)],.cons ⟨_,rfl⟩ (.cons ⟨_,rfl⟩ .nil),_,YI s.heap rfl,rfl,rfl,0,rfl⟩,rfl,q _ (I.aT.fresh (Yx _))⟩
noncomputable def sG(T:String)(H:Hp):V->Option Bool
 | .aI=>some false
 | .bl _=>some (T=="bool" || T=="int")
 | .int _=>some (T=="int")
 | .str _=>some (T=="str")
 | .ref a=>match H a with
  | some (.lst _)=>some (T=="list")
  | some (.tup _)=>some (T=="tuple")
  | _=>none
 | _=>none
theorem Jl(hT:T="int"\/T="bool"\/T="tuple"\/T="list"\/T="str"):dJ X (.builtin "isinstance") (fun xs H Q=> ∃x b,xs= [x,.ty T]/\sG T H x=some b/\Q (.bl b) H):=by
 intro pins s σ H xs us Q I r h;obtain⟨x,b,rfl,e,q⟩:=h;obtain⟨u,u2,rfl,ru,LZ⟩:=vals2 r;cases (show u2=Value.type T from LZ);have fin: ∀tk:Nat,EP X pins σ Q (.bool b) {s with toks:=tk}:=fun tk=>⟨.bl b,H,I.tok _,rfl,q⟩
 cases x with
 | aI=>cases e;rcases hT with rfl | rfl | rfl | rfl | rfl <;> exact dR I ru .aI rfl fin
 | bl y=>cases e;rcases hT with rfl | rfl | rfl | rfl | rfl <;> exact dR I ru (.bl y) rfl fin
 | int y=>cases e;rcases hT with rfl | rfl | rfl | rfl | rfl <;> exact dR I ru (.int y) rfl fin
 | str y=>cases e;rcases hT with rfl | rfl | rfl | rfl | rfl <;> exact dR I ru (.str y) rfl fin
 | ref a=>
  cases ha:H a with
  | none=>simp only [sG,ha] at e;cases e
  | some o=>
   cases o with
   | lst xs=>simp only [sG,ha] at e;cases e;rcases hT with rfl | rfl | rfl | rfl | rfl <;> exact dR I ru (.lst ha) rfl fin
   | tup xs=>simp only [sG,ha] at e;cases e;rcases hT with rfl | rfl | rfl | rfl | rfl <;> exact dR I ru (.tup ha) rfl fin
   | _=>simp only [sG,ha] at e;cases e
 | _=>cases e
end
inductive fX:List Value->List Bool->Prop
 | nil:fX [] []
 | cons (b:Bool) {vs:List Value} {bs:List Bool}:fX vs bs->fX (.bool b::vs) (b::bs)
theorem fX.of: ∀{bs:List Bool} {us:List Value},Vals (bs.map V.bl) us->fX us bs
 | [],_,.nil=> .nil
 | b::bs,_,.cons r rr=>by
  cases (show _=Value.bool b from r);exact .cons b (fX.of rr)
theorem fX.get(h:fX vs bs): ∀(i:Nat) (v:Value),vs[i]?=some v-> ∃b,bs[i]?=some b/\v= .bool b:=by
 induction h with
 | nil=>intro i v e;simp at e
 | cons b _ ih=>
  intro i v e;cases i with
  | zero=>simp at e;subst e;exact⟨b,rfl,rfl⟩
  | succ i=>simpa using ih i v (by simpa using e)
theorem An(bs:List Bool):((List.range bs.length).all fun i=>(bs[i]?).getD true)=bs.all id:=by
 rw[ai0,ab4,ab4];constructor
 . intro h b hb;obtain⟨i,hi,e⟩:=ZW hb;have:=h i (Zp.mpr hi);simp only [Ys hi,Option.getD_some,e] at this;exact this
 . intro h i hi;have jN:=Zp.mp hi;simp only [Ys jN,Option.getD_some];exact h _ (Zv jN)
theorem CO{X:Cx}(hc:X.calm=true):dJ X (.builtin "all") (fun xs H Q=> ∃a bs,xs= [.ref a]/\cY X.K H a (List.map V.bl bs)/\Q (.bl (bs.all id)) H):=by
 intro pins s σ H xs us Q I r h;obtain⟨a,bs,rfl,hq,q⟩:=h;obtain⟨u,rfl,ru⟩:=vals1 r;cases ru;obtain⟨ao,rv,pl,_⟩:=I.list hq;have hl:=pl.isList;have hb:=fX.of rv;have hlen:ao.length=bs.length:=by rw[<-rv.length,Yt]
 have df:a < s.heap.objs.size:=by obtain⟨_,e,_⟩:=hl;exact YM e
 refine call_all_walk (ac5 hl ?_);refine⟨s.heap.objs.size,[s.heap.objs.size,a],[s.heap.objs.size],ao.toArray.size,_,_,fun i=>(bs[i]?).getD true,rfl,Walks.list (A:=X.A.in1) (I.ok.hd hc) _ a (Zb df) ao.toArray,
  ⟨⟨_,YI _ rfl,rfl,rfl⟩,hl.push _⟩,fun i v s' Q' E' hP hQ=>?_,fun h' tk hk=>?_⟩
 . obtain⟨b,e,rfl⟩:=hb.get i v (by simpa using hP);simp only [e,Option.getD_some] at hQ;exact ac4 hQ
 . have e : ((List.range ao.toArray.size).all fun i => (bs[i]?).getD true) = bs.all id := by
     rw[YG,hlen];exact An bs
   rw[e];exact⟨.bl (bs.all id),H,I.kept fun b x e=>hk b x (fun hm=>by rw[YX.mp hm] at e;exact Zt _ (YM e)) (Yu _ e),rfl,q⟩
end L2
namespace L2
open PySem PySem.Spec PyProof.Rows HT
def vb(H:Hp)(zs:List V)(p:Addr)(H':Hp):Prop:=(H'=H/\H p=some (.tup zs))\/(H p=none/\H'=upd H p (.tup zs))
theorem vb.at(h:vb H zs p H'):H' p=some (.tup zs):=by
 rcases h with ⟨rfl,h⟩ | ⟨_,rfl⟩
 . exact h
 . exact af
theorem vb.keep(h:vb H zs p H'):aC H H':=by
 rcases h with ⟨rfl,h⟩ | ⟨h,rfl⟩
 . exact fun _ _ e=>e
 . exact fun b o e=>by rw[ag (aj e h)];exact e
theorem CM{vs ws:List Value}(ht:IsTup s.heap t vs.toArray)(hb:IsTup s.heap b ws.toArray)(hv:vs= [])(h:Q (.ref b) s):wpAny (model prog w) A (binaryOp .Add (.ref t) (.ref b)) Q E s:=by
 obtain⟨⟨c1,d1,t1,l1⟩,a1,a2,n1,a3⟩:=id ht;obtain⟨⟨c2,d2,t2,l2⟩,b1,b2,n2,b3⟩:=id hb;simp only at a2 a3 b2 b3;subst a2 a3 b2 b3;exact concat_meets ⟨_,a1,rfl⟩ ⟨_,b1,rfl⟩ noFill_tuple_add seq_tuple_add PySem.F.slot_tuple_add aj2 (ai7 _ _) (tuple_addW0 t b vs.toArray ws.toArray n1 n2 d1 d2 l1 l2 (by simp [hv])) ⟨a1,b1,h⟩
theorem jm{t sl:Addr}{items:Array Value}{vl vu:Value}{lo hi:Option Int}(ht:IsTup s.heap t items)(hs:s.heap.IsSliceOf sl vl vu .none)(pl:IsPart vl lo)(pu:IsPart vu hi)(hw:cV items.size 0 lo=0/\cV items.size items.size hi=items.size)(h:Q (.ref t) s):wpAny (model prog w) A (getItem (.ref t) (.ref sl)) Q E s:=by
 obtain⟨os,Bw,GI,EZ⟩:=id hs;have JD:s.TypeIs (.ref sl) "slice":=⟨os,Bw,GI⟩
 unfold getItem;try with_reducible refine Zs ?_
 first | refine Yr (Yv ?_) | skip
 refine Yr (aj3 ht.typeIs (by decide) ?_);refine Yr (ZH (name:=Str.ofString "__getitem__") ht.typeIs Zz
  (ZP Zz ht.typeIs ah7 ?_ (ai3 _ _)))
 show wpAny _ _ (Builtin.Tuple.tupleItemsOf (.ref t) >>=_) _ _ s;refine Yr (tupleItemsOf_ ht ?_);refine Yr (wpAny_typeOf JD ?_);rw[if_pos (by decide)];refine Yr (fD hs pl pu ?_);rw[hw.1,hw.2];obtain⟨ob,k1,k2,k3⟩:=id ht;show wpAny _ _ (if (((0:Nat):Int)==0 && (1:Int)==1 && (items.size - 0)==items.size)=true then _ else _) _ _ s;rw[if_pos (by simp)];wp_walk using AutoSeq1.wpAny_loadPart' k1
 all_goals exact⟨_,rfl,Yv h⟩
theorem bf{α β:Type}{f g:α->Option β}: ∀{l:List α},(∀x∈l,f x=g x)->l.filterMap f=l.filterMap g
 | [],_=>rfl
 | a::r,h=>by rw[ac9,ac9,h a YN,bf fun x hx=>h x (YQ _ hx)]
theorem D3(xs:Array Value):((List.range xs.size).filterMap fun(m:Nat)=>xs[(((xs.size:Int) - 1)+(m:Int)*(-1)).toNat]?).toArray=xs.toList.reverse.toArray:=by
 have e:(List.range xs.size).filterMap (fun(m:Nat)=>xs[(((xs.size:Int) - 1)+(m:Int)*(-1)).toNat]?)=((List.range xs.size).map (fun k=>xs.size - 1 - k)).filterMap (xs[·]?):=by
  rw[List.filterMap_map];refine bf fun m hm=>?_;have:=Zp.mp hm;show xs[_]?=xs[xs.size - 1 - m]?;congr 1
  lia
 rw[e,PySem.W.krv_range,List.filterMap_reverse,PySem.W.krv_all]
theorem LS{n:Nat}(hs:s.heap.IsSliceOf sl .none .none vk)(pk:IsPart vk (some (-1)))(h:Q ((n:Int) - 1,-1,n) s):wpAny (model prog w) A (Builtin.Slice.sliceApplied (.ref sl) (pure (n:Int))) Q E s:=by
 obtain⟨os,k1,k2,k3⟩:=id hs;unfold Builtin.Slice.sliceApplied Builtin.Slice.sliceFields;refine Yr (Yr (ZG k1 k3 (x:= .none) rfl (Yr (ZG k1 k3 (x:= .none) rfl (Yr (ZG k1 k3 (x:=vk) rfl (Yv ?_)))))));refine Yr (dX pk ?_);show wpAny _ _ (if ((-1:Int)==0)=true then _ else _) _ _ s;rw[if_neg (by decide)];refine Yr (ai9 (Yr (ai9 (Yr (Yv ?_)))));show wpAny _ _ (pure ((n:Int) - 1,(-1:Int),Builtin.Slice.slicePlaces ((n:Int) - 1) (-1) (-1))) _ _ s;have e:Builtin.Slice.slicePlaces ((n:Int) - 1) (-1) (-1)=n:=by
  unfold Builtin.Slice.slicePlaces;rw[if_neg (by decide),show(- -1:Int)=1 by decide,Int.ediv_one];split <;> lia
 rw[e];exact Yv h
theorem jh(ht:IsTup s.heap t items)(hs:s.heap.IsSliceOf sl .none .none vk)(pk:IsPart vk (some (-1)))(hsz:items.size<=sizeLine)(h:Q (.ref s.heap.objs.size) {s with heap:=s.heap.push {cls:= .type "tuple",data:= .seq items.toList.reverse.toArray}}):wpAny (model prog w) A (getItem (.ref t) (.ref sl)) Q E s:=by
 obtain⟨os,Bw,GI,EZ⟩:=id hs;have JD:s.TypeIs (.ref sl) "slice":=⟨os,Bw,GI⟩
 have room:sizeOk (.seq items.toList.reverse.toArray):=by
  show items.toList.reverse.toArray.size<=sizeLine;rw[YG,ZQ,YH];exact hsz
 unfold getItem;try with_reducible refine Zs ?_
 first | refine Yr (Yv ?_) | skip
 refine Yr (aj3 ht.typeIs (by decide) ?_);refine Yr (ZH (name:=Str.ofString "__getitem__") ht.typeIs Zz
  (ZP Zz ht.typeIs ah7 ?_ (ai3 _ _)))
 show wpAny _ _ (Builtin.Tuple.tupleItemsOf (.ref t) >>=_) _ _ s;refine Yr (tupleItemsOf_ ht ?_);refine Yr (wpAny_typeOf JD ?_);rw[if_pos (by decide)];refine Yr (LS hs pk ?_);show wpAny _ _ (if (((items.size:Int) - 1)==0 && (-1:Int)==1 && items.size==items.size)=true then _ else _) _ _ s;rw[if_neg (by simp),D3];first
  | exact Yr (m:=Builtin.Tuple.tupleExact _) (Zc (Yv ⟨_,rfl,Yv h⟩) room)
  | exact Yr (m:=Builtin.Tuple.tupleExact _) (Zc (Yr (Yv (Yv ⟨_,rfl,Yv h⟩))) room)
  | exact Yr (Yr (m:=Builtin.Tuple.tupleExact _) (Zc (Yv (Yv ⟨_,rfl,Yv h⟩)) room))
  | exact Yr (Yr (m:=Builtin.Tuple.tupleExact _) (Zc (Yv ⟨_,rfl,Yv h⟩) room))
section
variable{X:Cx}{e:Expr}{te:TE}{pos p2:Pos}
theorem Vals.rev: ∀{xs:List V} {us:List Value},Vals xs us->Vals xs.reverse us.reverse
 | _,_,.nil=> .nil
 | _,_,.cons r t=>by
  rw[ae2,ae2];exact(Vals.rev t).append (.cons r .nil)
def Gn:R2:=fun x y H Q=> ∃a b xs ys,x= .ref a/\y= .ref b/\H a=some (.tup xs)/\H b=some (.tup ys)/\xs.length+ys.length<=sizeLine/\ ∀p H',vb H (xs++ys) p H'->Q (.ref p) H'
theorem Ep:kR X (binaryOp .Add) Gn:=by
 intro pins s σ H x y v u Q I rx ry h;obtain⟨a,b,xs,ys,rfl,rfl,h1,h2,hz,q⟩:=h;cases rx;cases ry;obtain⟨ao,r1,p1,_⟩:=I.tuple (dE.of h1);obtain⟨de,r2,p2,_⟩:=I.tuple (dE.of h2);by_cases e1:ao= []
 . have ex:xs= []:=r1.v5.mp e1;refine CM p1 p2 e1 ⟨.ref b,H,I,rfl,q b H (.inl ⟨rfl,?_⟩)⟩;rw[ex];exact h2
 . refine FQ p1 p2 e1 (fun e2=>⟨.ref a,H,I,rfl,q a H (.inl ⟨rfl,?_⟩)⟩) (fun e2=>?_) (by rw[<-r1.length,<-r2.length];exact hz)
   . have ey:ys= []:=r2.v5.mp e2;rw[ey,Zw];exact h1
   . refine⟨.ref s.heap.objs.size,_,I.laid (t':=s.toks) (o:= .tup (xs++ys)) (fun b ob q=>Yu _ q) (Yx _) ⟨by rw[Y9];exact hz,_,r1.append r2,kT.new _ _⟩,rfl,q _ _ (.inr ⟨I.aT.fresh (Yx _),rfl⟩)⟩
def Qp:V->Option Int->Option Int->Hp->VK->Prop:=fun x lo hi H Q=> ∃a xs,x= .ref a/\H a=some (.tup xs)/\ ∀p H',vb H (mX xs lo hi) p H'->Q (.ref p) H'
theorem DT:qO X Qp:=by
 intro pins s σ H x v vl vu lo hi sl Q I rx hs pl pu h;obtain⟨a,xs,rfl,hx,q⟩:=h;cases rx;obtain⟨ao,r,ht,hz⟩:=I.tuple (dE.of hx);have hlen:ao.toArray.size=xs.length:=by rw[YG];exact r.length.symm
 refine⟨"tuple",_,PyProof.Rows.slot_tuple_getitem.lookup,ht.typeIs,?_⟩;by_cases hw:cV xs.length 0 lo=0/\cV xs.length xs.length hi=xs.length
 . refine jm ht hs pl pu (by rw[hlen];exact hw) ⟨.ref a,H,I,rfl,q a H (.inl ⟨rfl,?_⟩)⟩;unfold mX;rw[hw.1,hw.2,List.drop_zero,ai2,ab3];exact hx
 . refine HT.jj ht hs pl pu (by rw[hlen];exact hw) ?_ (by rw[hlen];exact hz);rw[hlen];refine⟨.ref s.heap.objs.size,_,I.laid (t':=s.toks) (o:= .tup (mX xs lo hi)) (fun b ob q=>Yu _ q) (Yx _) ?_,rfl,q _ _ (.inr ⟨I.aT.fresh (Yx _),rfl⟩)⟩;exact⟨YT (kC xs lo hi) hz,_,(r.drop (HT.cV xs.length 0 lo)).take (HT.cV xs.length xs.length hi - HT.cV xs.length 0 lo),kT.new _ _⟩
def P9(te:TE)(tk:TO):TE:=fun σ H Q=>te σ H fun x H1=>tk σ H1 fun o H2=>o=some (-1)/\ ∃a xs,x= .ref a/\H2 a=some (.tup xs)/\ ∀p,H2 p=none->Q (.ref p) (upd H2 p (.tup xs.reverse))
theorem IC(he:PE X e te)(hk:PO X (some k) tk):PE X (.Subscript e (.Slice none none (some k) p2) pos) (P9 te tk):=by
 intro pins s σ H Q I h;refine Subscript_ (aV (he pins s σ H _ I h) fun v s1 cj=>?_);obtain⟨x,H1,I1,r1,q1⟩:=cj;refine wpAny_Slice ?_;rw[evalPart_none];refine Yv (Yv (aV (hk pins s1 σ H1 _ I1 q1) fun vk s2 dM=>?_));obtain⟨o,H2,I2,pk,q2⟩:=dM;obtain⟨rfl,a,xs,rfl,hx,q⟩:=q2;cases r1;have I4:Inv X pins σ H2 {s2 with heap:=s2.heap.push {cls:= .type "slice",data:= .fields #[.none,.none,vk]}}:=I2.kept (t':=s2.toks) fun b ob q=>Yu _ q;obtain⟨ao,r,ht,hz⟩:=I4.tuple (dE.of hx);refine tail_any (ops:= [.ref a,.ref s2.heap.objs.size]) ht.typeIs PyProof.Rows.slot_tuple_getitem.lookup (jh ht (Heap.IsSliceOf.new ..) pk (by rw[YG,<-r.length];exact hz) ?_) (by with_unfolding_all rfl);refine⟨.ref _,_,I4.laid (t':=s2.toks) (o:= .tup xs.reverse) (fun b ob q=>Yu _ q) (Yx _) ⟨by rw[ZQ];exact hz,_,r.rev,kT.new _ _⟩,rfl,q _ (I4.aT.fresh (Yx _))⟩
end
end L2
namespace L2
open PySem PySem.Spec PyProof.Rows
theorem FX(h:0<=i)(e:xs[i.toNat]?=some v):kO xs i=some v:=by
 have:i=((i.toNat:Nat):Int):=by lia
 rw[this];exact aZ e
theorem wo{n:Nat}{i:Int}(h:0<=i)(hl:i < n):wq n i=some i.toNat:=by
 unfold wq;rw[if_pos h,if_pos hl]
def ik(P:Program)(w:World)(K:PySem.W.Frag)(mg:Str->Option Value)(base:Heap)(x:Str)(k:Nat)(ps:List Str)(sp:Sp):Prop:=
 ∃f fd,mg x=some (.ref f)/\PySem.W.keepIn K (.ref f)=true/\Binds K fd ps []/\bp P w K mg base eM k f fd ps sp
theorem mq{X:Cx}(h:ik X.prog X.w X.K X.mg X.base x k ps sp)(hr:bM k X.A)(hg:Gl X x)(ha:PA X (e::es) t)(lu:(x==("__debug__":Str))=false:=by decide)(he:starEach (e::es) X.env=(false,eval e X.env)::starEach es X.env:=by rfl)(cN:(backTo pos (starEach es X.env)).any (·.1)=false:=by rfl):
  PE X (.Call (.Name x p) (e::es) [] pos) (zU sp [] E0 t):=by
 obtain⟨f,fd,h1,h2,h3,h4⟩:=h;exact El h4 hr hg h1 h2 h3 .nil Gp ha lu he cN
end L2
namespace LB
open PySem L2 PyProof.Rows
theorem j9:bootBuiltins "int"=some (.type "int"):=by decide+kernel
theorem a8:bootBuiltins "tuple"=some (.type "tuple"):=by decide+kernel
theorem bJ:bootBuiltins "bool"=some (.type "bool"):=by decide+kernel
theorem dS:bootBuiltins "str"=some (.type "str"):=by decide+kernel
theorem yQ:bootBuiltins "sum"=some (.builtin "sum"):=by decide+kernel
theorem bB:bootBuiltins "list"=some (.type "list"):=by decide+kernel
theorem qG:bootBuiltins "divmod"=some (.builtin "divmod"):=by decide+kernel
theorem QI: ¬(("cells":Str)="turn"):=by decide+kernel
noncomputable def bx(c:Addr)(t:Int):List (Key × V):= [(Sum.inr "cells",.ref c),(Sum.inr "turn",.int t)]
theorem tq(c:Addr)(t:Int):fM (bx c t) (Sum.inr "cells":Key)=some (.ref c):=by
 simp [fM,bx]
theorem FT(c:Addr)(t:Int):fM (bx c t) (Sum.inr "turn":Key)=some (.int t):=by
 simp [fM,bx,QI]
theorem Kj(c:Addr)(t u:Int):putK (bx c t) (Sum.inr "turn":Key) (.int u)=bx c u:=by
 simp [putK,bx,QI]
structure tL(H:Hp)(d c:Addr)(t:Int):Prop where
 dc:H d=some (.dK (bx c t))
 cs: ∃ns:List Int,H c=some (.lst (ns.map V.int))/\0 < ns.length/\ns.length<=63
 t0:0<=t
 t1:t<=1000000
theorem tL.ne(b:tL H d c t):d≠c:=let ⟨_,h,_⟩:=b.cs;v7 b.dc h (by intro z;cases z)
def Kp(d c:Addr)(H H':Hp):Prop:= ∀b o,H b=some o->b≠d->b≠c->H' b=some o
theorem tL.same(b:tL H d c t)(s:aC H H'):tL H' d c t:=⟨s _ _ b.dc,let ⟨ns,h,r⟩:=b.cs;⟨ns,s _ _ h,r⟩,b.t0,b.t1⟩
def zZ:Sp:=fun vs H Q _=> ∃(d c:Addr) (t m:Int),vs= [.ref d,.int m]/\tL H d c t/\t < 1000000/\0 < m/\m < 2^64/\ ∀(r:Int) (H':Hp),0<=r->r < m->tL H' d c (t+1)->Kp d c H H'->Q (.int r) H'
def pH(K:PySem.W.Frag):Sp:=fun vs H Q _=> ∃(a:Addr) (ns:List Int),vs= [.ref a]/\cY K H a (ns.map V.int)/\ns.length<=63/\ ∀(d c:Addr) (H':Hp),tL H' d c 0->aC H H'->Q (.ref d) H'
theorem aC.new(h:H p=none):aC H (upd H p o):=fun b u e=>by rw[ag (aj e h)];exact e
end LB
namespace L2
open PySem PySem.Spec PyProof.Rows
theorem CN(hc:X.calm=true):dJ X (.builtin "sum") (fun xs H Q=> ∃a ns,xs= [.ref a]/\cY X.K H a (List.map V.int ns)/\Q (.int ns.sum) H):=by
 intro pins s σ H xs us Q I r h;obtain⟨a,ns,rfl,hq,q⟩:=h;obtain⟨u,rfl,ru⟩:=vals1 r;cases ru;obtain⟨ao,rv,pl,_⟩:=I.list hq;have hi:=intsAre_of rv;obtain⟨xs,hx⟩:=hi.allInts.items;have Dl:s.heap.IsList a (intItems xs):=hx▸pl.isList;refine sum_intListG (I.ok.hd hc) Dl fun h' tk t' hk=>?_;have e1:ns=xs.toList.map (·.1):=by
  rw[<-nums_intItems,<-hx];exact(show numsOf ao.toArray.toList=ns from hi.numsOf).symm
 have e2:preSum (numAt xs) xs.size=ns.sum:=by
  rw[preSum_eq,List.take_of_length_le (by simp),e1]
 rw[e2];exact⟨.int ns.sum,H,I.kept hk,⟨_,rfl⟩,q⟩
def ni(h:Heap)(it a:Addr)(xs:Array Value)(k:Nat):Prop:=(h.IsListIter it a k/\h.IsList a xs)\/(h.IsTupleIter it a k/\h.IsTuple a xs)
theorem ni.ext{h h':Heap}(z:ni h it a xs k)(e1: ∀o,h.get? it=some o->h'.get? it=some o)(e2: ∀o,h.get? a=some o->h'.get? a=some o):ni h' it a xs k:=by
 rcases z with ⟨z1,z2⟩ | ⟨z1,z2⟩
 . exact .inl ⟨let ⟨o,q,r⟩:=z1;⟨o,e1 o q,r⟩,let ⟨o,q,r⟩:=z2;⟨o,e2 o q,r⟩⟩
 . exact .inr ⟨let ⟨o,q,r⟩:=z1;⟨o,e1 o q,r⟩,let ⟨o,q,r⟩:=z2;⟨o,e2 o q,r⟩⟩
theorem uo(z:ni s.heap it a xs k)(Dj:a≠it)(hy:xs[k]?=some y)(hQ: ∀h',ni h' it a xs (k+1)->Heap.SameBut it s.heap h'->Q y {s with heap:=h'}):wpAny (model prog w) A (Builtin.SmallTypes.nextOf (.ref it)) Q E s:=by
 rcases z with ⟨z1,z2⟩ | ⟨z1,z2⟩
 . exact wpAny_nextOf_list_item z1 z2 hy fun h' q sb=>hQ h' (.inl ⟨q,let ⟨o,e,r⟩:=z2;⟨o,(sb.2 a Dj).trans e,r⟩⟩) sb
 . exact rq z1 z2 hy fun h' q sb=>hQ h' (.inr ⟨q,let ⟨o,e,r⟩:=z2;⟨o,(sb.2 a Dj).trans e,r⟩⟩) sb
theorem Bf(hh:A.handled=none)(z:ni s.heap it a xs k)(hy:xs[k]?=none)(hE: ∀h' e,Heap.ExtBut it s.heap h'->(∃o,h'.get? e=some o/\o.cls= .type "StopIteration")->E (.ref e) {s with heap:=h'}):wpAny (model prog w) A (Builtin.SmallTypes.nextOf (.ref it)) Q E s:=by
 rcases z with ⟨z1,z2⟩ | ⟨z1,z2⟩
 . exact wpAny_nextOf_list_end hh z1 z2 hy hE
 . exact rA hh z1 z2 hy hE
theorem xw{z TI TO i1 i2 l1 l2:Addr}{k1 k2:Nat}{xs ys:Array Value}{x y a b:Value}{Q:Value->Shared->Prop}(D:ZipApart z TI TO i1 i2 l1 l2)(hz:IsZip s.heap z TI TO .none)(Ff:IsPair s.heap TI (.ref i1) (.ref i2))(JE:IsPair s.heap TO a b)
  (h1:ni s.heap i1 l1 xs k1) (h2:ni s.heap i2 l2 ys k2) (hx:xs[k1]?=some x) (hy:ys[k2]?=some y)
  (hQ: ∀h',IsZip h' z TI TO (rawInt s.heap.objs.size)->IsPair h' TO x y->ni h' i1 l1 xs (k1+1)->ni h' i2 l2 ys (k2+1)->IsPair h' s.heap.objs.size x y->h'.objs.size=s.heap.objs.size+1->
   (∀c o,c≠z->c≠TO->c≠i1->c≠i2->s.heap.get? c=some o->h'.get? c=some o)->Q (.ref s.heap.objs.size) {s with heap:=h'}):wpAny (model prog w) A (Builtin.«zip.__next__» ⟨[.ref z],[]⟩) (fun fin s'=> ∃v,fin= .done (.ret v)/\Q v s') E s:=by
 show wpAny _ _ (field (.ref z) 2 >>=_) _ _ _;refine Yr (ZG hz rfl (x:= .bool false) rfl ?_);show wpAny _ _ (field (.ref z) 3 >>=_) _ _ _;refine Yr (ZG hz rfl (x:= .ref TI) rfl ?_);refine Yr (aa2 Ff rfl ?_);show wpAny _ _ (Builtin.SmallTypes.ownedTupleIsFree (.ref z) >>=_) _ _ _;refine Yr ?_;unfold Builtin.SmallTypes.ownedTupleIsFree;refine Yr (ZG hz rfl (x:= .none) rfl (Yv ?_));simp only [if_true];refine Yr (Z7 ?_);refine Yr (ZG hz rfl (x:= .ref TO) rfl ?_);refine Yr (ad4 hz (by simp) fun h₁ ko gY=>?_);replace ko:IsZip h₁ z TI TO .ellipsis:=ko;refine Yr ?_;simp only [List.zipIdx_cons,List.zipIdx_nil,List.forIn_cons,List.forIn_nil]
 refine Yr (Yr (wpAny_onRaise ?_));show wpAny _ _ (Builtin.SmallTypes.nextOf (.ref i1) >>=_) _ _ _;refine Yr (uo (h1.ext (fun o e=>gY.extBut _ _ D.i1z e) fun o e=>gY.extBut _ _ D.l1z e) D.l1i1 hx fun h₂ GK gX=>Yv ?_);have mQ:IsPair h₂ TO a b:=gX.extBut _ _ D.TOi1 (gY.extBut _ _ D.TOz JE);refine Yr (aa2 mQ rfl ?_);refine Yr (wpAny_updateSeq_pair mQ fun h₃ qo gW=>?_);replace qo:IsPair h₃ TO x b:=qo;refine Yr (af9 (Yv ?_));refine Yr (Yr (wpAny_onRaise ?_));show wpAny _ _ (Builtin.SmallTypes.nextOf (.ref i2) >>=_) _ _ _;have k3: ∀c o,c≠z->c≠i1->c≠TO->s.heap.get? c=some o->h₃.get? c=some o:=fun c o c1 c2 c3 e=>gW.extBut _ _ c3 (gX.extBut _ _ c2 (gY.extBut _ _ c1 e));refine Yr (uo (h2.ext (fun o e=>k3 _ o D.i2z D.i12.symm D.TOi2.symm e) fun o e=>k3 _ o D.l2z D.l2i1 D.l2TO e) D.l2i2 hy fun h₄ Nk jd=>Yv ?_);have BF:IsPair h₄ TO x b:=jd.extBut _ _ D.TOi2 qo;refine Yr (aa2 BF rfl ?_);refine Yr (wpAny_updateSeq_pair BF fun h₅ qm iw=>?_);replace qm:IsPair h₅ TO x y:=qm;refine Yr (af9 (Yv (Yv ?_)));refine Yr (aa2 qm rfl ?_);refine Yr (wpAny_newTuple ?_);have hsz:h₅.objs.size=s.heap.objs.size:=by rw[iw.1,jd.1,gW.1,gX.1,gY.1]
 have k5: ∀c o,c≠z->c≠TO->c≠i1->c≠i2->s.heap.get? c=some o->h₅.get? c=some o:=fun c o c1 c2 c3 c4 e=>iw.extBut _ _ c2 (jd.extBut _ _ c4 (k3 c o c1 c3 c2 e));have GC:IsZip h₅ z TI TO .ellipsis:=iw.extBut _ _ D.TOz.symm (jd.extBut _ _ D.i2z.symm (gW.extBut _ _ D.TOz.symm (gX.extBut _ _ D.i1z.symm ko)));have f1:ni h₅ i1 l1 xs (k1+1):=GK.ext (fun o e=>iw.extBut _ _ D.TOi1.symm (jd.extBut _ _ D.i12 (gW.extBut _ _ D.TOi1.symm e))) fun o e=>iw.extBut _ _ D.l1TO (jd.extBut _ _ D.l1i2 (gW.extBut _ _ D.l1TO e));have f2:ni h₅ i2 l2 ys (k2+1):=Nk.ext (fun o e=>iw.extBut _ _ D.TOi2.symm e) fun o e=>iw.extBut _ _ D.l2TO e;have Ll:z < h₅.objs.size:=YM GC;show wpAny _ _ (Builtin.SmallTypes.ownedTupleHandOut (.ref z) (.ref h₅.objs.size) >>=_) _ _ _;refine Yr ?_;unfold Builtin.SmallTypes.ownedTupleHandOut;have MK:IsZip (h₅.push {cls:= .type "tuple",data:= .seq #[x,y]}) z TI TO .ellipsis:=Yu _ GC;refine Yr (ad4 MK (by simp) fun h₇ Bs Bu=>?_);replace Bs:IsZip h₇ z TI TO (rawInt h₅.objs.size):=Bs;refine ad4 Bs (by simp) fun h₈ wA Bt=>?_
 replace wA:IsZip h₈ z TI TO (rawInt h₅.objs.size):=wA
 have up: ∀c o,c≠z->h₅.get? c=some o->h₈.get? c=some o:=fun c o c1 e=>Bt.extBut _ _ c1 (Bu.extBut _ _ c1 (Yu _ e));have pT:IsPair h₈ h₅.objs.size x y:=Bt.extBut _ _ (aa8 Ll) (Bu.extBut _ _ (aa8 Ll) (YI _ rfl));have s8:h₈.objs.size=h₅.objs.size+1:=by rw[Bt.1,Bu.1,ZK]
 rw[hsz] at wA pT s8;refine Yv ⟨_,rfl,?_⟩;show Q (.ref h₅.objs.size) _;rw[hsz];exact hQ h₈ wA (up _ _ D.TOz qm) (f1.ext (fun o e=>up _ o D.i1z e) fun o e=>up _ o D.l1z e) (f2.ext (fun o e=>up _ o D.i2z e) fun o e=>up _ o D.l2z e) pT s8 fun c o c1 c2 c3 c4 e=>up c o c1 (k5 c o c1 c2 c3 c4 e)
theorem xt{z TI TO i1 i2 l1 l2:Addr}{k1 k2:Nat}(hh:A.handled=none)(D:ZipApart z TI TO i1 i2 l1 l2)(hz:IsZip s.heap z TI TO .none)(Ff:IsPair s.heap TI (.ref i1) (.ref i2))(JE:IsPair s.heap TO a b)(h1:ni s.heap i1 l1 xs k1)(h2:ni s.heap i2 l2 ys k2)(JA:xs[k1]?=none\/ys[k2]?=none)(hE: ∀h' e,(∀c o,c≠z->c≠TO->c≠i1->c≠i2->s.heap.get? c=some o->h'.get? c=some o)->(∃o,h'.get? e=some o/\o.cls= .type "StopIteration")->E (.ref e) {s with heap:=h'}):wpAny (model prog w) A (Builtin.«zip.__next__» ⟨[.ref z],[]⟩) Q E s:=by
 show wpAny _ _ (field (.ref z) 2 >>=_) _ _ _;refine Yr (ZG hz rfl (x:= .bool false) rfl ?_);show wpAny _ _ (field (.ref z) 3 >>=_) _ _ _;refine Yr (ZG hz rfl (x:= .ref TI) rfl ?_);refine Yr (aa2 Ff rfl ?_);show wpAny _ _ (Builtin.SmallTypes.ownedTupleIsFree (.ref z) >>=_) _ _ _;refine Yr ?_;unfold Builtin.SmallTypes.ownedTupleIsFree;refine Yr (ZG hz rfl (x:= .none) rfl (Yv ?_));simp only [if_true];refine Yr (Z7 ?_);refine Yr (ZG hz rfl (x:= .ref TO) rfl ?_);refine Yr (ad4 hz (by simp) fun h₁ ko gY=>?_);replace ko:IsZip h₁ z TI TO .ellipsis:=ko;refine Yr ?_;simp only [List.zipIdx_cons,List.zipIdx_nil,List.forIn_cons,List.forIn_nil]
 refine Yr (Yr (wpAny_onRaise ?_));show wpAny _ _ (Builtin.SmallTypes.nextOf (.ref i1) >>=_) _ _ _;have g1:ni h₁ i1 l1 xs k1:=h1.ext (fun o e=>gY.extBut _ _ D.i1z e) fun o e=>gY.extBut _ _ D.l1z e;cases hx:xs[k1]? with
 | none=>
  refine Yr (Bf hh g1 hx fun h₂ e gX he=>?_);obtain⟨oe,Jq,Nd⟩:=he;have GF:IsZip h₂ z TI TO .ellipsis:=gX _ _ D.i1z.symm ko;have Rn:e≠z:=fun y=>by subst y;rw[GF] at Jq;cases Jq;simp at Nd
  exact ad4 GF (by simp) fun h₃ _ gW=>hE h₃ e (fun c o c1 _ c3 _ y=>gW.extBut _ _ c1 (gX _ _ c3 (gY.extBut _ _ c1 y))) ⟨oe,gW.extBut _ _ Rn Jq,Nd⟩
 | some x=>
  have hy:ys[k2]?=none:=JA.resolve_left fun q=>by rw[hx] at q;cases q
  refine Yr (uo g1 D.l1i1 hx fun h₂ GK gX=>Yv ?_);have mQ:IsPair h₂ TO a b:=gX.extBut _ _ D.TOi1 (gY.extBut _ _ D.TOz JE);refine Yr (aa2 mQ rfl ?_);refine Yr (wpAny_updateSeq_pair mQ fun h₃ qo gW=>?_);refine Yr (af9 (Yv ?_));refine Yr (Yr (wpAny_onRaise ?_));show wpAny _ _ (Builtin.SmallTypes.nextOf (.ref i2) >>=_) _ _ _;have k3: ∀c o,c≠z->c≠i1->c≠TO->s.heap.get? c=some o->h₃.get? c=some o:=fun c o c1 c2 c3 e=>gW.extBut _ _ c3 (gX.extBut _ _ c2 (gY.extBut _ _ c1 e));refine Yr (Bf hh (h2.ext (fun o e=>k3 _ o D.i2z D.i12.symm D.TOi2.symm e) fun o e=>k3 _ o D.l2z D.l2i1 D.l2TO e) hy fun h₄ e jd he=>?_);obtain⟨oe,Jq,Nd⟩:=he;have GD:IsZip h₄ z TI TO .ellipsis:=jd _ _ D.i2z.symm (gW.extBut _ _ D.TOz.symm (gX.extBut _ _ D.i1z.symm ko));have Rn:e≠z:=fun y=>by subst y;rw[GD] at Jq;cases Jq;simp at Nd
  exact ad4 GD (by simp) fun h₅ _ iw=>hE h₅ e (fun c o c1 c2 c3 c4 y=>iw.extBut _ _ c1 (jd _ _ c4 (k3 c o c1 c3 c2 y))) ⟨oe,iw.extBut _ _ Rn Jq,Nd⟩
theorem xu {z TI TO i1 i2 l1 l2 : Addr} {k1 k2 : Nat} (D : ZipApart z TI TO i1 i2 l1 l2) (hz : IsZip s.heap z TI TO .none) (Ff : IsPair s.heap TI (.ref i1) (.ref i2)) (JE : IsPair s.heap TO a b) (h1 : ni s.heap i1 l1 xs k1) (h2 : ni s.heap i2 l2 ys k2) (hx : xs[k1]? = some x) (hy : ys[k2]? = some y) (hQ : ∀ h', IsZip h' z TI TO (rawInt s.heap.objs.size) -> IsPair h' TO x y -> ni h' i1 l1 xs (k1 + 1) -> ni h' i2 l2 ys (k2 + 1) -> IsPair h' s.heap.objs.size x y -> h'.objs.size = s.heap.objs.size + 1 ->
   (∀c o,c≠z->c≠TO->c≠i1->c≠i2->s.heap.get? c=some o->h'.get? c=some o)->Q (some (.ref s.heap.objs.size)) {s with heap:=h'}):wpAny (model prog w) A (pyNext (.ref z)) Q E s:=by
 have hT:s.TypeIs (.ref z) "zip":=⟨_,hz,rfl⟩;unfold pyNext;exact Yr (ah4 (ZH (name:=Str.ofString "__next__") hT F.slot_zip_next (ZP F.slot_zip_next hT F.entry_zip_next
   (xw D hz Ff JE h1 h2 hx hy fun h' a1 a2 a3 a4 a5 a6 a7=>Yv (hQ h' a1 a2 a3 a4 a5 a6 a7)) (F.args_zip_next_1 _))))
theorem zu{z TI TO i1 i2 l1 l2:Addr}{k1 k2:Nat}(hh:A.handled=none)(D:ZipApart z TI TO i1 i2 l1 l2)(hz:IsZip s.heap z TI TO .none)(Ff:IsPair s.heap TI (.ref i1) (.ref i2))(JE:IsPair s.heap TO a b)(h1:ni s.heap i1 l1 xs k1)(h2:ni s.heap i2 l2 ys k2)(JA:xs[k1]?=none\/ys[k2]?=none)(hQ: ∀h',(∀c o,c≠z->c≠TO->c≠i1->c≠i2->s.heap.get? c=some o->h'.get? c=some o)->Q none {s with heap:=h'}):wpAny (model prog w) A (pyNext (.ref z)) Q E s:=by
 have hT:s.TypeIs (.ref z) "zip":=⟨_,hz,rfl⟩;unfold pyNext;refine Yr (ah4 (ZH (name:=Str.ofString "__next__") hT F.slot_zip_next (ZP F.slot_zip_next hT F.entry_zip_next (xt hh D hz Ff JE h1 h2 JA fun h' e hk he=>?_) (F.args_zip_next_1 _))));obtain⟨o,ho,hc⟩:=he;refine Yr (wpAny_isInstance (T:="StopIteration") (b:=true) ⟨o,ho,hc⟩ isSubtype_stop ?_);exact Yv (hQ _ hk)
open AutoSeq1 (wpAny_loadPart')
noncomputable def yn(b:Bool)(a:Addr):Obj:={cls:= .type (if b then "tuple_iterator" else "list_iterator"),data:= .fields #[.ref a,.int 0 0]}
def ve(b:Bool)(h:Heap)(a:Addr)(xs:Array Value):Prop:=match b with
 | true=>h.IsTuple a xs
 | false=>h.IsList a xs
noncomputable def fC(h:Heap)(b1 b2:Bool)(a1 a2:Addr):Heap:=(h.push (yn b1 a1)).push (yn b2 a2)
noncomputable def gy(h:Heap)(b1 b2:Bool)(a1 a2:Addr):Heap:=((fC h b1 b2 a1 a2).push {cls:= .type "tuple",data:= .seq #[.ref h.objs.size,.ref (h.push (yn b1 a1)).objs.size]}).push {cls:= .type "tuple",data:= .seq #[.none,.none]}
noncomputable def du(h:Heap)(b1 b2:Bool)(a1 a2:Addr):Heap:=
 (gy h b1 b2 a1 a2).push {cls:= .type "zip",data:= .fields #[.none,.bool false,.bool false,.ref (fC h b1 b2 a1 a2).objs.size,.ref ((fC h b1 b2 a1 a2).push {cls:= .type "tuple",data:= .seq #[.ref h.objs.size,.ref (h.push (yn b1 a1)).objs.size]}).objs.size]}
theorem Hj(b1 b2:Bool)(a1 a2:Addr)(xs ys:Array Value):
  Meets (Builtin.«zip.__new__» ⟨[.type "zip",.ref a1,.ref a2],[]⟩) (fun _ R s=>ve b1 s.heap a1 xs/\ve b2 s.heap a2 ys/\R (.ok (.ret (.ref (gy s.heap b1 b2 a1 a2).objs.size))) {s with heap:=du s.heap b1 b2 a1 a2}):=
 .of_wp fun prog w A R s h=>by
  obtain⟨hp,g,d,tk,os⟩:=s;obtain⟨h1,h2,h⟩:=h;have ET:=sub_zip;cases b1 <;> cases b2
  . have q1:Heap.IsList (Shared.heap ⟨hp,g,d,tk,os⟩) a1 xs:=h1;have q2:Heap.IsList (Shared.heap ⟨hp.push {cls:= .type "list_iterator",data:= .fields #[.ref a1, .int 0 0]},g,d,tk,os⟩) a2 ys:=Heap.IsList.push h2 _;wp_walk using ac5 q1,ac5 q2
    exact⟨_,rfl,h⟩
  . have q1:Heap.IsList (Shared.heap ⟨hp,g,d,tk,os⟩) a1 xs:=h1;have q2:Heap.IsTuple (Shared.heap ⟨hp.push {cls:= .type "list_iterator",data:= .fields #[.ref a1, .int 0 0]},g,d,tk,os⟩) a2 ys:=let ⟨o,e,r⟩:=h2;⟨o,Yu _ e,r⟩;wp_walk using ac5 q1,Z1 q2
    exact⟨_,rfl,h⟩
  . have q1:Heap.IsTuple (Shared.heap ⟨hp,g,d,tk,os⟩) a1 xs:=h1;have q2:Heap.IsList (Shared.heap ⟨hp.push {cls:= .type "tuple_iterator",data:= .fields #[.ref a1, .int 0 0]},g,d,tk,os⟩) a2 ys:=Heap.IsList.push h2 _;wp_walk using Z1 q1,ac5 q2
    exact⟨_,rfl,h⟩
  . have q1:Heap.IsTuple (Shared.heap ⟨hp,g,d,tk,os⟩) a1 xs:=h1;have q2:Heap.IsTuple (Shared.heap ⟨hp.push {cls:= .type "tuple_iterator",data:= .fields #[.ref a1, .int 0 0]},g,d,tk,os⟩) a2 ys:=let ⟨o,e,r⟩:=h2;⟨o,Yu _ e,r⟩;wp_walk using Z1 q1,Z1 q2
    exact⟨_,rfl,h⟩
def nX(b:Bool)(H:Hp)(a:Addr)(xs:List V):Prop:=match b with
 | true=>H a=some (.tup xs)
 | false=>H a=some (.lst xs)
theorem nX.inj(h:nX b H a xs)(k:nX b H a ys):xs=ys:=by
 cases b
 . have h:H a=some (.lst xs):=h;have k:H a=some (.lst ys):=k;rw[h] at k;cases k;rfl
 . have h:H a=some (.tup xs):=h;have k:H a=some (.tup ys):=k;rw[h] at k;cases k;rfl
theorem nX.some{b:Bool}{H:Hp}{a:Addr}{xs:List V}(h:nX b H a xs): ∃o,H a=some o:=by
 cases b
 . exact⟨_,h⟩
 . exact⟨_,h⟩
def zi(b:Bool)(h:Heap)(it a:Addr)(k:Nat):Prop:=match b with
 | true=>h.IsTupleIter it a k
 | false=>h.IsListIter it a k
theorem zi.obj(z:zi b h it a k): ∃o,h.get? it=Option.some o/\ ∀v,o.data≠ .cell v:=by
 cases b
 . obtain⟨o,q,_,d⟩:=(show h.IsListIter it a k from z);exact⟨o,q,fun v y=>by rw[d] at y;cases y⟩
 . obtain⟨o,q,_,d⟩:=(show h.IsTupleIter it a k from z);exact⟨o,q,fun v y=>by rw[d] at y;cases y⟩
theorem zi.keep{h h':Heap}(z:zi b h it a k)(e: ∀o,h.get? it=Option.some o->h'.get? it=Option.some o):zi b h' it a k:=by
 cases b
 . obtain⟨o,q,r⟩:=(show h.IsListIter it a k from z);exact(show h'.IsListIter it a k from⟨o,e o q,r⟩)
 . obtain⟨o,q,r⟩:=(show h.IsTupleIter it a k from z);exact(show h'.IsTupleIter it a k from⟨o,e o q,r⟩)
theorem zi.OG(z:zi b h it a k)(q:ve b h a xs):ni h it a xs k:=by
 cases b
 . exact .inl ⟨z,q⟩
 . exact .inr ⟨z,q⟩
theorem Bp(z:ni h it a xs k)(q:ve b h a xs):zi b h it a k:=by
 cases b
 . rcases z with ⟨z1,_⟩ | ⟨_,o,e1,e2,_⟩
   . exact z1
   . obtain⟨o',f1,f2,_⟩:=(show h.IsList a xs from q)
     rw[f1] at e1;cases e1;rw[f2] at e2;injection e2 with y;exact absurd y (by decide)
 . rcases z with ⟨_,o,e1,e2,_⟩ | ⟨z1,_⟩
   . obtain⟨o',f1,f2,_⟩:=(show h.IsTuple a xs from q)
     rw[f1] at e1;cases e1;rw[f2] at e2;injection e2 with y;exact absurd y (by decide)
   . exact z1
theorem Inv.KL(I:Inv X pins σ H s)(h:nX b H a xs): ∃ao:List Value,Vals xs ao/\ve b s.heap a ao.toArray:=by
 cases b
 . obtain⟨ao,rv,pl,_⟩:=I.list (cY.of (show H a=Option.some (.lst xs) from h));exact⟨ao,rv,pl.isList⟩
 . obtain⟨ao,rv,pl,_⟩:=I.tuple (dE.of (show H a=Option.some (.tup xs) from h));exact⟨ao,rv,pl⟩
theorem Inv.xD{h':Heap}{t':Nat}{ch:List Addr}(I:Inv X pins σ H s)(hc: ∀b∈ch,cU X pins H b)(k: ∀b u,b∉ch->s.heap.get? b=some u->h'.get? b=some u):Inv X pins σ H {s with heap:=h',toks:=t'}:=by
 have xG: ∀b u,H b=some u->b∉ch:=fun b u e z=>by rw[(hc b z).1] at e;cases e
 refine I.step (g':=s.gens) (d':=s.drawn) (ch:=ch) (fun b hb=>?_) (fun b u _ _ hn e _=>k b u hn e) (fun b u _ _ hn e _=>⟨u.slots,k b u hn e⟩) (fun _ _ _ _ n=>n)
  (fun b u hn e=>⟨u,k b u hn e⟩) (fun _ _ e=>e) (fun _ _ _ e=>e) (fun b ps e=>⟨#[],by rw[e];simp⟩) (fun m hm=>?_) (fun b u e=>?_) I.bare
 . obtain⟨f0,f1,f2,f3,f4,f5⟩:=hc b hb;exact⟨f3,f1,f4,f5⟩
 . obtain⟨ob,es,ep,ho,r⟩:=hm;exact⟨ob,es,ep,k _ ob (fun z=>(hc _ z).2.1 rfl) ho,r⟩
 . refine(I.aT b u e).jU (fun c v Ds q=>k c v ?_ q) (fun c q=>q) fun c xs q=>q;rcases Ds with z | z
   . rw[z];exact xG b u e
   . exact xG c _ z
structure Z5(n:Nat):Prop where
 a:n+2≠n+4
 b:n+3≠n+4
 c:n≠n+4
 d:n+1≠n+4
 e:n+2≠n+3
 f:n+2≠n
 g:n+2≠n+1
 h:n+3≠n
 i:n+3≠n+1
 j:n≠n+1
theorem bC(n:Nat):Z5 n:=⟨by lia,by lia,by lia,by lia,by lia,by lia,by lia,by lia,by lia,by lia⟩
noncomputable def Oj(b1 b2:Bool)(a1 a2:Addr):It:=
 ⟨fun i H=> ∃xs x ys y,nX b1 H a1 xs/\xs[i]?=some x/\nX b2 H a2 ys/\ys[i]?=some y,
  fun i H v H'=> ∃p x y,v= .ref p/\H p=none/\H'=upd H p (.tup [x,y])/\(∀xs,nX b1 H a1 xs->xs[i]?=some x)/\ ∀ys,nX b2 H a2 ys->ys[i]?=some y,
  fun i H=> ∃xs ys,nX b1 H a1 xs/\nX b2 H a2 ys/\(xs.length<=i\/ys.length<=i)⟩
theorem zL{P:Program}{w:World}{K:PySem.W.Frag}{es:List Expr}{x1}{tp:Pos}(b1 b2:Bool)(a1 a2:Addr)(n:Nat):
  Turn P w K (.Tuple es x1 tp) (Oj b1 b2 a1 a2) [n+4,n+2,n+3,n,n+1] (n+4) (fun i h=>IsZip h (n+4) (n+2) (n+3) .none/\IsPair h (n+2) (.ref n) (.ref (n+1))/\(∃a b,IsPair h (n+3) a b)/\zi b1 h n a1 i/\zi b2 h (n+1) a2 i) where
 mem:=by simp
 obj:=fun i h st b hb=>by
  obtain⟨z1,z2,⟨u,v,z3⟩,z4,z5⟩:=st;simp only [YU,Yy,or_false] at hb;rcases hb with rfl | rfl | rfl | rfl | rfl
  . exact⟨_,z1,fun v y=>nomatch (show Data.fields _=Data.cell v from y)⟩
  . exact⟨_,z2,fun v y=>nomatch (show Data.seq _ _=Data.cell v from y)⟩
  . exact⟨_,z3,fun v y=>nomatch (show Data.seq _ _=Data.cell v from y)⟩
  . exact z4.obj
  . exact z5.obj
 keep:=fun i h h' st kk=>by
  obtain⟨z1,z2,⟨u,v,z3⟩,z4,z5⟩:=st;exact⟨kk _ (by simp) _ z1,kk _ (by simp) _ z2,⟨u,v,kk _ (by simp) _ z3⟩,z4.keep fun o q=>kk _ (by simp) o q,z5.keep fun o q=>kk _ (by simp) o q⟩
 item:=by
  intro X hP hw hK hc i pins s σ H E I hf st hg;subst hP hw hK;obtain⟨xs,x,ys,y,q1,hx,q2,hy⟩:=hg;obtain⟨ao,rv,p1⟩:=I.KL q1;obtain⟨de,nv,p2⟩:=I.KL q2;obtain⟨u,hu,ru⟩:=rv.get hx;obtain⟨u2,QZ,LZ⟩:=nv.get hy;obtain⟨z1,z2,⟨c1,c2,z3⟩,z4,z5⟩:=st;have ap: ∀{b:Bool} {a:Addr} {zs:List V},nX b H a zs-> ∀f∈ [n+4,n+2,n+3,n,n+1],a≠f:=fun hq f EY e=>by
   obtain⟨o,q⟩:=hq.some;have:=(hf f EY).1;rw[<-e,q] at this;cases this
  have D:ZipApart (n+4) (n+2) (n+3) n (n+1) a1 a2:=⟨(bC n).a,(bC n).b,(bC n).c,(bC n).d,(bC n).e,(bC n).f,(bC n).g,(bC n).h,(bC n).i,(bC n).j,ap q1 _ (by simp),ap q1 _ (by simp),ap q1 _ (by simp),ap q1 _ (by simp),ap q2 _ (by simp),ap q2 _ (by simp),ap q2 _ (by simp),ap q2 _ (by simp)⟩
  refine xu D z1 z2 z3 (z4.OG p1) (z5.OG p2) (x:=u) (y:=u2) (by simpa using hu) (by simpa using QZ) fun h' e1 e2 e3 e4 e5 e6 e7=>⟨_,rfl,?_⟩
  refine wpAny_letOwnedTupleGo_zip e1 fun h2 g1 sb=>?_;have Ll:n+4 < s.heap.objs.size:=YM z1;have I1:Inv X pins σ (upd H s.heap.objs.size (.tup [x,y])) {s with heap:=h2,toks:=s.toks}:=by
   refine I.og (ch:= [n+4,n+2,n+3,n,n+1]) hf (Yx _) (fun b o hb q=>?_) ⟨by show 2<=sizeLine;decide,[u,u2],.cons ru (.cons LZ .nil),?_⟩
   . have m: ∀f,f∈ [n+4,n+2,n+3,n,n+1]->b≠f:=fun f EY e=>hb (e▸EY);exact(sb.2 b (m _ (by simp))).trans (e7 b o (m _ (by simp)) (m _ (by simp)) (m _ (by simp)) (m _ (by simp)) q)
   . exact⟨_,(sb.2 _ (aa8 Ll)).trans e5,rfl,rfl,_,rfl⟩
  have up: ∀b o,b≠n+4->h'.get? b=some o->h2.get? b=some o:=fun b o hb q=>(sb.2 b hb).trans q;have Gy: ∀{b:Bool} {a:Addr} {zs:Array Value} {ws:List V},nX b H a ws->ve b s.heap a zs->ve b h' a zs:=fun{b a zs ws} hq hs=>by
   have k: ∀o,s.heap.get? a=some o->h'.get? a=some o:=fun o q=>e7 a o (ap hq _ (by simp)) (ap hq _ (by simp)) (ap hq _ (by simp)) (ap hq _ (by simp)) q;cases b
   . obtain⟨o,f1,f2⟩:=(show s.heap.IsList a zs from hs);exact(show h'.IsList a zs from⟨o,k o f1,f2⟩)
   . obtain⟨o,f1,f2⟩:=(show s.heap.IsTuple a zs from hs);exact(show h'.IsTuple a zs from⟨o,k o f1,f2⟩)
  refine⟨.ref s.heap.objs.size,_,I1,rfl,⟨_,x,y,rfl,I.aT.fresh (Yx _),rfl,fun zs hz=>by rw[hz.inj q1];exact hx,fun zs hz=>by rw[hz.inj q2];exact hy⟩,⟨g1,?_,⟨u,u2,up _ _ (bC n).b e2⟩,?_,?_⟩,fun b hb=>?_⟩
  . exact up _ _ (bC n).a (e7 _ _ (bC n).a (bC n).e (bC n).f (bC n).g z2)
  . exact(Bp e3 (Gy q1 p1)).keep fun o q=>up _ o (bC n).c q
  . exact(Bp e4 (Gy q2 p2)).keep fun o q=>up _ o (bC n).d q
  . rw[ag (fun z=>?_)]
    . exact(hf b hb).1
    . have UI:n+4 < s.heap.objs.size:=Ll;have: ∀f:Nat,f∈ [n+4,n+2,n+3,n,n+1]->f < s.heap.objs.size:=fun f EY=>by
       simp only [YU,Yy,or_false] at EY;lia
      exact absurd (z▸this b hb) (Zt _)
 done:=by
  intro X hP hw hK hc i pins s σ H E I hf st hg;subst hP hw hK;obtain⟨xs,ys,q1,q2,hx⟩:=hg;obtain⟨ao,rv,p1⟩:=I.KL q1;obtain⟨de,nv,p2⟩:=I.KL q2;have l1:=rv.length;have l2:=nv.length;obtain⟨z1,z2,⟨c1,c2,z3⟩,z4,z5⟩:=st;have ap: ∀{b:Bool} {a:Addr} {zs:List V},nX b H a zs-> ∀f∈ [n+4,n+2,n+3,n,n+1],a≠f:=fun hq f EY e=>by
   obtain⟨o,q⟩:=hq.some;have:=(hf f EY).1;rw[<-e,q] at this;cases this
  have D:ZipApart (n+4) (n+2) (n+3) n (n+1) a1 a2:=⟨(bC n).a,(bC n).b,(bC n).c,(bC n).d,(bC n).e,(bC n).f,(bC n).g,(bC n).h,(bC n).i,(bC n).j,ap q1 _ (by simp),ap q1 _ (by simp),ap q1 _ (by simp),ap q1 _ (by simp),ap q2 _ (by simp),ap q2 _ (by simp),ap q2 _ (by simp),ap q2 _ (by simp)⟩
  refine zu (I.ok.hd hc) D z1 z2 z3 (z4.OG p1) (z5.OG p2) (hx.elim (fun h=> .inl (by rw[List.getElem?_toArray];exact Zj (by lia))) fun h=> .inr (by rw[List.getElem?_toArray];exact Zj (by lia))) fun h' kk=>⟨rfl,?_⟩
  refine I.xD (ch:= [n+4,n+2,n+3,n,n+1]) hf fun b o hb q=>?_;have m: ∀f,f∈ [n+4,n+2,n+3,n,n+1]->b≠f:=fun f EY e=>hb (e▸EY);exact kk b o (m _ (by simp)) (m _ (by simp)) (m _ (by simp)) (m _ (by simp)) q
 self:=fun A i s Q E st h=>wpAny_pyIter_zip st.1 h
theorem yP:bootBuiltins "zip"=some (.type "zip"):=by decide+kernel
def MF(ta:TA):TI:=fun σ H R=>ta σ H fun vs H1=> ∃b1 b2 a1 a2 xs ys,vs= [.ref a1,.ref a2]/\nX b1 H1 a1 xs/\nX b2 H1 a2 ys/\R (Oj b1 b2 a1 a2) H1
theorem tQ{x1}(I:Inv X pins σ H s)(q:R (Oj b1 b2 a1 a2) H):
  wpAny (model X.prog X.w) X.A (pyIter (.ref (gy s.heap b1 b2 a1 a2).objs.size)) (O7 X pins σ (.Tuple es x1 tp) R) E {s with heap:=du s.heap b1 b2 a1 a2,toks:=tk}:=by
 have z1:(s.heap.push (yn b1 a1)).objs.size=s.heap.objs.size+1:=ZK ..;have z2:(fC s.heap b1 b2 a1 a2).objs.size=s.heap.objs.size+2:=by unfold fC;rw[ZK,z1]
 have z3:((fC s.heap b1 b2 a1 a2).push {cls:= .type "tuple",data:= .seq #[.ref s.heap.objs.size,.ref (s.heap.push (yn b1 a1)).objs.size]}).objs.size=s.heap.objs.size+3:=by rw[ZK,z2]
 have z4:(gy s.heap b1 b2 a1 a2).objs.size=s.heap.objs.size+4:=by unfold gy;rw[ZK,z3]
 have keep: ∀c o,s.heap.get? c=some o->(du s.heap b1 b2 a1 a2).get? c=some o:=fun c o e=>by
  unfold du gy fC;exact Yu _ (Yu _ (Yu _ (Yu _ (Yu _ e))))
 have g5:IsZip (du s.heap b1 b2 a1 a2) (s.heap.objs.size+4) (s.heap.objs.size+2) (s.heap.objs.size+3) .none:=by
  have:=YI (gy s.heap b1 b2 a1 a2) (o:={cls:= .type "zip",data:= .fields #[.none,.bool false,.bool false,.ref (fC s.heap b1 b2 a1 a2).objs.size,.ref ((fC s.heap b1 b2 a1 a2).push {cls:= .type "tuple",data:= .seq #[.ref s.heap.objs.size,.ref (s.heap.push (yn b1 a1)).objs.size]}).objs.size]}) rfl;rw[z4,z2,z3] at this;unfold du;rw[z2,z3];exact this
 have g3:IsPair (du s.heap b1 b2 a1 a2) (s.heap.objs.size+2) (.ref s.heap.objs.size) (.ref (s.heap.objs.size+1)):=by
  have:=YI (fC s.heap b1 b2 a1 a2) (o:={cls:= .type "tuple",data:= .seq #[.ref s.heap.objs.size,.ref (s.heap.push (yn b1 a1)).objs.size]}) rfl;rw[z2] at this;have h2:(du s.heap b1 b2 a1 a2).get? (s.heap.objs.size+2)=some {cls:= .type "tuple",data:= .seq #[.ref s.heap.objs.size,.ref (s.heap.push (yn b1 a1)).objs.size]}:=by
   unfold du gy;exact Yu _ (Yu _ this)
  rw[z1] at h2;exact h2
 have g4:IsPair (du s.heap b1 b2 a1 a2) (s.heap.objs.size+3) .none .none:=by
  have:=YI ((fC s.heap b1 b2 a1 a2).push {cls:= .type "tuple",data:= .seq #[.ref s.heap.objs.size,.ref (s.heap.push (yn b1 a1)).objs.size]}) (o:={cls:= .type "tuple",data:= .seq #[.none,.none]}) rfl;rw[z3] at this;unfold du gy;exact Yu _ this
 have i1:zi b1 (du s.heap b1 b2 a1 a2) s.heap.objs.size a1 0:=by
  have h:(du s.heap b1 b2 a1 a2).get? s.heap.objs.size=some (yn b1 a1):=by
   unfold du gy fC;refine Yu _ (Yu _ (Yu _ (Yu _ (YI _ ?_))));cases b1 <;> rfl
  cases b1
  . exact(show Heap.IsListIter _ _ _ _ from⟨_,h,rfl,rfl⟩)
  . exact(show Heap.IsTupleIter _ _ _ _ from⟨_,h,rfl,rfl⟩)
 have i2:zi b2 (du s.heap b1 b2 a1 a2) (s.heap.objs.size+1) a2 0:=by
  have h:(du s.heap b1 b2 a1 a2).get? (s.heap.push (yn b1 a1)).objs.size=some (yn b2 a2):=by
   unfold du gy fC;refine Yu _ (Yu _ (Yu _ (YI _ ?_)));cases b2 <;> rfl
  rw[z1] at h;cases b2
  . exact(show Heap.IsListIter _ _ _ _ from⟨_,h,rfl,rfl⟩)
  . exact(show Heap.IsTupleIter _ _ _ _ from⟨_,h,rfl,rfl⟩)
 rw[z4];refine wpAny_pyIter_zip g5 ?_;refine⟨s.heap.objs.size+4,_,_,Oj b1 b2 a1 a2,H,rfl,I.kept keep,zL b1 b2 a1 a2 s.heap.objs.size,⟨g5,g3,⟨_,_,g4⟩,i1,i2⟩,fun c hc=>?_,q⟩;have hle:s.heap.objs.size<=c:=by
  have: ∀n f:Nat,f∈ [n+4,n+2,n+3,n,n+1]->n<=f:=fun n f hf=>by
   simp only [YU,Yy,or_false] at hf;omega
  exact this _ _ hc
 exact I.jo hle (I.aT.fresh hle)
theorem pY{x1}(hg:Gl X "zip")(hm:X.mg "zip"=none)(ha:PA X [e,f] t)(hs:starEach [e,f] X.env= [(false,eval e X.env),(false,eval f X.env)]:=by rfl)(kq:starEach [f] X.env= [(false,eval f X.env)]:=by rfl):
  PI X (.Tuple es x1 tp) (.Call (.Name "zip" p) [e,f] [] pos) (MF t):=by
 intro pins s σ H R I h;refine Call_ (fA I hg hm yP (aa7 (aV (ha pos pins s σ H _ I h) fun us s1 cj=>?_) (by rw[hs,kq]) (by rw[kq];rfl)));obtain⟨vs,H1,I1,r1,q1⟩:=cj;obtain⟨b1,b2,a1,a2,xs,ys,rfl,k1,k2,q⟩:=q1;obtain⟨u,u2,rfl,ru,LZ⟩:=vals2 r1;cases ru;cases LZ;obtain⟨ao,rv,p1⟩:=I1.KL k1;obtain⟨de,nv,p2⟩:=I1.KL k2;exact m4 F.called_zip (by decide) (F.typeCall_zip_2 _ _) (F.newCall_zip_2 _ _) (fun obj=>F.args_object_init_3 obj _ _) F.entry_zip_new (Hj b1 b2 a1 a2 ao.toArray de.toArray) ⟨p1,p2,⟨_,YI _ rfl,rfl⟩,tQ I1 q⟩
end L2
namespace LW
open PySem PySem.Spec PyProof.Rows HT L2
def vm:V->Prop
 | .aI=>True
 | .bl _=>True
 | .int i=>i.natAbs < 2^140
 | .str x=>x.length<=15/\ ∀c∈x.cps.toList,c < 16^8
 | _=>False
def Td(c:Addr->Prop)(H:Hp):Nat->V->Prop
 | 0,v=>vm v
 | k+1,v=>Td c H k v\/ ∃a xs,v= .ref a/\((H a=some (.lst xs)/\c a)\/H a=some (.tup xs))/\ ∀x∈xs,Td c H k x
theorem Td.tup{c:Addr->Prop}{a:Addr}{H:Hp}{xs:List V}{k:Nat}(h:H a=some (.tup xs))(e: ∀x∈xs,Td c H k x):Td c H (k+1) (.ref a):= .inr ⟨a,xs,rfl,.inr h,e⟩
theorem Td.lst{c:Addr->Prop}{a:Addr}{H:Hp}{xs:List V}{k:Nat}(h:H a=some (.lst xs))(n:c a)(e: ∀x∈xs,Td c H k x):Td c H (k+1) (.ref a):= .inr ⟨a,xs,rfl,.inl ⟨h,n⟩,e⟩
theorem Td.kind: ∀{k:Nat},Td c H k v->vm v\/ ∃a xs,v= .ref a/\((H a=some (.lst xs)/\c a)\/H a=some (.tup xs))
 | 0,h=> .inl h
 | k+1,h=>by
  rcases h with h | ⟨a,xs,e,q,_⟩
  . exact h.kind
  . exact .inr ⟨a,xs,e,q⟩
noncomputable def dat(H:Hp):Nat->V->PyData
 | _,.aI=> .none
 | _,.bl b=> .bool b
 | _,.int i=> .int i
 | _,.str x=> .str x
 | m+1,.ref a=>match H a with
  | some (.lst xs)=> .list (xs.map (dat H m))
  | some (.tup xs)=> .tuple (xs.map (dat H m))
  | _=> .none
 | _,_=> .none
noncomputable def wt(H:Hp):Nat->V->Nat
 | m+1,.ref a=>match H a with
  | some (.lst xs)=>3+(xs.map fun x=>wt H m x+2).sum
  | some (.tup xs)=>3+(xs.map fun x=>wt H m x+2).sum
  | _=>200
 | _,_=>200
theorem zx(h:vm v):wt H m v=200:=by
 cases v <;> first | (cases m <;> rfl) | exact h.elim
theorem zw(h:H a=some (.lst xs)):wt H (m+1) (.ref a)=3+(xs.map fun x=>wt H m x+2).sum:=by
 simp only [wt,h]
theorem zv(h:H a=some (.tup xs)):wt H (m+1) (.ref a)=3+(xs.map fun x=>wt H m x+2).sum:=by
 simp only [wt,h]
theorem qx(h:H a=some (.lst xs)):dat H (m+1) (.ref a)= .list (xs.map (dat H m)):=by
 simp only [dat,h]
theorem qw(h:H a=some (.tup xs)):dat H (m+1) (.ref a)= .tuple (xs.map (dat H m)):=by
 simp only [dat,h]
structure Dw(k n:Nat)(d:PyData):Prop where
 ok:d.showable=true
 nd:d.hasDict=false
 dp:d.depth<=k
 len:d.shown.length<=n
theorem Dw.up(h:Dw k n d)(e:k<=m):Dw m n d:=⟨h.ok,h.nd,YT h.dp e,h.len⟩
theorem qL: ∀{ds:List PyData},(∀d∈ds,d.showable=true)->PyData.showableAll ds=true
 | [],_=>rfl
 | d::r,h=>by
  rw[PyData.showableAll,h d YN,qL fun x hx=>h x (YQ _ hx)];rfl
theorem ke: ∀{ds:List PyData},(∀d∈ds,d.hasDict=false)->PyData.hasDictAll ds=false
 | [],_=>rfl
 | d::r,h=>by
  rw[PyData.hasDictAll,h d YN,ke fun x hx=>h x (YQ _ hx)];rfl
theorem m8: ∀{ds:List PyData},(∀d∈ds,d.depth<=k)->PyData.depthAll ds<=k
 | [],_=>Za _
 | d::r,h=>by
  rw[PyData.depthAll];exact Nat.max_le.mpr ⟨h d YN,m8 fun x hx=>h x (YQ _ hx)⟩
theorem CU{f:V->PyData}{g:V->Nat}: ∀{xs:List V},(∀x∈xs,(f x).shown.length<=g x)->((PyData.shownAll (xs.map f)).map (·.length)).sum+2*(PyData.shownAll (xs.map f)).length<=(xs.map fun x=>g x+2).sum
 | [],_=>by simp [PyData.shownAll]
 | x::r,h=>by
  have ih:=CU (f:=f) (g:=g) (xs:=r) fun y hy=>h y (YQ _ hy);have:=h x YN;rw[YV,PyData.shownAll,YV,List.sum_cons,YS,YV,List.sum_cons];omega
theorem Td.Ql: ∀{k m:Nat} {v:V},Td c H k v->k<=m->Dw k (wt H m v) (dat H m v)
 | 0,m,v,h,_=>by
  rw[zx h];cases v with
  | aI=>
   have q:Dw 0 200 .none:=⟨rfl,rfl,Yx _,by decide+kernel⟩
   cases m <;> exact q
  | bl b=>
   have q:Dw 0 200 (.bool b):=by cases b <;> exact⟨rfl,rfl,Yx _,by decide+kernel⟩
   cases m <;> exact q
  | int i=>
   have h:i.natAbs < 2^140:=h;have hl:i.natAbs.log2 < 1920:=by
    by_cases z:i.natAbs=0
    . rw[z];decide
    . rw[Nat.log2_lt z];exact YW h (Nat.pow_le_pow_right (by decide) (by decide))
   have q:Dw 0 200 (.int i):=⟨by show decide (i.natAbs.log2 < 1920)=true;exact Zf hl,rfl,Yx _,by
    have e:=int_text_length_le10 (a:=i) (k:=60) (by decide) (YW h (by decide));show(Str.ofString (toString i)).length<=200;rw[PySem.ofString_length];omega⟩
   cases m <;> exact q
  | str x=>
   have q:Dw 0 200 (.str x):=⟨rfl,rfl,Yx _,by
    have:=StrLaws.reprText_len x h.2;have:=h.1;show(reprText x).length<=_;omega⟩
   cases m <;> exact q
  | _=>exact h.elim
 | k+1,0,_,_,hk=>absurd hk (by omega)
 | k+1,m+1,v,h,hk=>by
  rcases h with h | ⟨a,xs,rfl,q,r⟩
  . exact(Td.Ql h (by omega)).up (ah6 _)
  . have all: ∀x∈xs,Dw k (wt H m x) (dat H m x):=fun x hx=>Td.Ql (r x hx) (by omega);have yY: ∀d∈xs.map (dat H m),∃n,Dw k n d:=fun d hd=>by
     obtain⟨x,hx,rfl⟩:=YE.mp hd;exact⟨_,all x hx⟩
    have hlen:=CU (f:=dat H m) (g:=wt H m) (xs:=xs) fun x hx=>(all x hx).len;rcases q with ⟨q,n⟩ | q
    . rw[qx q,zw q];exact⟨qL fun d hd=>(yY d hd).elim fun _ z=>z.ok,ke fun d hd=>(yY d hd).elim fun _ z=>z.nd,Nat.succ_le_succ (m8 fun d hd=>(yY d hd).elim fun _ z=>z.dp),by have:=listText_len_le (PyData.shownAll (xs.map (dat H m)));exact YT this (by omega)⟩
    . rw[qw q,zv q];exact⟨qL fun d hd=>(yY d hd).elim fun _ z=>z.ok,ke fun d hd=>(yY d hd).elim fun _ z=>z.nd,Nat.succ_le_succ (m8 fun d hd=>(yY d hd).elim fun _ z=>z.dp),by have:=tupleText_len_le (PyData.shownAll (xs.map (dat H m)));exact YT this (by omega)⟩
theorem Al(a:vm v)(r:RelV v u):Reads h u (dat H m v) []:=by
 cases v with
 | aI=>cases (show u=Value.none from r);cases m <;> exact .none
 | bl b=>cases (show u=Value.bool b from r);cases m <;> exact .bool b
 | int i=>obtain⟨t,rfl⟩:=(show∃t,u=Value.int i t from r);cases m <;> exact .int i t
 | str x=>obtain⟨t,rfl⟩:=(show∃t,u=Value.str x t from r);cases m <;> exact .str x t
 | _=>exact a.elim
theorem readsAll: ∀{xs:List V} {us:List Value},Vals xs us->(∀x∈xs,∀u,RelV x u-> ∃as,Reads h u (f x) as)-> ∃as,ReadsAll h us (xs.map f) as
 | _,_,.nil,_=>⟨[],.nil⟩
 | _,_,.cons r t,k=>by
  obtain⟨a1,r1⟩:=k _ YN _ r;obtain⟨a2,r2⟩:=readsAll t fun x hx=>k x (YQ _ hx);exact⟨_,.cons r1 r2⟩
theorem Td.reads(ok:gw P w H h): ∀{k m:Nat} {v:V} {u:Value},Td c H k v->k<=m->RelV v u-> ∃as,Reads h u (dat H m v) as
 | 0,_,_,_,a,_,r=>⟨_,Al a r⟩
 | k+1,0,_,_,_,hk,_=>absurd hk (by omega)
 | k+1,m+1,v,u,a,hk,r=>by
  rcases a with a | ⟨p,xs,rfl,q,rr⟩
  . exact Td.reads ok a (by omega) r
  . cases (show u=Value.ref p from r);rcases q with ⟨q,n⟩ | q
    . obtain⟨_,ao,n',rv,e⟩:=(show a9 P w H h p (.lst xs) from ok p _ q)
      obtain⟨as,ra⟩:=readsAll (f:=dat H m) rv fun x hx u ru=>Td.reads ok (rr x hx) (by omega) ru;rw[qx q];exact⟨_,.list e rfl rfl (by simpa using ra)⟩
    . obtain⟨_,ao,rv,o,e1,e2,_,n',e3⟩:=(show a9 P w H h p (.tup xs) from ok p _ q)
      obtain⟨as,ra⟩:=readsAll (f:=dat H m) rv fun x hx u ru=>Td.reads ok (rr x hx) (by omega) ru;rw[qw q];exact⟨_,.tuple e1 e2 e3 (by simpa using ra)⟩
end LW
namespace LW
open PySem L2 LB PyProof.Rows
theorem aC.none{H H':Hp}{a:Addr}(s:aC H H')(h:H' a=none):H a=none:=by
 cases e:H a with
 | none=>rfl
 | some o=>rw[s _ _ e] at h;cases h
theorem u3:bootBuiltins "repr"=some (.builtin "repr"):=by decide+kernel
end LW
namespace bD
open PySem PySem.W PyProof.Rows
section
variable{prog:Program}{w:World}{A:Around}{E:Value->Shared->Prop}{z:Shared}{K:Nat->Int}{vs:List Value}
structure Ask(prog:Program)(w:World)(A:Around)(vs:List Value)(K:Nat->Int)(z:Shared)(κ:SortKind):Prop where
 kind: ∀Q:SortKind->Shared->Prop,Q κ z->wpAny (model prog w) A (keyKind' vs.toArray) Q (fun _ _=>False) z
 ask:UC vs.length K (kas_ask prog w A κ vs) z
noncomputable def outs(vs:List Value)(p:Array Nat):Array Value:=List.toArray (p.toList.map fun i=>vs.getD i Value.none)
theorem rX(hp:Pm vs.length p):(outs vs p).size=vs.length:=by
 unfold outs;rw[YG,Yt,YH,hp.sz]
theorem vZ:((vs.toArray.zip vs.toArray).map fun q:Keyed=>q.2)=outs vs (List.range vs.length).toArray:=by
 apply ad2.mp;unfold outs;apply Z2
 . simp
 . intro i h1 h2;have hi:i < vs.length:=by simpa using h1
   simp [hi]
end
end bD
namespace bD
open PySem PySem.W PyProof.Rows fg
theorem mn{α β:Type}{f:α->β}{l k:List β}(h:l.Perm k): ∀{m:List α},k=m.map f-> ∃m':List α,m'.Perm m/\l=m'.map f:=by
 induction h with
 | nil=>
  intro m e;cases m with
  | nil=>exact⟨[],List.Perm.refl _,rfl⟩
  | cons a b=>cases e
 | cons x _ ih=>
  intro m e;cases m with
  | nil=>cases e
  | cons a m=>
   obtain⟨e1,e2⟩:=List.cons.inj e;obtain⟨m',p,e3⟩:=ih e2;exact⟨a::m',p.cons a,by rw[YV,<-e3,e1]⟩
 | swap x y l=>
  intro m e;match m,e with
  | a::b::m,e=>
   obtain⟨e1,e2⟩:=List.cons.inj e;obtain⟨e3,e4⟩:=List.cons.inj e2;exact⟨b::a::m,List.Perm.swap _ _ _,by rw[YV,YV,e1,e3,e4]⟩
 | trans _ _ VH VG=>
  intro m e;obtain⟨m',p,e1⟩:=VG e;obtain⟨m2,p2,e2⟩:=VH e1;exact⟨m2,p2.trans p,e2⟩
open Classical in
noncomputable def ym(a:Array Keyed)(x:Keyed):Nat:=if h: ∃i:Nat,a[i]?=some x then choose h else 0
theorem qh(h: ∃i:Nat,a[i]?=some x):a[ym a x]?=some x:=by
 unfold ym;rw[dif_pos h];exact Classical.choose_spec h
section
variable{prog:Program}{w:World}{A:Around}{E:Value->Shared->Prop}{z:Shared}{K:Nat->Int}{vs:List Value}
theorem Mz{a₀:Array Keyed}(hc:UC vs.length K (kas_ask prog w A κ vs) z)(hs:a₀.size=vs.length)(ha: ∀(i:Nat) x,a₀[i]?=some x->x.1=vs.getD i Value.none):nZ prog w A E z κ (fun x=>K (ym a₀ x)) (fun x=> ∃i:Nat,a₀[i]?=some x):=by
 intro st x y Q hk hx hy q;have ex:=qh hx;have ey:=qh hy;have e1:=ha _ _ ex;have e2:=ha _ _ ey;have l1:ym a₀ x < vs.length:=by rw[<-hs];exact(ab2.mp ex).1
 have l2:ym a₀ y < vs.length:=by rw[<-hs];exact(ab2.mp ey).1
 obtain⟨x1,x2⟩:=x;obtain⟨y1,y2⟩:=y;rw[lt'_eq];refine Yz (ag4 ?_);rw[hk];dsimp only at e1 e2;have:=hc _ _ l1 l2 (fun b z'=>b=decide (K (ym a₀ (x1,x2)) < K (ym a₀ (y1,y2)))/\z'=z) ⟨rfl,rfl⟩;unfold kas_ask at this;rw[<-e1,<-e2] at this;refine Yz (wpS_lift (ah4 (Y2 this (fun b z' hb=>?_) (fun _ _ f=>f.elim))));obtain⟨rfl,rfl⟩:=hb;exact⟨rfl,YD q⟩
theorem t7(ho:z.heap.get? a=some (seqObj "list" vs.toArray m))(hl:vs.length<=100000)(hK: ∀i j,i < vs.length->j < vs.length->vs.getD i Value.none=vs.getD j Value.none->K i=K j)(hk:2<=vs.length-> ∀h':Heap,(∀b o,b≠a->z.heap.get? b=some o->h'.get? b=some o)-> ∃κ,Ask prog w A vs K {z with heap:=h'} κ)(h: ∀p,Pm vs.length p->KH K p vs.length->P (.done (.ret .none)) {z with heap:=sortedHeap z.heap a vs (outs vs p)}):wpAny (model prog w) A (Builtin.«list.sort» ⟨[.ref a],[]⟩) P E z:=by
 have la:a < z.heap.objs.size:=YM ho;let h1:Heap:=z.heap.update a (Obj.mapSeq fun _=> #[])
 let h3:Heap:=(h1.push (seqObj "tuple" vs.toArray 0)).push (seqObj "list" #[] 0)
 obtain⟨m1,o1⟩: ∃m1,h1.get? a=some (seqObj "list" #[] m1):=⟨_,af2 ho (fun _=> #[])⟩
 have s1:h1.objs.size=z.heap.objs.size:=ah1 _ _ _;have o3:h3.get? a=some (seqObj "list" #[] m1):=by
  show((h1.push _).push _).get? a=_;rw[ac6 _ _ _ (by rw[size_push',s1];exact Zb (ZS la)),ac6 _ _ _ (by rw[s1];exact Zb la)];exact o1
 have k3: ∀b o,b≠a->z.heap.get? b=some o->h3.get? b=some o:=fun b o hb q=>by
  have lb:=YM q;show((h1.push _).push _).get? b=_;rw[ac6 _ _ _ (by rw[size_push',s1];exact Zb (ZS lb)),ac6 _ _ _ (by rw[s1];exact Zb lb)];show(z.heap.update a _).get? b=_;rw[Heap.get?_update_ne _ _ _ _ hb];exact q
 have fit: ∀p,Pm vs.length p->(outs vs p).size<=sizeLine+1:=fun p hp=>by rw[rX hp,ZR];lia
 rw[list_sort_plain];refine Yr (listItems_at ho rfl (Yr (af1 ho rfl (Yr (seqEpoch_at o1 rfl ?_)) (by rw[YG,ZR];lia) (Za _))));refine Yr (wpAny_newTuple (Yr (wpAny_newList (Zs ?_) (Za _))) (by show vs.length<=_;rw[ZR];lia));show wpAny _ _ _ _ _ {z with heap:=h3};dsimp only;by_cases c2:vs.toArray.size < 2
 . rw[if_pos c2,if_pos c2];refine Yr (Yv ?_);rw[StateT.run_pure];refine Yr (Yv ?_);dsimp only;have pm:Pm vs.length (List.range vs.length).toArray:=⟨Array.Perm.refl _⟩
   have qi:=vZ (vs:=vs);refine Yr (seqEpoch_at o3 rfl (Yr (af1 o3 rfl ?_ (Za _) (by show(Array.map _ (vs.toArray.zip vs.toArray)).size<=_;rw[qi];exact fit _ pm))));simp only [bne_self_eq_false,aa0,ad0];refine Yv ?_;have:=h _ pm fun i j x y=>by
    have:i=j:=by rw[YG] at c2;lia
    subst this;exact ZV _
   rw[<-qi] at this;exact this
 . rw[if_neg c2,if_neg c2];have l2:2<=vs.length:=by rw[YG] at c2;lia
   obtain⟨κ,ak⟩:=hk l2 h3 k3;refine Yr (Y2 (ak.kind (fun κ' z'=>κ'=κ/\z'={z with heap:=h3}) ⟨rfl,rfl⟩) (fun κ' z' q=>?_) fun _ _ x=>x.elim);obtain⟨e1,e2⟩:=q;subst e1;subst e2;have zs:(vs.toArray.zip vs.toArray).size=vs.length:=by simp
   have zg: ∀(i:Nat) x,(vs.toArray.zip vs.toArray)[i]?=some x->i < vs.length/\x=(vs.getD i Value.none,vs.getD i Value.none):=fun i x e=>by
    obtain⟨hi,e⟩:=ab2.mp e;have jN:i < vs.length:=by rw[zs] at hi;exact hi
    refine⟨jN,?_⟩;rw[<-e,aj5];simp [List.getD,jN]
   refine Yr (Y2 (n6 (st:=SortSt.mk' κ' (vs.toArray.zip vs.toArray) #[] 7 none) (a₀:=vs.toArray.zip vs.toArray)
    (Q:=fun _ st=>failedOf st=none/\(arrOf st).Perm (vs.toArray.zip vs.toArray)/\bo (fun x=>K (ym (vs.toArray.zip vs.toArray) x)) (arrOf st) 0 (vs.toArray.zip vs.toArray).size)
    (Mz ak.ask zs fun i x e=>by rw[(zg i x e).2]) (fun x hx=>?_) ⟨Array.Perm.refl _,rfl,rfl,rfl,rfl⟩ (by rw[zs];lia) fun st x y u=>⟨y,x,u⟩) ?_ fun _ _ x=>x)
   . obtain⟨i,hi,e⟩:=ZW hx;exact⟨i,by rw[<-Zq,Ys hi,e]⟩
   rintro⟨⟨⟩,st⟩ z' ⟨e,hf,hp,hg⟩
   subst e;have cN:(arrOf st).toList.Perm ((List.range vs.length).map fun i=>((vs.getD i Value.none,vs.getD i Value.none):Keyed)):=by
    have:=ZF.mp hp;refine this.trans ?_;have:(vs.toArray.zip vs.toArray).toList=(List.range vs.length).map fun i=>((vs.getD i Value.none,vs.getD i Value.none):Keyed):=by
     apply Z2
     . simp
     . intro i g1 g2;have hi:i < vs.length:=by simpa using g1
       simp [hi]
    rw[this]
   obtain⟨m',Iy,em⟩:=mn cN rfl;have pp:Pm vs.length m'.toArray:=⟨ZF.mpr (by simpa using Iy)⟩
   have lm:m'.length=vs.length:=by have:=Iy.length_eq;rw[Y5] at this;exact this
   have qi:(arrOf st).map (·.2)=outs vs m'.toArray:=by
    apply ad2.mp;unfold outs;rw[Array.toList_map,em,Y3];rfl
   have asc:KH K m'.toArray vs.length:=fun i j ij jl=>by
    have at': ∀i,i < vs.length->kp K m'.toArray i=rk (fun x=>K (ym (vs.toArray.zip vs.toArray) x)) (arrOf st) i:=fun i hi=>by
     have im:i < m'.length:=by rw[lm];exact hi
     have e1:(arrOf st)[i]?=some ((vs.getD m'[i] Value.none,vs.getD m'[i] Value.none):Keyed):=by
      rw[<-Zq,em,YC,Ys im];rfl
     have ml:m'[i] < vs.length:=by have:=Iy.mem_iff.mp (Zv im);simpa using this
     unfold kp rk;rw[e1];show K (m'.toArray.getD i 0)=K (ym _ _);have e2:m'.toArray.getD i 0=m'[i]:=by simp [Array.getD,im]
     rw[e2];have e3:=qh (a:=vs.toArray.zip vs.toArray) (x:=(vs.getD m'[i] Value.none,vs.getD m'[i] Value.none)) ⟨m'[i],by
      rw[Zo (by rw[zs];exact ml),aj5];simp [List.getD,ml]⟩
     obtain⟨g1,g2⟩:=zg _ _ e3;exact hK _ _ ml g1 (ZA Prod.fst g2)
    rw[at' i (by lia),at' j jl];exact hg i j (Za _) ij (by rw[zs];exact jl)
   dsimp only;refine Yr (seqEpoch_at o3 rfl (Yr (af1 o3 rfl ?_ (Za _) (by rw[qi];exact fit _ pp))));rw[hf,qi];simp only [bne_self_eq_false,aa0,ad0];exact Yv (h _ pp asc)
end
section
variable{prog:Program}{w:World}{A:Around}{E:Value->Shared->Prop}{z:Shared}{K:Nat->Int}{vs:List Value}
noncomputable def jc(h:Heap)(a:Addr)(vs:List Value):Heap:=((h.update a (Obj.mapSeq fun _=>(#[]:Array Value))).push (seqObj "tuple" vs.toArray 0)).push (seqObj "list" #[] 0)
theorem oS (J : List Value -> Shared -> Prop) (hl : vs.length <= 100000) (hb : ∀ x ks e (s : Shared), ks.length < vs.length -> vs[ks.length]? = some x -> J ks s -> s.heap.get? kS = some (seqObj "list" (List.toArray ks) e) -> s.heap.get? a = some oa ->
   wpAny (model prog w) A (body x ⟨⟩) (fun r s'=>r= .yield ⟨⟩/\ ∃k c,s'.heap.get? kS=some (seqObj "list" (List.toArray (ks++ [k])) c)/\s'.heap.get? a=some oa/\J (ks++ [k]) s') E s):
  ∀(r pre ks:List Value) (e:Nat) (s:Shared),vs=pre++r->ks.length=pre.length->s.heap.get? kS=some (seqObj "list" (List.toArray ks) e)->s.heap.get? a=some oa->J ks s->
   wpAny (model prog w) A (forIn r PUnit.unit body) (fun _ s'=> ∃ks e,s'.heap.get? kS=some (seqObj "list" (List.toArray ks) e)/\s'.heap.get? a=some oa/\ks.length=vs.length/\J ks s') E s
 | [],pre,ks,e,s,hv,hl,hk,ha,h=>by
  rw[List.forIn_nil];exact Yv ⟨ks,e,hk,ha,by rw[hv,Zw];exact hl,h⟩
 | x::r,pre,ks,e,s,hv,Dl,hk,ha,h=>by
  rw[List.forIn_cons];have lx:ks.length < vs.length:=by rw[hv,Dl,Y9,YS];omega
  refine Yr (Y2 (hb x ks e s lx (by rw[hv,Dl];simp) h hk ha) (fun q s' hq=>?_) fun _ _ x=>x);obtain⟨rfl,k,c,Dm,uG,h2⟩:=hq;show wpAny (model prog w) A (forIn r PUnit.unit body) _ E s';exact oS J hl hb r (pre++ [x]) (ks++ [k]) c s' (by rw[hv];simp) (by simp [Dl]) Dm uG h2
theorem xM(J:List Value->Shared->Prop)(ho:z.heap.get? a=some (seqObj "list" vs.toArray m))(hl:vs.length<=100000)(j0:J [] {z with heap:=jc z.heap a vs})(jk: ∀ks s' h',J ks s'->(∀c o,c≠z.heap.objs.size+1->s'.heap.get? c=some o->h'.get? c=some o)->(∃ks e,h'.get? (z.heap.objs.size+1)=some (seqObj "list" (List.toArray ks) e))->J ks {s' with heap:=h'})(turn: ∀v ks s',ks.length < vs.length->vs[ks.length]?=some v->J ks s'->wpAny (model prog w) A (call (.ref q) [v]) (fun k rN=>J (ks++ [k]) rN/\ ∀o,(s'.heap.get? a=some o->rN.heap.get? a=some o)/\(s'.heap.get? (z.heap.objs.size+1)=some o->rN.heap.get? (z.heap.objs.size+1)=some o)) (fun _ _=>False) s')(hK: ∀ks s',J ks s'->ks.length=vs.length-> ∀i j,i < vs.length->j < vs.length->ks.getD i Value.none=ks.getD j Value.none->vs.getD i Value.none=vs.getD j Value.none->K i=K j)(hk: ∀ks s',J ks s'->ks.length=vs.length->2<=vs.length-> ∃κ,Ask prog w A ks K s' κ)(h: ∀ks s' p h',J ks s'->ks.length=vs.length->Pm vs.length p->KH K p vs.length->(∀c o,c≠z.heap.objs.size+1->c≠a->s'.heap.get? c=some o->h'.get? c=some o)->(∃e,h'.get? a=some (seqObj "list" (outs vs p) e))->P (.done (.ret .none)) {s' with heap:=h'}):
  wpAny (model prog w) A (ksk_tree a (.ref q) false) P E z:=by
 have la:a < z.heap.objs.size:=YM ho;obtain⟨e1,OR⟩: ∃e1,(z.heap.update a (Obj.mapSeq fun _=>(#[]:Array Value))).get? a=some (seqObj "list" #[] e1):=⟨_,af2 ho fun _=> #[]⟩
 have hsz:((z.heap.update a (Obj.mapSeq fun _=>(#[]:Array Value))).push (seqObj "tuple" vs.toArray 0)).objs.size=z.heap.objs.size+1:=by rw[size_push',ah1]
 have gk:(jc z.heap a vs).get? (z.heap.objs.size+1)=some (seqObj "list" #[] 0):=by
  rw[<-hsz];exact YI _ rfl
 have ga:(jc z.heap a vs).get? a=some (seqObj "list" #[] e1):=Yu _ (Yu _ OR);have ak:z.heap.objs.size+1≠a:=aa8 (ZS la);have fit: ∀p,Pm vs.length p->(outs vs p).size<=sizeLine+1:=fun p hp=>by rw[rX hp,ZR];omega
 unfold ksk_tree;refine Yr (listItems_at ho rfl ?_);refine Yr (af1 ho rfl ?_ (by rw[YG,ZR];omega) (Za _));refine Yr (seqEpoch_at OR rfl ?_);refine Yr (wpAny_newTuple ?_ (by show vs.length<=_;rw[ZR];omega));refine Yr (wpAny_newList ?_ (Za _));refine Zs ?_;show wpAny _ _ _ _ _ {z with heap:=jc z.heap a vs};rw[hsz];unfold ksk_rest;refine Yr (Z7 ?_);first
  | rw[List.forIn_toArray]
  | (rw[<-Array.forIn_toList];simp only [List.toList_toArray])
  | rw[<-Array.forIn_toList]
 refine Yr (Y2 (oS (a:=a) (kS:=z.heap.objs.size+1) J hl (fun x ks e s' df hx hJ wH ha=>?_) vs [] [] 0 _ rfl rfl gk ga j0) (fun _ s' hd=>?_) fun _ _ x=>x)
 . refine Yr (ah4 (Y2 (turn x ks s' df hx hJ) (fun k rN hk=>?_) fun _ _ hF=>hF.elim));obtain⟨WA,kp⟩:=hk;have nk:=(kp _).2 wH;have na:=(kp _).1 ha;have s1:=ZX rN.heap (z.heap.objs.size+1) (Obj.mapSeq (·.push k));have ea:(List.toArray ks).push k=List.toArray (ks++ [k]):=by simp
   obtain⟨c2,Dr⟩: ∃c2,(rN.heap.update (z.heap.objs.size+1) (Obj.mapSeq (·.push k))).get? (z.heap.objs.size+1)=some (seqObj "list" (List.toArray (ks++ [k])) c2):=⟨_,by rw[<-ea];exact af2 nk (·.push k)⟩
   try dsimp only
   refine Yr (af1 nk rfl ?_ (by rw[YG,ZR];omega) (YT (ag7 (Array.size_push ..)) (by rw[YG,ZR];omega)));exact Yv ⟨rfl,k,c2,Dr,(s1.2 a ak.symm).trans na,jk _ _ _ WA (fun c o hc e=>(s1.2 c hc).trans e) ⟨_,_,Dr⟩⟩
 . obtain⟨ks,e,wH,ha,hlen,hJ⟩:=hd;try dsimp only
   refine Yr (listItems_at wH rfl ?_);unfold ksk_end;try dsimp only
   simp only [aa0,ad0];have s2:=ZX s'.heap (z.heap.objs.size+1) (Obj.mapSeq fun _=>(#[]:Array Value));have na:(s'.heap.update (z.heap.objs.size+1) (Obj.mapSeq fun _=>(#[]:Array Value))).get? a=some (seqObj "list" #[] e1):=(s2.2 a ak.symm).trans ha;have tail: ∀st:SortSt,∀p,failedOf st=none->(arrOf st).map (·.2)=outs vs p->Pm vs.length p->KH K p vs.length->wpAny (model prog w) A (ksk_tail a false e1 (.ref (z.heap.objs.size+1)) st) P E s':=fun st p hf qi pm asc=>by
    unfold ksk_tail;try dsimp only
    rw[qi,hf];refine Yr (af1 wH rfl ?_ (by rw[YG,ZR];omega) (Za _));refine Yr (af9 ?_);refine Yr (seqEpoch_at na rfl ?_);simp only [aa0,ad0];refine Yr (af1 na rfl ?_ (Za _) (fit _ pm));simp only [bne_self_eq_false,aa0,ad0];have s3:=ZX (s'.heap.update (z.heap.objs.size+1) (Obj.mapSeq fun _=>(#[]:Array Value))) a (Obj.mapSeq fun _=>outs vs p);exact Yv (h ks s' p _ hJ hlen pm asc (fun c o c1 c2 e=>(s3.2 c c2).trans ((s2.2 c c1).trans e)) ⟨_,af2 na fun _=>outs vs p⟩)
   have zs:((List.toArray ks).zip vs.toArray).size=vs.length:=by simp [hlen]
   by_cases c2:vs.toArray.size < 2
   . rw[if_pos c2,if_pos c2];refine Yr (Yv ?_);rw[StateT.run_pure];refine Yr (Yv ?_);dsimp only;have pm:Pm vs.length (List.range vs.length).toArray:=⟨Array.Perm.refl _⟩
     refine tail _ _ rfl ?_ pm fun i j x y=>by
      have:i=j:=by rw[YG] at c2;omega
      subst this;exact ZV _
     rw[<-vZ (vs:=vs)];show Array.map _ ((List.toArray ks).zip vs.toArray)=_;apply ad2.mp;apply Z2
     . simp [hlen]
     . intro i g1 g2;simp
   . rw[if_neg c2,if_neg c2];have l2:2<=vs.length:=by rw[YG] at c2;omega
     obtain⟨κ,ask⟩:=hk ks s' hJ hlen l2;refine Yr (Y2 (ask.kind (fun κ' z'=>κ'=κ/\z'=s') ⟨rfl,rfl⟩) (fun κ' z' q=>?_) fun _ _ x=>x.elim);obtain⟨r1,r2⟩:=q;subst r1;subst r2;have zg: ∀(i:Nat) x,((List.toArray ks).zip vs.toArray)[i]?=some x->i < vs.length/\x=(ks.getD i Value.none,vs.getD i Value.none):=fun i x e=>by
      obtain⟨hi,e⟩:=ab2.mp e;have jN:i < vs.length:=by rw[zs] at hi;exact hi
      refine⟨jN,?_⟩;rw[<-e,aj5];simp [List.getD,jN,hlen]
     refine Yr (Y2 (n6 (st:=SortSt.mk' κ' ((List.toArray ks).zip vs.toArray) #[] 7 none) (a₀:=(List.toArray ks).zip vs.toArray)
      (Q:=fun _ st=>failedOf st=none/\(arrOf st).Perm ((List.toArray ks).zip vs.toArray)/\bo (fun x=>K (ym ((List.toArray ks).zip vs.toArray) x)) (arrOf st) 0 ((List.toArray ks).zip vs.toArray).size)
      (Mz (vs:=ks) ask.ask (by rw[zs,hlen]) fun i x e=>by rw[(zg i x e).2]) (fun x hx=>?_) ⟨Array.Perm.refl _,rfl,rfl,rfl,rfl⟩ (by rw[zs];omega) fun st x y u=>⟨y,x,u⟩) ?_ fun _ _ x=>x)
     . obtain⟨i,hi,e⟩:=ZW hx;exact⟨i,by rw[<-Zq,Ys hi,e]⟩
     rintro⟨⟨⟩,st⟩ z' ⟨e,hf,hp,hg⟩
     subst e;have cN:(arrOf st).toList.Perm ((List.range vs.length).map fun i=>((ks.getD i Value.none,vs.getD i Value.none):Keyed)):=by
      have:=ZF.mp hp;refine this.trans ?_;have:((List.toArray ks).zip vs.toArray).toList=(List.range vs.length).map fun i=>((ks.getD i Value.none,vs.getD i Value.none):Keyed):=by
       apply Z2
       . simp [hlen]
       . intro i g1 g2;have hi:i < vs.length:=by simpa using g2
         simp [hi,hlen]
      rw[this]
     obtain⟨m',Iy,em⟩:=mn cN rfl;have pp:Pm vs.length m'.toArray:=⟨ZF.mpr (by simpa using Iy)⟩
     have lm:m'.length=vs.length:=by have:=Iy.length_eq;rw[Y5] at this;exact this
     have qi:(arrOf st).map (·.2)=outs vs m'.toArray:=by
      apply ad2.mp;unfold outs;rw[Array.toList_map,em,Y3];rfl
     have asc:KH K m'.toArray vs.length:=fun i j ij jl=>by
      have at': ∀i,i < vs.length->kp K m'.toArray i=rk (fun x=>K (ym ((List.toArray ks).zip vs.toArray) x)) (arrOf st) i:=fun i hi=>by
       have im:i < m'.length:=by rw[lm];exact hi
       have e1:(arrOf st)[i]?=some ((ks.getD m'[i] Value.none,vs.getD m'[i] Value.none):Keyed):=by
        rw[<-Zq,em,YC,Ys im];rfl
       have ml:m'[i] < vs.length:=by have:=Iy.mem_iff.mp (Zv im);simpa using this
       unfold kp rk;rw[e1];show K (m'.toArray.getD i 0)=K (ym _ _);have e2:m'.toArray.getD i 0=m'[i]:=by simp [Array.getD,im]
       rw[e2];have e3:=qh (a:=(List.toArray ks).zip vs.toArray) (x:=(ks.getD m'[i] Value.none,vs.getD m'[i] Value.none)) ⟨m'[i],by
        rw[Zo (by rw[zs];exact ml),aj5];simp [List.getD,ml,hlen]⟩
       obtain⟨g1,g2⟩:=zg _ _ e3;exact hK ks _ hJ hlen _ _ ml g1 (ZA Prod.fst g2) (ZA Prod.snd g2)
      rw[at' i (by omega),at' j jl];exact hg i j (Za _) ij (by rw[zs];exact jl)
     exact tail _ _ hf qi pp asc
theorem rJ(J:List Value->Shared->Prop)(hl:z.heap.IsList l vs.toArray)(RD:vs.length<=100000)(j0: ∀h':Heap,(∀b o,z.heap.get? b=some o->h'.get? b=some o)->(∀b,z.heap.objs.size<=b->b < z.heap.objs.size+4-> ∃o,h'.get? b=some o)->J [] {z with heap:=h'})(jk: ∀ks s' h',J ks s'->(∀c o,c≠z.heap.objs.size+3->s'.heap.get? c=some o->h'.get? c=some o)->(∃o,h'.get? (z.heap.objs.size+3)=some o)->J ks {s' with heap:=h'})(turn: ∀v ks s',ks.length < vs.length->vs[ks.length]?=some v->J ks s'->wpAny (model prog w) A.in1.in1 (call (.ref q) [v]) (fun k rN=>J (ks++ [k]) rN/\ ∀b o,z.heap.objs.size<=b->b < z.heap.objs.size+4->s'.heap.get? b=some o->rN.heap.get? b=some o) (fun _ _=>False) s')(hK: ∀ks s',J ks s'->ks.length=vs.length-> ∀i j,i < vs.length->j < vs.length->ks.getD i Value.none=ks.getD j Value.none->vs.getD i Value.none=vs.getD j Value.none->K i=K j)(hk: ∀ks s',J ks s'->ks.length=vs.length->2<=vs.length-> ∃κ,Ask prog w A.in1.in1 ks K s' κ)(h: ∀ks s' p h',J ks s'->ks.length=vs.length->Pm vs.length p->KH K p vs.length->(∀c o,c≠z.heap.objs.size+3->c≠z.heap.objs.size+1->s'.heap.get? c=some o->h'.get? c=some o)->(∃e,h'.get? (z.heap.objs.size+1)=some (seqObj "list" (outs vs p) e))->Q (.ref (z.heap.objs.size+1)) {s' with heap:=h'}):
  wpAny (model prog w) A (call (.builtin "sorted") [.ref l] [(Str.ofString "key",.ref q)]) Q E z:=by
 refine call_function_entry_kw kind_sorted plain_sorted entry_sorted (ksk_s1 _ _) ?_;unfold Builtin.«sorted»;let g1:Heap:=(z.heap.push (seqObj "list" #[] 0)).update z.heap.objs.size (Obj.mapSeq (· ++vs.toArray))
 let g2:Heap:=g1.push (seqObj "list" vs.toArray 0)
 have s1:g1.objs.size=z.heap.objs.size+1:=by show(Heap.update _ _ _).objs.size=_;rw[ah1,size_push']
 have HK:g2.objs.size=z.heap.objs.size+2:=by show(g1.push _).objs.size=_;rw[size_push',s1]
 have o2:g2.get? (z.heap.objs.size+1)=some (seqObj "list" vs.toArray 0):=by rw[<-s1];exact YI _ rfl
 have k2: ∀b o,z.heap.get? b=some o->g2.get? b=some o:=fun b o q=>by
  have lb:=YM q;show(g1.push _).get? b=_;rw[ac6 _ _ _ (by rw[s1];exact Zb (ZS lb))];show(Heap.update _ _ _).get? b=_;rw[Heap.get?_update_ne _ _ _ _ (Zb lb),ac6 _ _ _ (Zb lb)];exact q
 have l0: ∃o,g2.get? z.heap.objs.size=some o:=by
  have q1:(z.heap.push (seqObj "list" #[] 0)).get? z.heap.objs.size=some (seqObj "list" #[] 0):=YI _ rfl;have q2:=af2 q1 (· ++vs.toArray);exact⟨_,(ac6 _ _ _ (by rw[s1];exact Zb (ad1 _))).trans q2⟩
 refine Yr (m:=checkCount "sorted" 1 1 _) (Yv (Yr (collect_list hl (Yr (wpAny_newList ?_ (by rw[ZR];omega))) (by rw[ZR];omega))));show wpAny _ _ _ _ _ {z with heap:=g2};rw[s1];have kh: ∀b o,b≠z.heap.objs.size+1->g2.get? b=some o->(jc g2 (z.heap.objs.size+1) vs).get? b=some o:=fun b o hb e=>
  Yu _ (Yu _ (((ZX g2 (z.heap.objs.size+1) (Obj.mapSeq fun _=>(#[]:Array Value))).2 b hb).trans e))
 have Q1:((g2.update (z.heap.objs.size+1) (Obj.mapSeq fun _=>(#[]:Array Value))).push (seqObj "tuple" vs.toArray 0)).objs.size=z.heap.objs.size+3:=by rw[size_push',ah1,HK]
 refine Yr (Zs (wpAny_call_entry_kw slot_list_sort ⟨_,o2,rfl⟩ entry_list_sort ?_ (ksk_l1 _ _)));rw[ksk_t1];refine xM (z:={z with heap:=g2}) (K:=K) J o2 RD ?_ (fun ks s' h' x y v=>?_) (fun v ks s' x y u=>?_) hK hk fun ks s' p h' x y u v c e=>⟨_,rfl,Yv ⟨_,rfl,?_⟩⟩
 . refine j0 _ (fun b o e=>kh b o (Zb (ZS (YM e))) (k2 b o e)) fun b h1 h2=>?_;have:b=z.heap.objs.size\/b=z.heap.objs.size+1\/b=z.heap.objs.size+2\/b=z.heap.objs.size+3:=by
    generalize z.heap.objs.size=n at h1 h2 ⊢;have h1:n<=b:=h1;have h2:b < n+4:=h2;show b=n\/b=n+1\/b=n+2\/b=n+3;omega
   rcases this with e | e | e | e
   . rw[e];obtain⟨o,q⟩:=l0;exact⟨o,kh _ o (Zb (ad1 _)) q⟩
   . rw[e];exact⟨_,Yu _ (Yu _ (af2 o2 fun _=> #[]))⟩
   . rw[e];have:(g2.update (z.heap.objs.size+1) (Obj.mapSeq fun _=>(#[]:Array Value))).objs.size=z.heap.objs.size+2:=by rw[ah1,HK]
     exact⟨_,Yu _ (by rw[<-this];exact YI _ rfl)⟩
   . rw[e,<-Q1];exact⟨_,YI _ rfl⟩
 . have e3:({z with heap:=g2}:Shared).heap.objs.size+1=z.heap.objs.size+3:=by show g2.objs.size+1=_;rw[HK]
   rw[e3] at y v;obtain⟨VD,e',q⟩:=v;exact jk ks s' h' x y ⟨_,q⟩
 . have e3:({z with heap:=g2}:Shared).heap.objs.size+1=z.heap.objs.size+3:=by show g2.objs.size+1=_;rw[HK]
   rw[e3];refine Y2 (turn v ks s' x y u) (fun k rN hq=>⟨hq.1,fun o=>⟨fun g=>hq.2 _ o (ah6 _) ?_ g,fun g=>hq.2 _ o ?_ ?_ g⟩⟩) fun _ _ z=>z
   . exact ZS (ZS (ad1 _))
   . exact Nat.le_add_right _ _
   . exact ad1 _
 . have e3:({z with heap:=g2}:Shared).heap.objs.size+1=z.heap.objs.size+3:=by show g2.objs.size+1=_;rw[HK]
   rw[e3] at c;exact h ks s' p h' x y u v c e
end
end bD
namespace bD
open PySem PySem.W PyProof.Rows
noncomputable def enc(B:Int)(q:Int × Int):Int:=q.1*B+q.2
theorem B8(hp:0<=p.2/\p.2 < B)(hq:0<=q.2/\q.2 < B):decide (enc B p < enc B q)=(if (p.1==q.1)=true then(if (p.2==q.2)=true then false else decide (p.2 < q.2)) else decide (p.1 < q.1)):=by
 obtain⟨a,b⟩:=p;obtain⟨c,d⟩:=q;unfold enc;simp only at hp hq ⊢;by_cases h1:a=c
 . subst h1;rw[if_pos (by rw[YL])];by_cases h2:b=d
   . subst h2;rw[if_pos (by rw[YL])];rw[decide_eq_false_iff_not];lia
   . rw[if_neg (by rw[YL];exact h2)];exact ae5.mpr ⟨fun h=>by lia,fun h=>by lia⟩
 . rw[if_neg (by rw[YL];exact h1)];refine ae5.mpr ⟨fun h=>?_,fun h=>?_⟩
   . refine Int.lt_of_not_ge fun z=>?_;have:(c+1)*B<=a*B:=ac3 (by lia) (by lia);rw[aj6] at this;lia
   . have:(a+1)*B<=c*B:=ac3 (by lia) (by lia);rw[aj6] at this;lia
def yZ(h:Heap)(v:Value)(q:Int × Int):Prop:= ∃(t:Addr) (o:Obj) (a b:Tok) (n:Nat),v= .ref t/\h.get? t=some o/\o.cls= .type "tuple"/\o.data= .seq #[.int q.1 a,.int q.2 b] n
section
variable{prog:Program}{w:World}{A:Around}{E:Value->Shared->Prop}{z:Shared}{vs:List Value}{ps:List (Int × Int)}{B:Int}
theorem BR: ∀{vs:List Value} {ps:List (Int × Int)},vs.length=ps.length->(∀(i:Nat) v q,vs[i]?=some v->ps[i]?=some q->yZ h v q)-> ∃fs,KatTups h vs fs/\fs.length=vs.length/\ ∀v∈fs,∃x t,v=Value.int x t
 | [],[],_,_=>⟨[],.nil,rfl,fun v hv=>absurd hv Yy⟩
 | [],_::_,l,_=>by simp at l
 | _::_,[],l,_=>by simp at l
 | v::vs,q::ps,l,hp=>by
  obtain⟨fs,t,lf,hi⟩:=BR (vs:=vs) (ps:=ps) (by simpa using l) fun i v q h1 h2=>hp (i+1) v q (by simpa using h1) (by simpa using h2);obtain⟨t0,o,a,b,n,rfl,g,c,d⟩:=hp 0 v q rfl rfl;refine⟨.int q.1 a::fs,.cons g c d rfl t,by rw[YS,YS,lf],fun v hv=>?_⟩;rcases YU.mp hv with e | hv
  . exact⟨_,_,e⟩
  . exact hi v hv
theorem yX(hl:vs.length=ps.length)(h2:2<=vs.length)(hp: ∀(i:Nat) v q,vs[i]?=some v->ps[i]?=some q->yZ z.heap v q)(hb: ∀q∈ps,0<=q.2/\q.2 < B): ∃κ,Ask prog w A vs (fun i=>enc B (ps.getD i (0,0))) z κ:=by
 obtain⟨fs,t,lf,hi⟩:=BR hl hp;refine⟨tuples' true,fun Q q=>kat_kind (T:= .type "int") t (by lia) (fun v hv=>?_) (by rfl) q,fun i j jN Dn C q=>?_⟩
 . obtain⟨x,tk,rfl⟩:=hi v hv;exact Looks.of_pure rfl
 . have li:i < ps.length:=by lia
   have lj:j < ps.length:=by lia
   have ei:ps.getD i (0,0)=ps[i]:=by simp [List.getD,li]
   have ej:ps.getD j (0,0)=ps[j]:=by simp [List.getD,lj]
   have fi:vs.getD i Value.none=vs[i]:=by simp [List.getD,jN]
   have fj:vs.getD j Value.none=vs[j]:=by simp [List.getD,Dn]
   rw[ei,ej,B8 (hb _ (Zv li)) (hb _ (Zv lj))] at q;obtain⟨t1,o1,a1,b1,n1,e1,g1,c1,d1⟩:=hp i _ _ (Ys jN) (Ys li);obtain⟨t2,o2,a2,b2,n2,e2,g2,c2,d2⟩:=hp j _ _ (Ys Dn) (Ys lj);unfold kas_ask;rw[fi,fj,e1,e2];refine kat_lt g1 d1 g2 d2 (kat_cons (wpAny_eqBool_int ?_));by_cases h1:(ps[i].1==ps[j].1)=true
   . rw[h1];rw[if_pos h1] at q;refine kat_yes (kat_cons (wpAny_eqBool_int ?_));by_cases h2:(ps[i].2==ps[j].2)=true
     . rw[h2];rw[if_pos h2] at q;exact kat_yes (kat_nil q)
     . rw[if_neg h2] at q;rw[Bool.eq_false_iff.mpr h2];exact kat_no (kat_one _ _ (lt_int q))
   . rw[if_neg h1] at q;rw[Bool.eq_false_iff.mpr h1];exact kat_no (oneLt_int q)
end
end bD
namespace LD
open PySem PySem.Spec L2 LB PyProof.Rows
inductive Dt where
 | aI | bl (b:Bool) | int (i:Int) | str (x:Str) | lst (ds:List Dt) | tup (ds:List Dt) | yG (ks:List Key) (ds:List Dt) | jO (ks:List (List Key)) (ds:List Dt)
noncomputable def Dt.QN:Dt->Bool
 | .aI=>true
 | _=>false
inductive Rep(M:Addr->Prop)(H:Hp):V->Dt->Prop where
 | aI:Rep M H .aI .aI
 | bl (b:Bool):Rep M H (.bl b) (.bl b)
 | int (i:Int):Rep M H (.int i) (.int i)
 | str (x:Str):Rep M H (.str x) (.str x)
 | lst {a:Addr} {xs:List V} {ds:List Dt}:H a=some (.lst xs)-> ¬M a->xs.length=ds.length->(∀(i:Nat) x d,xs[i]?=some x->ds[i]?=some d->Rep M H x d)->Rep M H (.ref a) (.lst ds)
 | tup {a:Addr} {xs:List V} {ds:List Dt}:H a=some (.tup xs)-> ¬M a->xs.length=ds.length->(∀(i:Nat) x d,xs[i]?=some x->ds[i]?=some d->Rep M H x d)->Rep M H (.ref a) (.tup ds)
 | yG {a:Addr} {vs:List (Key × V)} {ks:List Key} {ds:List Dt}:H a=some (.dK vs)-> ¬M a->vs.map (·.1)=ks->(vs.map (·.2)).length=ds.length->(∀(i:Nat) x d,(vs.map (·.2))[i]?=some x->ds[i]?=some d->Rep M H x d)->Rep M H (.ref a) (.yG ks ds)
 | jO {a:Addr} {vs:List (List Key × V)} {ks:List (List Key)} {ds:List Dt}:H a=some (.dT vs)-> ¬M a->vs.map (·.1)=ks->(vs.map (·.2)).length=ds.length->(∀(i:Nat) x d,(vs.map (·.2))[i]?=some x->ds[i]?=some d->Rep M H x d)->Rep M H (.ref a) (.jO ks ds)
def aA(M:Addr->Prop)(H:Hp)(xs:List V)(ds:List Dt):Prop:=xs.length=ds.length/\ ∀(i:Nat) x d,xs[i]?=some x->ds[i]?=some d->Rep M H x d
theorem Rep.mono(h:Rep M H v d)(m: ∀a o,H a=some o-> ¬M a->H' a=some o/\ ¬M' a):Rep M' H' v d:=by
 induction h with
 | aI=>exact .aI
 | bl b=>exact .bl b
 | int i=>exact .int i
 | str x=>exact .str x
 | lst h n l r ih=>exact .lst (m _ _ h n).1 (m _ _ h n).2 l ih
 | tup h n l r ih=>exact .tup (m _ _ h n).1 (m _ _ h n).2 l ih
 | yG h n e l r ih=>exact .yG (m _ _ h n).1 (m _ _ h n).2 e l ih
 | jO h n e l r ih=>exact .jO (m _ _ h n).1 (m _ _ h n).2 e l ih
theorem aA.mono(h:aA M H xs ds)(m: ∀a o,H a=some o-> ¬M a->H' a=some o/\ ¬M' a):aA M' H' xs ds:=⟨h.1,fun i x d h1 h2=>(h.2 i x d h1 h2).mono m⟩
theorem Rep.same(h:Rep M H v d)(s:aC H H'):Rep M H' v d:=h.mono fun a o e n=>⟨s _ _ e,n⟩
theorem aA.same(h:aA M H xs ds)(s:aC H H'):aA M H' xs ds:=h.mono fun a o e n=>⟨s _ _ e,n⟩
theorem aA.nil:aA M H [] []:=⟨rfl,fun i x d h=>by simp at h⟩
theorem aA.cons{M:Addr->Prop}{H:Hp}{x:V}{d:Dt}{xs:List V}{ds:List Dt}(h:Rep M H x d)(r:aA M H xs ds):aA M H (x::xs) (d::ds):=
 ⟨by rw[YS,YS,r.1],fun i y e h1 h2=>by
  cases i with
  | zero=>cases h1;cases h2;exact h
  | succ j=>exact r.2 j y e (by simpa using h1) (by simpa using h2)⟩
theorem aA.append(h:aA M H xs ds)(r:aA M H ys es):aA M H (xs++ys) (ds++es):=
 ⟨by rw[Y9,Y9,h.1,r.1],fun i y e h1 h2=>by
  by_cases hi:i < xs.length
  . rw[Y1 hi] at h1;rw[Y1 (by rw[<-h.1];exact hi)] at h2;exact h.2 i y e h1 h2
  . rw[Y8 (by omega)] at h1;rw[Y8 (by have:=h.1;omega),<-h.1] at h2;exact r.2 _ y e h1 h2⟩
theorem aA.one(h:Rep M H x d):aA M H [x] [d]:= .cons h .nil
theorem aA.get(h:aA M H xs ds){i:Nat}(e:ds[i]?=some d): ∃x,xs[i]?=some x/\Rep M H x d:=by
 have hi:=(YB.mp e).1;have hx:xs[i]?=some (xs[i]'(by rw[h.1];exact hi)):=Ys _;exact⟨_,hx,h.2 i _ _ hx e⟩
theorem aA.take(h:aA M H xs ds)(n:Nat):aA M H (xs.take n) (ds.take n):=
 ⟨by rw[Zu,Zu,h.1],fun i y e h1 h2=>by
  rw[List.getElem?_take] at h1 h2;split at h1
  . rename_i hi;rw[if_pos hi] at h2;exact h.2 i y e h1 h2
  . cases h1⟩
theorem aA.drop(h:aA M H xs ds)(n:Nat):aA M H (xs.drop n) (ds.drop n):=
 ⟨by rw[ZM,ZM,h.1],fun i y e h1 h2=>by
  rw[ab7] at h1 h2;exact h.2 _ y e h1 h2⟩
theorem aA.set(h:aA M H xs ds)(r:Rep M H x d)(n:Nat):aA M H (xs.set n x) (ds.set n d):=
 ⟨by rw[Y7,Y7,h.1],fun i y e h1 h2=>by
  rw[List.getElem?_set] at h1 h2;split at h1
  . rename_i hi;rw[if_pos hi] at h2;subst hi;by_cases hl:n < xs.length
    . rw[if_pos hl] at h1;rw[if_pos (by rw[<-h.1];exact hl)] at h2;cases h1;cases h2;exact r
    . rw[if_neg hl] at h1;cases h1
  . rename_i hi;rw[if_neg hi] at h2;exact h.2 i y e h1 h2⟩
theorem aA.aQ(h:aA M H xs (d::ds)): ∃x ys,xs=x::ys/\Rep M H x d/\aA M H ys ds:=by
 cases xs with
 | nil=>have:=h.1;simp at this
 | cons x ys=>exact⟨x,ys,rfl,h.2 0 x d rfl rfl,⟨by have:=h.1;simpa using this,fun i y e h1 h2=>h.2 (i+1) y e (by simpa using h1) (by simpa using h2)⟩⟩
theorem aA.eV(h:aA M H xs []):xs= []:=List.length_eq_zero_iff.mp (by rw[h.1];rfl)
theorem Rep.vz(h:H a=some (.lst xs))(n: ¬M a)(r:aA M H xs ds):Rep M H (.ref a) (.lst ds):= .lst h n r.1 r.2
theorem Rep.fZ(h:H a=some (.tup xs))(n: ¬M a)(r:aA M H xs ds):Rep M H (.ref a) (.tup ds):= .tup h n r.1 r.2
theorem Rep.dF(h:Rep M H v (.lst ds)): ∃a xs,v= .ref a/\H a=some (.lst xs)/\ ¬M a/\aA M H xs ds:=by
 cases h with
 | lst h n l r=>exact⟨_,_,rfl,h,n,l,r⟩
theorem Rep.bE(h:Rep M H v (.tup ds)): ∃a xs,v= .ref a/\H a=some (.tup xs)/\ ¬M a/\aA M H xs ds:=by
 cases h with
 | tup h n l r=>exact⟨_,_,rfl,h,n,l,r⟩
theorem Rep.Gs(h:Rep M H v (.jO ks ds)): ∃a vs,v= .ref a/\H a=some (.dT vs)/\ ¬M a/\vs.map (·.1)=ks/\aA M H (vs.map (·.2)) ds:=by
 cases h with
 | jO h n e l r=>exact⟨_,_,rfl,h,n,e,l,r⟩
theorem Rep.ofInt(h:Rep M H v (.int i)):v= .int i:=by cases h;rfl
theorem Rep.A9(h:Rep M H v (.bl i)):v= .bl i:=by cases h;rfl
structure Uv where
 rel:(Addr->Prop)->Hp->V->List Addr->Prop
 st: ∀{M M':Addr->Prop} {H H':Hp} {v:V} {as:List Addr},rel M H v as->(∀a∈as,∀o,H a=some o->H' a=some o)->(∀a o,H a=some o-> ¬M a->H' a=some o/\ ¬M' a)->rel M' H' v as
inductive Sl where
 | no | im (d:Dt) | ow (ds:List Dt) | bx (t:Int) | dk (ks:List Key) (ds:List Dt) | ob (R:Uv) | fn (f:Addr)
def qO(M:Addr->Prop)(H:Hp)(o:Option V):Sl->List Addr->Prop
 | .no,as=>as= []
 | .im d,as=>as= []/\ ∃v,o=some v/\Rep M H v d
 | .ow ds,as=> ∃a xs,as= [a]/\o=some (.ref a)/\H a=some (.lst xs)/\aA M H xs ds
 | .bx t,as=> ∃d c,as= [d,c]/\o=some (.ref d)/\tL H d c t
 | .dk ks ds,as=> ∃a vs,as= [a]/\o=some (.ref a)/\H a=some (.dK vs)/\vs.map (·.1)=ks/\aA M H (vs.map (·.2)) ds
 | .ob R,as=> ∃v,o=some v/\R.rel M H v as
 | .fn f,as=>as= []/\o=some (.ref f)
structure Wd where
 H0:Hp
 A0:Addr->Prop
 M0:Addr->Prop
 M1:Addr->Prop
 box:Option (Addr × Addr)
noncomputable def Sl.dz:Sl->Bool
 | .bx _=>true
 | _=>false
structure O3(W:Wd)(M:Addr->Prop)(α:List (List Addr))(H:Hp)(δ:List Sl):Prop where
 bs: ∀b o,W.H0 b=some o-> ¬W.A0 b->H b=some o
 ex: ∀b,W.H0 b≠none->H b≠none
 fr: ∀a∈α.flatten,W.A0 a\/W.H0 a=none
 m0: ∀a,W.M0 a->M a
 m1: ∀a,M a->W.M1 a\/W.H0 a=none
 bx: ∀d c,W.box=some (d,c)-> ∃t,δ[0]?=some (.bx t)/\α[0]?=some [d,c]
 fz: ∀(i:Nat) s as,δ[i]?=some s->α[i]?=some as->s.dz=false-> ∀a∈as,¬W.M0 a
def jJ(M:Addr->Prop)(H:Hp):Prop:= ∀a,M a-> ∃o,H a=some o/\ ∀xs,o≠ .tup xs
structure aB(Ws:List Wd)(M:Addr->Prop)(α:List (List Addr))(H:Hp)(σ:L2.St)(δ:List Sl):Prop where
 ls:σ.length=δ.length
 la:α.length=δ.length
 sl: ∀(i:Nat) (s:Sl),δ[i]?=some s-> ∃o as,σ[i]?=some o/\α[i]?=some as/\qO M H o s as
 nd:α.flatten.Nodup
 mu: ∀a∈α.flatten,M a
 al:jJ M H
 w: ∀W∈Ws,O3 W M α H δ
def da(α:List (List Addr))(H H':Hp):Prop:= ∀b o,H b=some o->b∉α.flatten->H' b=some o
theorem da.rf:da α H H:=fun _ _ e _=>e
theorem da.tr(a:da α H H1)(b:da α H1 H2):da α H H2:=fun x o e n=>b _ _ (a _ _ e n) n
theorem da.of(s:aC H H'):da α H H':=fun x o e _=>s _ _ e
theorem Rep.chg(h:Rep M H v d)(E:aB W M α H σ δ)(c:da α H H'):Rep M H' v d:=h.mono fun a o e n=>⟨c _ _ e fun z=>n (E.mu a z),n⟩
theorem aA.chg(h:aA M H v d)(E:aB W M α H σ δ)(c:da α H H'):aA M H' v d:=h.mono fun a o e n=>⟨c _ _ e fun z=>n (E.mu a z),n⟩
theorem qO.same(h:qO M H o s as)(z:aC H H'):qO M H' o s as:=by
 cases s with
 | no=>exact h
 | im d=>exact⟨h.1,let ⟨v,e,r⟩:=h.2;⟨v,e,r.same z⟩⟩
 | ow ds=>obtain⟨a,xs,e1,e2,e3,r⟩:=h;exact⟨a,xs,e1,e2,z _ _ e3,r.same z⟩
 | bx t=>obtain⟨d,c,e1,e2,r⟩:=h;exact⟨d,c,e1,e2,r.same z⟩
 | dk ks ds=>obtain⟨a,vs,e1,e2,e3,e4,r⟩:=h;exact⟨a,vs,e1,e2,z _ _ e3,e4,r.same z⟩
 | ob R=>obtain⟨v,e,r⟩:=h;exact⟨v,e,R.st r (fun a _ o q=>z _ _ q) fun a o q n=>⟨z _ _ q,n⟩⟩
 | fn f=>exact h
theorem aB.same(E:aB W M α H σ δ)(z:aC H H'):aB W M α H' σ δ:=by
 refine⟨E.ls,E.la,fun i s h=>?_,E.nd,E.mu,fun a h=>?_,fun W hW=>let k:=E.w W hW;⟨fun b o e n=>z _ _ (k.bs b o e n),fun b n y=>k.ex b n (LW.aC.none z y),k.fr,k.m0,k.m1,k.bx,k.fz⟩⟩
 . obtain⟨o,as,h1,h2,h3⟩:=E.sl i s h;exact⟨o,as,h1,h2,h3.same z⟩
 . obtain⟨o,e,n⟩:=E.al a h;exact⟨o,z _ _ e,n⟩
theorem aB.fresh(E:aB W M α H σ δ)(h:H p=none): ¬M p:=fun z=>let ⟨_,e,_⟩:=E.al p z;by rw[h] at e;cases e
theorem jJ.fresh(h:jJ M H)(e:H p=none): ¬M p:=fun z=>let ⟨_,e',_⟩:=h p z;by rw[e] at e';cases e'
theorem jJ.tup{M:Addr->Prop}{H:Hp}(h:jJ M H){p:Addr}{xs:List V}(e:H p=some (.tup xs)): ¬M p:=fun z=>let ⟨_,e',n⟩:=h p z;by rw[e] at e';cases e';exact n xs rfl
theorem jJ.Mu(h:jJ M H)(n:vb H xs p H'): ¬M p:=by
 rcases n with ⟨_,e⟩ | ⟨e,_⟩
 . exact h.tup e
 . exact h.fresh e
abbrev bz:=List Sl->(Dt->List Sl->Prop)->Prop
abbrev ny:=List Sl->(Bool->List Sl->Prop)->Prop
abbrev gn:=List Sl->(List Dt->List Sl->Prop)->Prop
inductive lE(t:bz)(σ:L2.St)(H:Hp)(Q:VK):Prop
 | mk (W:List Wd) (M:Addr->Prop) (α:List (List Addr)) (δ:List Sl) (Qd:Dt->List Sl->Prop) (h1:aB W M α H σ δ) (h2:t δ Qd) (h3: ∀d δ' H' v,Qd d δ'->aB W M α H' σ δ'->da α H H'->Rep M H' v d->Q v H')
inductive lT(t:ny)(σ:L2.St)(H:Hp)(Q:Bool->Hp->Prop):Prop
 | mk (W:List Wd) (M:Addr->Prop) (α:List (List Addr)) (δ:List Sl) (Qd:Bool->List Sl->Prop) (h1:aB W M α H σ δ) (h2:t δ Qd) (h3: ∀b δ' H',Qd b δ'->aB W M α H' σ δ'->da α H H'->Q b H')
inductive lA(t:gn)(σ:L2.St)(H:Hp)(Q:List V->Hp->Prop):Prop
 | mk (W:List Wd) (M:Addr->Prop) (α:List (List Addr)) (δ:List Sl) (Qd:List Dt->List Sl->Prop) (h1:aB W M α H σ δ) (h2:t δ Qd) (h3: ∀ds δ' H' vs,Qd ds δ'->aB W M α H' σ δ'->da α H H'->aA M H' vs ds->Q vs H')
abbrev zk:=List Sl->(List Dt->List Sl->Prop)->Prop
inductive lO(t:zk)(σ:L2.St)(H:Hp)(Q:VK):Prop
 | mk (W:List Wd) (M:Addr->Prop) (α:List (List Addr)) (δ:List Sl) (Qd:List Dt->List Sl->Prop) (h1:aB W M α H σ δ) (h2:t δ Qd) (h3: ∀ds δ' H1 xs a,Qd ds δ'->aB W M α H1 σ δ'->da α H H1->aA M H1 xs ds->H1 a=none->Q (.ref a) (upd H1 a (.lst xs)))
theorem PE.imp(h:PE X e t)(i: ∀σ H Q,t' σ H Q->t σ H Q):PE X e t':=fun pins s σ H Q I q=>h pins s σ H Q I (i _ _ _ q)
theorem PT.imp(h:PT X e t)(i: ∀σ H Q,t' σ H Q->t σ H Q):PT X e t':=fun pins s σ H Q I q=>h pins s σ H Q I (i _ _ _ q)
theorem PW.imp(h:PW X e t)(i: ∀σ H Q,t' σ H Q->t σ H Q):PW X e t':=fun w pins s σ H Q I q=>h w pins s σ H Q I (i _ _ _ q)
theorem PA.imp(h:PA X e t)(i: ∀σ H Q,t' σ H Q->t σ H Q):PA X e t':=fun pos pins s σ H Q I q=>h pos pins s σ H Q I (i _ _ _ q)
theorem PS.imp(h:PS X e t)(i: ∀D σ H,t' D σ H->t D σ H):PS X e t':=fun pins s σ H D I q=>h pins s σ H D I (i _ _ _ q)
theorem qQ.imp(h:qQ X e t)(i: ∀D σ H,t' D σ H->t D σ H):qQ X e t':=fun pins s σ H D I q=>h pins s σ H D I (i _ _ _ q)
abbrev Ev(X:Cx)(e:Expr)(t:bz):Prop:=PE X e (lE t)
abbrev Tv(X:Cx)(e:Expr)(t:ny):Prop:=PT X e (lT t)
abbrev Av(X:Cx)(es:List Expr)(t:gn):Prop:=PA X es (lA t)
abbrev Ov(X:Cx)(e:Expr)(t:zk):Prop:=PE X e (lO t)
section
variable{X:Cx}{a b c e:Expr}{es:List Expr}{ta tb t:bz}{pos:Pos}
inductive J1(i:Nat)(δ:List Sl)(Q:Dt->List Sl->Prop):Prop
 | mk (d:_) (h1:δ[i]?=some (.im d)) (h2:Q d δ)
theorem aB.im(E:aB W M α H σ δ){i:Nat}(h:δ[i]?=some (.im d)): ∃v,σ[i]?=some (some v)/\Rep M H v d:=by
 obtain⟨o,as,h1,_,_,v,rfl,r⟩:=E.sl i _ h;exact⟨v,h1,r⟩
theorem aB.ow(E:aB W M α H σ δ){i:Nat}(h:δ[i]?=some (.ow ds)): ∃a xs,σ[i]?=some (some (.ref a))/\α[i]?=some [a]/\H a=some (.lst xs)/\aA M H xs ds:=by
 obtain⟨o,as,h1,h2,a,xs,rfl,rfl,e,r⟩:=E.sl i _ h;exact⟨a,xs,h1,h2,e,r⟩
theorem JL(i:Nat)(h:PE X (.Name x pos) (gG i)):Ev X (.Name x pos) (J1 i):=PE.imp h fun σ H Q cj=>(by obtain⟨W,M,α,δ,Qd,E,⟨d,hd,q⟩,k⟩:=cj;exact(by
 obtain⟨v,h1,r⟩:=E.im hd;exact⟨v,h1,k _ _ _ _ q E da.rf r⟩))
theorem dv(i:Nat)(hN:X.N[i]?=some x:=by rfl)(hv:O4 X.env.scope x:=by first | exact Or.inl rfl | exact Or.inr (Or.inl rfl) | exact Or.inr (Or.inr rfl))(hd:(x==("__debug__":Str))=false:=by decide)(sJ:(x==("__classdict__":Str))=false:=by decide):Ev X (.Name x pos) (J1 i):=JL i (AH hN hv hd sJ)
def dC(d:Dt):bz:=fun δ Q=>Q d δ
theorem ay{i j pos}:Ev X (.Constant (.int i) j pos) (dC (.int i)):=PE.imp bT fun σ H Q dM=>(by obtain⟨W,M,α,δ,Qd,E,q,k⟩:=dM;exact(k _ _ _ _ q E da.rf (.int i)))
theorem uR{i j pos}:Ev X (.Constant (.bool i) j pos) (dC (.bl i)):=PE.imp Mg fun σ H Q iU=>(by obtain⟨W,M,α,δ,Qd,E,q,k⟩:=iU;exact(k _ _ _ _ q E da.rf (.bl i)))
theorem jA{j pos}:Ev X (.Constant .none j pos) (dC .aI):=PE.imp AJ fun σ H Q jP=>(by obtain⟨W,M,α,δ,Qd,E,q,k⟩:=jP;exact(k _ _ _ _ q E da.rf .aI))
def dO(t:zk):bz:=fun δ Q=>t δ fun ds δ'=>Q (.lst ds) δ'
theorem Ov.ev{t:zk}(h:Ov X e t):Ev X e (dO t):=PE.imp h fun σ H Q cj=>(by obtain⟨W,M,α,δ,Qd,E,q,k⟩:=cj;exact(by
 refine⟨W,M,α,δ,_,E,q,fun ds δ' H1 xs a q1 E1 c1 r1 h1=>?_⟩;have s:aC H1 (upd H1 a (.lst xs)):=aC.new h1;exact k _ _ _ _ q1 (E1.same s) (c1.tr (da.of s)) (Rep.vz af (E1.fresh h1) (r1.same s))))
abbrev D2:=Dt->Dt->(Dt->Prop)->Prop
def De(r:R2)(R:D2):Prop:= ∀(M:Addr->Prop) (H:Hp) (x y:V) (d1 d2:Dt) (Qd:Dt->Prop) (Q:VK),jJ M H->Rep M H x d1->Rep M H y d2->R d1 d2 Qd->(∀H' v d,Qd d->aC H H'->Rep M H' v d->Q v H')->r x y H Q
def sX(R:D2)(ta tb:bz):bz:=fun δ Q=>ta δ fun d1 δ1=>tb δ1 fun d2 δ2=>R d1 d2 fun d=>Q d δ2
theorem k9(hd:De r R): ∀σ H Q,lE (sX R ta tb) σ H Q->KJ r (lE ta) (lE tb) σ H Q:=fun σ H Q nA=>(by obtain⟨W,M,α,δ,Qd,E,q,k⟩:=nA;exact(
 ⟨W,M,α,δ,_,E,q,fun d1 δ1 H1 x q1 E1 c1 r1=>⟨W,M,α,δ1,_,E1,q1,fun d2 δ2 H2 y q2 E2 c2 r2=>hd M H2 x y d1 d2 _ _ E2.al (r1.chg E1 c2) r2 q2 fun H' v d q3 s r3=>k _ _ _ _ q3 (E2.same s) ((c1.tr c2).tr (da.of s)) r3⟩⟩))
theorem Fp(ho:kR X (binaryOp op) r)(hd:De r R)(ha:Ev X a ta)(hb:Ev X b tb):Ev X (.BinOp a op b pos) (sX R ta tb):=PE.imp (cJ ho ha hb) (k9 hd)
theorem Nz(ho:kR X (compareOp op) r)(hd:De r R)(ha:Ev X a ta)(hb:Ev X b tb)(hm:behindInMarks op b=false):Ev X (.Compare a [op] [b] pos) (sX R ta tb):=PE.imp (vY ho ha hb hm) (k9 hd)
inductive RW(Q:Bool->List Sl->Prop)(d:Dt)(δ':List Sl):Prop
 | mk (c:_) (h1:d= .bl c) (h2:Q c δ')
def dT(t:bz):ny:=fun δ Q=>t δ fun d δ'=>RW Q d δ'
theorem hU: ∀σ H (Q:Bool->Hp->Prop),lT (dT t) σ H Q->lE t σ H fun x H1=> ∃c,x= .bl c/\Q c H1:=fun σ H Q pA=>(by obtain⟨W,M,α,δ,Qd,E,q,k⟩:=pA;exact(
 ⟨W,M,α,δ,_,E,q,fun d δ' H' v nz E1 c1 r1=>(by obtain⟨c,e,q1⟩:=nz;exact(⟨c,by subst e;exact r1.A9,k _ _ _ q1 E1 c1⟩))⟩))
theorem iN(ho:kR X (compareOp op) r)(hd:De r R)(ha:Ev X a ta)(hb:Ev X b tb)(hm:behindInMarks op b=false):Tv X (.Compare a [op] [b] pos) (dT (sX R ta tb)):=
 PT.imp (pU ho ha hb hm) fun σ H Q h=>k9 hd _ _ _ (hU _ _ _ h |> fun gx=>(by obtain⟨W,M,α,δ,Qd,E,q,k⟩:=gx;exact(⟨W,M,α,δ,Qd,E,q,k⟩)))
theorem dH(h:Ev X e t)(he: ∀whole,isTrue e X.env whole=(do let v<-whole;standAt e.pos;holding [v] (truthy v)):=by intro _;rfl):Tv X e (dT t):=PT.imp (Im h he) fun σ H Q h=>hU _ _ _ h
def Kc(ta:bz):bz:=fun δ Q=>ta δ fun d δ'=>Q (.bl d.QN) δ'
def GW(ta:bz):bz:=fun δ Q=>ta δ fun d δ'=>Q (.bl (!d.QN)) δ'
theorem Bq(r:Rep M H v d):decide (v= .aI)=d.QN:=by cases r <;> rfl
theorem sF: ∀σ H Q,lE (Kc ta) σ H Q->LK (lE ta) σ H Q:=fun σ H Q jS=>(by obtain⟨W,M,α,δ,Qd,E,q,k⟩:=jS;exact(
 ⟨W,M,α,δ,_,E,q,fun d δ' H' v q1 E1 c1 r1=>by show Q (V.bl (decide (v=V.aI))) H';rw[Bq r1];exact k _ _ _ _ q1 E1 c1 (.bl _)⟩))
theorem x8: ∀σ H Q,lE (GW ta) σ H Q->Gg (lE ta) σ H Q:=fun σ H Q pC=>(by obtain⟨W,M,α,δ,Qd,E,q,k⟩:=pC;exact(
 ⟨W,M,α,δ,_,E,q,fun d δ' H' v q1 E1 c1 r1=>by show Q (V.bl !decide (v=V.aI)) H';rw[Bq r1];exact k _ _ _ _ q1 E1 c1 (.bl _)⟩))
theorem Cs{j pos'}(ha:Ev X a ta):Ev X (.Compare a [.Is] [.Constant .none j pos'] pos) (Kc ta):=PE.imp (IF (AS ha)) sF
theorem lX{j pos'}(ha:Ev X a ta):Tv X (.Compare a [.Is] [.Constant .none j pos'] pos) (dT (Kc ta)):=PT.imp (Aq (AS ha)) fun σ H Q h=>sF _ _ _ (hU _ _ _ h)
theorem HH{j pos'}(ha:Ev X a ta):Tv X (.Compare a [.IsNot] [.Constant .none j pos'] pos) (dT (GW ta)):=PT.imp (Aq (Em ha)) fun σ H Q h=>x8 _ _ _ (hU _ _ _ h)
end
section
variable{X:Cx}{a b c e:Expr}{es rest:List Expr}{ta tb t:bz}{u v:ny}{pos:Pos}
def Sg(t u:ny):ny:=fun δ Q=>t δ fun c δ1=>if c=true then u δ1 Q else Q false δ1
def WV(t u:ny):ny:=fun δ Q=>t δ fun c δ1=>if c=true then Q true δ1 else u δ1 Q
def R1(t:ny):ny:=fun δ Q=>t δ fun c δ1=>Q (!c) δ1
theorem zG(h:Tv X a u):PW X (.BoolOp .And [a] pos) (lT u):=pw_and1 h
theorem lN(h:Tv X a u):PW X (.BoolOp .Or [a] pos) (lT u):=pw_or1 h
theorem w_and(ha:Tv X a u)(hb:PW X (.BoolOp .And (b::rest) pos) (lT v)):PW X (.BoolOp .And (a::b::rest) pos) (lT (Sg u v)):=PW.imp (pw_and ha hb) fun σ H Q jQ=>(by obtain⟨W,M,α,δ,Qd,E,q,k⟩:=jQ;exact(
 ⟨W,M,α,δ,_,E,q,fun c δ1 H1 q1 E1 c1=>by
  cases c with
  | true=>rw[if_pos rfl] at q1 ⊢;exact⟨W,M,α,δ1,_,E1,q1,fun c2 δ2 H2 q2 E2 G4=>k _ _ _ q2 E2 (c1.tr G4)⟩
  | false=>rw[if_neg YJ] at q1 ⊢;exact k _ _ _ q1 E1 c1⟩))
theorem w_or(ha:Tv X a u)(hb:PW X (.BoolOp .Or (b::rest) pos) (lT v)):PW X (.BoolOp .Or (a::b::rest) pos) (lT (WV u v)):=PW.imp (pw_or ha hb) fun σ H Q zr=>(by obtain⟨W,M,α,δ,Qd,E,q,k⟩:=zr;exact(
 ⟨W,M,α,δ,_,E,q,fun c δ1 H1 q1 E1 c1=>by
  cases c with
  | false=>rw[if_neg YJ] at q1 ⊢;exact⟨W,M,α,δ1,_,E1,q1,fun c2 δ2 H2 q2 E2 G4=>k _ _ _ q2 E2 (c1.tr G4)⟩
  | true=>rw[if_pos rfl] at q1 ⊢;exact k _ _ _ q1 E1 c1⟩))
theorem zP(ha:Tv X a u):Tv X (.UnaryOp .Not a pos) (R1 u):=PT.imp (Io ha) fun σ H Q tP=>(by obtain⟨W,M,α,δ,Qd,E,q,k⟩:=tP;exact(⟨W,M,α,δ,_,E,q,fun c δ1 H1 q1 E1 c1=>k _ _ _ q1 E1 c1⟩))
inductive FH(tb:bz)(Q:Dt->List Sl->Prop)(d:Dt)(δ1:List Sl):Prop
 | mk (c:_) (h1:d= .bl c) (h2:if c=true then tb δ1 Q else Q (.bl false) δ1)
def NW(ta tb:bz):bz:=fun δ Q=>ta δ fun d δ1=>FH tb Q d δ1
inductive FA(Q:Dt->List Sl->Prop)(d:Dt)(δ1:List Sl):Prop
 | mk (c:_) (h1:d= .bl c) (h2:Q (.bl (!c)) δ1)
def NP(ta:bz):bz:=fun δ Q=>ta δ fun d δ1=>FA Q d δ1
theorem gm{op}(h:Ev X a t):Ev X (.BoolOp op [a] pos) t:=ID h
theorem eF(ha:Ev X a ta)(hb:Ev X (.BoolOp .And (b::rest) pos) tb):Ev X (.BoolOp .And (a::b::rest) pos) (NW ta tb):=PE.imp (IG ha hb) fun σ H Q Hh=>(by obtain⟨W,M,α,δ,Qd,E,q,k⟩:=Hh;exact(
 ⟨W,M,α,δ,_,E,q,fun d δ1 H1 x zq E1 c1 r1=>(by obtain⟨c,e,q1⟩:=zq;exact(⟨c,by subst e;exact r1.A9,by
  cases c with
  | true=>rw[if_pos rfl] at q1 ⊢;exact⟨W,M,α,δ1,_,E1,q1,fun d2 δ2 H2 y q2 E2 c2 r2=>k _ _ _ _ q2 E2 (c1.tr c2) r2⟩
  | false=>rw[if_neg YJ] at q1 ⊢;exact k _ _ _ _ q1 E1 c1 (.bl _)⟩))⟩))
theorem Cq(ha:Ev X a ta):Ev X (.UnaryOp .Not a pos) (NP ta):=PE.imp (IE ha) fun σ H Q pB=>(by obtain⟨W,M,α,δ,Qd,E,q,k⟩:=pB;exact(
 ⟨W,M,α,δ,_,E,q,fun d δ1 H1 x zm E1 c1 r1=>(by obtain⟨c,e,q1⟩:=zm;exact(⟨c,by subst e;exact r1.A9,k _ _ _ _ q1 E1 c1 (.bl _)⟩))⟩))
def WW(t:ny)(ta tb:bz):bz:=fun δ Q=>t δ fun c δ1=>if c=true then ta δ1 Q else tb δ1 Q
theorem ig(hc:Tv X c u)(ha:Ev X a ta)(hb:Ev X b tb):Ev X (.IfExp c a b pos) (WW u ta tb):=PE.imp (AL hc ha hb) fun σ H Q Hg=>(by obtain⟨W,M,α,δ,Qd,E,q,k⟩:=Hg;exact(
 ⟨W,M,α,δ,_,E,q,fun c δ1 H1 q1 E1 c1=>by
  cases c with
  | true=>rw[if_pos rfl] at q1 ⊢;exact⟨W,M,α,δ1,_,E1,q1,fun d2 δ2 H2 y q2 E2 c2 r2=>k _ _ _ _ q2 E2 (c1.tr c2) r2⟩
  | false=>rw[if_neg YJ] at q1 ⊢;exact⟨W,M,α,δ1,_,E1,q1,fun d2 δ2 H2 y q2 E2 c2 r2=>k _ _ _ _ q2 E2 (c1.tr c2) r2⟩⟩))
def J5:gn:=fun δ Q=>Q [] δ
def CF(ta:bz)(tr:gn):gn:=fun δ Q=>ta δ fun d δ1=>tr δ1 fun ds δ2=>Q (d::ds) δ2
theorem ai:Av X [] J5:=PA.imp aF fun σ H Q Hf=>(by obtain⟨W,M,α,δ,Qd,E,q,k⟩:=Hf;exact(k _ _ _ _ q E da.rf .nil))
theorem aa(ha:Ev X e ta)(hr:Av X es tr)(hs:starEach (e::es) X.env=(false,eval e X.env)::starEach es X.env:=by rfl):Av X (e::es) (CF ta tr):=PA.imp (ah ha hr hs) fun σ H Q He=>(by obtain⟨W,M,α,δ,Qd,E,q,k⟩:=He;exact(
 ⟨W,M,α,δ,_,E,q,fun d δ1 H1 x q1 E1 c1 r1=>⟨W,M,α,δ1,_,E1,q1,fun ds δ2 H2 xs q2 E2 c2 r2=>k _ _ _ _ q2 E2 (c1.tr c2) (.cons (r1.chg E1 c2) r2)⟩⟩))
def RV(t:gn):bz:=fun δ Q=>t δ fun ds δ'=>ds.length<=sizeLine/\Q (.tup ds) δ'
def NR(t:gn):zk:=fun δ Q=>t δ fun ds δ'=>ds.length<=sizeLine/\Q ds δ'
theorem bL{x1}{t:gn}(h:Av X es t):Ev X (.Tuple es x1 pos) (RV t):=PE.imp (AI h) fun σ H Q Hd=>(by obtain⟨W,M,α,δ,Qd,E,q,k⟩:=Hd;exact(
 ⟨W,M,α,δ,_,E,q,fun ds δ1 H1 xs PV E1 c1 r1=>(by obtain⟨l,q1⟩:=PV;exact(⟨by rw[r1.1];exact l,fun p hp=>by
  have s:aC H1 (upd H1 p (.tup xs)):=aC.new hp;exact k _ _ _ _ q1 (E1.same s) (c1.tr (da.of s)) (Rep.fZ af (E1.fresh hp) (r1.same s))⟩))⟩))
theorem rZ{t:gn}(h:Av X es t):Ov X (.List es pos) (NR t):=PE.imp (pZ h) fun σ H Q Hc=>(by obtain⟨W,M,α,δ,Qd,E,q,k⟩:=Hc;exact(
 ⟨W,M,α,δ,_,E,q,fun ds δ1 H1 xs PU E1 c1 r1=>(by obtain⟨l,q1⟩:=PU;exact(⟨by rw[r1.1];exact l,fun p hp=>k _ _ _ _ _ q1 E1 c1 r1 hp⟩))⟩))
theorem kB{t:gn}(h:Av X es t):Ev X (.List es pos) (dO (NR t)):=Ov.ev (rZ h)
abbrev DN:=List Dt->(Dt->Prop)->Prop
def Oy(r:List V->Hp->VK->Prop)(R:DN):Prop:= ∀(M:Addr->Prop) (H:Hp) (xs:List V) (ds:List Dt) (Qd:Dt->Prop) (Q:VK),jJ M H->aA M H xs ds->R ds Qd->(∀H' v d,Qd d->aC H H'->Rep M H' v d->Q v H')->r xs H Q
def wZ(R:DN)(t:gn):bz:=fun δ Q=>t δ fun ds δ'=>R ds fun d=>Q d δ'
theorem o5{r:List V->Hp->VK->Prop}{R:DN}{t:gn}(hd:Oy r R): ∀σ H Q,lE (wZ R t) σ H Q->Qg r (lA t) σ H Q:=fun σ H Q PR=>(by obtain⟨W,M,α,δ,Qd,E,q,k⟩:=PR;exact(
 ⟨W,M,α,δ,_,E,q,fun ds δ1 H1 xs q1 E1 c1 r1=>hd M H1 xs ds _ _ E1.al r1 q1 fun H' v d q3 s r3=>k _ _ _ _ q3 (E1.same s) (c1.tr (da.of s)) r3⟩))
theorem fV{id:String}{x:Str}{p:Pos}{r:List V->Hp->VK->Prop}{R:DN}{t:gn}(hc:dJ X (.builtin id) r)(hd:Oy r R)(hg:Gl X x)(hm:X.mg x=none)(hv:bootBuiltins x=some (.builtin id))(ha:Av X (e::es) t)(hn:x≠"__name__":=by decide)(lu:(x==("__debug__":Str))=false:=by decide)
  (he:starEach (e::es) X.env=(false,eval e X.env)::starEach es X.env:=by rfl) (cN:(backTo pos (starEach es X.env)).any (·.1)=false:=by rfl):Ev X (.Call (.Name x p) (e::es) [] pos) (wZ R t):=
 PE.imp (i9 hc hg hm hv ha hn lu he cN) (o5 hd)
theorem sW{T:String}{x:Str}{p:Pos}{r:List V->Hp->VK->Prop}{R:DN}{t:gn}(hc:dJ X (.type T) r)(hd:Oy r R)(hg:Gl X x)(hm:X.mg x=none)(hv:bootBuiltins x=some (.type T))(ha:Av X (e::es) t)(hn:x≠"__name__":=by decide)(lu:(x==("__debug__":Str))=false:=by decide)
  (he:starEach (e::es) X.env=(false,eval e X.env)::starEach es X.env:=by rfl) (cN:(backTo pos (starEach es X.env)).any (·.1)=false:=by rfl):Ev X (.Call (.Name x p) (e::es) [] pos) (wZ R t):=
 PE.imp (ic hc hg hm hv ha hn lu he cN) (o5 hd)
end
inductive Le(g:Int->Int->Dt)(d1:Dt)(d2:Dt)(Q:Dt->Prop):Prop
 | mk (i j:_) (h1:d1= .int i) (h2:d2= .int j) (h3:Q (g i j))
inductive Ow(C:Int->Int->Prop)(g:Int->Int->Dt)(d1:Dt)(d2:Dt)(Q:Dt->Prop):Prop
 | mk (i j:_) (h1:d1= .int i) (h2:d2= .int j) (h3:C i j) (h4:Q (g i j))
theorem Cc(h: ∀M H i j,Rep M H (g i j) (gd i j)):De (D5 g) (Le gd):=fun M H x y d1 d2 Qd Q al r1 r2 cj k=>(by obtain⟨i,j,e1,e2,q⟩:=cj;exact(by
 subst e1;subst e2;exact⟨i,j,r1.ofInt,r2.ofInt,k H _ _ q (fun _ _ z=>z) (h M H i j)⟩))
theorem Nx(h: ∀M H i j,Rep M H (g i j) (gd i j)):De (rI C g) (Ow C gd):=fun M H x y d1 d2 Qd Q al r1 r2 dM k=>(by obtain⟨i,j,e1,e2,c,q⟩:=dM;exact(by
 subst e1;subst e2;exact⟨i,j,r1.ofInt,r2.ofInt,c,k H _ _ q (fun _ _ z=>z) (h M H i j)⟩))
section
variable{X:Cx}{a b c e:Expr}{es rest:List Expr}{ta tb tc t:bz}{pos:Pos}
abbrev Sh(ta tb:bz):bz:=sX (Le fun i j=> .int (i+j)) ta tb
abbrev RX(ta tb:bz):bz:=sX (Le fun i j=> .int (i - j)) ta tb
theorem bW(ha:Ev X a ta)(hb:Ev X b tb):Ev X (.BinOp a .Add b pos) (Sh ta tb):=Fp mw (Cc fun _ _ _ _=> .int _) ha hb
theorem eZ(ha:Ev X a ta)(hb:Ev X b tb):Ev X (.BinOp a .Sub b pos) (RX ta tb):=Fp IH (Cc fun _ _ _ _=> .int _) ha hb
theorem Cr(ha:Ev X a ta)(hb:Ev X b tb):Ev X (.BinOp a .Mult b pos) (sX (Ow y8 fun i j=> .int (i*j)) ta tb):=Fp iI (Nx fun _ _ _ _=> .int _) ha hb
abbrev SQ:D2:=Le fun i j=> .bl (decide (i < j))
abbrev SR:D2:=Le fun i j=> .bl (decide (i<=j))
abbrev SS:D2:=Le fun i j=> .bl (decide (j < i))
theorem P5(ha:Ev X a ta)(hb:Ev X b tb):Tv X (.Compare a [.Lt] [b] pos) (dT (sX SQ ta tb)):=iN Mi (Cc fun _ _ _ _=> .bl _) ha hb (fO _)
theorem Lx(ha:Ev X a ta)(hb:Ev X b tb):Tv X (.Compare a [.LtE] [b] pos) (dT (sX SR ta tb)):=iN Mj (Cc fun _ _ _ _=> .bl _) ha hb (fO _)
theorem Ly(ha:Ev X a ta)(hb:Ev X b tb):Tv X (.Compare a [.Gt] [b] pos) (dT (sX SS ta tb)):=iN Mk (Cc fun _ _ _ _=> .bl _) ha hb (fO _)
noncomputable def eq2:Dt->Dt->Option Bool
 | .aI,.aI=>some true | .aI,.int _=>some false | .int _,.aI=>some false | .aI,.bl _=>some false | .bl _,.aI=>some false | .aI,.str _=>some false | .str _,.aI=>some false
 | .int i,.int j=>some (decide (i=j)) | .bl i,.bl j=>some (decide (i=j)) | .str i,.str j=>some (decide (i=j))
 | .int _,.str _=>some false | .str _,.int _=>some false | .bl _,.str _=>some false | .str _,.bl _=>some false
 | _,_=>none
inductive KC(d1:Dt)(d2:Dt)(Q:Dt->Prop):Prop
 | mk (b:_) (h1:eq2 d1 d2=some b) (h2:Q (.bl b))
inductive Ot(d1:Dt)(d2:Dt)(Q:Dt->Prop):Prop
 | mk (b:_) (h1:eq2 d1 d2=some b) (h2:Q (.bl (!b)))
noncomputable def JK:Dt->Option V
 | .aI=>some .aI | .bl b=>some (.bl b) | .int i=>some (.int i) | .str x=>some (.str x) | _=>none
theorem Rep.fl(r:Rep M H v d)(h:JK d=some u):v=u:=by
 cases r <;> cases h <;> rfl
theorem WT:decide (V.int i=V.int j)=decide (i=j):=by simp
theorem WU:decide (V.bl i=V.bl j)=decide (i=j):=by simp
theorem WS:decide (V.str i=V.str j)=decide (i=j):=by simp
inductive E2(d1 d2:Dt)(b:Bool):Prop
 | mk (u1 u2:V) (h1:JK d1=some u1) (h2:JK d2=some u2) (h3:DW u1 u2=true/\decide (u1=u2)=b)
def UA(d1 d2:Dt):Option Bool->Prop
 | none=>True
 | some b=>E2 d1 d2 b
theorem JQ:UA d1 d2 (eq2 d1 d2):=by
 cases d1 with
 | lst _=>trivial
 | tup _=>trivial
 | yG _ _=>trivial
 | jO _ _=>trivial
 | _=>cases d2 with
  | lst _=>trivial
  | tup _=>trivial
  | yG _ _=>trivial
  | jO _ _=>trivial
  | _=>first | trivial | exact⟨_,_,rfl,rfl,rfl,rfl⟩ | exact⟨_,_,rfl,rfl,rfl,WT⟩ | exact⟨_,_,rfl,rfl,rfl,WU⟩ | exact⟨_,_,rfl,rfl,rfl,WS⟩
theorem B5{b:Bool}(r1:Rep M H x d1)(r2:Rep M H y d2)(h:eq2 d1 d2=some b):DW x y=true/\decide (x=y)=b:=by
 have z:UA d1 d2 (some b):=h▸JQ;obtain⟨u1,u2,e1,e2,q⟩:=z;rw[r1.fl e1,r2.fl e2];exact q
theorem GS:De Tc KC:=fun M H x y d1 d2 Qd Q al r1 r2 iU k=>(by obtain⟨b,e,q⟩:=iU;exact(by
 obtain⟨h1,h2⟩:=B5 r1 r2 e;exact⟨h1,by rw[h2];exact k H _ _ q (fun _ _ z=>z) (.bl b)⟩))
theorem Nv:De Ta Ot:=fun M H x y d1 d2 Qd Q al r1 r2 jP k=>(by obtain⟨b,e,q⟩:=jP;exact(by
 obtain⟨h1,h2⟩:=B5 r1 r2 e;exact⟨h1,by rw[h2];exact k H _ _ q (fun _ _ z=>z) (.bl _)⟩))
theorem j7(ha:Ev X a ta)(hb:Ev X b tb):Ev X (.Compare a [.Eq] [b] pos) (sX KC ta tb):=Nz Gr GS ha hb (fO _)
theorem Lz(ha:Ev X a ta)(hb:Ev X b tb):Tv X (.Compare a [.Eq] [b] pos) (dT (sX KC ta tb)):=iN Gr GS ha hb (fO _)
theorem tW(ha:Ev X a ta)(hb:Ev X b tb):Tv X (.Compare a [.NotEq] [b] pos) (dT (sX Ot ta tb)):=iN Mh Nv ha hb (fO _)
inductive Oo(g:Int->Dt)(Q:Dt->List Sl->Prop)(d:Dt)(δ':List Sl):Prop
 | mk (i:_) (h1:d= .int i) (h2:Q (g i) δ')
def Xo(g:Int->Dt)(ta:bz):bz:=fun δ Q=>ta δ fun d δ'=>Oo g Q d δ'
theorem wW(ha:Ev X a ta):Ev X (.UnaryOp .USub a pos) (Xo (fun i=> .int (-i)) ta):=PE.imp (Me Hw ha) fun σ H Q lJ=>(by obtain⟨W,M,α,δ,Qd,E,q,k⟩:=lJ;exact(
 ⟨W,M,α,δ,_,E,q,fun d δ1 H1 x kH E1 c1 r1=>(by obtain⟨i,e,q1⟩:=kH;exact(⟨i,by subst e;exact r1.ofInt,k _ _ _ _ q1 E1 c1 (.int _)⟩))⟩))
theorem qJ(r:aA M H xs ds)(h:kO ds i=some d): ∃x,kO xs i=some x/\Rep M H x d:=by
 unfold kO at h ⊢;rw[r.1];cases hn:wq ds.length i with
 | none=>rw[hn] at h;cases h
 | some j=>rw[hn] at h;exact r.get h
inductive Ou(d1:Dt)(d2:Dt)(Q:Dt->Prop):Prop
 | mk (ds i d:_) (h1:(d1= .lst ds\/d1= .tup ds)) (h2:d2= .int i) (h3:kO ds i=some d) (h4:Q d)
theorem Nw{K:PySem.W.Frag}:De (Tb K) Ou:=fun M H x y d1 d2 Qd Q al r1 r2 nA k=>(by obtain⟨ds,i,d,e1,e2,h,q⟩:=nA;exact(by
 subst e2;rcases e1 with e1 | e1
 . subst e1;obtain⟨a,xs,rfl,ha,n,rr⟩:=r1.dF;obtain⟨v,hv,rv⟩:=qJ rr h;exact .inl ⟨a,xs,i,v,rfl,r2.ofInt,cY.of ha,hv,k H _ _ q (fun _ _ z=>z) rv⟩
 . subst e1;obtain⟨a,xs,rfl,ha,n,rr⟩:=r1.bE;obtain⟨v,hv,rv⟩:=qJ rr h;exact .inr (.inl ⟨a,xs,i,v,rfl,r2.ofInt,dE.of ha,hv,k H _ _ q (fun _ _ z=>z) rv⟩)))
theorem eQ(ha:Ev X a ta)(hb:Ev X b tb)(hs:qP b:=by exact fun _ _=>rfl):Ev X (.Subscript a b pos) (sX Ou ta tb):=PE.imp (AK Jk ha hb hs) (k9 Nw)
noncomputable def cutD(ds:List Dt)(lo hi:Option Int):List Dt:=(ds.drop (HT.cV ds.length 0 lo)).take (HT.cV ds.length ds.length hi - HT.cV ds.length 0 lo)
theorem aA.cut(r:aA M H xs ds)(lo hi:Option Int):aA M H (mX xs lo hi) (cutD ds lo hi):=by
 unfold mX cutD;rw[r.1];exact(r.drop _).take _
abbrev KD:=List Sl->(Option Int->List Sl->Prop)->Prop
inductive lP(t:KD)(σ:L2.St)(H:Hp)(Q:Option Int->Hp->Prop):Prop
 | mk (W:List Wd) (M:Addr->Prop) (α:List (List Addr)) (δ:List Sl) (Qd:Option Int->List Sl->Prop) (h1:aB W M α H σ δ) (h2:t δ Qd) (h3: ∀o δ' H',Qd o δ'->aB W M α H' σ δ'->da α H H'->Q o H')
def R3:KD:=fun δ Q=>Q none δ
inductive Fy(Q:Option Int->List Sl->Prop)(d:Dt)(δ':List Sl):Prop
 | mk (i:_) (h1:d= .int i) (h2:Q (some i) δ')
def NN(t:bz):KD:=fun δ Q=>t δ fun d δ'=>Fy Q d δ'
abbrev Pv(X:Cx)(o:Option Expr)(t:KD):Prop:=PO X o (lP t)
theorem PO.imp{X:Cx}{e:Option Expr}{t t':L2.TO}(h:PO X e t)(i: ∀σ H Q,t' σ H Q->t σ H Q):PO X e t':=fun pins s σ H Q I q=>h pins s σ H Q I (i _ _ _ q)
theorem iH:Pv X none R3:=PO.imp vW fun σ H Q pA=>(by obtain⟨W,M,α,δ,Qd,E,q,k⟩:=pA;exact(k _ _ _ q E da.rf))
theorem ck(h:Ev X e t):Pv X (some e) (NN t):=PO.imp (vV h) fun σ H Q nz=>(by obtain⟨W,M,α,δ,Qd,E,q,k⟩:=nz;exact(
 ⟨W,M,α,δ,_,E,q,fun d δ1 H1 x gx E1 c1 r1=>(by obtain⟨i,e,q1⟩:=gx;exact(⟨i,by subst e;exact r1.ofInt,k _ _ _ q1 E1 c1⟩))⟩))
inductive J3(Q:Dt->List Sl->Prop)(d:Dt)(lo:Option Int)(hi:Option Int)(δ3:List Sl):Prop
 | mk (ds:_) (h1:d= .tup ds) (h2:Q (.tup (cutD ds lo hi)) δ3)
def RY(ta:bz)(tl th:KD):bz:=fun δ Q=>ta δ fun d δ1=>tl δ1 fun lo δ2=>th δ2 fun hi δ3=>J3 Q d lo hi δ3
theorem iz{lo hi:Option Expr}(ha:Ev X a ta)(hl:Pv X lo tl)(hh:Pv X hi th):Ev X (.Subscript a (.Slice lo hi none p2) pos) (RY ta tl th):=PE.imp (rW DT ha hl hh) fun σ H Q cj=>(by obtain⟨W,M,α,δ,Qd,E,q,k⟩:=cj;exact(
 ⟨W,M,α,δ,_,E,q,fun d δ1 H1 x q1 E1 c1 r1=>⟨W,M,α,δ1,_,E1,q1,fun o2 δ2 H2 q2 E2 c2=>⟨W,M,α,δ2,_,E2,q2,fun o3 δ3 H3 dM E3 c3=>(by obtain⟨ds,e,q3⟩:=dM;exact(by
  subst e;obtain⟨a,xs,rfl,ha,n,rr⟩:=((r1.chg E1 c2).chg E2 c3).bE;refine⟨a,xs,rfl,ha,fun p H' nt=>?_⟩;have s:aC H3 H':=nt.keep;exact k _ _ _ _ q3 (E3.same s) (((c1.tr c2).tr c3).tr (da.of s)) (Rep.fZ nt.at (E3.al.Mu nt) ((rr.cut _ _).same s))))⟩⟩⟩))
inductive C8(d1:Dt)(d2:Dt)(Q:Dt->Prop):Prop
 | mk (ds es:_) (h1:d1= .tup ds) (h2:d2= .tup es) (h3:ds.length+es.length<=sizeLine) (h4:Q (.tup (ds++es)))
theorem Fm:De Gn C8:=fun M H x y d1 d2 Qd Q al r1 r2 tP k=>(by obtain⟨ds,es,e1,e2,l,q⟩:=tP;exact(by
 subst e1;subst e2;obtain⟨a,xs,rfl,ha,n,rr⟩:=r1.bE;obtain⟨b,ys,rfl,hb,n2,oB⟩:=r2.bE;exact⟨a,b,xs,ys,rfl,rfl,ha,hb,by rw[rr.1,oB.1];exact l,fun p H' nt=>k H' _ _ q nt.keep (Rep.fZ nt.at (al.Mu nt) ((rr.append oB).same nt.keep))⟩))
theorem j8(ha:Ev X a ta)(hb:Ev X b tb):Ev X (.BinOp a .Add b pos) (sX C8 ta tb):=Fp Ep Fm ha hb
noncomputable def eE:Dt->Bool
 | .lst _=>false
 | .tup _=>false
 | .yG _ _=>false
 | .jO _ _=>false
 | _=>true
noncomputable def JP:Dt->Dt->Bool
 | .aI,.aI=>true
 | .bl a,.bl b=>a==b
 | .bl a,.int b=>(if a then 1 else 0)==b
 | .int a,.bl b=>a==(if b then 1 else 0)
 | .int a,.int b=>a==b
 | .str a,.str b=>a==b
 | _,_=>false
noncomputable def inD(d:Dt)(ds:List Dt):Bool:=ds.any fun e=>JP e d
theorem jq(r:Rep M H v d)(h:eE d=true):eD v=true:=by cases r <;> first | rfl | cases h
def Xm(d e:Dt):Option V->Option V->Prop
 | some u,some v=>ze u v=JP d e
 | _,_=>False
theorem JN{d e:Dt}(h:eE d=true)(h2:eE e=true):Xm d e (JK d) (JK e):=by
 cases d with
 | lst _=>cases h
 | tup _=>cases h
 | yG _ _=>cases h
 | jO _ _=>cases h
 | _=>cases e with
  | lst _=>cases h2
  | tup _=>cases h2
  | yG _ _=>cases h2
  | jO _ _=>cases h2
  | _=>exact(rfl:_=_)
theorem wM{M:Addr->Prop}{H:Hp}{v w:V}{d e:Dt}(r:Rep M H v d)(r2:Rep M H w e)(h:eE d=true)(h2:eE e=true):ze v w=JP d e:=by
 have z:=JN h h2;cases e1:JK d with
 | none=>rw[e1] at z;exact z.elim
 | some u=>
  cases e2:JK e with
  | none=>rw[e1,e2] at z;exact z.elim
  | some u2=>
   rw[e1,e2] at z;rw[r.fl e1,r2.fl e2];exact z
theorem yB(r:aA M H xs ds)(h:ds.all eE=true):xs.all eD=true:=ab4.mpr fun x hx=>by
 obtain⟨i,hi,e⟩:=ZW hx;have h1:xs[i]?=some x:=by rw[Ys hi,e]
 have h2:ds[i]?=some (ds[i]'(by rw[<-r.1];exact hi)):=Ys _;exact jq (r.2 i _ _ h1 h2) (ab4.mp h _ (Zd h2))
theorem wu(r:Rep M H v d)(hd:eE d=true): ∀{xs:List V} {ds:List Dt},aA M H xs ds->ds.all eE=true->nI v xs=inD d ds
 | [],[],_,_=>rfl
 | [],_::_,h,_=>by have:=h.1;simp at this
 | _::_,[],h,_=>by have:=h.1;simp at this
 | x::xs,e::ds,h,hf=>by
  obtain⟨y,ys,e1,e2,e3⟩:=h.aQ;cases e1;rw[aj7,ae7] at hf;have ih:=wu r hd e3 hf.2;unfold nI inD at ih ⊢;rw[ad9,ad9,ih,wM e2 r hf.1 hd]
inductive KA(neg:Bool)(d1:Dt)(d2:Dt)(Q:Dt->Prop):Prop
 | mk (ds:_) (h1:(d2= .lst ds\/d2= .tup ds)) (h2:eE d1=true) (h3:ds.all eE=true) (h4:Q (.bl (if neg then !inD d1 ds else inD d1 ds)))
theorem GR{K:PySem.W.Frag}{neg:Bool}:De (Qq K neg) (KA neg):=fun M H x y d1 d2 Qd Q al r1 r2 zo k=>(by obtain⟨ds,e2,f1,f2,q⟩:=zo;exact(by
 have fin: ∀xs,aA M H xs ds->eD x=true/\xs.all eD=true/\Q (.bl (if neg then !nI x xs else nI x xs)) H:=fun xs rr=>⟨jq r1 f1,yB rr f2,by rw[wu r1 f1 rr f2];exact k H _ _ q (fun _ _ z=>z) (.bl _)⟩
 rcases e2 with e2 | e2
 . subst e2;obtain⟨a,xs,rfl,ha,n,rr⟩:=r2.dF;exact⟨a,xs,rfl,.inl (cY.of ha),fin xs rr⟩
 . subst e2;obtain⟨a,xs,rfl,ha,n,rr⟩:=r2.bE;exact⟨a,xs,rfl,.inr (dE.of ha),fin xs rr⟩))
theorem P6(ha:Ev X a ta)(hb:Ev X b tb)(hm:behindInMarks .In b=false:=by rfl):Tv X (.Compare a [.In] [b] pos) (dT (sX (KA false) ta tb)):=iN xV GR ha hb hm
theorem DP(ha:Ev X a ta)(hb:Ev X b tb)(hm:behindInMarks .NotIn b=false:=by rfl):Tv X (.Compare a [.NotIn] [b] pos) (dT (sX (KA true) ta tb)):=iN p4 GR ha hb hm
inductive G9(ds:List Dt)(Q:Dt->Prop):Prop
 | mk (es:_) (h1:(ds= [.lst es]\/ds= [.tup es])) (h2:Q (.int es.length))
theorem JU{K:PySem.W.Frag}:Oy (fun xs H Q=> ∃p ys,xs= [.ref p]/\(cY K H p ys\/dE K H p ys)/\Q (.int ys.length) H) G9:=fun M H xs ds Qd Q al r pB k=>(by obtain⟨es,e,q⟩:=pB;exact(by
 rcases e with e | e <;> subst e <;> obtain⟨x,ys,rfl,r1,r2⟩:=r.aQ <;> cases r2.eV
 . obtain⟨a,zs,rfl,ha,n,rr⟩:=r1.dF;exact⟨a,zs,rfl,.inl (cY.of ha),by rw[rr.1];exact k H _ _ q (fun _ _ z=>z) (.int _)⟩
 . obtain⟨a,zs,rfl,ha,n,rr⟩:=r1.bE;exact⟨a,zs,rfl,.inr (dE.of ha),by rw[rr.1];exact k H _ _ q (fun _ _ z=>z) (.int _)⟩))
theorem fb(hm:X.mg "len"=none)(ha:Av X [e] tA)(hg:Gl X "len":=by rfl)(he:starEach [e] X.env=(false,eval e X.env)::starEach [] X.env:=by rfl)(cN:(backTo pos (starEach [] X.env)).any (·.1)=false:=by rfl):
  Ev X (.Call (.Name "len" p) [e] [] pos) (wZ G9 tA):=fV jF JU hg hm PySem.boot_len ha (by decide) (by decide) he cN
inductive xr(ds:List Dt)(Q:Dt->Prop):Prop
 | mk (es:_) (h1:(ds= [.lst es]\/ds= [.tup es])) (h2:Q (.tup es))
theorem Cn{K:PySem.W.Frag}:Oy (fun xs H Q=> ∃p ys,xs= [.ref p]/\((cY K H p ys/\ ∀l,H l=none->Q (.ref l) (upd H l (.tup ys)))\/(dE K H p ys/\Q (.ref p) H))) xr:=fun M H xs ds Qd Q al r nA k=>(by obtain⟨es,e,q⟩:=nA;exact(by
 rcases e with e | e <;> subst e <;> obtain⟨x,ys,rfl,r1,r2⟩:=r.aQ <;> cases r2.eV
 . obtain⟨a,zs,rfl,ha,n,rr⟩:=r1.dF;refine⟨a,zs,rfl,.inl ⟨cY.of ha,fun l hl=>?_⟩⟩;have s:aC H (upd H l (.tup zs)):=aC.new hl;exact k _ _ _ q s (Rep.fZ af (al.fresh hl) (rr.same s))
 . obtain⟨a,zs,rfl,ha,n,rr⟩:=r1.bE;exact⟨a,zs,rfl,.inr ⟨dE.of ha,k H _ _ q (fun _ _ z=>z) r1⟩⟩))
theorem jz(hm:X.mg "tuple"=none)(ha:Av X [e] tA)(hg:Gl X "tuple":=by rfl)(he:starEach [e] X.env=(false,eval e X.env)::starEach [] X.env:=by rfl)(cN:(backTo pos (starEach [] X.env)).any (·.1)=false:=by rfl):
  Ev X (.Call (.Name "tuple" p) [e] [] pos) (wZ xr tA):=sW iB Cn hg hm a8 ha (by decide) (by decide) he cN
end
theorem br{α:List (List Addr)}(h:x∈(α.set i as).flatten):x∈α.flatten\/x∈as:=by
 obtain⟨l,hl,hx⟩:=ah0.mp h;rcases List.mem_or_eq_of_mem_set hl with y | y
 . exact .inl (ah0.mpr ⟨l,y,hx⟩)
 . exact .inr (y▸hx)
theorem aL{α:List (List Addr)}{i:Nat}(h:α[i]?=some as)(hx:x∈as):x∈α.flatten:=ah0.mpr ⟨as,Zd h,hx⟩
theorem bV: ∀{α:List (List Addr)} {i:Nat} {as:List Addr},α.flatten.Nodup->as.Nodup->(∀x∈as,x∉α.flatten)->(α.set i as).flatten.Nodup
 | [],_,_,_,_,_=>by simp
 | l::r,0,as,h,ha,hx=>by
  rw[List.set_cons_zero,Z6];rw[Z6] at h;refine aa5.mpr ⟨ha,(aa5.mp h).2.1,fun x h1 y h2 e=>?_⟩;subst e;exact hx x h1 (by rw[Z6];exact YR _ h2)
 | l::r,i+1,as,h,ha,hx=>by
  rw[List.set_cons_succ,Z6];rw[Z6] at h;obtain⟨h1,h2,h3⟩:=aa5.mp h;refine aa5.mpr ⟨h1,bV h2 ha fun x z y=>hx x z (by rw[Z6];exact YR _ y),fun x z y w e=>?_⟩;subst e;rcases br w with q | q
  . exact h3 x z x q rfl
  . exact hx x q (by rw[Z6];exact Z3 _ z)
theorem fS: ∀{α:List (List Addr)} {i j:Nat} {as bs:List Addr} {x:Addr},α.flatten.Nodup->α[i]?=some as->α[j]?=some bs->i≠j->x∈as->x∉bs
 | [],i,j,as,bs,x,_,h1,_,_,_=>by simp at h1
 | l::r,i,j,as,bs,x,h,h1,h2,bN,hx=>by
  rw[Z6] at h;obtain⟨n1,n2,n3⟩:=aa5.mp h;cases i with
  | zero=>
   cases j with
   | zero=>exact absurd rfl bN
   | succ j=>
    simp at h1 h2;subst h1;exact fun y=>n3 x hx x (aL h2 y) rfl
  | succ i=>
   cases j with
   | zero=>
    simp at h1 h2;subst h2;exact fun y=>n3 x y x (aL h1 hx) rfl
   | succ j=>exact fS n2 (by simpa using h1) (by simpa using h2) (by lia) hx
section
variable{Ws:List Wd}{M:Addr->Prop}{α:List (List Addr)}{H H':Hp}{σ:L2.St}{δ:List Sl}{i:Nat}{v:V}{d:Dt}{s:Sl}
def cE(δ:List Sl)(i:Nat):Prop:= ∃s,δ[i]?=some s/\s.dz=false
theorem cE.lt(h:cE δ i):i < δ.length:=let ⟨s,e,_⟩:=h;(YB.mp e).1
theorem aB.iY(E:aB Ws M α H σ δ)(r:Rep M H v d)(ok:cE δ i):aB Ws M (α.set i []) H (σ.set i (some v)) (δ.set i (.im d)):=by
 have hi:=ok.lt;obtain⟨s0,Jp,nb⟩:=ok;refine⟨by rw[Y7,Y7,E.ls],by rw[Y7,Y7,E.la],fun j s hj=>?_,bV E.nd ab5 (fun x hx=>absurd hx Yy),fun a ha=>(br ha).elim (E.mu a) fun z=>absurd z Yy,E.al,fun W hW=>?_⟩
 . by_cases bN:i=j
   . subst bN;rw[YO hi] at hj;cases hj;exact⟨some v,[],by rw[YO (by rw[E.ls];exact hi)],by rw[YO (by rw[E.la];exact hi)],rfl,v,rfl,r⟩
   . rw[YF bN] at hj;obtain⟨o,as,h1,h2,h3⟩:=E.sl j s hj;exact⟨o,as,by rw[YF bN];exact h1,by rw[YF bN];exact h2,h3⟩
 . have k:=E.w W hW;refine⟨k.bs,k.ex,fun a ha=>(br ha).elim (k.fr a) fun z=>absurd z Yy,k.m0,k.m1,fun d c e=>?_,fun j s as h1 h2 nb'=>?_⟩
   . obtain⟨t,e1,e2⟩:=k.bx d c e;have:i≠0:=fun z=>by subst z;rw[Jp] at e1;cases e1;cases nb
     exact⟨t,by rw[YF this];exact e1,by rw[YF this];exact e2⟩
   . by_cases bN:i=j
     . subst bN;rw[YO (by rw[E.la];exact hi)] at h2;cases h2;exact fun a ha=>absurd ha Yy
     . rw[YF bN] at h1 h2;exact k.fz j s as h1 h2 nb'
theorem aA.grow(r:aA M H xs ds)(hp:H p=none):aA (fun b=>M b\/b=p) (upd H p o) xs ds:=r.mono fun a u e n=>⟨by rw[ag (aj e hp)];exact e,fun z=>z.elim n (aj e hp)⟩
theorem Rep.grow(r:Rep M H x d)(hp:H p=none):Rep (fun b=>M b\/b=p) (upd H p o) x d:=r.mono fun a u e n=>⟨by rw[ag (aj e hp)];exact e,fun z=>z.elim n (aj e hp)⟩
theorem qO.grow(h:qO M H o s as)(hp:H p=none):qO (fun b=>M b\/b=p) (upd H p u) o s as:=by
 have sm:aC H (upd H p u):=aC.new hp;cases s with
 | no=>exact h
 | im d=>exact⟨h.1,let ⟨v,e,r⟩:=h.2;⟨v,e,r.grow hp⟩⟩
 | ow ds=>obtain⟨a,xs,e1,e2,e3,r⟩:=h;exact⟨a,xs,e1,e2,sm _ _ e3,r.grow hp⟩
 | bx t=>obtain⟨d,c,e1,e2,r⟩:=h;exact⟨d,c,e1,e2,r.same sm⟩
 | dk ks ds=>obtain⟨a,vs,e1,e2,e3,e4,r⟩:=h;exact⟨a,vs,e1,e2,sm _ _ e3,e4,r.grow hp⟩
 | ob R=>obtain⟨v,e,r⟩:=h;exact⟨v,e,R.st r (fun a _ o q=>sm _ _ q) fun a u q n=>⟨sm _ _ q,fun z=>z.elim n (aj q hp)⟩⟩
 | fn f=>exact h
theorem aB.lZ(E:aB Ws M α H σ δ)(hp:H p=none)(hu: ∀xs,u≠ .tup xs)(ok:cE δ i)(nb:s.dz=false)(hs:qO (fun b=>M b\/b=p) (upd H p u) (some (.ref p)) s [p]):
  aB Ws (fun b=>M b\/b=p) (α.set i [p]) (upd H p u) (σ.set i (some (.ref p))) (δ.set i s):=by
 have hi:=ok.lt;have sm:aC H (upd H p u):=aC.new hp;have np:p∉α.flatten:=fun z=>E.fresh hp (E.mu p z);obtain⟨s0,Jp,Vx⟩:=ok;refine⟨by rw[Y7,Y7,E.ls],by rw[Y7,Y7,E.la],fun j s' hj=>?_,bV E.nd (by simp) (fun x hx=>by rw[YX.mp hx];exact np),fun a ha=>(br ha).elim (fun z=> .inl (E.mu a z)) fun z=> .inr (YX.mp z),fun a ha=>?_,fun W hW=>?_⟩
 . by_cases bN:i=j
   . subst bN;rw[YO hi] at hj;cases hj;exact⟨_,_,by rw[YO (by rw[E.ls];exact hi)],by rw[YO (by rw[E.la];exact hi)],hs⟩
   . rw[YF bN] at hj;obtain⟨o,as,h1,h2,h3⟩:=E.sl j s' hj;exact⟨o,as,by rw[YF bN];exact h1,by rw[YF bN];exact h2,h3.grow hp⟩
 . rcases ha with ha | ha
   . obtain⟨o,e,n⟩:=E.al a ha;exact⟨o,sm _ _ e,n⟩
   . subst ha;exact⟨u,af,hu⟩
 . have k:=E.w W hW;have Wy:W.A0 p\/W.H0 p=none:=by
    by_cases z:W.A0 p
    . exact .inl z
    . right;cases e:W.H0 p with
      | none=>rfl
      | some o=>have:=k.bs p o e z;rw[hp] at this;cases this
   refine⟨fun b o e n=>sm _ _ (k.bs b o e n),fun b n y=>k.ex b n (LW.aC.none sm y),fun a ha=>(br ha).elim (k.fr a) fun z=>by rw[YX.mp z];exact Wy,fun a h=> .inl (k.m0 a h),fun a h=>?_,fun d c e=>?_,fun j s' as h1 h2 nb'=>?_⟩
   . rcases h with h | h
     . exact k.m1 a h
     . subst h;by_cases z:W.H0 a=none
       . exact .inr z
       . exact absurd hp (k.ex a z)
   . obtain⟨t,e1,e2⟩:=k.bx d c e;have:i≠0:=fun z=>by subst z;rw[Jp] at e1;cases e1;cases Vx
     exact⟨t,by rw[YF this];exact e1,by rw[YF this];exact e2⟩
   . by_cases bN:i=j
     . subst bN;rw[YO (by rw[E.la];exact hi)] at h2;cases h2;exact fun a ha z=>by rw[YX.mp ha] at z;exact E.fresh hp (k.m0 _ z)
     . rw[YF bN] at h1 h2;exact k.fz j s' as h1 h2 nb'
theorem aB.mod(E:aB Ws M α H σ δ){s s':Sl}(hi:δ[i]?=some s)(ho:σ[i]?=some o)(ha:α[i]?=some as)(hb:s'.dz=s.dz)(hs:qO M H' o s' as)(keep: ∀b u,H b=some u->b∉as->H' b=some u)(ex: ∀a∈as,∃u,H' a=some u/\ ∀xs,u≠ .tup xs):aB Ws M α H' σ (δ.set i s')/\da α H H':=by
 have df:=(YB.mp hi).1;have Su: ∀a∈as,M a:=fun a h=>E.mu a (aL ha h);have rep: ∀{v:V} {d:Dt},Rep M H v d->Rep M H' v d:=fun r=>r.mono fun a u e n=>⟨keep a u e fun z=>n (Su a z),n⟩
 have Ak: ∀{v:List V} {d:List Dt},aA M H v d->aA M H' v d:=fun r=>r.mono fun a u e n=>⟨keep a u e fun z=>n (Su a z),n⟩
 refine⟨⟨by rw[Y7,E.ls],by rw[Y7,E.la],fun j s2 hj=>?_,E.nd,E.mu,fun a h=>?_,fun W hW=>?_⟩,fun b u e n=>keep b u e fun z=>n (aL ha z)⟩
 . by_cases bN:i=j
   . subst bN;rw[YO df] at hj;cases hj;exact⟨o,as,ho,ha,hs⟩
   . rw[YF bN] at hj;obtain⟨o2,xj,h1,h2,h3⟩:=E.sl j s2 hj;have ap: ∀x∈xj,x∉as:=fun x hx=>fS E.nd h2 ha (Ne.symm bN) hx;refine⟨o2,xj,h1,h2,?_⟩;cases s2 with
     | no=>exact h3
     | im d=>exact⟨h3.1,let ⟨v,e,r⟩:=h3.2;⟨v,e,rep r⟩⟩
     | ow ds=>obtain⟨a,xs,e1,e2,e3,r⟩:=h3;subst e1;exact⟨a,xs,rfl,e2,keep _ _ e3 (ap a (by simp)),Ak r⟩
     | bx t=>
      obtain⟨d,c,e1,e2,r⟩:=h3;subst e1;refine⟨d,c,rfl,e2,keep _ _ r.dc (ap d (by simp)),?_,r.t0,r.t1⟩;obtain⟨ns,h,q⟩:=r.cs;exact⟨ns,keep _ _ h (ap c (by simp)),q⟩
     | dk ks ds=>obtain⟨a,vs,e1,e2,e3,e4,r⟩:=h3;subst e1;exact⟨a,vs,rfl,e2,keep _ _ e3 (ap a (by simp)),e4,Ak r⟩
     | ob R=>obtain⟨v,e,r⟩:=h3;exact⟨v,e,R.st r (fun a ha u q=>keep _ _ q (ap a ha)) fun a u q n=>⟨keep a u q fun z=>n (Su a z),n⟩⟩
     | fn f=>exact h3
 . by_cases z:a∈as
   . exact ex a z
   . obtain⟨u,e,n⟩:=E.al a h;exact⟨u,keep _ _ e z,n⟩
 . have k:=E.w W hW;have VF: ∀a∈as,W.A0 a\/W.H0 a=none:=fun a z=>k.fr a (aL ha z);refine⟨fun b u e n=>keep _ _ (k.bs b u e n) fun z=>?_,fun b n y=>?_,k.fr,k.m0,k.m1,fun d c e=>?_,fun j s2 xj h1 h2 nb=>?_⟩
   . rcases VF b z with q | q
     . exact n q
     . rw[q] at e;cases e
   . by_cases z:b∈as
     . obtain⟨u,e,_⟩:=ex b z;rw[e] at y;cases y
     . cases e:H b with
       | none=>exact k.ex b n e
       | some u=>rw[keep _ _ e z] at y;cases y
   . obtain⟨t,e1,e2⟩:=k.bx d c e;by_cases bN:i=0
     . subst bN;rw[hi] at e1;cases e1;cases s' with
       | bx t'=>exact⟨t',by rw[YO df],e2⟩
       | _=>cases hb
     . exact⟨t,by rw[YF bN];exact e1,e2⟩
   . by_cases bN:i=j
     . subst bN;rw[YO df] at h1;cases h1;exact k.fz i s xj hi h2 (by rw[<-hb];exact nb)
     . rw[YF bN] at h1;exact k.fz j s2 xj h1 h2 nb
theorem aB.BO(E:aB Ws M α H σ δ)(hi:δ[i]?=some (.ow ds))(ha:α[i]?=some [a]):aB Ws (fun b=>M b/\b≠a) (α.set i []) H σ (δ.set i (.im (.lst ds))):=by
 have df:=(YB.mp hi).1;obtain⟨a',xs,h1,h2,h3,r⟩:=E.ow hi;rw[ha] at h2;cases h2;have mono: ∀{v:V} {d:Dt},Rep M H v d->Rep (fun b=>M b/\b≠a) H v d:=fun r=>r.mono fun b u e n=>⟨e,fun z=>n z.1⟩
 have mB: ∀{v:List V} {d:List Dt},aA M H v d->aA (fun b=>M b/\b≠a) H v d:=fun r=>r.mono fun b u e n=>⟨e,fun z=>n z.1⟩
 refine⟨by rw[Y7,E.ls],by rw[Y7,Y7,E.la],fun j s hj=>?_,bV E.nd ab5 (fun x hx=>absurd hx Yy),fun b hb=>?_,fun b hb=>E.al b hb.1,fun W hW=>?_⟩
 . by_cases bN:i=j
   . subst bN;rw[YO df] at hj;cases hj;exact⟨some (.ref a),[],h1,by rw[YO (by rw[E.la];exact df)],rfl,_,rfl,Rep.vz h3 (fun z=>z.2 rfl) (mB r)⟩
   . rw[YF bN] at hj;obtain⟨o2,xj,g1,g2,g3⟩:=E.sl j s hj;refine⟨o2,xj,g1,by rw[YF bN];exact g2,?_⟩;cases s with
     | no=>exact g3
     | im d=>exact⟨g3.1,let ⟨v,e,r⟩:=g3.2;⟨v,e,mono r⟩⟩
     | ow ds=>obtain⟨b,xs,e1,e2,e3,r⟩:=g3;exact⟨b,xs,e1,e2,e3,mB r⟩
     | bx t=>exact g3
     | dk ks ds=>obtain⟨b,vs,e1,e2,e3,e4,r⟩:=g3;exact⟨b,vs,e1,e2,e3,e4,mB r⟩
     | ob R=>obtain⟨v,e,r⟩:=g3;exact⟨v,e,R.st r (fun _ _ _ q=>q) fun b u q n=>⟨q,fun z=>n z.1⟩⟩
     | fn f=>exact g3
 . obtain⟨l,hl,hx⟩:=ah0.mp hb;obtain⟨j,hj,e⟩:=ZW hl;have ej:(α.set i [])[j]?=some l:=by rw[Ys hj,e]
   by_cases bN:i=j
   . subst bN;rw[YO (by rw[E.la];exact df)] at ej;cases ej;exact absurd hx Yy
   . rw[YF bN] at ej;refine⟨E.mu b (aL ej hx),fun z=>?_⟩;subst z;exact fS E.nd ej ha (Ne.symm bN) hx (by simp)
 . have k:=E.w W hW;refine⟨k.bs,k.ex,fun b hb=>(br hb).elim (k.fr b) fun z=>absurd z Yy,fun b z=>⟨k.m0 b z,fun y=>?_⟩,fun b z=>k.m1 b z.1,fun d c e=>?_,fun j s as g1 g2 nb=>?_⟩
   . subst y;exact k.fz i _ _ hi ha rfl b (by simp) z
   . obtain⟨t,e1,e2⟩:=k.bx d c e;have:i≠0:=fun z=>by subst z;rw[hi] at e1;cases e1
     exact⟨t,by rw[YF this];exact e1,by rw[YF this];exact e2⟩
   . by_cases bN:i=j
     . subst bN;rw[YO (by rw[E.la];exact df)] at g2;cases g2;exact fun b hb=>absurd hb Yy
     . rw[YF bN] at g1 g2;exact k.fz j s as g1 g2 nb
theorem aB.lB(E:aB Ws M α H σ δ){ds:List Dt}(hi:δ[i]?=some (.ow ds)): ∃M' α',aB Ws M' α' H σ (δ.set i (.im (.lst ds)))/\ ∀a,M' a->M a:=by
 obtain⟨a,xs,h1,h2,h3,r⟩:=E.ow hi;exact⟨_,_,E.BO hi h2,fun b z=>z.1⟩
theorem aB.drop(E:aB (W::Ws) M α H σ δ):aB Ws M α H σ δ:=⟨E.ls,E.la,E.sl,E.nd,E.mu,E.al,fun W' h=>E.w W' (YQ _ h)⟩
theorem aB.loop(E:aB Ws M α H σ δ):aB (⟨H,M,fun _=>False,M,none⟩::Ws) M α H σ δ:=⟨E.ls,E.la,E.sl,E.nd,E.mu,E.al,fun W h=>by
 rcases YU.mp h with e | e
 . subst e;exact⟨fun b o e _=>e,fun b n=>n,fun a h=> .inl (E.mu a h),fun a h=>h.elim,fun a h=> .inl h,fun d c e=>(by cases e),fun j s as _ _ _ a _ z=>z⟩
 . exact E.w W e⟩
end
structure eK where
 nx:List Sl->Prop
 rt:Dt->List Sl->Prop
 bk:List Sl->Prop:=fun _=>False
 ct:List Sl->Prop:=fun _=>False
abbrev kG:=eK->List Sl->Prop
structure Lk(Ws:List Wd)(D:Ends)(Δ:eK):Prop where
 nx: ∀M α H σ δ,aB Ws M α H σ δ->Δ.nx δ->D.nx σ H
 rt: ∀M α H σ δ v d,aB Ws M α H σ δ->Rep M H v d->Δ.rt d δ->D.rt v H
 bk: ∀M α H σ δ,aB Ws M α H σ δ->Δ.bk δ->D.bk σ H
 ct: ∀M α H σ δ,aB Ws M α H σ δ->Δ.ct δ->D.ct σ H
inductive lS(T:kG)(D:L2.Ends)(σ:L2.St)(H:Hp):Prop
 | mk (Ws:List Wd) (M:Addr->Prop) (α:List (List Addr)) (δ:List Sl) (Δ:eK) (h1:aB Ws M α H σ δ) (h2:Lk Ws D Δ) (h3:T Δ δ)
abbrev Ex(X:Cx)(s:Stmt)(T:kG):Prop:=PS X s (lS T)
abbrev zj(X:Cx)(s:List Stmt)(T:kG):Prop:=qQ X s (lS T)
section
variable{X:Cx}{st:Stmt}{rest:List Stmt}{T U:kG}{e a b c:Expr}{es:List Expr}{t ta tb:bz}{u:ny}{pos:Pos}
def NQ:kG:=fun Δ δ=>Δ.nx δ
def NH(T U:kG):kG:=fun Δ δ=>T {Δ with nx:=U Δ} δ
theorem bR:zj X [] NQ:=qQ.imp pV fun D σ H cj=>(by obtain⟨Ws,M,α,δ,Δ,E,L,q⟩:=cj;exact(L.nx _ _ _ _ _ E q))
theorem aq(h1:Ex X st T)(h2:zj X rest U):zj X (st::rest) (NH T U):=qQ.imp (bK h1 h2) fun D σ H dM=>(by obtain⟨Ws,M,α,δ,Δ,E,L,q⟩:=dM;exact(
 ⟨Ws,M,α,δ,{Δ with nx:=U Δ},E,⟨fun M α H σ δ E q=>⟨Ws,M,α,δ,Δ,E,L,q⟩,L.rt,L.bk,L.ct⟩,q⟩))
theorem aJ(h1:Ex X st T):zj X [st] T:=i6 h1
def R0(t:bz):kG:=fun Δ δ=>t δ Δ.rt
theorem aP(h:Ev X e t):Ex X (.Return (some e) pos) (R0 t):=PS.imp (pW h) fun D σ H jP=>(by obtain⟨Ws,M,α,δ,Δ,E,L,q⟩:=jP;exact(⟨Ws,M,α,δ,_,E,q,fun d δ' H' v q1 E1 c1 r1=>L.rt _ _ _ _ _ _ _ E1 r1 q1⟩))
def R8(u:ny)(T U:kG):kG:=fun Δ δ=>u δ fun b δ'=>if b=true then T Δ δ' else U Δ δ'
theorem dZ(hc:Tv X c u)(ha:zj X sa T)(hb:zj X sb U):Ex X (.If c sa sb pos) (R8 u T U):=PS.imp (As hc ha hb) fun D σ H lJ=>(by obtain⟨Ws,M,α,δ,Δ,E,L,q⟩:=lJ;exact(
 ⟨Ws,M,α,δ,_,E,q,fun b δ' H' q1 E1 c1=>by
  cases b with
  | true=>rw[if_pos rfl] at q1 ⊢;exact⟨Ws,M,α,δ',Δ,E1,L,q1⟩
  | false=>rw[if_neg YJ] at q1 ⊢;exact⟨Ws,M,α,δ',Δ,E1,L,q1⟩⟩))
def NV(t:bz):kG:=fun Δ δ=>t δ fun _ δ'=>Δ.nx δ'
theorem jW(h:Ev X e t)(hs:swapsWith e none pos.line X.env=pure false:=by rfl):Ex X (.Expr e pos) (NV t):=PS.imp (D9 h hs) fun D σ H kH=>(by obtain⟨Ws,M,α,δ,Δ,E,L,q⟩:=kH;exact(⟨Ws,M,α,δ,_,E,q,fun d δ' H' v q1 E1 c1 r1=>L.nx _ _ _ _ _ E1 q1⟩))
def RZ(i:Nat)(t:bz):kG:=fun Δ δ=>t δ fun d δ'=>cE δ' i/\Δ.nx (δ'.set i (.im d))
theorem dY(i:Nat)(hN:X.N.Nodup)(he:Ev X e t)(hi:X.N[i]?=some x:=by rfl)(hx:Loc X.env.scope x:=by first | exact Or.inl rfl | exact Or.inr rfl)(hs:swapsWith e (some (.Name x pos')) pos.line X.env=pure false:=by rfl)(hf:X.fn x=true\/X.env.scope.names.lookup x=some .local:=by first | exact .inl rfl | exact .inr rfl | assumption):
  Ex X (.Assign [.Name x pos'] e pos) (RZ i t):=PS.imp (dB hN hi hx he hs hf) fun D σ H nA=>(by obtain⟨Ws,M,α,δ,Δ,E,L,q⟩:=nA;exact(⟨Ws,M,α,δ,_,E,q,fun d δ' H' v pA E1 c1 r1=>(by obtain⟨ok,q1⟩:=pA;exact(L.nx _ _ _ _ _ (E1.iY r1 ok) q1))⟩))
def wY(i:Nat)(t:zk):kG:=fun Δ δ=>t δ fun ds δ'=>cE δ' i/\Δ.nx (δ'.set i (.ow ds))
theorem xN{i:Nat}{t:zk}: ∀D σ H,lS (wY i t) D σ H->zV (lO t) (cQ i) D σ H:=fun D σ H nz=>(by obtain⟨Ws,M,α,δ,Δ,E,L,q⟩:=nz;exact(⟨Ws,M,α,δ,_,E,q,fun ds δ' H1 xs a gx E1 c1 r1 h1=>(by obtain⟨ok,q1⟩:=gx;exact(
 L.nx _ _ _ _ _ (E1.lZ (s:= .ow ds) h1 (fun xs z=>by cases z) ok rfl ⟨a,xs,rfl,rfl,af,r1.grow h1⟩) q1))⟩))
theorem l6(i:Nat){x:Str}{pos':Pos}{t:zk}(hN:X.N.Nodup)(he:Ov X e t)(hi:X.N[i]?=some x:=by rfl)(hx:Loc X.env.scope x:=by first | exact Or.inl rfl | exact Or.inr rfl)(hs:swapsWith e (some (.Name x pos')) pos.line X.env=pure false:=by rfl)(hf:X.fn x=true\/X.env.scope.names.lookup x=some .local:=by first | exact .inl rfl | exact .inr rfl | assumption):
  Ex X (.Assign [.Name x pos'] e pos) (wY i t):=PS.imp (dB hN hi hx he hs hf) xN
inductive NS(i:Nat)(T:kG)(Δ:eK)(δ:List Sl):Prop
 | mk (ds:_) (h1:δ[i]?=some (.ow ds)) (h2:T Δ (δ.set i (.im (.lst ds))))
theorem BN: ∀D σ H,lS (NS i T) D σ H->lS T D σ H:=fun D σ H jS=>(by obtain⟨Ws,M,α,δ,Δ,E,L,ds,h,q⟩:=jS;exact(by
 obtain⟨M',α',E',_⟩:=E.lB h;exact⟨Ws,M',α',_,Δ,E',L,q⟩))
theorem vL(i:Nat)(h:Ex X st T):Ex X st (NS i T):=PS.imp h BN
theorem k6{Ws:List Wd}{M:Addr->Prop}{α:List (List Addr)}{H:Hp}{σ:L2.St}{δ:List Sl}{i:Nat}{ds T9:List Dt}{a:Addr}(E:aB Ws M α H σ δ)(h:δ[i]?=some (.ow ds))(h1:σ[i]?=some (some (.ref a)))(h2:α[i]?=some [a])(r:aA M H OA T9):
  aB Ws M α (upd H a (.lst OA)) σ (δ.set i (.ow T9))/\da α H (upd H a (.lst OA)):=
 E.mod h h1 h2 rfl ⟨a,OA,rfl,rfl,af,r.mono fun b u e n=>⟨by rw[ag (fun z=>n (by rw[z];exact E.mu a (aL h2 (by simp))))];exact e,n⟩⟩ (fun b u e n=>by rw[ag (fun z=>n (by rw[z];simp))];exact e) (fun b hb=>by rw[YX.mp hb];exact⟨_,af,fun xs z=>by cases z⟩)
inductive Ke(i:Nat)(Q:Dt->List Sl->Prop)(es:List Dt)(δ':List Sl):Prop
 | mk (ds d:_) (h1:es= [d]) (h2:δ'[i]?=some (.ow ds)) (h3:ds.length < sizeLine) (h4:Q .aI (δ'.set i (.ow (ds++ [d]))))
def Sf(i:Nat)(t:gn):bz:=fun δ Q=>(∃Cb,δ[i]?=some (.ow Cb))/\t δ fun es δ'=>Ke i Q es δ'
theorem mW(i:Nat){xp apos eG:Pos}(ho:PE X (.Name x xp) (gG i))(ha:Av X [e] tA)(jf:attributeBase (.Name x xp) "append" X.env (eval (.Name x xp) X.env)=eval (.Name x xp) X.env:=by rfl)(Jy:((backTo eG (starEach [e] X.env)).all (fun x=>!x.1) && (backToKw eG (keywordEach [] X.env)).all (fun x=>x.1.isSome) && decide ([e].length+([]:List Keyword).length+(if ([]:List Keyword).isEmpty then 0 else 1) < 30))=true:=by rfl)(je:(apos.endLine==eG.line)=true:=by rfl)(hs:starEach [e] X.env=(false,eval e X.env)::starEach [] X.env:=by rfl)(uD:(backTo eG (starEach [] X.env)).any (·.1)=false:=by rfl):
  Ev X (.Call (.Attribute (.Name x xp) "append" apos) [e] [] eG) (Sf i tA):=
 PE.imp (Mf aj1 PySem.F.slot_list_append PySem.F.type_list_append j3 ho ha jf Jy je hs uD) fun σ H Q cj=>(by obtain⟨W,M,α,δ,Qd,E,⟨⟨Cb,h0⟩,q⟩,k⟩:=cj;exact(by
  obtain⟨a,SX,h1,h2,h3,r3⟩:=E.ow h0;refine⟨_,h1,.inl ⟨rfl,_,cY.of h3⟩,W,M,α,δ,_,E,q,fun es δ' H' vs jQ E1 c1 r1=>?_⟩;obtain⟨ds,d,e,hd,l,q1⟩:=jQ;subst e;obtain⟨y,ys,rfl,ry,rn⟩:=r1.aQ;cases rn.eV;obtain⟨a',xs,sN,yw,JG,D8⟩:=E1.ow hd;rw[h1] at sN;cases sN;refine⟨a,xs,y,rfl,rfl,JG,by rw[D8.1];exact l,?_⟩;obtain⟨E2,c2⟩:=k6 E1 hd h1 yw (D8.append (.one ry));exact k _ _ _ _ q1 E2 (c1.tr c2) .aI))
inductive J8(i:Nat)(Q:Dt->List Sl->Prop)(d2:Dt)(δ':List Sl):Prop
 | mk (ds k d:_) (h1:δ'[i]?=some (.ow ds)) (h2:d2= .int k) (h3:kO ds k=some d) (h4:Q d δ')
def R4(i:Nat)(tb:bz):bz:=fun δ Q=>(∃Cb,δ[i]?=some (.ow Cb))/\tb δ fun d2 δ'=>J8 i Q d2 δ'
theorem GU(i:Nat)(ho:PE X (.Name x xp) (gG i))(hb:Ev X b tb)(hs:qP b:=by exact fun _ _=>rfl):Ev X (.Subscript (.Name x xp) b pos) (R4 i tb):=
 PE.imp (AK qg ho hb hs) fun σ H Q jP=>(by obtain⟨W,M,α,δ,Qd,E,⟨⟨Cb,h0⟩,q⟩,k⟩:=jP;exact(by
  obtain⟨a,SX,h1,h2,h3,r3⟩:=E.ow h0;refine⟨_,h1,W,M,α,δ,_,E,q,fun d2 δ' H' v zp E1 c1 r1=>?_⟩;obtain⟨ds,n,d,hd,e,hg,q1⟩:=zp;subst e;obtain⟨a',xs,sN,yw,JG,D8⟩:=E1.ow hd;rw[h1] at sN;cases sN;obtain⟨y,hy,ry⟩:=qJ D8 hg;exact⟨a,xs,n,y,rfl,r1.ofInt,cY.of JG,hy,k _ _ _ _ q1 E1 c1 ry⟩))
inductive NA(i:Nat)(δ:List Sl)(Q:Dt->List Sl->Prop):Prop
 | mk (ds:_) (h1:δ[i]?=some (.ow ds)) (h2:Q (.tup ds) δ)
theorem Co(i:Nat)(hm:X.mg "tuple"=none)(ho:PE X (.Name x xp) (gG i))(hg:Gl X "tuple":=by rfl)(he:starEach [.Name x xp] X.env=(false,eval (.Name x xp) X.env)::starEach [] X.env:=by rfl)(cN:(backTo pos (starEach [] X.env)).any (·.1)=false:=by rfl):
  Ev X (.Call (.Name "tuple" p) [.Name x xp] [] pos) (NA i):=PE.imp (ic iB hg hm a8 (ah ho aF he) (by decide) (by decide) he cN) fun σ H Q lJ=>(by obtain⟨W,M,α,δ,Qd,E,⟨ds,hd,q⟩,k⟩:=lJ;exact(by
  obtain⟨a,xs,h1,h2,h3,r3⟩:=E.ow hd;refine⟨_,h1,a,xs,rfl,.inl ⟨cY.of h3,fun l hl=>?_⟩⟩;have s:aC H (upd H l (.tup xs)):=aC.new hl;exact k _ _ _ _ q (E.same s) (da.of s) (Rep.fZ af (E.fresh hl) (r3.same s))))
inductive FE(i:Nat)(Δ:eK)(d:Dt)(d2:Dt)(δ2:List Sl):Prop
 | mk (ds k j:_) (h1:δ2[i]?=some (.ow ds)) (h2:d2= .int k) (h3:wq ds.length k=some j) (h4:Δ.nx (δ2.set i (.ow (ds.set j d))))
def GY(i:Nat)(tv tb:bz):kG:=fun Δ δ=>tv δ fun d δ1=>(∃Cb,δ1[i]?=some (.ow Cb))/\tb δ1 fun d2 δ2=>FE i Δ d d2 δ2
theorem HV (i : Nat) (hv : Ev X e tv) (ho : PE X (.Name x xp) (gG i)) (hb : Ev X b tb) (ha : ∀ v, assign (.Subscript (.Name x xp) b xH) X.env v = (do
   let ov<-holding [v] (eval (.Name x xp) X.env)
   let iv<-holding [v,ov] (eval b X.env)
   standAt xH
   holding [v,ov,iv] (setItem ov iv v)
   release [v,ov,iv] []):=by intro _;rfl) (hs:swapsWithSole [.Subscript (.Name x xp) b xH] e pos.line X.env=pure false:=by rfl) (hw:swappedStores [.Subscript (.Name x xp) b xH] e X.env=pure none:=by rfl) (h1:(assignEach [.Subscript (.Name x xp) b xH] X.env).map (·.2)= [assign (.Subscript (.Name x xp) b xH) X.env]:=by rfl):Ex X (.Assign [.Subscript (.Name x xp) b xH] e pos) (GY i tv tb):=
 PS.imp (pX hv (AF ho hb set_list ha) hs hw h1) fun D σ H pA=>(by obtain⟨Ws,M,α,δ,Δ,E,L,q⟩:=pA;exact(
  ⟨Ws,M,α,δ,_,E,q,fun d δ1 H1 v nz E1 c1 r1=>(by obtain⟨⟨Cb,h0⟩,q1⟩:=nz;exact(by
   obtain⟨a,SX,h1,h2,h3,r3⟩:=E1.ow h0;refine⟨_,h1,Ws,M,α,δ1,_,E1,q1,fun d2 δ2 H2 v2 Hc E2 c2 r2=>?_⟩;obtain⟨ds,n,j,hd,e,hj,q2⟩:=Hc;subst e;obtain⟨a',xs,sN,yw,JG,D8⟩:=E2.ow hd;rw[h1] at sN;cases sN;refine⟨a,xs,n,j,rfl,r2.ofInt,JG,by rw[D8.1];exact hj,?_⟩;obtain⟨E3,_⟩:=k6 E2 hd h1 yw (D8.set (r1.chg E1 c2) j);exact L.nx _ _ _ _ _ E3 q2))⟩))
theorem yE(r:aA M H xs ds):xs.isEmpty=ds.isEmpty:=by
 have:=r.1;cases xs <;> cases ds <;> simp at this ⊢
end
def dN(S:DN):Sp:=fun vs H Q _=> ∃M ds Qd,jJ M H/\aA M H vs ds/\S ds Qd/\ ∀r H' v',Qd r->aC H H'->Rep M H' v' r->Q v' H'
abbrev DB:=Int->List Dt->(Dt->Int->Prop)->Prop
def t6(S:DB):Sp:=fun vs H Q _=> ∃M d c t ws ds Qd,vs= .ref d::ws/\jJ M H/\M d/\M c/\tL H d c t/\aA M H ws ds/\S t ds Qd/\ ∀r t' H' v',Qd r t'->Kp d c H H'->tL H' d c t'->Rep M H' v' r->Q v' H'
section
variable{X:Cx}{e:Expr}{es:List Expr}{pos p:Pos}{x:Str}{k:Nat}{ps:List Str}
theorem cz(h:ik X.prog X.w X.K X.mg X.base x k ps (dN S))(hr:bM k X.A)(ha:Av X (e::es) t)(hg:Gl X x:=by rfl)(lu:(x==("__debug__":Str))=false:=by decide)(he:starEach (e::es) X.env=(false,eval e X.env)::starEach es X.env:=by rfl)(cN:(backTo pos (starEach es X.env)).any (·.1)=false:=by rfl):
  Ev X (.Call (.Name x p) (e::es) [] pos) (wZ S t):=PE.imp (mq h hr hg ha lu he cN) fun σ H Q cj=>(by obtain⟨W,M,α,δ,Qd,E,q,k⟩:=cj;exact(
 ⟨W,M,α,δ,_,E,q,fun ds δ' H' vs q1 E1 c1 r1=>by
  show dN S (vs++ []) H' Q E0;rw[Zw];exact⟨M,ds,_,E1.al,r1,q1,fun r H2 v2 q2 s r2=>k _ _ _ _ q2 (E1.same s) (c1.tr (da.of s)) r2⟩⟩))
theorem aB.box{i:Nat}(E:aB Ws M α H σ δ)(h:δ[i]?=some (.bx t)): ∃d c,σ[i]?=some (some (.ref d))/\α[i]?=some [d,c]/\tL H d c t:=by
 obtain⟨o,as,h1,h2,d,c,rfl,rfl,r⟩:=E.sl i _ h;exact⟨d,c,h1,h2,r⟩
theorem xf(E:aB Ws M α H σ δ)(h:δ[i]?=some (.bx t))(h1:σ[i]?=some (some (.ref d)))(h2:α[i]?=some [d,c])(k:Kp d c H H')(B:tL H' d c t'):
  aB Ws M α H' σ (δ.set i (.bx t'))/\da α H H':=
 E.mod h h1 h2 rfl ⟨d,c,rfl,rfl,B⟩ (fun b u e n=>k b u e (fun z=>n (by rw[z];simp)) (fun z=>n (by rw[z];simp))) (fun b hb=>by
  simp only [YU,Yy,or_false] at hb;rcases hb with rfl | rfl
  . exact⟨_,B.dc,fun xs z=>by cases z⟩
  . obtain⟨ns,h,_⟩:=B.cs;exact⟨_,h,fun xs z=>by cases z⟩)
def Sb(S:DB)(i:Nat)(t:gn):bz:=fun δ Q=>(∃t0,δ[i]?=some (.bx t0))/\t δ fun ds δ'=> ∃t,δ'[i]?=some (.bx t)/\S t ds fun r t'=>Q r (δ'.set i (.bx t'))
theorem fH(i:Nat)(h:ik X.prog X.w X.K X.mg X.base x k ps (t6 S))(hr:bM k X.A)(ho:PE X (.Name y yp) (gG i))(ha:Av X es t)(hg:Gl X x:=by rfl)(lu:(x==("__debug__":Str))=false:=by decide)(he:starEach (.Name y yp::es) X.env=(false,eval (.Name y yp) X.env)::starEach es X.env:=by rfl)(cN:(backTo pos (starEach es X.env)).any (·.1)=false:=by rfl):
  Ev X (.Call (.Name x p) (.Name y yp::es) [] pos) (Sb S i t):=PE.imp (mq h hr hg (ah ho ha he) lu he cN) fun σ H Q cj=>(by obtain⟨W,M,α,δ,Qd,E,⟨⟨t0,h0⟩,q⟩,k⟩:=cj;exact(by
  obtain⟨d,c,h1,h2,B⟩:=E.box h0;refine⟨_,h1,W,M,α,δ,_,E,q,fun ds δ' H' vs iU E1 c1 r1=>?_⟩;obtain⟨t,hd,q1⟩:=iU;obtain⟨d',c',sN,yw,B'⟩:=E1.box hd;rw[h1] at sN;cases sN;show t6 S ((V.ref d::vs)++ []) H' Q E0;rw[Zw];refine⟨M,d,c',t,vs,ds,_,rfl,E1.al,E1.mu d (aL yw (by simp)),E1.mu c' (aL yw (by simp)),B',r1,q1,fun r t' H2 v2 q2 kp B2 r2=>?_⟩;obtain⟨E2,c2⟩:=xf E1 hd h1 yw kp B2;exact k _ _ _ _ q2 E2 (c1.tr c2) r2))
end
section
variable{P:Program}{w:World}{K:PySem.W.Frag}{mg:Str->Option Value}{base:Heap}
theorem j6(al:jJ M H)(r:aA M H vs ds)(w: ∀W∈Ws,O3 W M (List.replicate (ds.length+n) []) H (ds.map .im++List.replicate n .no)):
  aB Ws M (List.replicate (ds.length+n) []) H (vs.map some++List.replicate n none) (ds.map .im++List.replicate n .no):=by
 have a0:(List.replicate (ds.length+n) ([]:List Addr)).flatten= []:=by simp
 refine⟨by simp [r.1],by simp,fun i s h=>?_,by rw[a0];exact ab5,fun a ha=>by rw[a0] at ha;exact absurd ha Yy,al,w⟩;have hi:=(YB.mp h).1;rw[Y9,Yt,ZZ] at hi;have ha:(List.replicate (ds.length+n) ([]:List Addr))[i]?=some []:=by rw[YY,if_pos hi]
 by_cases hl:i < ds.length
 . rw[Y1 (by rw[Yt];exact hl),YC,Ys hl] at h;cases h;obtain⟨v,hv,rv⟩:=r.get (Ys hl);exact⟨some v,[],by rw[Y1 (by rw[Yt,r.1];exact hl),YC,hv];rfl,ha,rfl,v,rfl,rv⟩
 . rw[Y8 (by rw[Yt];omega),YY] at h;split at h
   . rename_i hn;cases h;rw[Yt] at hn;exact⟨none,[],by rw[Y8 (by rw[Yt,r.1];omega),YY,if_pos (by rw[Yt,r.1];exact hn)],ha,rfl⟩
   . cases h
theorem tO {x qual : Str} {st : Stmt} {k : Nat} (F : ip K x qual st f fd) (sc : aM N ps (ae st)) (len : ∀ ds Qd, S ds Qd -> ds.length = ps.length) (fG : ∀ (bZ : Value) (A : Around) (outer : List Env) (s : Shared) (H : Hp) (E : XK), bM k (A.deeper (envOfC qual (ae st) s.heap.objs.size f bZ)) ->
   ∃T,zj (kN eM P w K mg base N qual (ae st) f bZ A outer s H E).Bb (cc st) T/\ ∀ds Qd,S ds Qd->T {nx:=fun _=>Qd .aI,rt:=fun d _=>Qd d} (ds.map .im++List.replicate (N.length - ps.length) .no)):
  bp P w K mg base eM (k+1) f fd ps (dN S):=by
 refine F.ok sc (fun vs H Q E h=>?_) (fun bZ A outer s H vs Q E hr h=>?_)
 . obtain⟨M,ds,Qd,al,r,q,_⟩:=h;rw[r.1];exact len ds Qd q
 . obtain⟨M,ds,Qd,al,r,q,kk⟩:=h;obtain⟨T,hT,hq⟩:=fG bZ A outer s H E hr;refine⟨lS T,hT,[⟨H,fun _=>False,M,M,none⟩],M,List.replicate (ds.length+(N.length - ps.length)) [],ds.map .im++List.replicate (N.length - ps.length) .no,_,?_,?_,hq ds Qd q⟩
   . have e:L2.start N vs=vs.map some++List.replicate (N.length - ps.length) none:=by unfold L2.start;rw[r.1,len ds Qd q]
     rw[e];refine j6 al r fun W hW=>?_;rw[YX.mp hW];have a0:(List.replicate (ds.length+(N.length - ps.length)) ([]:List Addr)).flatten= []:=by simp
     refine⟨fun b o e _=>e,fun b n=>n,fun a ha=>by rw[a0] at ha;exact absurd ha Yy,fun a h=>h,fun a h=> .inl h,fun d c e=>(by cases e),fun j s as h1 h2 _ a ha=>?_⟩;rw[YY] at h2;split at h2
     . cases h2;exact absurd ha Yy
     . cases h2
   . have same : ∀ {M' α' H' σ' δ'}, aB [⟨H, fun _ => False, M, M, none⟩] M' α' H' σ' δ' -> aC H H' /\ ∀ a, M a -> M' a := fun E' => by
       have k:=E'.w _ (YX.mpr rfl);exact⟨fun b o e=>k.bs b o e (fun z=>z),k.m0⟩
     refine⟨fun M' α' H' σ' δ' E' q=>kk _ _ _ q (same E').1 .aI,fun M' α' H' σ' δ' v d E' r' q=>kk _ _ _ q (same E').1 (r'.mono fun a o e n=>⟨e,fun z=>n ((same E').2 a z)⟩),fun _ _ _ _ _ _ z=>z.elim,fun _ _ _ _ _ _ z=>z.elim⟩
theorem uO(al:jJ M H)(r:aA M H vs ds)(B:tL H d c t)(Md:M d)(Mc:M c)(h0:W=⟨H,fun a=>a=d\/a=c,M,M,some (d,c)⟩):
  aB [W] M ([d,c]::List.replicate (ds.length+n) []) H (some (.ref d)::(vs.map some++List.replicate n none)) (.bx t::(ds.map .im++List.replicate n .no)):=by
 have E0:=j6 (Ws:= []) (n:=n) al r (fun W hW=>absurd hW Yy);have a0:(List.replicate (ds.length+n) ([]:List Addr)).flatten= []:=by simp
 have ef:(([d,c]:List Addr)::List.replicate (ds.length+n) []).flatten= [d,c]:=by rw[Z6,a0,Zw]
 refine⟨by rw[YS,YS,E0.ls],by rw[YS,YS,E0.la],fun i s h=>?_,?_,fun a ha=>?_,al,fun W' hW=>?_⟩
 . cases i with
   | zero=>cases h;exact⟨_,_,rfl,rfl,d,c,rfl,rfl,B⟩
   | succ i=>obtain⟨o,as,h1,h2,h3⟩:=E0.sl i s (by simpa using h);exact⟨o,as,by simpa using h1,by simpa using h2,h3⟩
 . rw[ef];simp [B.ne]
 . rw[ef] at ha;simp only [YU,Yy,or_false] at ha;rcases ha with rfl | rfl <;> assumption
 . rw[YX.mp hW,h0];refine⟨fun b o e _=>e,fun b n=>n,fun a ha=>?_,fun a h=>h,fun a h=> .inl h,fun d' c' e=>?_,fun j s as h1 h2 nb a ha=>?_⟩
   . rw[ef] at ha;simp only [YU,Yy,or_false] at ha;exact .inl ha
   . cases e;exact⟨t,rfl,rfl⟩
   . cases j with
     | zero=>cases h1;cases nb
     | succ j=>
      rw[List.getElem?_cons_succ,YY] at h2;split at h2
      . cases h2;exact absurd ha Yy
      . cases h2
theorem RG {x qual : Str} {st : Stmt} {k : Nat} (F : ip K x qual st f fd) (sc : aM N ps (ae st)) (len : ∀ t ds Qd, S t ds Qd -> ds.length + 1 = ps.length) (fG : ∀ (bZ : Value) (A : Around) (outer : List Env) (s : Shared) (H : Hp) (E : XK), bM k (A.deeper (envOfC qual (ae st) s.heap.objs.size f bZ)) ->
   ∃T,zj (kN eM P w K mg base N qual (ae st) f bZ A outer s H E).Bb (cc st) T/\ ∀t ds Qd,S t ds Qd->T {nx:=fun δ=> ∃t',δ[0]?=some (.bx t')/\Qd .aI t',rt:=fun d δ=> ∃t',δ[0]?=some (.bx t')/\Qd d t'} (.bx t::(ds.map .im++List.replicate (N.length - ps.length) .no))):
  bp P w K mg base eM (k+1) f fd ps (t6 S):=by
 refine F.ok sc (fun vs H Q E h=>?_) (fun bZ A outer s H vs Q E hr h=>?_)
 . obtain⟨M,d,c,t,ws,ds,Qd,rfl,al,md,mc,B,r,q,_⟩:=h;rw[YS,r.1];exact len t ds Qd q
 . obtain⟨M,d,c,t,ws,ds,Qd,rfl,al,md,mc,B,r,q,kk⟩:=h;obtain⟨T,hT,hq⟩:=fG bZ A outer s H E hr;refine⟨lS T,hT,[⟨H,fun a=>a=d\/a=c,M,M,some (d,c)⟩],M,[d,c]::List.replicate (ds.length+(N.length - ps.length)) [], .bx t::(ds.map .im++List.replicate (N.length - ps.length) .no),_,?_,?_,hq t ds Qd q⟩
   . have e : L2.start N (.ref d :: ws) = some (.ref d) :: (ws.map some ++ List.replicate (N.length - ps.length) none) := by
       unfold L2.start;rw[YV,List.cons_append,YS,r.1,len t ds Qd q]
     rw[e];exact uO al r B md mc rfl
   . have same : ∀ {M' α' H' σ' δ' t'}, aB [⟨H, fun a => a = d \/ a = c, M, M, some (d, c)⟩] M' α' H' σ' δ' -> δ'[0]? = some (.bx t') -> Kp d c H H' /\ (∀ a, M a -> M' a) /\ tL H' d c t' := fun {M' α' H' σ' δ' t'} E' ht => by
       have k:=E'.w _ (YX.mpr rfl);refine⟨fun b o e n1 n2=>k.bs b o e (fun z=>z.elim n1 n2),k.m0,?_⟩;obtain⟨t2,e1,e2⟩:=k.bx d c rfl;obtain⟨d3,c3,e3,e4,B3⟩:=E'.box ht;rw[e2] at e4;cases e4;exact B3
     refine⟨fun M' α' H' σ' δ' E' jP=>(by obtain⟨t',ht,q⟩:=jP;exact(kk _ _ _ _ q (same E' ht).1 (same E' ht).2.2 .aI)),fun M' α' H' σ' δ' v dd E' r' lJ=>(by obtain⟨t',ht,q⟩:=lJ;exact(kk _ _ _ _ q (same E' ht).1 (same E' ht).2.2 (r'.mono fun a o e n=>⟨e,fun z=>n ((same E' ht).2.1 a z)⟩))),fun _ _ _ _ _ _ z=>z.elim,fun _ _ _ _ _ _ z=>z.elim⟩
end
def Kf(M:Addr->Prop)(H H1:Hp):Prop:= ∀b o,H b=some o-> ¬M b->H1 b=some o
structure Yl(M:Addr->Prop)(H:Hp)(J:It)(ao:List Dt):Prop where
 go: ∀i H1 M',Kf M H H1->jJ M' H1->(∀b,H b≠none-> ¬M b-> ¬M' b)->i < ao.length->J.go i H1/\ ∀x H2,J.qW i H1 x H2->aC H1 H2/\ ∃d,ao[i]?=some d/\Rep M' H2 x d
 stop: ∀H1,Kf M H H1->J.stop ao.length H1
abbrev n5:=List Sl->(List Dt->List Sl->Prop)->Prop
inductive lI(t:n5)(σ:L2.St)(H:Hp)(R:It->Hp->Prop):Prop
 | mk (W:List Wd) (M:Addr->Prop) (α:List (List Addr)) (δ:List Sl) (Qd:List Dt->List Sl->Prop) (h1:aB W M α H σ δ) (h2:t δ Qd) (h3: ∀ao δ' H' J,Qd ao δ'->aB W M α H' σ δ'->da α H H'->Yl M H' J ao->R J H')
theorem PI.imp(h:PI X tg iter t)(i: ∀σ H R,t' σ H R->t σ H R):PI X tg iter t':=fun pins s σ H R I q=>h pins s σ H R I (i _ _ _ q)
abbrev Iv(X:Cx)(tg iter:Expr)(t:n5):Prop:=PI X tg iter (lI t)
section
variable{X:Cx}{tg e a b:Expr}{ta t:bz}{tA:gn}{p pos:Pos}
theorem qX{lo:Int}:Yl M H (Ol lo n) ((List.range n).map fun k=> .int (lo+(k:Nat))):=by
 refine⟨fun i H1 M' kf mo hb hi=>⟨?_,fun x H2 cj=>?_⟩,fun H1 _=>?_⟩
 . rw[Yt,Y5] at hi;exact hi
 . obtain⟨e1,e2⟩:=cj;rw[Yt,Y5] at hi;subst e1;subst e2;exact⟨fun _ _ z=>z,.int (lo+i),by rw[YC,Zr hi];rfl,.int _⟩
 . show n<=_;rw[Yt,Y5];exact Yx _
inductive Fv(Q:List Dt->List Sl->Prop)(ds:List Dt)(δ':List Sl):Prop
 | mk (j:Int) (h1:ds= [.int j]) (h2: -(2^62)<=j) (h3:j < 2^62) (h4:Q ((List.range j.toNat).map fun k=> .int (0+(k:Nat))) δ')
def NJ(t:gn):n5:=fun δ Q=>t δ fun ds δ'=>Fv Q ds δ'
inductive Fu(Q:List Dt->List Sl->Prop)(ds:List Dt)(δ':List Sl):Prop
 | mk (i j:Int) (h1:ds= [.int i,.int j]) (h2:(-(2^62)<=i/\i < 2^62/\ -(2^62)<=j/\j < 2^62)) (h3:Q ((List.range (j - i).toNat).map fun k=> .int (i+(k:Nat))) δ')
def NI(t:gn):n5:=fun δ Q=>t δ fun ds δ'=>Fu Q ds δ'
theorem mO(hm:X.mg "range"=none)(ha:Av X [a] tA)(hg:Gl X "range":=by rfl)(hs:starEach [a] X.env= [(false,eval a X.env)]:=by rfl):Iv X tg (.Call (.Name "range" p) [a] [] pos) (NJ tA):=PI.imp (xT hg hm ha hs) fun σ H R dM=>(by obtain⟨W,M,α,δ,Qd,E,q,k⟩:=dM;exact(
 ⟨W,M,α,δ,_,E,q,fun ds δ' H' vs iU E1 c1 r1=>(by obtain⟨j,e,l1,l2,q1⟩:=iU;exact(by
  subst e;obtain⟨x,ys,rfl,r2,r3⟩:=r1.aQ;cases r3.eV;cases r2.ofInt;exact⟨j,rfl,l1,l2,k _ _ _ _ q1 E1 c1 qX⟩))⟩))
theorem gV(hm:X.mg "range"=none)(ha:Av X [a,b] tA)(hg:Gl X "range":=by rfl)(hs:starEach [a,b] X.env= [(false,eval a X.env),(false,eval b X.env)]:=by rfl)(kq:starEach [b] X.env= [(false,eval b X.env)]:=by rfl):Iv X tg (.Call (.Name "range" p) [a,b] [] pos) (NI tA):=PI.imp (xS hg hm ha hs kq) fun σ H R jP=>(by obtain⟨W,M,α,δ,Qd,E,q,k⟩:=jP;exact(
 ⟨W,M,α,δ,_,E,q,fun ds δ' H' vs lJ E1 c1 r1=>(by obtain⟨i,j,e,l,q1⟩:=lJ;exact(by
  subst e;obtain⟨x,ys,rfl,r2,r3⟩:=r1.aQ;obtain⟨y,zs,rfl,r4,r5⟩:=r3.aQ;cases r5.eV;cases r2.ofInt;cases r4.ofInt;exact⟨i,j,rfl,l,k _ _ _ _ q1 E1 c1 qX⟩))⟩))
theorem mT(r:aA M H xs ds)(kf:Kf M H H1)(hb: ∀b,H b≠none-> ¬M b-> ¬M' b):aA M' H1 xs ds:=r.mono fun a o e n=>⟨kf a o e n,hb a (by rw[e];intro z;cases z) n⟩
theorem DC{K:PySem.W.Frag}{M:Addr->Prop}{H:Hp}{a:Addr}(h:H a=some (.lst xs))(n: ¬M a)(r:aA M H xs ds):Yl M H (SM K a) ds:=by
 refine⟨fun i H1 M' kf mo hb hi=>?_,fun H1 kf=>⟨xs,cY.of (kf _ _ h n),by rw[r.1];exact Yx _⟩⟩;have rr:=mT r kf hb;have hx:xs[i]?=some (xs[i]'(by rw[r.1];exact hi)):=Ys _;refine⟨⟨xs,_,cY.of (kf _ _ h n),hx⟩,fun x H2 kH=>?_⟩;obtain⟨e,y⟩:=kH;subst e;have:=y xs (cY.of (kf _ _ h n));exact⟨fun _ _ z=>z,_,Ys hi,rr.2 i x _ this (Ys hi)⟩
theorem Hl{K:PySem.W.Frag}{M:Addr->Prop}{H:Hp}{a:Addr}(h:H a=some (.tup xs))(n: ¬M a)(r:aA M H xs ds):Yl M H (SK K a) ds:=by
 refine⟨fun i H1 M' kf mo hb hi=>?_,fun H1 kf=>⟨xs,dE.of (kf _ _ h n),by rw[r.1];exact Yx _⟩⟩;have rr:=mT r kf hb;have hx:xs[i]?=some (xs[i]'(by rw[r.1];exact hi)):=Ys _;refine⟨⟨xs,_,dE.of (kf _ _ h n),hx⟩,fun x H2 nA=>?_⟩;obtain⟨e,y⟩:=nA;subst e;have:=y xs (dE.of (kf _ _ h n));exact⟨fun _ _ z=>z,_,Ys hi,rr.2 i x _ this (Ys hi)⟩
inductive Ka(Q:List Dt->List Sl->Prop)(d:Dt)(δ':List Sl):Prop
 | mk (ds:_) (h1:d= .lst ds) (h2:Q ds δ')
def R6(t:bz):n5:=fun δ Q=>t δ fun d δ'=>Ka Q d δ'
inductive J9(Q:List Dt->List Sl->Prop)(d:Dt)(δ':List Sl):Prop
 | mk (ds:_) (h1:d= .tup ds) (h2:Q ds δ')
def R5(t:bz):n5:=fun δ Q=>t δ fun d δ'=>J9 Q d δ'
theorem iK(h:Ev X e t):Iv X tg e (R6 t):=PI.imp (Ee h) fun σ H R pA=>(by obtain⟨W,M,α,δ,Qd,E,q,k⟩:=pA;exact(⟨W,M,α,δ,_,E,q,fun d δ' H' v nz E1 c1 r1=>(by obtain⟨ds,e,q1⟩:=nz;exact(by
 subst e;obtain⟨a,xs,rfl,ha,n,rr⟩:=r1.dF;exact⟨a,rfl,⟨xs,cY.of ha⟩,k _ _ _ _ q1 E1 c1 (DC ha n rr)⟩))⟩))
theorem GA(h:Ev X e t):Iv X tg e (R5 t):=PI.imp (IA h) fun σ H R gx=>(by obtain⟨W,M,α,δ,Qd,E,q,k⟩:=gx;exact(⟨W,M,α,δ,_,E,q,fun d δ' H' v jS E1 c1 r1=>(by obtain⟨ds,e,q1⟩:=jS;exact(by
 subst e;obtain⟨a,xs,rfl,ha,n,rr⟩:=r1.bE;exact⟨a,rfl,⟨xs,dE.of ha⟩,k _ _ _ _ q1 E1 c1 (Hl ha n rr)⟩))⟩))
noncomputable def cf(k:Nat)(ds:List Dt):List Dt:=ds.mapIdx fun i d=> .tup [.int ((i+k:Nat):Int),d]
theorem vo{K:PySem.W.Frag}{M:Addr->Prop}{H:Hp}{a:Addr}{k:Nat}(h:H a=some (.tup xs))(n: ¬M a)(r:aA M H xs ds):Yl M H (Ld K a k) (cf k ds):=by
 have hl:(cf k ds).length=ds.length:=by unfold cf;rw[ai5]
 refine⟨fun i H1 M' kf mo hb hi=>?_,fun H1 kf=>⟨xs,dE.of (kf _ _ h n),by rw[r.1,hl]⟩⟩;rw[hl] at hi;have rr:=mT r kf hb;have hx:xs[i]?=some (xs[i]'(by rw[r.1];exact hi)):=Ys _;refine⟨⟨xs,_,dE.of (kf _ _ h n),hx⟩,fun x H2 pC=>?_⟩;obtain⟨pp,y,e1,e2,e3,e4⟩:=pC;subst e1;subst e3;have hy:=e4 xs (dE.of (kf _ _ h n));have s:aC H1 (upd H1 pp (.tup [.int ((i+k:Nat):Int),y])):=aC.new e2;refine⟨s,_,by unfold cf;rw[ah3,Ys hi];rfl,Rep.fZ af (mo.fresh e2) (.cons (.int _) (.one ((rr.2 i y _ hy (Ys hi)).same s)))⟩
inductive FF(k:Nat)(Q:List Dt->List Sl->Prop)(es:List Dt)(δ':List Sl):Prop
 | mk (ds:_) (h1:es= [.tup ds]) (h2:Q (cf k ds) δ')
def NU(k:Nat)(t:gn):n5:=fun δ Q=>t δ fun es δ'=>FF k Q es δ'
theorem ES{x1}(hm:X.mg "enumerate"=none)(ha:Av X [e] tA)(hg:Gl X "enumerate":=by rfl)(hs:starEach [e] X.env= [(false,eval e X.env)]:=by rfl):Iv X (.Tuple es x1 tp) (.Call (.Name "enumerate" p) [e] [] pos) (NU 0 tA):=PI.imp (AE hg hm ha hs) fun σ H R jQ=>(by obtain⟨W,M,α,δ,Qd,E,q,k⟩:=jQ;exact(
 ⟨W,M,α,δ,_,E,q,fun es δ' H' vs zr E1 c1 r1=>(by obtain⟨ds,e,q1⟩:=zr;exact(by
  subst e;obtain⟨x,ys,rfl,r2,r3⟩:=r1.aQ;cases r3.eV;obtain⟨a,xs,rfl,ha,n,rr⟩:=r2.bE;exact⟨a,rfl,⟨xs,dE.of ha⟩,k _ _ _ _ q1 E1 c1 (vo ha n rr)⟩))⟩))
noncomputable def fh(xs ys:List Dt):List Dt:=List.zipWith (fun x y=> .tup [x,y]) xs ys
noncomputable def Qj(b:Bool)(ds:List Dt):Dt:=if b then .tup ds else .lst ds
theorem Rep.Mo{b:Bool}(h:Rep M H v (Qj b ds)): ∃a xs,v= .ref a/\nX b H a xs/\ ¬M a/\aA M H xs ds/\ ∀H1,Kf M H H1->nX b H1 a xs:=by
 cases b with
 | true=>obtain⟨a,xs,e,ha,n,r⟩:=Rep.bE h;exact⟨a,xs,e,ha,n,r,fun H1 k=>k _ _ ha n⟩
 | false=>obtain⟨a,xs,e,ha,n,r⟩:=Rep.dF h;exact⟨a,xs,e,ha,n,r,fun H1 k=>k _ _ ha n⟩
theorem Hk(k1: ∀H1,Kf M H H1->nX b1 H1 a1 xs)(k2: ∀H1,Kf M H H1->nX b2 H1 a2 ys)(r:aA M H xs ds)(r2:aA M H ys es):Yl M H (Oj b1 b2 a1 a2) (fh ds es):=by
 have hl:(fh ds es).length=min ds.length es.length:=by unfold fh;rw[List.length_zipWith]
 refine⟨fun i H1 M' kf mo hb hi=>?_,fun H1 kf=>⟨xs,ys,k1 _ kf,k2 _ kf,by rw[hl,r.1,r2.1];grind⟩⟩;rw[hl] at hi;have rr:=mT r kf hb;have oB:=mT r2 kf hb;have hd:ds[i]?=some (ds[i]'(by grind)):=Ys _;have he:es[i]?=some (es[i]'(by grind)):=Ys _;obtain⟨x,hx,rx⟩:=rr.get hd;obtain⟨y,hy,ry⟩:=oB.get he;refine⟨⟨xs,x,ys,y,k1 _ kf,hx,k2 _ kf,hy⟩,fun v H2 zq=>?_⟩;obtain⟨pp,x',y',e1,e2,e3,e4,e5⟩:=zq;subst e1;subst e3;have h1:=e4 xs (k1 _ kf);have h2:=e5 ys (k2 _ kf);rw[hx] at h1;cases h1;rw[hy] at h2;cases h2;have s:aC H1 (upd H1 pp (.tup [x,y])):=aC.new e2;exact⟨s,_,by unfold fh;rw[List.getElem?_zipWith,hd,he],Rep.fZ af (mo.fresh e2) (.cons (rx.same s) (.one (ry.same s)))⟩
inductive J0(Q:List Dt->List Sl->Prop)(es:List Dt)(δ':List Sl):Prop
 | mk (b1 b2 RT RS:_) (h1:es= [Qj b1 RT,Qj b2 RS]) (h2:Q (fh RT RS) δ')
def RU(t:gn):n5:=fun δ Q=>t δ fun es δ'=>J0 Q es δ'
theorem wy{x1}(ha:Av X [e,f] tA)(hp: ∀{t:TA},PA X [e,f] t->PI X (.Tuple es x1 tp) (.Call (.Name "zip" p) [e,f] [] pos) (MF t)):Iv X (.Tuple es x1 tp) (.Call (.Name "zip" p) [e,f] [] pos) (RU tA):=PI.imp (hp ha) fun σ H R zp=>(by obtain⟨W,M,α,δ,Qd,E,q,k⟩:=zp;exact(
 ⟨W,M,α,δ,_,E,q,fun es δ' H' vs zo E1 c1 r1=>(by obtain⟨b1,b2,RT,RS,e,q1⟩:=zo;exact(by
  subst e;obtain⟨x,ys,rfl,r2,r3⟩:=r1.aQ;obtain⟨y,zs,rfl,r4,r5⟩:=r3.aQ;cases r5.eV;obtain⟨a,xs,rfl,ha,n,rr,kk⟩:=r2.Mo;obtain⟨a2,US,rfl,Ww,n2,oB,VE⟩:=r4.Mo;exact⟨b1,b2,a,a2,xs,US,rfl,ha,Ww,k _ _ _ _ q1 E1 c1 (Hk kk VE rr oB)⟩))⟩))
abbrev tK:=Dt->List Sl->(List Sl->Prop)->Prop
inductive lG(g:tK)(v:V)(σ:L2.St)(H:Hp)(Q:L2.St->Hp->Prop):Prop
 | mk (W:List Wd) (M:Addr->Prop) (α:List (List Addr)) (δ:List Sl) (d:Dt) (Qd:List Sl->Prop) (h1:aB W M α H σ δ) (h2:Rep M H v d) (h3:g d δ Qd) (h4: ∀α' δ' σ',Qd δ'->aB W M α' H σ' δ'->(∀x∈α'.flatten,x∈α.flatten)->Q σ' H)
theorem PG.imp{X:Cx}{tg:Expr}{t t':TG}(h:PG X tg t)(i: ∀v σ H Q,t' v σ H Q->t v σ H Q):PG X tg t':=fun pins s σ H v u Q I r q=>h pins s σ H v u Q I r (i _ _ _ _ q)
abbrev Gv(X:Cx)(tg:Expr)(g:tK):Prop:=PG X tg (lG g)
def Ck(i:Nat):tK:=fun d δ Q=>cE δ i/\Q (δ.set i (.im d))
theorem eC{α:List (List Addr)}: ∀x∈(α.set i []).flatten,x∈α.flatten:=fun x h=>(br h).elim id fun z=>absurd z Yy
theorem aO: ∀v σ H Q,lG (Ck i) v σ H Q->cQ i v σ H Q:=fun v σ H Q pB=>(by obtain⟨W,M,α,δ,d,Qd,E,r,⟨ok,q⟩,k⟩:=pB;exact(k _ _ _ q (E.iY r ok) eC))
theorem j5(i:Nat)(hN:X.N.Nodup)(hi:X.N[i]?=some x:=by rfl)(hx:Loc X.env.scope x:=by first | exact Or.inl rfl | exact Or.inr rfl)(hf:X.fn x=true\/X.env.scope.names.lookup x=some .local:=by first | exact .inl rfl | exact .inr rfl | assumption):Gv X (.Name x pos) (Ck i):=PG.imp (aE hN hi hx hf) aO
inductive Cj(i:Nat)(j:Nat)(d:Dt)(δ:List Sl)(Q:List Sl->Prop):Prop
 | mk (d1 d2:_) (h1:d= .tup [d1,d2]) (h2:cE δ i) (h3:cE (δ.set i (.im d1)) j) (h4:Q ((δ.set i (.im d1)).set j (.im d2)))
theorem bU{i j:Nat}{K:PySem.W.Frag}: ∀v σ H Q,lG (Cj i j) v σ H Q->BM K 2 (gZ (cQ i) (gZ (cQ j) yy)) v σ H Q:=fun v σ H Q zm=>(by obtain⟨W,M,α,δ,d,Qd,E,r,⟨d1,d2,e,IQ,IP,q⟩,k⟩:=zm;exact(by
 subst e;obtain⟨a,xs,rfl,ha,n,rr⟩:=r.bE;obtain⟨x,ys,rfl,r2,r3⟩:=rr.aQ;obtain⟨y,zs,rfl,r4,r5⟩:=r3.aQ;cases r5.eV;exact⟨a,_,rfl,dE.of ha,rfl,x,_,rfl,y,_,rfl,rfl,k _ _ _ q ((E.iY r2 IQ).iY r4 IP) fun x h=>eC x (eC x h)⟩))
theorem BL(i j:Nat)(hc:X.calm=true)(hN:X.N.Nodup)(hi:X.N[i]?=some x:=by rfl)(hj:X.N[j]?=some y:=by rfl)(hx:Loc X.env.scope x:=by first | exact Or.inl rfl | exact Or.inr rfl)(hy:Loc X.env.scope y:=by first | exact Or.inl rfl | exact Or.inr rfl)(hf:X.fn x=true\/X.env.scope.names.lookup x=some .local:=by first | exact .inl rfl | exact .inr rfl | assumption)(BA:X.fn y=true\/X.env.scope.names.lookup y=some .local:=by first | exact .inl rfl | exact .inr rfl | assumption)(hn:(assignEach [.Name x px, .Name y py] X.env).length=2:=by rfl)(Bv:(assignEach [.Name x px, .Name y py] X.env).findIdx? (·.1)=none:=by rfl)(h1:(assignEach [.Name x px, .Name y py] X.env).map (·.2)=assign (.Name x px) X.env::(assignEach [.Name y py] X.env).map (·.2):=by rfl)(h2:(assignEach [.Name y py] X.env).map (·.2)=assign (.Name y py) X.env::(assignEach [] X.env).map (·.2):=by rfl):
  Gv X (.Tuple [.Name x px,.Name y py] kk pos) (Cj i j):=PG.imp (et hc (aN (aE hN hi hx hf) (aN (aE hN hj hy BA) cI h2) h1) hn Bv) bU
end
section
variable{X:Cx}{tg iter c:Expr}{body:List Stmt}{ti:n5}{g:tK}{tb:kG}{u:ny}{pos:Pos}
def R9(ti:n5)(g:tK)(tb:kG):kG:=fun Δ δ=>ti δ fun ao δ1=> ∃P:Nat->List Sl->Prop,P 0 δ1/\(∀i d δ2,ao[i]?=some d->P i δ2->g d δ2 fun δ3=>tb {Δ with nx:=P (i+1),ct:=P (i+1),bk:=Δ.nx} δ3)/\ ∀δ2,P ao.length δ2->Δ.nx δ2
theorem l7(hc:X.calm=true)(hi:Iv X tg iter ti)(hg:Gv X tg g)(hb:zj X body tb)(hp:PassesOwn (model X.prog X.w) X.A X.env X.xe)(hs: ∀x,foldedSetIterable iter X.env x=pure x:=by intro _;rfl):Ex X (.For tg iter body [] pos) (R9 ti g tb):=
 PS.imp (Ir hp hc hi hg hb hs) fun D σ H cj=>(by obtain⟨Ws,M,α,δ,Δ,E,L,q⟩:=cj;exact(⟨Ws,M,α,δ,_,E,q,fun ao δ1 H1 J dM E1 c1 yl=>(by obtain⟨P,p0,step,fin⟩:=dM;exact(by
  refine⟨fun i m σ' H'=>m=ao.length - i/\i<=ao.length/\ ∃M' α' δ',aB (⟨H1,M,fun _=>False,M,none⟩::Ws) M' α' H' σ' δ'/\P i δ',⟨ao.length,by simp,Za _,M,α,δ1,E1.loop,p0⟩,?_⟩;rintro i m σ' H' ⟨rfl,hi,M',α',δ',E',p'⟩
  have w:=E'.w _ YN;have kf:Kf M H1 H':=w.bs;have hb: ∀b,H1 b≠none-> ¬M b-> ¬M' b:=fun b n z y=>(w.m1 b y).elim z n;by_cases df:i < ao.length
  . obtain⟨go,qW⟩:=yl.go i H' M' kf E'.al hb df;refine .inr ⟨go,fun σ2 H2=> ∃M2 α2 δ2,aB (⟨H1,M,fun _=>False,M,none⟩::Ws) M2 α2 H2 σ2 δ2/\P (i+1) δ2,fun σ2 H2 z=>⟨ao.length - (i+1),by grind,rfl,df,z⟩,fun x H2 y=>?_⟩;obtain⟨s,d,hd,rx⟩:=qW x H2 y;refine⟨_,M',α',δ',d,_,E'.same s,rx,step i d δ' hd p',fun α3 δ3 σ3 q3 E3 _=>?_⟩;refine⟨_,M',α3,δ3,{Δ with nx:=P (i+1),ct:=P (i+1),bk:=Δ.nx},E3,⟨fun M4 α4 H4 σ4 δ4 E4 q4=>⟨M4,α4,δ4,E4,q4⟩,fun M4 α4 H4 σ4 δ4 v d E4 r4 q4=>L.rt _ _ _ _ _ _ _ E4.drop r4 q4,fun M4 α4 H4 σ4 δ4 E4 q4=>L.nx _ _ _ _ _ E4.drop q4,fun M4 α4 H4 σ4 δ4 E4 q4=>⟨M4,α4,δ4,E4,q4⟩⟩,q3⟩
  . have e:i=ao.length:=by grind
    subst e;exact .inl ⟨yl.stop H' kf,L.nx _ _ _ _ _ E'.drop (fin _ p')⟩))⟩))
end
noncomputable def seen:Sl->Sl
 | .im d=> .im d
 | .fn f=> .fn f
 | _=> .no
noncomputable def cin(nt:Nat)(js:List Nat)(δ:List Sl):List Sl:=List.replicate nt .no++js.map fun j=>seen (δ.getD j .no)
theorem jD{js:List Nat}(E:aB Ws M α H σ δ):aB [] M (List.replicate (nt+js.length) []) H (gq nt js σ) (cin nt js δ):=by
 have a0:(List.replicate (nt+js.length) ([]:List Addr)).flatten= []:=by simp
 refine⟨by simp [gq,cin],by simp [cin],fun i s h=>?_,by rw[a0];exact ab5,fun a ha=>by rw[a0] at ha;exact absurd ha Yy,E.al,fun W hW=>absurd hW Yy⟩;have hi:=(YB.mp h).1;have jN:i < nt+js.length:=by simpa [cin] using hi
 have ha:(List.replicate (nt+js.length) ([]:List Addr))[i]?=some []:=by rw[YY,if_pos jN]
 unfold cin at h;unfold gq;by_cases hl:i < nt
 . rw[Y1 (by simpa using hl),YY,if_pos hl] at h;cases h;exact⟨none,[],by rw[Y1 (by simpa using hl),YY,if_pos hl],ha,rfl⟩
 . rw[Y8 (by simpa using hl),ZZ,YC] at h;cases hj:js[i - nt]? with
   | none=>rw[hj] at h;cases h
   | some j=>
    rw[hj] at h;have hs:seen (δ.getD j .no)=s:=Option.some.inj h;refine⟨(σ[j]?).join,[],by rw[Y8 (by simpa using hl),ZZ,YC,hj];rfl,ha,?_⟩;cases hd:δ[j]? with
    | none=>
     have:δ.getD j .no= .no:=by rw[List.getD,hd];rfl
     rw[this] at hs;subst hs;rfl
    | some s'=>
     have e:δ.getD j .no=s':=by rw[List.getD,hd];rfl
     rw[e] at hs;cases s' with
     | im d=>
      subst hs;obtain⟨v,h1,r⟩:=E.im hd;exact⟨rfl,v,by rw[h1];rfl,r⟩
     | fn f=>
      subst hs;obtain⟨o2,xj,h1,_,_,h3⟩:=E.sl j _ hd;exact⟨rfl,by rw[h1,h3];rfl⟩
     | _=>subst hs;rfl
section
variable{X:Cx}{N:List Str}{nt:Nat}{js:List Nat}{scope:Scope}{elt tg iter:Expr}{ifs:List Expr}{pos:Pos}{ti:n5}{g:tK}{tc:ny}{te:bz}
def CJ(nt:Nat)(js:List Nat)(ti:n5)(g:tK)(tc:ny)(te:bz):zk:=fun δ Q=>ti δ fun ao δ1=>ao.length<=sizeLine/\ ∃(p:Dt->Bool) (f:Dt->Dt),(∀d∈ao,g d (cin nt js δ1) fun δ2=>tc δ2 fun b δ3=>b=p d/\(b=true->te δ3 fun r _=>r=f d))/\Q ((ao.filter p).map f) δ1
theorem oY(sI: ∀v σ H Q,lG g v σ H Q->gh v σ H Q): ∀σ H Q,lO (CJ nt js ti g tc te) σ H Q->vE nt js (lI ti) gh (lT tc) (lE te) σ H Q:=fun σ H Q cj=>(by obtain⟨W,M,α,δ,Qd,E,q,k⟩:=cj;exact(by
 refine⟨W,M,α,δ,_,E,q,fun ao δ1 H1 J dM E1 c1 yl D hD=>?_⟩;obtain⟨hsz,p,f,step,q1⟩:=dM;have s0:aC H1 (upd H1 D (.lst [])):=aC.new hD;refine⟨fun i m acc H2=>m=ao.length - i/\i<=ao.length/\H2 D=some (.lst acc)/\aA (fun b=>M b\/b=D) H2 acc (((ao.take i).filter p).map f)/\aC H1 H2/\jJ (fun b=>M b\/b=D) H2,⟨ao.length,by simp,Za _,af,.nil,s0,fun a ha=>?_⟩,?_⟩
 . rcases ha with ha | ha
   . obtain⟨o,e,n⟩:=E1.al a ha;exact⟨o,s0 _ _ e,n⟩
   . subst ha;exact⟨_,af,fun xs z=>by cases z⟩
 rintro i m acc H2 ⟨rfl,hi,tN,gr,s2,Gu⟩
 have kf:Kf M H1 H2:=fun b o e _=>s2 _ _ e;by_cases df:i < ao.length
 . have hb: ∀b,H1 b≠none-> ¬M b-> ¬(fun b=>M b\/b=D) b:=fun b n z y=>y.elim z fun w=>n (by rw[w];exact hD);obtain⟨go,qW⟩:=yl.go i H2 (fun b=>M b\/b=D) kf Gu hb df;have hlen:acc.length < sizeLine:=by
    rw[gr.1,Yt];exact af6 (YT (List.length_filter_le _ _) (by rw[Zu];omega)) (YW df hsz)
   refine .inr ⟨go,hlen,fun bG H'=>H' D=some (.lst bG)/\aA (fun b=>M b\/b=D) H' bG (((ao.take (i+1)).filter p).map f)/\aC H1 H'/\jJ (fun b=>M b\/b=D) H',fun bG H' iU=>(by obtain⟨z1,z2,z3,z4⟩:=iU;exact(⟨ao.length - (i+1),by omega,rfl,df,z1,z2,z3,z4⟩)),fun x H3 y=>?_⟩;obtain⟨s3,d,hd,rx⟩:=qW x H3 y;have E2:aB [] (fun b=>M b\/b=D) (List.replicate (nt+js.length) []) H2 (gq nt js σ) (cin nt js δ1):=by
    have su:aC (upd H1 D (.lst acc)) H2:=fun b o e=>by
     by_cases hb:b=D
     . subst hb;rw[af] at e;cases e;exact tN
     . rw[ag hb] at e;exact s2 _ _ e
    have Ea:aB [] (fun b=>M b\/b=D) α H2 σ δ1:=⟨E1.ls,E1.la,fun i s h=>let ⟨o,as,h1,h2,h3⟩:=E1.sl i s h;⟨o,as,h1,h2,(h3.grow (u:= .lst acc) hD).same su⟩,E1.nd,fun a h=> .inl (E1.mu a h),Gu,fun W hW=>absurd hW Yy⟩
    exact jD Ea
   have E3:=E2.same s3;have a0:(List.replicate (nt+js.length) ([]:List Addr)).flatten= []:=by simp
   refine sI _ _ _ _ ⟨[],_,_,_,d,_,E3,rx,step d (Zd hd),fun α4 δ4 σ4 q4 E4 hα=>?_⟩;have Du:α4.flatten= []:=Z8.mpr fun x hx=>by have:=hα x hx;rw[a0] at this;exact absurd this Yy
   refine⟨[],_,α4,δ4,_,E4,q4,fun b δ5 H5 jP E5 c5=>?_⟩;obtain⟨hp,q5⟩:=jP;have s5:aC H3 H5:=fun b o e=>c5 b o e (by rw[Du];exact Yy);have D0:aC H2 H5:=fun b o e=>s5 _ _ (s3 _ _ e);have tk:ao.take (i+1)=ao.take i++ [d]:=by rw[ag2,hd];rfl
   cases b with
   | false=>
    refine bF ⟨D0 _ _ tN,?_,fun b o e=>D0 _ _ (s2 _ _ e),E5.al⟩;rw[tk,af8,Y6];simp [<-hp];exact gr.same D0
   | true=>
    refine dD ⟨[],_,α4,δ5,_,E5,q5 rfl,fun r δ6 H6 v e6 E6 c6 r6=>?_⟩;subst e6;have s6:aC H5 H6:=fun b o e=>c6 b o e (by rw[Du];exact Yy);have Ag:aC H2 H6:=fun b o e=>s6 _ _ (D0 _ _ e);have RB:=Ag _ _ tN;have up: ∀{zs:List V} {ds:List Dt},aA (fun b=>M b\/b=D) H6 zs ds->aA (fun b=>M b\/b=D) (upd H6 D (.lst (acc++ [v]))) zs ds:=fun r=>r.mono fun a o e n=>⟨by rw[ag (fun z=>n (.inr z))];exact e,n⟩
    refine⟨RB,af,?_,fun b o e=>by rw[ag (aj e hD)];exact Ag _ _ (s2 _ _ e),fun a ha=>?_⟩
    . rw[tk,af8,Y6];have e1:List.filter p [d]= [d]:=by simp [<-hp]
      rw[e1];exact up ((gr.same Ag).append (.one r6))
    . by_cases hb:a=D
      . subst hb;exact⟨_,af,fun xs z=>by cases z⟩
      . rw[ag hb];exact E6.al a ha
 . have e:i=ao.length:=by omega
   subst e;refine .inl ⟨yl.stop H2 kf,?_⟩;rw[ab3] at gr;have eH:upd (fun b=>if b=D then none else H2 b) D (.lst acc)=H2:=by
    funext b
    by_cases hb:b=D
    . subst hb;rw[af,tN]
    . rw[ag hb,if_neg hb]
   rw[<-eH];have sH:aC H1 (fun b=>if b=D then none else H2 b):=fun b o e=>by
    show(if b=D then none else H2 b)=some o;rw[if_neg (aj e hD)];exact s2 _ _ e
   refine k _ _ _ _ _ q1 (E1.same sH) (c1.tr (da.of sH)) (gr.mono fun a o e n=>⟨?_,fun z=>n (.inl z)⟩) (by show(if D=D then none else H2 D)=none;rw[if_pos rfl]);show(if a=D then none else H2 a)=some o;rw[if_neg (fun z=>n (.inr z))];exact e))
theorem cm(S:iS X N nt js scope)(hc:X.calm=true)(hi:Iv X tg iter ti)(hg: ∀s H cl C ex,PG (dA X N scope s H cl C ex) tg gh)(eB:iR nt gh)(sI: ∀v σ H Q,lG g v σ H Q->gh v σ H Q)(hf: ∀s H cl C ex,PF (dA X N scope s H cl C ex) ifs (lT tc))(he: ∀s H cl C ex,Ev (dA X N scope s H cl C ex) elt te)(hs: ∀x,foldedSetIterable iter X.env x=pure x:=by intro _;rfl):Ov X (.ListComp elt [⟨tg,iter,ifs,0⟩] scope pos) (CJ nt js ti g tc te):=PE.imp (Ek S hc hi hg eB hf he hs) (oY sI)
theorem Ae(i:Nat){pos' py:Pos}(hN:X.N.Nodup)(S:iS X N nt js scope)(hc:X.calm=true)(hi:Iv X tg iter ti)(hg: ∀s H cl C ex,PG (dA X N scope s H cl C ex) tg gh)(eB:iR nt gh)(sI: ∀v σ H Q,lG g v σ H Q->gh v σ H Q)(hf: ∀s H cl C ex,PF (dA X N scope s H cl C ex) ifs (lT tc))(he: ∀s H cl C ex,Ev (dA X N scope s H cl C ex) elt te)(M9:X.N[i]?=some y:=by rfl)(hy:Loc X.env.scope y:=by first | exact Or.inl rfl | exact Or.inr rfl)(MP:swapsWith (.ListComp elt [⟨tg,iter,ifs,0⟩] scope pos) (some (.Name y py)) pos'.line X.env=pure true:=by rfl)(hs: ∀x,foldedSetIterable iter X.env x=pure x:=by intro _;rfl)(EX:X.fn y=true\/X.env.scope.names.lookup y=some .local:=by first | exact .inl rfl | exact .inr rfl | assumption):
  Ex X (.Assign [.Name y py] (.ListComp elt [⟨tg,iter,ifs,0⟩] scope pos) pos') (wY i (CJ nt js ti g tc te)):=PS.imp (vU hN M9 hy S hc hi hg eB hf he MP hs EX) fun D σ H h=>by
 obtain⟨Ws,M,α,δ,Δ,E,L,q⟩:=h;exact oY sI _ _ _ ⟨Ws,M,α,δ,_,E,q,fun ds δ' H1 xs a lJ E1 c1 r1 h1=>(by obtain⟨ok,q1⟩:=lJ;exact(L.nx _ _ _ _ _ (E1.lZ (s:= .ow ds) h1 (fun xs z=>by cases z) ok rfl ⟨a,xs,rfl,rfl,af,r1.grow h1⟩) q1))⟩
def GV:ny:=fun δ Q=>Q true δ
theorem cX:PF X [] (lT GV):=fun pins s σ H Q I kH=>(by obtain⟨W,M,α,δ,Qd,E,q,k⟩:=kH;exact(AG pins s σ H Q I (k _ _ _ q E da.rf)))
theorem GO(h:Tv X c t):PF X [c] (lT t):=IB h
theorem dh{nt i j:Nat}{K:PySem.W.Frag}(hi:i < nt:=by decide)(hj:j < nt:=by decide):iR nt (BM K 2 (gZ (cQ i) (gZ (cQ j) yy))):=BI (oR hi (uJ oQ) (oR hj oQ BJ))
end
structure y6(Ws:List Wd)(M:Addr->Prop)(α:List (List Addr))(a:Addr):Prop where
 m:M a
 n:a∉α.flatten
 w: ∀W∈Ws,(W.A0 a\/W.H0 a=none)/\ ¬W.M0 a
def Uz(M:Addr->Prop)(H:Hp)(v:V)(s:Sl)(as:List Addr):Prop:=s.dz=false/\qO M H (some v) s as
inductive C4(Ws:List Wd)(M:Addr->Prop)(α:List (List Addr))(H:Hp):List V->List Sl->List Addr->Prop where
 | nil:C4 Ws M α H [] [] []
 | cons {v:V} {s:Sl} {as bs:List Addr} {vs:List V} {ss:List Sl}:Uz M H v s as->(∀a∈as,y6 Ws M α a)->as.Nodup->(∀a∈as,a∉bs)->C4 Ws M α H vs ss bs->C4 Ws M α H (v::vs) (s::ss) (as++bs)
abbrev DA:=List Sl->(List Sl->List Sl->Prop)->Prop
inductive lH(t:DA)(σ:L2.St)(H:Hp)(Q:List V->Hp->Prop):Prop
 | mk (W:List Wd) (M:Addr->Prop) (α:List (List Addr)) (δ:List Sl) (Qd:List Sl->List Sl->Prop) (h1:aB W M α H σ δ) (h2:t δ Qd) (h3: ∀ss δ' H' vs M' bs,Qd ss δ'->aB W M' α H' σ δ'->da α H H'->(∀a,M a->M' a)->(∀a,M' a->M a\/H a=none)->C4 W M' α H' vs ss bs->(∀a∈bs,¬M a)->Q vs H')
abbrev Hv(X:Cx)(es:List Expr)(t:DA):Prop:=PA X es (lH t)
theorem qO.keep(h:qO M H o s as)(k: ∀b u,H b=some u-> ¬M b->H' b=some u/\ ¬M' b)(k2: ∀a∈as,∀u,H a=some u->H' a=some u)(nb:s.dz=false):qO M' H' o s as:=by
 cases s with
 | no=>exact h
 | im d=>exact⟨h.1,let ⟨v,e,r⟩:=h.2;⟨v,e,r.mono k⟩⟩
 | ow ds=>obtain⟨a,xs,e1,e2,e3,r⟩:=h;subst e1;exact⟨a,xs,rfl,e2,k2 a (by simp) _ e3,r.mono k⟩
 | bx t=>cases nb
 | dk ks ds=>obtain⟨a,vs,e1,e2,e3,e4,r⟩:=h;subst e1;exact⟨a,vs,rfl,e2,k2 a (by simp) _ e3,e4,r.mono k⟩
 | ob R=>obtain⟨v,e,r⟩:=h;exact⟨v,e,R.st r (fun a ha u q=>k2 a ha _ q) k⟩
 | fn f=>exact h
section
variable{X:Cx}{e:Expr}{es:List Expr}{t:bz}{th:DA}
def Ry:DA:=fun δ Q=>Q [] δ
def WB(t:bz)(th:DA):DA:=fun δ Q=>t δ fun d δ1=>th δ1 fun ss δ2=>Q (.im d::ss) δ2
theorem BE:Hv X [] Ry:=PA.imp aF fun σ H Q cj=>(by obtain⟨W,M,α,δ,Qd,E,q,k⟩:=cj;exact(k _ _ _ _ _ _ q E da.rf (fun _ z=>z) (fun _ z=> .inl z) .nil (fun a ha=>absurd ha Yy)))
theorem yu(ha:Ev X e t)(hr:Hv X es th)(hs:starEach (e::es) X.env=(false,eval e X.env)::starEach es X.env:=by rfl):Hv X (e::es) (WB t th):=PA.imp (ah ha hr hs) fun σ H Q dM=>(by obtain⟨W,M,α,δ,Qd,E,q,k⟩:=dM;exact(
 ⟨W,M,α,δ,_,E,q,fun d δ1 H1 x q1 E1 c1 r1=>⟨W,M,α,δ1,_,E1,q1,fun ss δ2 H2 vs M' bs q2 E2 c2 m1 m2 hh hb=>
  k _ _ _ _ _ _ q2 E2 (c1.tr c2) m1 (fun a z=>(m2 a z).elim .inl fun y=>by
   cases e:H a with
   | none=>exact .inr rfl
   | some o => by_cases hf : a ∈ α.flatten
               . exact .inl (E.mu a hf)
               . rw[c1 _ _ e hf] at y;cases y)
   (C4.cons (as:= []) ⟨rfl,rfl,x,rfl,r1.mono fun a o e n=>⟨c2 _ _ e fun z=>n (E1.mu a z),fun z=>(m2 a z).elim n fun y=>by rw[e] at y;cases y⟩⟩ (fun a ha=>absurd ha Yy) ab5 (fun a ha=>absurd ha Yy) hh) hb⟩⟩))
theorem aB.hold(E:aB W M α H σ δ)(hp:H p=none)(hu: ∀xs,u≠ .tup xs):aB W (fun b=>M b\/b=p) α (upd H p u) σ δ/\y6 W (fun b=>M b\/b=p) α p:=by
 have sm:aC H (upd H p u):=aC.new hp;have np:p∉α.flatten:=fun z=>E.fresh hp (E.mu p z);have h0: ∀W'∈W,W'.H0 p=none:=fun W' hW=>by
  cases e:W'.H0 p with
  | none=>rfl
  | some o=>exact absurd hp ((E.w W' hW).ex p (by rw[e];intro z;cases z))
 refine⟨⟨E.ls,E.la,fun j s hj=>let ⟨o,as,h1,h2,h3⟩:=E.sl j s hj;⟨o,as,h1,h2,h3.grow hp⟩,E.nd,fun a h=> .inl (E.mu a h),fun a ha=>?_,fun W' hW=>?_⟩,⟨.inr rfl,np,fun W' hW=>⟨.inr (h0 W' hW),fun z=>E.fresh hp ((E.w W' hW).m0 p z)⟩⟩⟩
 . rcases ha with ha | ha
   . obtain⟨o,e,n⟩:=E.al a ha;exact⟨o,sm _ _ e,n⟩
   . subst ha;exact⟨u,af,hu⟩
 . have k:=E.w W' hW;exact⟨fun b o e n=>sm _ _ (k.bs b o e n),fun b n y=>k.ex b n (LW.aC.none sm y),k.fr,fun a h=> .inl (k.m0 a h),fun a h=>h.elim (k.m1 a) fun z=> .inr (by rw[z];exact h0 W' hW),k.bx,k.fz⟩
end
theorem aB.vI(E:aB Ws M α H σ δ)(h:Uz M H v s as)(hh: ∀a∈as,y6 Ws M α a)(nd:as.Nodup)(ok:cE δ i):aB Ws M (α.set i as) H (σ.set i (some v)) (δ.set i s):=by
 have hi:=ok.lt;obtain⟨s0,Jp,nb⟩:=ok;refine⟨by rw[Y7,Y7,E.ls],by rw[Y7,Y7,E.la],fun j s' hj=>?_,bV E.nd nd (fun x hx=>(hh x hx).n),fun a ha=>(br ha).elim (E.mu a) fun z=>(hh a z).m,E.al,fun W hW=>?_⟩
 . by_cases bN:i=j
   . subst bN;rw[YO hi] at hj;cases hj;exact⟨some v,as,by rw[YO (by rw[E.ls];exact hi)],by rw[YO (by rw[E.la];exact hi)],h.2⟩
   . rw[YF bN] at hj;obtain⟨o,as,h1,h2,h3⟩:=E.sl j s' hj;exact⟨o,as,by rw[YF bN];exact h1,by rw[YF bN];exact h2,h3⟩
 . have k:=E.w W hW;refine⟨k.bs,k.ex,fun a ha=>(br ha).elim (k.fr a) fun z=>((hh a z).w W hW).1,k.m0,k.m1,fun d c e=>?_,fun j s W5 h1 h2 nb'=>?_⟩
   . obtain⟨t,e1,e2⟩:=k.bx d c e;have:i≠0:=fun z=>by subst z;rw[Jp] at e1;cases e1;cases nb
     exact⟨t,by rw[YF this];exact e1,by rw[YF this];exact e2⟩
   . by_cases bN:i=j
     . subst bN;rw[YO (by rw[E.la];exact hi)] at h2;cases h2;exact fun a ha=>((hh a ha).w W hW).2
     . rw[YF bN] at h1 h2;exact k.fz j s W5 h1 h2 nb'
theorem y6.set(h:y6 Ws M α a)(n:a∉as):y6 Ws M (α.set i as) a:=⟨h.m,fun z=>(br z).elim h.n n,h.w⟩
section
variable{X:Cx}{a b c:Expr}{pos:Pos}{th:DA}
inductive Fz(i:Nat)(j:Nat)(Δ:eK)(ss:List Sl)(δ':List Sl):Prop
 | mk (s1 s2:_) (h1:ss= [s1,s2]) (h2:cE δ' i) (h3:cE (δ'.set i s1) j) (h4:Δ.nx ((δ'.set i s1).set j s2))
def NO(i j:Nat)(th:DA):kG:=fun Δ δ=>th δ fun ss δ'=>Fz i j Δ ss δ'
theorem Ad(i j:Nat){kt k2 Ar}(hc:X.calm=true)(hN:X.N.Nodup)(ha:Hv X [a,b] th)(hi:X.N[i]?=some x:=by rfl)(hj:X.N[j]?=some y:=by rfl)(bN:i≠j:=by decide)(hx:X.env.scope.names.lookup x=some .local:=by rfl)(hy:X.env.scope.names.lookup y=some .local:=by rfl)(hw:swappedStores [.Tuple [.Name x px, .Name y py] kt pt] (.Tuple [a,b] k2 Ar) X.env=pure (some [x,y]):=by rfl)(hs:swapsWithSole [.Tuple [.Name x px, .Name y py] kt pt] (.Tuple [a,b] k2 Ar) pos.line X.env=pure false:=by rfl):
  Ex X (.Assign [.Tuple [.Name x px,.Name y py] kt pt] (.Tuple [a,b] k2 Ar) pos) (NO i j th):=PS.imp (Iq hc hN hi hj bN hx hy ha hw hs) fun D σ H lJ=>(by obtain⟨Ws,M,α,δ,Δ,E,L,q⟩:=lJ;exact(
 ⟨Ws,M,α,δ,_,E,q,fun ss δ' H' vs M' bs kH E1 c1 m1 m2 hh hb=>(by obtain⟨s1,s2,e,IQ,IP,q1⟩:=kH;exact(by
  subst e;cases hh with
  | cons h1 h2 h3 h4 h5=>
   cases h5 with
   | cons g1 g2 g3 g4 g5=>
    cases g5;rename_i v1 W4 v2 xj;have Ea:=E1.vI h1 h2 h3 IQ;have Eb:=Ea.vI (i:=j) g1 (fun a ha=>(g2 a ha).set fun z=>h4 a z (by simpa using ha)) g3 IP;exact⟨_,_,rfl,L.nx _ _ _ _ _ Eb q1⟩))⟩))
end
noncomputable def MD:Dt->Option Key
 | .int i=>some (.inl i)
 | .str x=>some (.inr x)
 | _=>none
theorem EJ(r:Rep M H v d)(h:MD d=some k):v=kV k:=by
 cases r <;> first | (cases h;rfl) | cases h
instance {k:Key} {ks:List Key}:Decidable (k∈ks):=decidable_of_iff ((ks.any fun x=>decide (x=k))=true) (by simp)
theorem CL(E:aB Ws M α H σ δ)(hb:δ[jb]?=some (.bx t))(hn:nt<=ib)(hj:js[ib - nt]?=some jb):
  ∃d c,σ[jb]?=some (some (.ref d))/\α[jb]?=some [d,c]/\tL H d c t/\(gq nt js σ)[ib]?=some (some (.ref d))/\aB [] M ((List.replicate (nt+js.length) []).set ib [d,c]) H (gq nt js σ) ((cin nt js δ).set ib (.bx t)):=by
 obtain⟨d,c,h1,h2,B⟩:=E.box hb;have E0:=jD (nt:=nt) (js:=js) E;have OW:=(YB.mp hj).1;have hlen:ib < (cin nt js δ).length:=by simp [cin];omega
 have hσ:(gq nt js σ)[ib]?=some (some (.ref d)):=by
  unfold gq;rw[Y8 (by simpa using hn),ZZ,YC,hj];show some ((σ[jb]?).join)=_;rw[h1];rfl
 have a0:(List.replicate (nt+js.length) ([]:List Addr)).flatten= []:=by simp
 have V1:ib < (List.replicate (nt+js.length) ([]:List Addr)).length:=by rw[E0.la];exact hlen
 refine⟨d,c,h1,h2,B,hσ,⟨by rw[Y7,E0.ls],by rw[Y7,Y7,E0.la],fun i s hs=>?_,bV E0.nd (by simp [B.ne]) (fun x hx=>by rw[a0];exact Yy),fun a ha=>?_,E.al,fun W hW=>absurd hW Yy⟩⟩
 . by_cases hi:ib=i
   . subst hi;rw[YO hlen] at hs;cases hs;exact⟨_,_,hσ,by rw[YO V1],d,c,rfl,rfl,B⟩
   . rw[YF hi] at hs;obtain⟨o,as,g1,g2,g3⟩:=E0.sl i s hs;exact⟨o,as,g1,by rw[YF hi];exact g2,g3⟩
 . rcases br ha with z | z
   . rw[a0] at z;exact absurd z Yy
   . exact E.mu a (aL h2 z)
theorem aB.grow(E:aB Ws M α H σ δ)(hD:H D=none)(hu: ∀xs,u≠ .tup xs):aB Ws (fun b=>M b\/b=D) α (upd H D u) σ δ:=(E.hold hD hu).1
section
variable{X:Cx}{N:List Str}{nt:Nat}{js:List Nat}{scope:Scope}{elt tg iter:Expr}{ifs:List Expr}{pos:Pos}{ti:n5}{g:tK}{tc:ny}{te:bz}{ib jb:Nat}
def CH(nt:Nat)(js:List Nat)(ib jb:Nat)(ti:n5)(g:tK)(te:bz):zk:=fun δ Q=>ti δ fun ao δ1=> ∃(t0:Int) (P:Nat->List Dt->Int->Prop),δ1[jb]?=some (.bx t0)/\P 0 [] t0/\
 (∀i d acc t,ao[i]?=some d->P i acc t->acc.length < sizeLine/\g d ((cin nt js δ1).set ib (.bx t)) fun δ2=>δ2[ib]?=some (.bx t)/\te δ2 fun r δ3=> ∃t',δ3[ib]?=some (.bx t')/\P (i+1) (acc++ [r]) t')/\ ∀acc t,P ao.length acc t->Q acc (δ1.set jb (.bx t))
theorem FV(E:aB Ws M α H σ δ)(hb:δ[jb]?=some (.bx t))(h1:σ[jb]?=some (some (.ref d)))(h2:α[jb]?=some [d,c])(Ei:aB [] M αi H' σi δi)(hi:δi[ib]?=some (.bx t'))(hσ:σi[ib]?=some (some (.ref d)))(hα: ∀x∈αi.flatten,x=d\/x=c)(ch: ∀b o,H b=some o->b≠d->b≠c->H' b=some o):aB Ws M α H' σ (δ.set jb (.bx t'))/\da α H H'/\tL H' d c t':=by
 obtain⟨d',c',g1,g2,B⟩:=Ei.box hi;rw[hσ] at g1;cases g1;have hc:c'=c:=by
  rcases hα c' (aL g2 (by simp)) with z | z
  . exact absurd z.symm B.ne
  . exact z
 subst hc;obtain⟨E',WY⟩:=xf E hb h1 h2 (H':=H') (fun b o e n1 n2=>ch b o e n1 n2) B;exact⟨E',WY,B⟩
theorem aB.Hu(E:aB Ws (fun b=>M b\/b=D) α H σ δ)(nM: ¬M D)(nα:D∉α.flatten)(nW: ∀W∈Ws,W.H0 D=none/\ ¬W.M0 D):aB Ws M α (fun b=>if b=D then none else H b) σ δ:=by
 have rep: ∀{v:V} {d:Dt},Rep (fun b=>M b\/b=D) H v d->Rep M (fun b=>if b=D then none else H b) v d:=fun r=>r.mono fun a o e n=>⟨by show(if a=D then none else H a)=some o;rw[if_neg (fun z=>n (.inr z))];exact e,fun z=>n (.inl z)⟩
 have Ak: ∀{v:List V} {d:List Dt},aA (fun b=>M b\/b=D) H v d->aA M (fun b=>if b=D then none else H b) v d:=fun r=>r.mono fun a o e n=>⟨by show(if a=D then none else H a)=some o;rw[if_neg (fun z=>n (.inr z))];exact e,fun z=>n (.inl z)⟩
 have nd: ∀{a:Addr} {o:HO},H a=some o->a≠D->(fun b=>if b=D then none else H b) a=some o:=fun{a o} e n=>by show(if a=D then none else H a)=some o;rw[if_neg n];exact e
 refine⟨E.ls,E.la,fun i s h=>?_,E.nd,fun a ha=>(E.mu a ha).elim id fun z=>by subst z;exact absurd ha nα,fun a ha=>?_,fun W hW=>?_⟩
 . obtain⟨o,as,h1,h2,h3⟩:=E.sl i s h;have na: ∀a∈as,a≠D:=fun a ha z=>nα (z▸aL h2 ha);refine⟨o,as,h1,h2,?_⟩;cases s with
   | no=>exact h3
   | im d=>exact⟨h3.1,let ⟨v,e,r⟩:=h3.2;⟨v,e,rep r⟩⟩
   | ow ds=>obtain⟨a,xs,e1,e2,e3,r⟩:=h3;subst e1;exact⟨a,xs,rfl,e2,nd e3 (na a (by simp)),Ak r⟩
   | bx t=>
    obtain⟨d,c,e1,e2,r⟩:=h3;subst e1;obtain⟨ns,h,q⟩:=r.cs;exact⟨d,c,rfl,e2,nd r.dc (na d (by simp)),⟨ns,nd h (na c (by simp)),q⟩,r.t0,r.t1⟩
   | dk ks ds=>obtain⟨a,vs,e1,e2,e3,e4,r⟩:=h3;subst e1;exact⟨a,vs,rfl,e2,nd e3 (na a (by simp)),e4,Ak r⟩
   | ob R=>obtain⟨v,e,r⟩:=h3;exact⟨v,e,R.st r (fun a ha u q=>nd q (na a ha)) fun a o q n=>⟨nd q fun z=>n (.inr z),fun z=>n (.inl z)⟩⟩
   | fn f=>exact h3
 . obtain⟨o,e,n⟩:=E.al a (.inl ha);exact⟨o,nd e (fun z=>nM (z▸ha)),n⟩
 . have k:=E.w W hW;obtain⟨w1,w2⟩:=nW W hW;refine⟨fun b o e n=>nd (k.bs b o e n) (fun z=>by subst z;rw[w1] at e;cases e),fun b n y=>?_,k.fr,fun a h=>(k.m0 a h).elim id fun z=>by subst z;exact absurd h w2,fun a h=>k.m1 a (.inl h),k.bx,k.fz⟩;have hb:b≠D:=fun z=>n (by rw[z];exact w1);have y':(if b=D then none else H b)=none:=y;rw[if_neg hb] at y';exact k.ex b n y'
theorem uW(sI: ∀v σ H Q,lG g v σ H Q->gh v σ H Q)(hn:nt<=ib)(hj:js[ib - nt]?=some jb): ∀σ H Q,lO (CH nt js ib jb ti g te) σ H Q->vE nt js (lI ti) gh zQ (lE te) σ H Q:=fun σ H Q cj=>(by obtain⟨W,M,α,δ,Qd,E,q,k⟩:=cj;exact(by
 refine⟨W,M,α,δ,_,E,q,fun ao δ1 H1 J dM E1 c1 yl D hD=>?_⟩;obtain⟨t0,P,OY,p0,step,fin⟩:=dM;have nM: ¬M D:=E1.fresh hD;have nα:D∉α.flatten:=fun z=>nM (E1.mu D z);have nW: ∀W'∈W,W'.H0 D=none/\ ¬W'.M0 D:=fun W' hW=>⟨by
  cases e:W'.H0 D with
  | none=>rfl
  | some o=>exact absurd hD ((E1.w W' hW).ex D (by rw[e];intro z;cases z)),fun z=>nM ((E1.w W' hW).m0 D z)⟩
 obtain⟨d,c,h1,h2,B0⟩:=E1.box OY;have OW:=(YB.mp OY).1;have e0:δ1.set jb (.bx t0)=δ1:=by
  refine ZN fun i=>?_;by_cases hi:jb=i
  . subst hi;rw[YO OW,OY]
  . rw[YF hi]
 have FP: ∀t,cin nt js (δ1.set jb (.bx t))=cin nt js δ1:=fun t=>by
  unfold cin;congr 1
  refine Y0 fun j _=>?_;by_cases TL:jb=j
  . subst TL;rw[List.getD,List.getD,YO OW,OY];rfl
  . rw[List.getD,List.getD,YF TL]
 refine⟨fun i m acc H2=>m=ao.length - i/\i<=ao.length/\ ∃ds t,H2 D=some (.lst acc)/\aA (fun b=>M b\/b=D) H2 acc ds/\P i ds t/\aB W (fun b=>M b\/b=D) α H2 σ (δ1.set jb (.bx t))/\ ∀b o,H1 b=some o->b≠d->b≠c->H2 b=some o,⟨ao.length,by simp,Za _,[],t0,af,.nil,p0,?_,fun b o e _ _=>by rw[ag (aj e hD)];exact e⟩,?_⟩
 . rw[e0];exact E1.grow hD (fun xs z=>by cases z)
 rintro i m acc H2 ⟨rfl,hi,ds,t,tN,gr,pi,E2,Sn⟩
 have kf:Kf M H1 H2:=fun b o e n=>Sn b o e (fun z=>n (by rw[z];exact E1.mu d (aL h2 (by simp)))) (fun z=>n (by rw[z];exact E1.mu c (aL h2 (by simp))));by_cases df:i < ao.length
 . have Rr: ∀b,H1 b≠none-> ¬M b-> ¬(fun b=>M b\/b=D) b:=fun b n z y=>y.elim z fun w=>n (by rw[w];exact hD);obtain⟨go,qW⟩:=yl.go i H2 (fun b=>M b\/b=D) kf E2.al Rr df;have MY:acc.length < sizeLine:=by
    rw[gr.1];exact(step i _ ds t (Ys df) pi).1
   refine .inr ⟨go,MY,fun bG H'=> ∃ds t,H' D=some (.lst bG)/\aA (fun b=>M b\/b=D) H' bG ds/\P (i+1) ds t/\aB W (fun b=>M b\/b=D) α H' σ (δ1.set jb (.bx t))/\ ∀b o,H1 b=some o->b≠d->b≠c->H' b=some o,fun bG H' z=>⟨ao.length - (i+1),by omega,rfl,df,z⟩,fun x H3 y=>?_⟩;obtain⟨s3,x',BC,rx⟩:=qW x H3 y;have Fc:(δ1.set jb (.bx t))[jb]?=some (.bx t):=by rw[YO OW]
   have E3:=E2.same s3;obtain⟨d3,c3,g1,g2,B3,gσ,Ei⟩:=CL (nt:=nt) (js:=js) E3 Fc hn hj;rw[h1] at g1;cases g1;rw[h2] at g2;cases g2;rw[FP] at Ei;refine sI _ _ _ _ ⟨[],_,_,_,x',_,Ei,rx,(step i x' ds t BC pi).2,fun α4 δ4 σ4 iU E4 hα=>?_⟩;obtain⟨b4,q4⟩:=iU;have a0:(List.replicate (nt+js.length) ([]:List Addr)).flatten= []:=by simp
   have Jo: ∀x∈α4.flatten,x=d\/x=c:=fun x hx=>by
    rcases br (hα x hx) with z | z
    . rw[a0] at z;exact absurd z Yy
    . simpa using z
   have QS:σ4[ib]?=some (some (.ref d)):=by
    obtain⟨d',c',f1,f2,B4⟩:=E4.box b4;rcases Jo d' (aL f2 (by simp)) with z | z
    . rw[<-z];exact f1
    . obtain⟨ns,hc,_⟩:=B3.cs;have:=B4.dc;rw[z,hc] at this;cases this
   unfold zQ;dsimp only;refine dD ⟨[],_,α4,δ4,_,E4,q4,fun r δ5 H5 v jP E5 c5 r5=>?_⟩;obtain⟨t',b5,p5⟩:=jP;have K7: ∀b o,H3 b=some o->b≠d->b≠c->H5 b=some o:=fun b o e n1 n2=>c5 b o e fun z=>(Jo b z).elim n1 n2;have Vy:D≠d:=fun z=>nα (z▸aL h2 (by simp));have Vz:D≠c:=fun z=>nα (z▸aL h2 (by simp));have WE:H5 D=some (.lst acc):=K7 D _ (s3 _ _ tN) Vy Vz;obtain⟨Eo,Yp,Bo⟩:=FV E3 Fc h1 h2 E5 b5 QS Jo K7;have e5:(δ1.set jb (.bx t)).set jb (.bx t')=δ1.set jb (.bx t'):=List.set_set ..;rw[e5] at Eo;have L3:aA (fun b=>M b\/b=D) H5 acc ds:=(gr.same s3).mono fun a o e n=>⟨K7 a o e (fun z=>n (.inl (by rw[z];exact E1.mu d (aL h2 (by simp))))) (fun z=>n (.inl (by rw[z];exact E1.mu c (aL h2 (by simp))))),n⟩
   have up: ∀{zs:List V} {es:List Dt},aA (fun b=>M b\/b=D) H5 zs es->aA (fun b=>M b\/b=D) (upd H5 D (.lst (acc++ [v]))) zs es:=fun r=>r.mono fun a o e n=>⟨by rw[ag (fun z=>n (.inr z))];exact e,n⟩
   refine⟨WE,ds++ [r],t',af,up (L3.append (.one r5)),p5,?_,fun b o e n1 n2=>by rw[ag (aj e hD)];exact K7 _ _ (s3 _ _ (Sn b o e n1 n2)) n1 n2⟩;refine⟨Eo.ls,Eo.la,fun i2 s2 kq=>?_,Eo.nd,Eo.mu,fun a ha=>?_,fun W' hW=>?_⟩
   . obtain⟨o,as,f1,f2,f3⟩:=Eo.sl i2 s2 kq;have na: ∀a∈as,a≠D:=fun a ha z=>nα (z▸aL f2 ha);have nd: ∀{a:Addr} {o:HO},H5 a=some o->a≠D->(upd H5 D (.lst (acc++ [v]))) a=some o:=fun e n=>by rw[ag n];exact e
     refine⟨o,as,f1,f2,?_⟩;cases s2 with
     | no=>exact f3
     | im d=>exact⟨f3.1,let ⟨w,e,r⟩:=f3.2;⟨w,e,r.mono fun a o e n=>⟨by rw[ag (fun z=>n (.inr z))];exact e,n⟩⟩⟩
     | ow ds=>obtain⟨a,xs,e1,e2,e3,r⟩:=f3;subst e1;exact⟨a,xs,rfl,e2,nd e3 (na a (by simp)),up r⟩
     | bx t=>
      obtain⟨d,c,e1,e2,r⟩:=f3;subst e1;obtain⟨ns,h,q⟩:=r.cs;exact⟨d,c,rfl,e2,nd r.dc (na d (by simp)),⟨ns,nd h (na c (by simp)),q⟩,r.t0,r.t1⟩
     | dk ks ds=>obtain⟨a,vs,e1,e2,e3,e4,r⟩:=f3;subst e1;exact⟨a,vs,rfl,e2,nd e3 (na a (by simp)),e4,up r⟩
     | ob R=>obtain⟨w,e,r⟩:=f3;exact⟨w,e,R.st r (fun a ha u q=>nd q (na a ha)) fun a o q n=>⟨by rw[ag (fun z=>n (.inr z))];exact q,n⟩⟩
     | fn f=>exact f3
   . by_cases hb:a=D
     . subst hb;exact⟨_,af,fun xs z=>by cases z⟩
     . rw[ag hb];exact Eo.al a ha
   . have kk:=Eo.w W' hW;obtain⟨w1,w2⟩:=nW W' hW;refine⟨fun b o e n=>?_,fun b n y=>?_,kk.fr,kk.m0,kk.m1,kk.bx,kk.fz⟩
     . have hb:b≠D:=fun z=>by subst z;rw[w1] at e;cases e
       rw[ag hb];exact kk.bs b o e n
     . by_cases hb:b=D
       . subst hb;rw[af] at y;cases y
       . rw[ag hb] at y;exact kk.ex b n y
 . have e:i=ao.length:=by omega
   subst e;refine .inl ⟨yl.stop H2 kf,?_⟩;have eH:upd (fun b=>if b=D then none else H2 b) D (.lst acc)=H2:=by
    funext b
    by_cases hb:b=D
    . subst hb;rw[af,tN]
    . rw[ag hb,if_neg hb]
   rw[<-eH];have ch:da α H1 (fun b=>if b=D then none else H2 b):=fun b o e n=>by
    show(if b=D then none else H2 b)=some o;rw[if_neg (aj e hD)];exact Sn b o e (fun z=>n (by rw[z];exact aL h2 (by simp))) (fun z=>n (by rw[z];exact aL h2 (by simp)))
   refine k _ _ _ _ _ (fin ds t pi) (E2.Hu nM nα nW) (c1.tr ch) (gr.mono fun a o e n=>⟨?_,fun z=>n (.inl z)⟩) (by show(if D=D then none else H2 D)=none;rw[if_pos rfl]);show(if a=D then none else H2 a)=some o;rw[if_neg (fun z=>n (.inr z))];exact e))
end
section
variable{X:Cx}{N:List Str}{nt:Nat}{js:List Nat}{scope:Scope}{elt tg iter e f a b:Expr}{ifs:List Expr}{pos:Pos}{ti:n5}{g:tK}{tc:ny}{te t tv tb:bz}{ib jb:Nat}{gh:TG}
theorem DY(i ib jb:Nat){pos' py:Pos}(hN:X.N.Nodup)(S:iS X N nt js scope)(hc:X.calm=true)(hi:Iv X tg iter ti)(hg: ∀s H cl C ex,PG (dA X N scope s H cl C ex) tg gh)(eB:iR nt gh)(sI: ∀v σ H Q,lG g v σ H Q->gh v σ H Q)(he: ∀s H cl C ex,Ev (dA X N scope s H cl C ex) elt te)(hn:nt<=ib:=by decide)(hj:js[ib - nt]?=some jb:=by rfl)(M9:X.N[i]?=some y:=by rfl)(hy:Loc X.env.scope y:=by first | exact Or.inl rfl | exact Or.inr rfl)(MP:swapsWith (.ListComp elt [⟨tg,iter,[],0⟩] scope pos) (some (.Name y py)) pos'.line X.env=pure true:=by rfl)(hs: ∀x,foldedSetIterable iter X.env x=pure x:=by intro _;rfl)(EX:X.fn y=true\/X.env.scope.names.lookup y=some .local:=by first | exact .inl rfl | exact .inr rfl | assumption):
  Ex X (.Assign [.Name y py] (.ListComp elt [⟨tg,iter,[],0⟩] scope pos) pos') (wY i (CH nt js ib jb ti g te)):=PS.imp (vU hN M9 hy S hc hi hg eB (fun _ _ _ _ _=>AG) he MP hs EX) fun D σ H h=>by
 obtain⟨Ws,M,α,δ,Δ,E,L,q⟩:=h;exact uW sI hn hj _ _ _ ⟨Ws,M,α,δ,_,E,q,fun ds δ' H1 xs a cj E1 c1 r1 h1=>(by obtain⟨ok,q1⟩:=cj;exact(L.nx _ _ _ _ _ (E1.lZ (s:= .ow ds) h1 (fun xs z=>by cases z) ok rfl ⟨a,xs,rfl,rfl,af,r1.grow h1⟩) q1))⟩
def Se(t:bz)(g:tK):kG:=fun Δ δ=>t δ fun d δ'=>g d δ' Δ.nx
theorem Af(he:Ev X e t)(hg:Gv X tg g)(hs:swapsWithSole [tg] e pos.line X.env=pure false:=by rfl)(hw:swappedStores [tg] e X.env=pure none:=by rfl)(h1:(assignEach [tg] X.env).map (·.2)= [assign tg X.env]:=by rfl):Ex X (.Assign [tg] e pos) (Se t g):=
 PS.imp (pX he hg hs hw h1) fun D σ H dM=>(by obtain⟨Ws,M,α,δ,Δ,E,L,q⟩:=dM;exact(⟨Ws,M,α,δ,_,E,q,fun d δ' H' v q1 E1 c1 r1=>⟨Ws,M,α,δ',d,_,E1,r1,q1,fun α' δ2 σ2 q2 E2 _=>L.nx _ _ _ _ _ E2 q2⟩⟩))
end
def rH(K:PySem.W.Frag):Sp:=fun vs H Q _=> ∃(a:Addr) (ns:List Int),vs= [.ref a]/\cY K H a (ns.map V.int)/\ns.length<=63/\ ∀H',Q (.bl true) H'
def om:DB:=fun t ds Q=> ∃m,ds= [.int m]/\t < 1000000/\0 < m/\m < 2^64/\ ∀r,0<=r->r < m->Q (.int r) (t+1)
theorem DM(h:t6 om vs H Q E):zZ vs H Q E:=by
 obtain⟨M,d,c,t,ws,ds,Qd,rfl,al,md,mc,B,r,⟨m,rfl,t1,m0,m1,q⟩,k⟩:=h;obtain⟨x,ys,rfl,r1,r2⟩:=r.aQ;cases r2.eV;cases r1.ofInt;exact⟨d,c,t,m,rfl,B,t1,m0,m1,fun r H' r0 r1 B' kp=>k _ _ _ _ (q r r0 r1) kp B' (.int r)⟩
section
variable{P:Program}{w:World}{K:PySem.W.Frag}{mg:Str->Option Value}{base:Heap}
theorem MC {st : Stmt} {k : Nat} (F : ip K "law" "law" st f fd) (sc : aM N ["_law_script"] (ae st)) (hN : 2 <= N.length) (fG : ∀ (bZ : Value) (A : Around) (outer : List Env) (s : Shared) (H : Hp) (E : XK), bM k (A.deeper (envOfC "law" (ae st) s.heap.objs.size f bZ)) ->
   ∃s1 rest T,cc st=s1::rest/\PS (kN eM P w K mg base N "law" (ae st) f bZ A outer s H E).Bb s1 (zV (zU (pH K) [] E0 (lY (gG 0) rF)) (cQ 1))/\zj (kN eM P w K mg base N "law" (ae st) f bZ A outer s H E).Bb rest T/\
    T {nx:=fun _=>False,rt:=fun d _=>d= .bl true} (.no:: .bx 0::List.replicate (N.length - 2) .no)):bp P w K mg base eM (k+1) f fd ["_law_script"] (rH K):=by
 refine F.ok sc (fun vs H Q E h=>?_) (fun bZ A outer s H vs Q E hr h=>?_)
 . obtain⟨a,ns,rfl,_⟩:=h;rfl
 . obtain⟨a,ns,rfl,hS,hlen,q⟩:=h;obtain⟨s1,rest,T,e,h1,h2,hT⟩:=fG bZ A outer s H E hr;rw[e];refine⟨_,bK h1 h2,?_⟩;have es:L2.start N [V.ref a]=some (.ref a)::none::List.replicate (N.length - 2) none:=by
    unfold L2.start;rw[show N.length - [V.ref a].length=(N.length - 2)+1 by show N.length - 1=_;omega,List.replicate_succ];rfl
   rw[es];refine⟨_,rfl,a,ns,rfl,hS,hlen,fun d c H1 B1 Xy=>?_⟩;have a0:(([]:List Addr):: [d,c]::List.replicate (N.length - 2) []).flatten= [d,c]:=by simp
   refine⟨[],fun b=>b=d\/b=c,[]:: [d,c]::List.replicate (N.length - 2) [],.no:: .bx 0::List.replicate (N.length - 2) .no,_,?_,?_,hT⟩
   . refine⟨by simp,by simp,fun i s' hi=>?_,by rw[a0];simp [B1.ne],fun b hb=>by rw[a0] at hb;simpa using hb,fun b hb=>?_,fun W hW=>absurd hW Yy⟩
     . match i with
       | 0=>cases hi;exact⟨_,_,rfl,rfl,rfl⟩
       | 1=>cases hi;exact⟨_,_,rfl,rfl,d,c,rfl,rfl,B1⟩
       | i+2=>
        have jN:(List.replicate (N.length - 2) Sl.no)[i]?=some s':=by simpa using hi
        rw[YY] at jN;split at jN
        . rename_i df;cases jN;refine⟨none,[],?_,?_,rfl⟩
          . show(List.replicate (N.length - 2) (none:Option V))[i]?=_;rw[YY,if_pos df]
          . show(List.replicate (N.length - 2) ([]:List Addr))[i]?=_;rw[YY,if_pos df]
        . cases jN
     . rcases hb with rfl | rfl
       . exact⟨_,B1.dc,fun xs z=>by cases z⟩
       . obtain⟨ns,h,_⟩:=B1.cs;exact⟨_,h,fun xs z=>by cases z⟩
   . exact⟨fun _ _ _ _ _ _ z=>z.elim,fun M' α' H' σ' δ' v dd E' r' z=>by subst z;rw[r'.A9];exact q H',fun _ _ _ _ _ _ z=>z.elim,fun _ _ _ _ _ _ z=>z.elim⟩
end
section
variable{X:Cx}{a b c e:Expr}{es:List Expr}{ta tb tc t:bz}{tA:gn}{pos p:Pos}
theorem ints_rep: ∀{xs:List V} {ns:List Int},aA M H xs (ns.map .int)->xs=ns.map V.int
 | [],[],_=>rfl
 | [],_::_,h=>by have:=h.1;simp at this
 | _::_,[],h=>by have:=h.1;simp at this
 | x::xs,n::ns,h=>by
  rw[YV] at h;obtain⟨y,ys,e,r1,r2⟩:=h.aQ;cases e;rw[r1.ofInt,ints_rep r2,YV]
theorem qE:bootBuiltins "sorted"=some (.builtin "sorted"):=by decide+kernel
theorem yS:bootBuiltins "max"=some (.builtin "max"):=by decide+kernel
theorem yU:bootBuiltins "all"=some (.builtin "all"):=by decide+kernel
theorem cK(h:aA M H xs [d]): ∃x,xs= [x]/\Rep M H x d:=by
 obtain⟨x,ys,rfl,r1,r2⟩:=h.aQ;cases r2.eV;exact⟨x,rfl,r1⟩
theorem o6: ∀{xs:List V} {ns:List Bool},aA M H xs (ns.map .bl)->xs=ns.map V.bl
 | [],[],_=>rfl
 | [],_::_,h=>by have:=h.1;simp at this
 | _::_,[],h=>by have:=h.1;simp at this
 | x::xs,n::ns,h=>by
  rw[YV] at h;obtain⟨y,ys,e,r1,r2⟩:=h.aQ;cases e;rw[r1.A9,o6 r2,YV]
inductive Ox(ds:List Dt)(Q:Dt->Prop):Prop
 | mk (bs:List Bool) (h1:ds= [.lst (bs.map .bl)]) (h2:Q (.bl (bs.all id)))
theorem Cy(hc:X.calm=true)(hm:X.mg "all"=none)(ha:Av X [e] tA)(hg:Gl X "all":=by rfl)(he:starEach [e] X.env=(false,eval e X.env)::starEach [] X.env:=by rfl)(cN:(backTo pos (starEach [] X.env)).any (·.1)=false:=by rfl):
  Ev X (.Call (.Name "all" p) [e] [] pos) (wZ Ox tA):=fV (CO hc) (fun M H xs ds Qd Q al r kH k=>(by obtain⟨bs,e,q⟩:=kH;exact(by
 subst e;obtain⟨x,rfl,r1⟩:=cK r;obtain⟨a,zs,rfl,ha,n,rr⟩:=r1.dF;rw[o6 rr] at ha;exact⟨a,bs,rfl,cY.of ha,k H _ _ q (fun _ _ z=>z) (.bl _)⟩))) hg hm yU ha (by decide) (by decide) he cN
end
section
variable{X:Cx}{a b c e:Expr}{es:List Expr}{ta tb tc t:bz}{tA:gn}{pos p apos eG:Pos}
inductive CC(Q:List Dt->List Sl->Prop)(es:List Dt)(ks:List Dt)(δ2:List Sl):Prop
 | mk (ds:_) (h1:es= [.tup ds]) (h2:ks= [.int 1]) (h3:Q (cf 1 ds) δ2)
def CD(tA tk:gn):n5:=fun δ Q=>tA δ fun es δ1=>tk δ1 fun ks δ2=>CC Q es ks δ2
theorem ER{x1}(hm:X.mg "enumerate"=none)(ha:Av X [e] tA)(hk:PK X kn tk)(V3: ∀σ H Q,lA U3 σ H Q->tk σ H Q)(hg:Gl X "enumerate":=by rfl)(wH:(backToKw pos (keywordEach kn X.env)).filterMap (·.1)=(["start"]:List Str):=by rfl)(k1:backTo pos (starEach [e] X.env)=(false,eval e X.env)::backTo pos (starEach [] X.env):=by rfl)(k2:(backTo pos (starEach [e] X.env)).any (·.1)=false:=by rfl)(k3:(backToKw pos (keywordEach kn X.env)).all (·.1.isSome)=true:=by rfl)(k4:(backToKw pos (keywordEach kn X.env)).any (·.1.isNone)=false:=by rfl):Iv X (.Tuple es x1 tp) (.Call (.Name "enumerate" p) [e] kn pos) (CD tA U3):=
 PI.imp (AD hg hm ha hk wH k1 k2 k3 k4) fun σ H R nA=>(by obtain⟨W,M,α,δ,Qd,E,q,k⟩:=nA;exact(⟨W,M,α,δ,_,E,q,fun es δ1 H1 vs q1 E1 c1 r1=>V3 _ _ _ ⟨W,M,α,δ1,_,E1,q1,fun ks δ2 H2 zs pA E2 c2 r2=>(by obtain⟨ds,e1,e2,q2⟩:=pA;exact(by
  subst e1;subst e2;obtain⟨x,rfl,rx⟩:=cK (r1.chg E1 c2);obtain⟨y,rfl,ry⟩:=cK r2;cases ry.ofInt;obtain⟨a,xs,rfl,ha,n,rr⟩:=rx.bE;exact⟨a,rfl,rfl,⟨xs,dE.of ha⟩,k _ _ _ _ q2 E2 (c1.tr c2) (vo ha n rr)⟩))⟩⟩))
theorem yL: ∀σ H Q,lA (CF t J5) σ H Q->lY (lE t) rF σ H Q:=fun σ H Q nz=>(by obtain⟨W,M,α,δ,Qd,E,q,k⟩:=nz;exact(⟨W,M,α,δ,_,E,q,fun d δ1 H1 x q1 E1 c1 r1=>k _ _ _ _ q1 E1 c1 (.one r1)⟩))
theorem wz{x1}(hm:X.mg "enumerate"=none)(ha:Av X [e] tA)(hf:Ev X f t)(hg:Gl X "enumerate":=by rfl)(wH:(backToKw pos (keywordEach [⟨nm,f,qd⟩] X.env)).filterMap (·.1)=(["start"]:List Str):=by rfl)(k1:backTo pos (starEach [e] X.env)=(false,eval e X.env)::backTo pos (starEach [] X.env):=by rfl)(k2:(backTo pos (starEach [e] X.env)).any (·.1)=false:=by rfl)(k3:(backToKw pos (keywordEach [⟨nm,f,qd⟩] X.env)).all (·.1.isSome)=true:=by rfl)(k4:(backToKw pos (keywordEach [⟨nm,f,qd⟩] X.env)).any (·.1.isNone)=false:=by rfl):Iv X (.Tuple es x1 tp) (.Call (.Name "enumerate" p) [e] [⟨nm,f,qd⟩] pos) (CD tA (CF t J5)):=
 ER hm ha (vX hf Az) yL hg wH k1 k2 k3 k4
inductive FD(neg:Bool)(Q:Dt->List Sl->Prop)(d:Dt)(δ':List Sl):Prop
 | mk (ds:_) (h1:d= .lst ds) (h2:Q (.bl (if neg then !ds.isEmpty else ds.isEmpty)) δ')
def GX(neg:Bool)(ta:bz):bz:=fun δ Q=>ta δ fun d δ'=>FD neg Q d δ'
theorem ya(hr: ∀(H:Hp) (Q:VK) (p q:Addr) (xs:List V),H p=some (.lst xs)->H q=some (.lst [])->Q (.bl (if neg then !xs.isEmpty else xs.isEmpty)) H->r (.ref p) (.ref q) H Q): ∀σ H Q,lE (GX neg ta) σ H Q->KJ r (lE ta) (LJ rF) σ H Q:=fun σ H Q gx=>(by obtain⟨W,M,α,δ,Qd,E,q,k⟩:=gx;exact(
 ⟨W,M,α,δ,_,E,q,fun d δ1 H1 x jS E1 c1 r1=>(by obtain⟨ds,e,q1⟩:=jS;exact(⟨Za _,fun p hp=>by
  subst e;obtain⟨a,xs,rfl,ha,n,rr⟩:=r1.dF;have s:aC H1 (upd H1 p (.lst [])):=aC.new hp;exact hr _ _ _ _ xs (s _ _ ha) af (by rw[yE rr];exact k _ _ _ _ q1 (E1.same s) (c1.tr (da.of s)) (.bl _))⟩))⟩))
theorem JO{K:PySem.W.Frag}: ∀(H:Hp) (Q:VK) (p q:Addr) (xs:List V),H p=some (.lst xs)->H q=some (.lst [])->Q (.bl (if false=true then !xs.isEmpty else xs.isEmpty)) H->vP K (.ref p) (.ref q) H Q:=fun H Q p q xs h1 h2 z=>⟨p,q,xs,rfl,rfl,cY.of h1,cY.of h2,z⟩
theorem Cu(hu:X.A.units < cLine)(ha:Ev X a ta):Ev X (.Compare a [.Eq] [.List [] p2] pos) (GX false ta):=PE.imp (vY (oE hu) ha (pZ aF) (fO _)) (ya JO)
end
section
variable{X:Cx}{a b c:Expr}{pos:Pos}{th:DA}
inductive CB(i:Nat)(j:Nat)(Δ:eK)(ss:List Sl)(δ':List Sl):Prop
 | mk (s1 s2:_) (h1:ss= [s1,s2]) (h2:cE δ' i) (h3:cE (δ'.set i s1) j) (h4:Δ.nx ((δ'.set i s1).set j s2))
def J4(i j:Nat)(th:DA):kG:=fun Δ δ=>th δ fun ss δ'=>CB i j Δ ss δ'
theorem DX(i j:Nat){kt k2 Ar}(hc:X.calm=true)(hN:X.N.Nodup)(ha:Hv X [a,b] th)(hi:X.N[i]?=some x:=by rfl)(hj:X.N[j]?=some y:=by rfl)(hx:Loc X.env.scope x:=by first | exact Or.inl rfl | exact Or.inr rfl)(hy:Loc X.env.scope y:=by first | exact Or.inl rfl | exact Or.inr rfl)(Wb:X.fn x=true\/X.env.scope.names.lookup x=some .local:=by first | exact .inl rfl | exact .inr rfl | assumption)(Wa:X.fn y=true\/X.env.scope.names.lookup y=some .local:=by first | exact .inl rfl | exact .inr rfl | assumption)(hw:swappedStores [.Tuple [.Name x px, .Name y py] kt pt] (.Tuple [a,b] k2 Ar) X.env=pure none:=by rfl)(hs:swapsWithSole [.Tuple [.Name x px, .Name y py] kt pt] (.Tuple [a,b] k2 Ar) pos.line X.env=pure false:=by rfl):
  Ex X (.Assign [.Tuple [.Name x px,.Name y py] kt pt] (.Tuple [a,b] k2 Ar) pos) (J4 i j th):=
 PS.imp (pX (AI ha) (et hc (aN (aE (i:=i) hN hi hx Wb) (aN (aE (i:=j) hN hj hy Wa) cI))) hs hw) fun D σ H cj=>(by obtain⟨Ws,M,α,δ,Δ,E,L,q⟩:=cj;exact(
 ⟨Ws,M,α,δ,_,E,q,fun ss δ' H' vs M' bs dM E1 c1 m1 m2 hh hb=>(by obtain⟨s1,s2,e,IQ,IP,q1⟩:=dM;exact(by
  subst e;cases hh with
  | cons h1 h2 h3 h4 h5=>
   cases h5 with
   | cons g1 g2 g3 g4 g5=>
    cases g5;rename_i v1 W4 v2 xj;refine⟨by show 2<=sizeLine;decide,fun p hp=>?_⟩;have sm:aC H' (upd H' p (.tup [v1,v2])):=aC.new hp;have Ea:=(E1.same sm).vI (i:=i) ⟨h1.1,h1.2.same sm⟩ h2 h3 IQ;have Eb:=Ea.vI (i:=j) ⟨g1.1,g1.2.same sm⟩ (fun a ha=>(g2 a ha).set fun z=>h4 a z (by simpa using ha)) g3 IP;exact⟨p,_,rfl,dE.of af,rfl,_,_,rfl,_,_,rfl,rfl,L.nx _ _ _ _ _ Eb q1⟩))⟩))
end
end LD
namespace L2
open PySem PySem.Spec PyProof.Rows
theorem nO(it acc:Value)(env:Env):
  compTurn (.ListComp elt [⟨tg,iter,ifs,0⟩,⟨gE,iter2,cW,0⟩] scope pos) 0 it acc env=(do
   standAt iter.pos
   match<-pyNext it with
   | none=>pure (.done .next)
   | some v=>
    letOwnedTupleGo tg it v
    assign tg env v
    let mut ok:=true
    for c in ifs do
     if ok then ok<-isTrue c env (eval c env)
    if ok then
     let x<-eval iter2 env
     standAt iter2.pos
     let x<-foldedSetIterable iter2 env x
     let _<-runOwn (.compStart (.ListComp elt [⟨tg,iter,ifs,0⟩,⟨gE,iter2,cW,0⟩] scope pos) 1 (<-holding [x] (pyIter x)) acc env) env
    again (.compLoop (.ListComp elt [⟨tg,iter,ifs,0⟩,⟨gE,iter2,cW,0⟩] scope pos) 0 it acc env)):=by rfl
theorem nN(it acc:Value)(env:Env):
  compTurn (.ListComp elt [⟨tg,iter,ifs,0⟩,⟨gE,iter2,cW,0⟩] scope pos) 1 it acc env=(do
   standAt iter2.pos
   match<-pyNext it with
   | none=>pure (.done .next)
   | some v=>
    letOwnedTupleGo gE it v
    assign gE env v
    let mut ok:=true
    for c in cW do
     if ok then ok<-isTrue c env (eval c env)
    if ok then
     (do let _<-call (.builtin "list.append") [acc,<-eval elt env])
    again (.compLoop (.ListComp elt [⟨tg,iter,ifs,0⟩,⟨gE,iter2,cW,0⟩] scope pos) 1 it acc env)):=by rfl
theorem nQ (I : Nat -> Shared -> Prop) (turn : ∀ n s, I n s -> wpAny (model prog w) A (pyNext it) (fun r s₁ => match r with
   | none=>R (.ok .next) s₁
   | some v=>wpAny (model prog w) A (letOwnedTupleGo gE it v) (fun _ s₀=>wpAny (model prog w) A (assign gE env v) (fun _ s₂=>
     wpAny (model prog w) A (forIn cW true fun c r=>if r=true then do let ok<-isTrue c env (eval c env);pure (ForInStep.yield ok) else pure (ForInStep.yield r)) (fun ok s₃=>
      if ok=true then wpAny (model prog w) A (eval elt env) (fun x s₄=>
       wpAny (model prog w) A (call (.builtin "list.append") [acc,x]) (fun _ s₅=> ∃m,m < n/\I m s₅) (fun _ _=>False) s₄) (fun _ _=>False) s₃
      else∃m,m < n/\I m s₃) (fun _ _=>False) s₂) (fun _ _=>False) s₀) (fun _ _=>False) s₁) (fun _ _=>False) s) (n:Nat) (h:I n s):codeAny (model prog w) A (.compLoop (.ListComp elt [⟨tg,iter,ifs,0⟩,⟨gE,iter2,cW,0⟩] scope pos) 1 it acc env) R s:=by
 refine codeAny_loop rfl I (fun n s hI=>?_) n h;show wpAny _ A ((compTurn (.ListComp elt [⟨tg,iter,ifs,0⟩,⟨gE,iter2,cW,0⟩] scope pos) 1 it acc env).onRaise (fun x=>do noteFrame x env;theTreesLotGoes x)) _ _ s;refine wpAny_noted ?_;rw[nN];refine Yr (ZY (Yr (Y2 (turn n s hI) (fun r s₁ h₁=>?_) fun _ _ h'=>h'.elim)));cases r with
 | none=>exact Yv h₁
 | some v=>
  refine Yr (Y2 h₁ (fun _ s₀ h₀=>?_) fun _ _ h'=>h'.elim);refine Yr (Y2 h₀ (fun _ s₂ h₂=>Yr (Y2 h₂ (fun ok s₃ h₃=>?_) fun _ _ h'=>h'.elim)) fun _ _ h'=>h'.elim);cases ok with
  | false=>exact Yv ⟨rfl,h₃⟩
  | true=>
   exact Yr (Yr (Y2 h₃ (fun x s₄ h₄=>Yr (Y2 h₄ (fun _ s₅ h₅=>Yv (Yv ⟨rfl,h₅⟩)) fun _ _ h'=>h'.elim)) fun _ _ h'=>h'.elim))
theorem mY (h0 : codeAny (model prog w) A (.compLoop (.ListComp elt [⟨tg, iter, ifs, 0⟩, ⟨gE, iter2, cW, 0⟩] scope pos) 1 it acc env) R s) (h : wpAny (model prog w) A (pyIter it) (fun QM s' => codeAny (model prog w) A (.compLoop (.ListComp elt [⟨tg, iter, ifs, 0⟩, ⟨gE, iter2, cW, 0⟩] scope pos) 1 QM acc env) R s')
   (notedBy (model prog w) A env fun x s'=>R (.error x) s') s):
  codeAny (model prog w) A (.compStart (.ListComp elt [⟨tg,iter,ifs,0⟩,⟨gE,iter2,cW,0⟩] scope pos) 1 it acc env) R s:=by
 refine codeAny_of_tree ?_;show wpAny _ _ ((compStart (.ListComp elt [⟨tg,iter,ifs,0⟩,⟨gE,iter2,cW,0⟩] scope pos) 1 it acc env).onRaise (fun x=>do noteFrame x env;standAt theWindowsPlace)) _ _ s;refine wpAny_notedAt ?_;unfold compStart;show wpAny _ _ (ask >>=_) _ _ s;refine Yr (wpAny_askSetting (wpAny_ite ?_));split
 . first
     | exact Yr (Yv (Yv (And.intro rfl h0)))
     | exact Yv (And.intro rfl h0)
 . first
     | exact Yr (Z7 (Yr (ZY (Yr (Y2 h (fun QM s' h'=>Yv (And.intro rfl h')) fun _ _ x=>x)))))
     | (refine Yr (Z7 ?_);show wpAny _ _ (standAt iter2.pos >>=_) _ _ s;exact Yr (ZY (Yr (Y2 h (fun QM s' h'=>Yv (And.intro rfl h')) fun _ _ x=>x))))
theorem nR (I : Nat -> Shared -> Prop) (hs : ∀ x, foldedSetIterable iter2 env x = pure x) (turn : ∀ n s, I n s -> wpAny (model prog w) A (pyNext it) (fun r s₁ => match r with
   | none=>R (.ok .next) s₁
   | some v=>wpAny (model prog w) A (letOwnedTupleGo tg it v) (fun _ s₀=>wpAny (model prog w) A (assign tg env v) (fun _ s₂=>
     wpAny (model prog w) A (forIn ifs true fun c r=>if r=true then do let ok<-isTrue c env (eval c env);pure (ForInStep.yield ok) else pure (ForInStep.yield r)) (fun ok s₃=>
      if ok=true then wpAny (model prog w) A (eval iter2 env) (fun x s₄=>wpAny (model prog w) A (pyIter x) (fun QL s₅=>
       codeAny (model prog w) A (.compStart (.ListComp elt [⟨tg,iter,ifs,0⟩,⟨gE,iter2,cW,0⟩] scope pos) 1 QL acc env) (fun r s₆=>r= .ok .next/\ ∃m,m < n/\I m s₆) s₅) (fun _ _=>False) s₄) (fun _ _=>False) s₃
      else∃m,m < n/\I m s₃) (fun _ _=>False) s₂) (fun _ _=>False) s₀) (fun _ _=>False) s₁) (fun _ _=>False) s) (n:Nat) (h:I n s):codeAny (model prog w) A (.compLoop (.ListComp elt [⟨tg,iter,ifs,0⟩,⟨gE,iter2,cW,0⟩] scope pos) 0 it acc env) R s:=by
 refine codeAny_loop rfl I (fun n s hI=>?_) n h;show wpAny _ A ((compTurn (.ListComp elt [⟨tg,iter,ifs,0⟩,⟨gE,iter2,cW,0⟩] scope pos) 0 it acc env).onRaise (fun x=>do noteFrame x env;theTreesLotGoes x)) _ _ s;refine wpAny_noted ?_;rw[nO];refine Yr (ZY (Yr (Y2 (turn n s hI) (fun r s₁ h₁=>?_) fun _ _ h'=>h'.elim)));cases r with
 | none=>exact Yv h₁
 | some v=>
  refine Yr (Y2 h₁ (fun _ s₀ h₀=>?_) fun _ _ h'=>h'.elim);refine Yr (Y2 h₀ (fun _ s₂ h₂=>Yr (Y2 h₂ (fun ok s₃ h₃=>?_) fun _ _ h'=>h'.elim)) fun _ _ h'=>h'.elim);cases ok with
  | false=>exact Yv ⟨rfl,h₃⟩
  | true=>
   refine Yr (Y2 h₃ (fun x s₄ h₄=>Yr (ZY ?_)) fun _ _ h'=>h'.elim);rw[hs];refine Yr (Yv ?_);refine Yr (Zs (Y2 h₄ (fun QL s₅ h₅=>?_) fun _ _ h'=>h'.elim));refine Yr (wpAny_runOwn (ag5 h₅ fun r s₆ h₆=>?_));obtain⟨rfl,h₆⟩:=h₆;exact Yv ⟨rfl,h₆⟩
def C5(n1 nt:Nat)(g:TG):Prop:= ∀v σ H (Q:St->Hp->Prop),g v σ H Q->g v σ H fun σ' H'=>Q σ' H'/\σ'.length=σ.length/\ ∀k,k < n1\/nt<=k->σ'[k]?=σ[k]?
theorem yx(h1:n1<=i:=by decide)(h:i < nt:=by decide):C5 n1 nt (cQ i):=fun v σ H Q q=>⟨q,by simp,fun k hk=>by rw[YF (by omega)]⟩
def Uy(g2:TG)(oj:TT)(te:TE)(σ:St)(B:List V->Hp->Prop)(D:Addr)(J2:It)(Kl:List V)(H0:Hp):Prop:=
 ∃W2:Nat->Nat->List V->Hp->Prop,(∃m,W2 0 m Kl H0)/\ ∀i m acc H,W2 i m acc H->
  (J2.stop i H/\B acc H)\/(J2.go i H/\acc.length < sizeLine/\ ∃B2:List V->Hp->Prop,(∀bG H',B2 bG H'-> ∃m',m' < m/\W2 (i+1) m' bG H')/\ ∀x H',J2.qW i H x H'->g2 x σ H' fun σ2 H2=>
   oj σ2 H2 fun b H3=>if b=true then te σ2 H3 fun v H4=>H4 D=some (.lst acc)/\B2 (acc++ [v]) (upd H4 D (.lst (acc++ [v]))) else B2 acc H3)
def Dg(nt:Nat)(js:List Nat)(g:TG)(tc:TT)(DG:TI)(g2:TG)(oj:TT)(te:TE)(σ:St)(Q:VK)(D:Addr)(J:It)(H0:Hp):Prop:=
 ∃W:Nat->Nat->List V->Hp->Prop,(∃m,W 0 m [] H0)/\ ∀i m acc H,W i m acc H->
  (J.stop i H/\Q (.ref D) H)\/(J.go i H/\ ∃B:List V->Hp->Prop,(∀bG H',B bG H'-> ∃m',m' < m/\W (i+1) m' bG H')/\ ∀x H',J.qW i H x H'->g x (gq nt js σ) H' fun σ2 H2=>
   tc σ2 H2 fun b H3=>if b=true then DG σ2 H3 fun J2 H4=>Uy g2 oj te σ2 B D J2 acc H4 else B acc H3)
def zT(nt:Nat)(js:List Nat)(wi:TI)(g:TG)(tc:TT)(DG:TI)(g2:TG)(oj:TT)(te:TE):TE:=fun σ H Q=>wi σ H fun J H1=> ∀D,H1 D=none->Dg nt js g tc DG g2 oj te σ Q D J (upd H1 D (.lst []))
theorem uC{Y:Cx}(hc:Y.calm=true)(qU:Y.xe=fun _ _=>False)(Jx:PG Y gE g2)(uF:C5 n1 nt g2)(BA:PF Y cW oj)(he:PE Y elt te)(I:Inv Y pins σ H s)(T:Turn Y.prog Y.w Y.K gE J fp it tn)(st:tn 0 s.heap)(ff: ∀b∈fp,cU Y pins H b)(aI: ∀k,n1<=k->k < nt-> ∀v,σ[k]?≠some (some v))(R:Uy g2 oj te σ B D J Kl H)(fin: ∀acc H' s',Inv Y pins σ H' s'->B acc H'->RR (.ok .next) s'):
  codeAny (model Y.prog Y.w) Y.A (.compLoop (.ListComp elt [⟨tg,iter,ifs,0⟩,⟨gE,iter2,cW,0⟩] scope pos) 1 (.ref it) (.ref D) Y.env) RR s:=by
 obtain⟨W,⟨m0,w0⟩,turn⟩:=R;have tZ: ∀{H':Hp},(∀b∈fp,H' b=none)-> ∀b∈fp,cU Y pins H' b:=fun hn b hb=>⟨hn b hb,(ff b hb).2⟩
 refine nQ (fun n s'=> ∃i acc H',Inv Y pins σ H' s'/\tn i s'.heap/\(∀b∈fp,H' b=none)/\W i n acc H') ?_ m0 ⟨0,Kl,H,I,st,fun b hb=>(ff b hb).1,w0⟩;rintro n s5 ⟨i,acc,H5,I5,t5,yA,w5⟩
 rcases turn i n acc H5 w5 with ⟨stop,q⟩ | ⟨go,hlen,B2,hB,step⟩
 . refine aV (T.done Y rfl rfl rfl hc i pins s5 _ H5 (fun _ _=>False) I5 (tZ yA) t5 stop) fun r s6 ⟨hr,I6⟩=>?_;subst hr;exact fin _ _ _ I6 q
 . refine aV (T.item Y rfl rfl rfl hc i pins s5 _ H5 (fun _ _=>False) I5 (tZ yA) t5 go) fun r s6 ⟨u,hr,h6⟩=>?_;subst hr;refine aV h6 fun _ s7 iU=>?_;obtain⟨x,H7,I7,r7,y7,t4,JI⟩:=iU;have Kv:=I7.pinned (tZ JI) (T.obj _ _ t4);have g7:=uF _ _ _ _ (step x H7 y7);have h7:=Jx _ s7 _ H7 x u _ Kv r7 g7;rw[qU] at h7;refine aV h7 fun _ s8 jP=>?_;obtain⟨σ8,H8,I8,q8,l8,k8⟩:=jP;have h8:=BA _ s8 σ8 H8 _ I8 q8;rw[qU] at h8;refine aV h8 fun b s9 lJ=>?_;obtain⟨H9,I9,q9⟩:=lJ;have again: ∀{kF:Hp} {ir:Shared} {bG:List V},Inv Y (pins++iF fp s7.heap) σ8 kF ir->B2 bG kF-> ∃m,m < n/\ ∃i acc H',Inv Y pins σ H' ir/\tn i ir.heap/\(∀b∈fp,H' b=none)/\W i m acc H':=fun{kF ir bG} tH xg=>by
    obtain⟨m',Ju,Ho⟩:=hB bG kF xg;refine⟨m',Ju,i+1,bG,kF,tH.dW.weak l8.symm fun k v e=>?_,T.keep _ _ _ t4 fun b hb o e=>(tH.pin (b,o) (YR _ (YR _ (bA hb e)))).1,fun b hb=>?_,Ho⟩
    . by_cases hk:n1<=k/\k < nt
      . exact absurd e (aI k hk.1 hk.2 v)
      . rw[k8 k (by omega)];exact e
    . obtain⟨o,e,d⟩:=T.obj _ _ t4 b hb;exact(tH.pin (b,o) (YR _ (YR _ (bA hb e)))).2.1
   cases b with
   | false=>
    rw[if_neg YJ] at q9 ⊢;exact again I9 q9
   | true=>
    rw[if_pos rfl] at q9 ⊢;have h9:=he _ s9 σ8 H9 _ I9 q9;rw[qU] at h9;refine aV h9 fun y ir kH=>?_;obtain⟨v,kF,tH,L8,JF,Ik⟩:=kH;have Fg:=(j3 (X:=Y) _ ir σ8 kF (.ref D) [v] (.ref D) [y] (fun _ H'=>B2 (acc++ [v]) H') tH rfl (.cons L8 .nil) ⟨_,acc,v,rfl,rfl,JF,hlen,Ik⟩)
    rw[qU] at Fg;refine aV Fg fun _ LY nA=>?_;obtain⟨_,Dz,F5,_,Qr⟩:=nA;exact again F5 Qr
theorem uU{elt tg iter gE iter2:Expr}{ifs cW:List Expr}{pos:Pos}{g g2:TG}{DG:TI}{tc oj:TT}{te:TE}{n1:Nat}{cl:List (Str × Addr)}{Q:VK}{E:Value->Shared->Prop}{RR:Value->Addr->Result->Shared->Prop}
  (S:iS X N nt js scope) (hc:X.calm=true)
  (hg: ∀s H cl C ex,PG (dA X N scope s H cl C ex) tg g) (eB:iR n1 g) (Nl:n1<=nt) (K1: ∀s H cl C ex,PI (dA X N scope s H cl C ex) gE iter2 DG) (kq: ∀s H cl C ex x,foldedSetIterable iter2 (dA X N scope s H cl C ex).env x=pure x) (Jx: ∀s H cl C ex,PG (dA X N scope s H cl C ex) gE g2) (uF:C5 n1 nt g2) (BA: ∀s H cl C ex,PF (dA X N scope s H cl C ex) cW oj) (hf: ∀s H cl C ex,PF (dA X N scope s H cl C ex) ifs tc) (he: ∀s H cl C ex,PE (dA X N scope s H cl C ex) elt te)
  {it:Addr} {fp:List Addr} {tn:Nat->Heap->Prop} {J:It} (I:Inv X pins σ H s) (T:Turn X.prog X.w X.K tg J fp it tn) (st:tn 0 s.heap) (ff: ∀b∈fp,cU X pins H b)
  (c1: ∀x c,(x,c)∈cl->X.env.cells.lookup x=some c) (c2: ∀x,(x,NameKind.free)∈scope.names-> ∃c,(x,c)∈cl)
  (R: ∀D,H D=none->Dg nt js g tc DG g2 oj te σ Q D J (upd H D (.lst [])))
  (fin: ∀(D C:Addr) (s':Shared) (H':Hp),Inv X pins σ H' s'->cU X pins H' C->(∃m,s'.heap.Ns C m)->Q (.ref D) H'->RR (.ref D) C (.ok .next) s'):
  wpAny (model X.prog X.w) X.A (newList []) (fun acc s₃=>wpAny (model X.prog X.w) X.A (newFunctionEnv scope X.env.globals cl [] X.env.qual none .none (some X.env)) (fun iP s₄=>
   codeAny (model X.prog X.w) X.A (.compStart (.ListComp elt [⟨tg,iter,ifs,0⟩,⟨gE,iter2,cW,0⟩] scope pos) 0 (.ref it) acc {iP with scope:=relabel scope X.env}) (RR acc iP.locals) s₄) E s₃) E s:=by
 refine Zc (fm fun iP sS B9=>?_);rw[sS,B9];dsimp only;have hD:H s.heap.objs.size=none:=I.aT.fresh (Yx _);obtain⟨W,⟨m0,w0⟩,turn⟩:=R s.heap.objs.size hD;have kD: ∀b u,s.heap.get? b=some u->(s.heap.push {cls:= .type "list",data:= .seq ([]:List Value).toArray}).get? b=some u:=fun b u e=>Yu _ e;have I3:Inv X pins σ (upd H s.heap.objs.size (.lst [])) {s with heap:=s.heap.push {cls:= .type "list",data:= .seq ([]:List Value).toArray},toks:=s.toks}:=
  I.laid kD (Yx _) ⟨Za _,[],_,.nil,YI _ rfl⟩
 have fs: ∀b∈fp,b < s.heap.objs.size:=fun b hb=>by
  obtain⟨o,e,_⟩:=T.obj _ _ st b hb;exact YM e
 have GN: ∀b∈fp,cU X pins (upd H s.heap.objs.size (.lst [])) b:=fun b hb=>⟨by rw[ag (Zb (fs b hb))];exact(ff b hb).1,(ff b hb).2⟩
 have I4:=kc (tk:=s.toks) S hc I3 GN (fun b hb=>by show b < (s.heap.push _).objs.size;rw[ZK];exact ZS (fs b hb)) c1 c2;dsimp only at I4;have Nm:(s.heap.push {cls:= .type "list",data:= .seq ([]:List Value).toArray}).objs.size=s.heap.objs.size+1:=ZK ..;generalize hY:dA X N scope {s with heap:=s.heap.push {cls:= .type "list",data:= .seq ([]:List Value).toArray},toks:=s.toks} (upd H s.heap.objs.size (.lst [])) cl (s.heap.push {cls:= .type "list",data:= .seq ([]:List Value).toArray}).objs.size fp=Y at I4;have TV:=hY;have nh:Y.env=m5 scope cl (s.heap.push {cls:= .type "list",data:= .seq ([]:List Value).toArray}).objs.size X.env:=by rw[<-hY];rfl
 have bY:Y.prog=X.prog:=by rw[<-hY];rfl
 have Yw:Y.w=X.w:=by rw[<-hY];rfl
 have YA:Y.A=X.A:=by rw[<-hY];rfl
 have YK:Y.K=X.K:=by rw[<-hY];rfl
 have jI:Y.calm=true:=by rw[<-hY];exact hc
 have qU:Y.xe=fun _ _=>False:=by rw[<-hY];rfl
 have tF:Y.ex=fp:=by rw[<-hY];rfl
 have N8:Y.pn= []:=by rw[<-hY];rfl
 have N9:Y.fs=lC X.stack:=by rw[<-hY];rfl
 have G7:Y.s₀={s with heap:=s.heap.push {cls:= .type "list",data:= .seq ([]:List Value).toArray},toks:=s.toks}:=by rw[<-hY];rfl
 have Oa:Y.H₀=upd H s.heap.objs.size (.lst []):=by rw[<-hY];rfl
 have Na:PG Y tg g:=by rw[<-hY];exact hg _ _ _ _ _
 have Rm:PF Y ifs tc:=by rw[<-hY];exact hf _ _ _ _ _
 have Rl:PF Y cW oj:=by rw[<-hY];exact BA _ _ _ _ _
 have Rk:PG Y gE g2:=by rw[<-hY];exact Jx _ _ _ _ _
 have Rj:PI Y gE iter2 DG:=by rw[<-hY];exact K1 _ _ _ _ _
 have Q4: ∀x,foldedSetIterable iter2 Y.env x=pure x:=by rw[<-hY];exact kq _ _ _ _ _
 have Rp:PE Y elt te:=by rw[<-hY];exact he _ _ _ _ _
 have hm:(Y.N.length:Nat)=(gq nt js σ).length:=I4.len.symm;rw[<-nh,<-bY,<-Yw,<-YA];have BP: ∀{H':Hp} (_: ∀b∈fp,H' b=none),∀b∈fp,cU Y [] H' b:=fun{H'} hn b hb=>by
  refine⟨hn b hb,(I4.ok.GP b (by rw[tF];exact hb)).1,I4.ok.uL b (by rw[tF];exact hb),.inl (by rw[tF];exact hb),(I4.ok.GP b (by rw[tF];exact hb)).2,fun p hp=>?_⟩;rw[N8] at hp;simp at hp
 have back: ∀{H':Hp} {s':Shared} {σ':St},Inv Y [] σ' H' s'->Inv X pins σ H' s'/\cU X pins H' Y.env.locals/\ ∃m,s'.heap.Ns Y.env.locals m:=fun{H' s' σ'} J=>by
  have hb:Un (lC X.stack) fp (upd H s.heap.objs.size (.lst [])) H' (s.heap.push {cls:= .type "list",data:= .seq ([]:List Value).toArray}) s'.heap:=by
   have:=J.base;rw[N9,tF,Oa,G7] at this;exact this
  have loc:Y.env.locals=s.heap.objs.size+1:=by rw[nh];exact Nm
  have os:s'.os=s.os:=by
   have:=J.os;rw[G7] at this;exact this
  have aT:gw X.prog X.w H' s'.heap:=by
   have:=J.aT;rw[bY,Yw] at this;exact this
  refine⟨I3.xb (ch:=fp) os hb aT J.bare fun b hb=>⟨(ff b hb).2.2.2.1,(ff b hb).2.1,(ff b hb).2.2.2.2.1,(ff b hb).2.2.2.2.2⟩,?_,let ⟨m,q,_⟩:=J.loc;⟨m,q⟩⟩;exact I.jo (by rw[loc];exact ah6 _) J.free
 have loop:codeAny (model Y.prog Y.w) Y.A (.compLoop (.ListComp elt [⟨tg,iter,ifs,0⟩,⟨gE,iter2,cW,0⟩] scope pos) 0 (.ref it) (.ref s.heap.objs.size) Y.env) (RR (.ref s.heap.objs.size) Y.env.locals)
   {s with heap:=pushCells ((s.heap.push {cls:= .type "list",data:= .seq ([]:List Value).toArray}).push {cls:= .type "dict",data:= .dict #[]}) scope.names}:=by
  refine nR (fun n s'=> ∃i acc H',Inv Y [] (gq nt js σ) H' s'/\tn i s'.heap/\(∀b∈fp,H' b=none)/\W i n acc H') Q4 ?_ m0
   ⟨0,[],_,I4,T.keep _ _ _ st fun b _ o e=>ac1 _ _ b o (Yu _ (kD b o e)),fun b hb=>(GN b hb).1,w0⟩
  rintro n s5 ⟨i,acc,H5,I5,t5,yA,w5⟩
  rcases turn i n acc H5 w5 with ⟨stop,q⟩ | ⟨go,B,hB,step⟩
  . have hd:=T.done Y bY Yw YK jI i [] s5 _ H5 (fun _ _=>False) I5 (BP yA) t5 stop;rw[<-bY,<-Yw] at hd;refine aV hd fun r s6 pA=>?_;obtain⟨hr,I6⟩:=pA;subst hr;obtain⟨b1,b2,b3⟩:=back I6;exact fin _ _ _ _ b1 b2 b3 q
  . have hd:=T.item Y bY Yw YK jI i [] s5 _ H5 (fun _ _=>False) I5 (BP yA) t5 go;rw[<-bY,<-Yw] at hd;refine aV hd fun r s6 nz=>?_;obtain⟨u,hr,h6⟩:=nz;subst hr;refine aV h6 fun _ s7 gx=>?_;obtain⟨x,H7,I7,r7,y7,t4,JI⟩:=gx;have Kv:=I7.pinned (BP JI) (T.obj _ _ t4);have g7:=eB _ _ _ _ (step x H7 y7);have h7:=Na _ s7 _ H7 x u _ Kv r7 g7;rw[qU] at h7;refine aV h7 fun _ s8 jS=>?_;obtain⟨σ8,H8,I8,q8,l8,k8⟩:=jS;have h8:=Rm _ s8 σ8 H8 _ I8 q8;rw[qU] at h8;refine aV h8 fun b s9 pC=>?_;obtain⟨H9,I9,q9⟩:=pC;have again: ∀{kF:Hp} {ir:Shared} {bG:List V},Inv Y ([]++iF fp s7.heap) σ8 kF ir->B bG kF-> ∃m,m < n/\ ∃i acc H',Inv Y [] (gq nt js σ) H' ir/\tn i ir.heap/\(∀b∈fp,H' b=none)/\W i m acc H':=fun{kF ir bG} tH xg=>by
     obtain⟨m',Ju,Ho⟩:=hB bG kF xg;refine⟨m',Ju,i+1,bG,kF,tH.dW.weak l8.symm fun k v e=>?_,T.keep _ _ _ t4 fun b hb o e=>(tH.pin (b,o) (YR _ (YR _ (bA hb e)))).1,fun b hb=>?_,Ho⟩
     . by_cases hk:nt<=k
       . rw[k8 k (YT Nl hk)];exact e
       . exfalso;unfold gq at e;rw[Y1 (by simp;omega),YY,if_pos (by omega)] at e;cases e
     . obtain⟨o,e,d⟩:=T.obj _ _ t4 b hb;exact(tH.pin (b,o) (YR _ (YR _ (bA hb e)))).2.1
    cases b with
    | false=>
     rw[if_neg YJ] at q9 ⊢;exact again I9 q9
    | true=>
     rw[if_pos rfl] at q9 ⊢;have h9:=Rj _ s9 σ8 H9 _ I9 q9;rw[qU] at h9;refine aV h9 fun y ir Fg=>aV Fg fun QL LY WK=>?_;obtain⟨i2,XU,Xw,J2,Dz,rfl,F5,T2,LR,RJ,R2⟩:=WK;have Qx: ∀k,n1<=k->k < nt-> ∀v,σ8[k]?≠some (some v):=fun k a1 a2 v e=>by
      rw[k8 k a1] at e;unfold gq at e;rw[Y1 (by simp;omega),YY,if_pos (by omega)] at e;cases e
     have lp:=uC (elt:=elt) (tg:=tg) (iter:=iter) (ifs:=ifs) (iter2:=iter2) (scope:=scope) (pos:=pos) jI qU Rk uF Rl Rp F5 T2 LR RJ Qx R2 (RR:=fun r s₆=>r= .ok .next/\ ∃m,m < n/\ ∃i acc H',Inv Y [] (gq nt js σ) H' s₆/\tn i s₆.heap/\(∀b∈fp,H' b=none)/\W i m acc H') fun bG H' s' I' b'=>⟨rfl,again I' b'⟩
     exact mY lp (T2.self _ 0 _ _ _ LR lp)
 have sR:(s.heap.push {cls:= .type "list",data:= .seq ([]:List Value).toArray}).objs.size=Y.env.locals:=by rw[nh];rfl
 rw[sR];exact codeAny_compStart_list (rest:= [⟨gE,iter2,cW,0⟩]) loop (by rw[bY,Yw,YA] at*;exact T.self _ 0 _ _ _ (T.keep _ _ _ st fun b _ o e=>ac1 _ _ b o (Yu _ (kD b o e))) loop)
theorem AO(S:iS X N nt js scope)(hc:X.calm=true)(hi:PI X tg iter wi)(hg: ∀s H cl C ex,PG (dA X N scope s H cl C ex) tg g)(eB:iR n1 g)(Nl:n1<=nt)(K1: ∀s H cl C ex,PI (dA X N scope s H cl C ex) gE iter2 DG)(kq: ∀s H cl C ex x,foldedSetIterable iter2 (dA X N scope s H cl C ex).env x=pure x)(Jx: ∀s H cl C ex,PG (dA X N scope s H cl C ex) gE g2)(uF:C5 n1 nt g2)(BA: ∀s H cl C ex,PF (dA X N scope s H cl C ex) cW oj)(hf: ∀s H cl C ex,PF (dA X N scope s H cl C ex) ifs tc)(he: ∀s H cl C ex,PE (dA X N scope s H cl C ex) elt te)(hs: ∀x,foldedSetIterable iter X.env x=pure x:=by intro _;rfl):PE X (.ListComp elt [⟨tg,iter,ifs,0⟩,⟨gE,iter2,cW,0⟩] scope pos) (zT nt js wi g tc DG g2 oj te):=by
 intro pins s σ H Q I h;obtain⟨cl,Dp,c1,c2⟩:=eJ (scope:=scope) (env:=X.env) fun x hx e=>I.ok.has x.1 (S.DV x hx e);rw[eval_ListComp];refine ae9 (use:=none) rfl hs Dp S.kind S.names (aV (hi pins s σ H _ I h) fun v s1 h1=>aV h1 fun KQ s2 h2=>?_);obtain⟨it,fp,tn,J,H2,rfl,I2,T,gu,f2,R⟩:=h2;refine uU (RR:=fun acc C=>compPost (model X.prog X.w) X.A X.xe none (EP X pins σ Q) acc C) S hc hg eB Nl K1 kq Jx uF BA hf he I2 T gu f2 c1 c2 R fun D C s' H' I' fo jQ q=>?_;obtain⟨m,hn⟩:=jQ;refine⟨m,hn,fun h' sb=>⟨.ref D,H',?_,rfl,q⟩⟩;obtain⟨f0,f1,_,f3,f4,f5⟩:=fo;exact I'.turned (t':=s'.toks) (fun b o hb e=>(sb.2 b hb).trans e) f0 f1 f3 f4 f5
end L2
namespace LD
open PySem PySem.Spec L2 LB PyProof.Rows
theorem aB.LP(E:aB [] M α H σ δ)(fl:α.flatten= [])(keep: ∀b u,H b=some u-> ¬M b->H' b=some u)(mo:jJ M H'):aB [] M α H' σ δ:=by
 refine⟨E.ls,E.la,fun i s h=>?_,E.nd,E.mu,mo,fun W hW=>absurd hW Yy⟩;obtain⟨o,as,h1,h2,h3⟩:=E.sl i s h;have hn:as= []:=Z8.mpr fun a ha=>by
  have:=aL h2 ha;rw[fl] at this;exact Yy this
 subst hn;refine⟨o,[],h1,h2,h3.keep (fun b u e n=>⟨keep b u e n,n⟩) (fun a ha=>absurd ha Yy) ?_⟩;cases s with
 | bx t=>
  obtain⟨d,c,e,_⟩:=h3;first | cases e | (obtain⟨_,e,_⟩:=h3;cases e)
 | _=>rfl
section
variable{X:Cx}{N:List Str}{nt n1:Nat}{js:List Nat}{scope:Scope}{elt tg iter gE iter2:Expr}{ifs cW:List Expr}{pos:Pos}{ti KI:n5}{g g2:tK}{tc oj:ny}{te:bz}
def CI(nt:Nat)(js:List Nat)(ti:n5)(g:tK)(tc:ny)(KI:n5)(g2:tK)(oj:ny)(te:bz):zk:=fun δ Q=>ti δ fun ao δ1=> ∃F:Dt->List Dt,(ao.flatMap F).length < sizeLine/\
 (∀d∈ao,g d (cin nt js δ1) fun δ2=>tc δ2 fun b δ3=>if b=true then KI δ3 fun de δ4=> ∃(p:Dt->Bool) (f:Dt->Dt),(∀e∈de,g2 e δ4 fun δ5=>oj δ5 fun b δ6=>b=p e/\(b=true->te δ6 fun r _=>r=f e))/\F d=(de.filter p).map f else F d= [])/\Q (ao.flatMap F) δ1
theorem uX(sI: ∀v σ H Q,lG g v σ H Q->gh v σ H Q)(Jv: ∀v σ H Q,lG g2 v σ H Q->O0 v σ H Q): ∀σ H Q,lO (CI nt js ti g tc KI g2 oj te) σ H Q->zT nt js (lI ti) gh (lT tc) (lI KI) O0 (lT oj) (lE te) σ H Q:=fun σ H Q cj=>(by obtain⟨W,M,α,δ,Qd,E,q,k⟩:=cj;exact(by
 refine⟨W,M,α,δ,_,E,q,fun ao δ1 H1 J dM E1 c1 yl D hD=>?_⟩;obtain⟨F,hsz,step,q1⟩:=dM;have s0:aC H1 (upd H1 D (.lst [])):=aC.new hD;refine⟨fun i m acc H2=>m=ao.length - i/\i<=ao.length/\H2 D=some (.lst acc)/\aA (fun b=>M b\/b=D) H2 acc ((ao.take i).flatMap F)/\aC H1 H2/\jJ (fun b=>M b\/b=D) H2,⟨ao.length,by simp,Za _,af,.nil,s0,fun a ha=>?_⟩,?_⟩
 . rcases ha with ha | ha
   . obtain⟨o,e,n⟩:=E1.al a ha;exact⟨o,s0 _ _ e,n⟩
   . subst ha;exact⟨_,af,fun xs z=>by cases z⟩
 rintro i m acc H2 ⟨rfl,hi,tN,gr,s2,Gu⟩
 have kf:Kf M H1 H2:=fun b o e _=>s2 _ _ e;by_cases df:i < ao.length
 . have hb: ∀b,H1 b≠none-> ¬M b-> ¬(fun b=>M b\/b=D) b:=fun b n z y=>y.elim z fun w=>n (by rw[w];exact hD);obtain⟨go,qW⟩:=yl.go i H2 (fun b=>M b\/b=D) kf Gu hb df;refine .inr ⟨go,fun bG H'=>H' D=some (.lst bG)/\aA (fun b=>M b\/b=D) H' bG ((ao.take (i+1)).flatMap F)/\aC H1 H'/\jJ (fun b=>M b\/b=D) H',fun bG H' iU=>(by obtain⟨z1,z2,z3,z4⟩:=iU;exact(⟨ao.length - (i+1),by grind,rfl,df,z1,z2,z3,z4⟩)),fun x H3 y=>?_⟩;obtain⟨s3,d,hd,rx⟩:=qW x H3 y;have E2:aB [] (fun b=>M b\/b=D) (List.replicate (nt+js.length) []) H2 (gq nt js σ) (cin nt js δ1):=by
    have su:aC (upd H1 D (.lst acc)) H2:=fun b o e=>by
     by_cases hb:b=D
     . subst hb;rw[af] at e;cases e;exact tN
     . rw[ag hb] at e;exact s2 _ _ e
    have Ea:aB [] (fun b=>M b\/b=D) α H2 σ δ1:=⟨E1.ls,E1.la,fun i s h=>let ⟨o,as,h1,h2,h3⟩:=E1.sl i s h;⟨o,as,h1,h2,(h3.grow (u:= .lst acc) hD).same su⟩,E1.nd,fun a h=> .inl (E1.mu a h),Gu,fun W hW=>absurd hW Yy⟩
    exact jD Ea
   have E3:=E2.same s3;have a0:(List.replicate (nt+js.length) ([]:List Addr)).flatten= []:=by simp
   refine sI _ _ _ _ ⟨[],_,_,_,d,_,E3,rx,step d (Zd hd),fun α4 δ4 σ4 q4 E4 hα=>?_⟩;have Du:α4.flatten= []:=Z8.mpr fun x hx=>by have:=hα x hx;rw[a0] at this;exact absurd this Yy
   refine⟨[],_,α4,δ4,_,E4,q4,fun b δ5 H5 q5 E5 c5=>?_⟩;have s5:aC H3 H5:=fun b o e=>c5 b o e (by rw[Du];exact Yy);have D0:aC H2 H5:=fun b o e=>s5 _ _ (s3 _ _ e);have tk:ao.take (i+1)=ao.take i++ [d]:=by rw[ag2,hd];rfl
   have P2:(ao.take (i+1)).flatMap F=(ao.take i).flatMap F++F d:=by rw[tk,List.flatMap_append];simp
   cases b with
   | false=>
    have q5:F d= []:=by simpa using q5
    refine bF ⟨D0 _ _ tN,?_,fun b o e=>D0 _ _ (s2 _ _ e),E5.al⟩;rw[P2,q5,Zw];exact gr.same D0
   | true=>
    rw[if_pos rfl] at q5;refine dD ⟨[],_,α4,δ5,_,E5,q5,fun de δ6 H6 J2 jP E6 c6 SW=>?_⟩;obtain⟨p,f,LQ,hF⟩:=jP;have s6:aC H5 H6:=fun b o e=>c6 b o e (by rw[Du];exact Yy);have Ag:aC H2 H6:=fun b o e=>s6 _ _ (D0 _ _ e);have VC:((ao.take i).flatMap F).length+(F d).length<=(ao.flatMap F).length:=by
     have e:ao.flatMap F=(ao.take (i+1)).flatMap F++(ao.drop (i+1)).flatMap F:=by rw[<-List.flatMap_append,Z9]
     rw[e,P2,Y9,Y9];grind
    refine⟨fun i2 m2 CV H7=>m2=de.length - i2/\i2<=de.length/\H7 D=some (.lst CV)/\aA (fun b=>M b\/b=D) H7 CV ((ao.take i).flatMap F++((de.take i2).filter p).map f)/\(∀b o,H6 b=some o->b≠D->H7 b=some o)/\jJ (fun b=>M b\/b=D) H7,⟨de.length,by simp,Za _,Ag _ _ tN,by simpa using gr.same Ag,fun b o e _=>e,E6.al⟩,?_⟩;rintro i2 m2 CV H7 ⟨rfl,K1,RA,rR,k7,QC⟩
    have QG:Kf (fun b=>M b\/b=D) H6 H7:=fun b o e n=>k7 b o e fun z=>n (.inr z);by_cases MX:i2 < de.length
    . obtain⟨go2,PX⟩:=SW.go i2 H7 (fun b=>M b\/b=D) QG QC (fun b _ n=>n) MX;have hlen:CV.length < sizeLine:=by
       rw[rR.1,Y9,Yt];have:((de.take i2).filter p).length<=(F d).length:=by
        rw[hF,Yt];have e:de.filter p=(de.take i2).filter p++(de.drop i2).filter p:=by rw[<-af8,Z9]
        rw[e,Y9];grind
       grind
      refine .inr ⟨go2,hlen,fun bG H'=>H' D=some (.lst bG)/\aA (fun b=>M b\/b=D) H' bG ((ao.take i).flatMap F++((de.take (i2+1)).filter p).map f)/\(∀b o,H6 b=some o->b≠D->H' b=some o)/\jJ (fun b=>M b\/b=D) H',fun bG H' lJ=>(by obtain⟨z1,z2,z3,z4⟩:=lJ;exact(⟨de.length - (i2+1),by grind,rfl,MX,z1,z2,z3,z4⟩)),fun x2 H8 y2=>?_⟩;obtain⟨s8,d2,hd2,Ve⟩:=PX x2 H8 y2;have E7:=(E6.LP Du (fun b u e n=>QG b u e n) QC).same s8;refine Jv _ _ _ _ ⟨[],_,_,_,d2,_,E7,Ve,LQ d2 (Zd hd2),fun α9 δ9 σ9 q9 E9 QT=>?_⟩;have T5:α9.flatten= []:=Z8.mpr fun x hx=>by have:=QT x hx;rw[Du] at this;exact absurd this Yy
      refine⟨[],_,α9,δ9,_,E9,q9,fun b Pa kF kH UB W3=>?_⟩;obtain⟨hp,Ik⟩:=kH;have ir:aC H8 kF:=fun b o e=>W3 b o e (by rw[T5];exact Yy);have DZ:aC H7 kF:=fun b o e=>ir _ _ (s8 _ _ e);have zM:de.take (i2+1)=de.take i2++ [d2]:=by rw[ag2,hd2];rfl
      cases b with
      | false=>
       refine bF ⟨DZ _ _ RA,?_,fun b o e n=>DZ _ _ (k7 b o e n),UB.al⟩;rw[zM,af8,Y6];simp [<-hp];exact rR.same DZ
      | true=>
       refine dD ⟨[],_,α9,Pa,_,UB,Ik rfl,fun r UG Dz v T7 Xn W0 Vh=>?_⟩;subst T7;have LY:aC kF Dz:=fun b o e=>W0 b o e (by rw[T5];exact Yy);have HY:aC H7 Dz:=fun b o e=>LY _ _ (DZ _ _ e);have up: ∀{zs:List V} {ds:List Dt},aA (fun b=>M b\/b=D) Dz zs ds->aA (fun b=>M b\/b=D) (upd Dz D (.lst (CV++ [v]))) zs ds:=fun r=>r.mono fun a o e n=>⟨by rw[ag (fun z=>n (.inr z))];exact e,n⟩
       refine⟨HY _ _ RA,af,?_,fun b o e n=>by rw[ag n];exact HY _ _ (k7 b o e n),fun a ha=>?_⟩
       . rw[zM,af8,Y6,<-Zg];have e1:List.filter p [d2]= [d2]:=by simp [<-hp]
         rw[e1];exact up ((rR.same HY).append (.one Vh))
       . by_cases hb:a=D
         . subst hb;exact⟨_,af,fun xs z=>by cases z⟩
         . rw[ag hb];exact Xn.al a ha
    . have e:i2=de.length:=by grind
      subst e;refine .inl ⟨SW.stop H7 QG,RA,?_,fun b o e=>k7 b o (Ag _ _ (s2 _ _ e)) (aj e hD),QC⟩;rw[ab3] at rR;rw[P2,hF];exact rR
 . have e:i=ao.length:=by grind
   subst e;refine .inl ⟨yl.stop H2 kf,?_⟩;rw[ab3] at gr;have eH:upd (fun b=>if b=D then none else H2 b) D (.lst acc)=H2:=by
    funext b
    by_cases hb:b=D
    . subst hb;rw[af,tN]
    . rw[ag hb,if_neg hb]
   rw[<-eH];have sH:aC H1 (fun b=>if b=D then none else H2 b):=fun b o e=>by
    show(if b=D then none else H2 b)=some o;rw[if_neg (aj e hD)];exact s2 _ _ e
   refine k _ _ _ _ _ q1 (E1.same sH) (c1.tr (da.of sH)) (gr.mono fun a o e n=>⟨?_,fun z=>n (.inl z)⟩) (by show(if D=D then none else H2 D)=none;rw[if_pos rfl]);show(if a=D then none else H2 a)=some o;rw[if_neg (fun z=>n (.inr z))];exact e))
theorem EE(n1:Nat)(S:iS X N nt js scope)(hc:X.calm=true)(hi:Iv X tg iter ti)(hg: ∀s H cl C ex,PG (dA X N scope s H cl C ex) tg gh)(eB:iR n1 gh)(sI: ∀v σ H Q,lG g v σ H Q->gh v σ H Q)(hf: ∀s H cl C ex,PF (dA X N scope s H cl C ex) ifs (lT tc))(K1: ∀s H cl C ex,Iv (dA X N scope s H cl C ex) gE iter2 KI)(Jx: ∀s H cl C ex,PG (dA X N scope s H cl C ex) gE O0)(uF:C5 n1 nt O0)(Jv: ∀v σ H Q,lG g2 v σ H Q->O0 v σ H Q)(BA: ∀s H cl C ex,PF (dA X N scope s H cl C ex) cW (lT oj))(he: ∀s H cl C ex,Ev (dA X N scope s H cl C ex) elt te)(Nl:n1<=nt:=by decide)(hs: ∀x,foldedSetIterable iter X.env x=pure x:=by intro _;rfl)(kq: ∀s H cl C ex x,foldedSetIterable iter2 (dA X N scope s H cl C ex).env x=pure x:=by intro _ _ _ _ _ _;rfl):
  Ov X (.ListComp elt [⟨tg,iter,ifs,0⟩,⟨gE,iter2,cW,0⟩] scope pos) (CI nt js ti g tc KI g2 oj te):=PE.imp (AO S hc hi hg eB Nl K1 kq Jx uF BA hf he hs) (uX sI Jv)
end
end LD
namespace bD
open PySem PySem.Spec L2 LB PyProof.Rows
theorem lQ: ∀{l:List Nat},(∀i∈l,RelV (f i) (g i))->Vals (l.map f) (l.map g)
 | [],_=> .nil
 | i::l,h=> .cons (h i (by simp)) (lQ fun j hj=>h j (by simp [hj]))
theorem map_getD{α:Type}{ws:List α}{d:α}:(List.range ws.length).map (fun i=>ws.getD i d)=ws:=by
 apply Z2
 . simp
 . intro i h1 h2;simp [h2]
end bD
namespace LD
open PySem PySem.Spec L2 LB PyProof.Rows bD
section
variable{X:Cx}{e:Expr}{tA:gn}{pos p:Pos}
noncomputable def Iu(q:Int × Int):Dt:= .tup [.int q.1,.int q.2]
theorem vN: ∀{ws:List (V × Int × Int)},(∀w∈ws,Rep M H w.1 (Iu w.2))->aA M H (ws.map (·.1)) ((ws.map (·.2)).map Iu)
 | [],_=> .nil
 | w::ws,h=> .cons (h w (by simp)) (vN fun v hv=>h v (by simp [hv]))
end
section
variable{X:Cx}{a b c e f:Expr}{ta tb tc te t:bz}{tA:gn}{pos p p2:Pos}
theorem DK(h:aA M H xs [d,d2]): ∃x y,xs= [x,y]/\Rep M H x d/\Rep M H y d2:=by
 obtain⟨x,ys,rfl,r1,r2⟩:=h.aQ;obtain⟨y,rfl,r3⟩:=cK r2;exact⟨x,y,rfl,r1,r3⟩
inductive Kz(ds:List Dt)(Q:Dt->Prop):Prop
 | mk (i j:Int) (h1:ds= [.int i,.int j]) (h2:Q (.int (max i j)))
theorem JZ(hc:X.calm=true)(hm:X.mg "max"=none)(ha:Av X [e,f] tA)(hg:Gl X "max":=by rfl)(he:starEach [e,f] X.env=(false,eval e X.env)::starEach [f] X.env:=by rfl)(cN:(backTo pos (starEach [f] X.env)).any (·.1)=false:=by rfl):
  Ev X (.Call (.Name "max" p) [e,f] [] pos) (wZ Kz tA):=fV (yN hc) (fun M H xs ds Qd Q al r pB k=>(by obtain⟨i,j,e,q⟩:=pB;exact(by
 subst e;obtain⟨x,y,rfl,r1,r2⟩:=DK r;cases r1.ofInt;cases r2.ofInt;exact⟨i,j,rfl,by rw[show(if j > i then j else i)=max i j by by_cases c:j > i <;> simp only [c,if_true,ad0] <;> lia];exact k H _ _ q (fun _ _ z=>z) (.int _)⟩))) hg hm yS ha (by decide) (by decide) he cN
end
end LD
namespace xn
open PySem PySem.Spec L2 PyProof.Rows
theorem mI:typeLookup (.type "list") "keys"=pure none:=by rw[typeLookup_type,builtinLookup_eq_fast];kernel_rfl
theorem yi{A:Around}{s:Shared}(hx:s.heap.get? a=some {cls:= .type "list",dict:=none,data:= .seq xs k,slots:=sl})(hA:A.handled=none)(h: ∀h' tk,(∀b o,s.heap.get? b=some o->h'.get? b=some o)->Q none {s with heap:=h',toks:=tk}):
  wpAny (model prog w) A (getAttr? (.ref a) "keys") Q E s:=by
 obtain⟨hp,g,d,tk,os⟩:=s;have hT: ∀OD,(⟨hp,g,d,OD,os⟩:Shared).TypeIs (.ref a) "list":=fun _=>⟨_,hx,rfl⟩
 have f1:=sub_AttributeError;have f3:=F.slot_list_getattribute.lookup;have f4:=F.slot_list_getattribute.bind (.ref a);have f5:=am_list_getattr_none;unfold getAttr? getAttrBy? getAttrBy;repeat (any_goals (first | assumption | exact hT _ | ((with_reducible show wpAny _ _ (call (Value.builtin "list.__getattribute__") _ _) _ _ _);refine call_meets F.slot_list_getattribute (hT _) am_entry_list_getattribute (F.args_list_getattribute_2 _ _) (meets_getattribute_miss_list a xs k sl "keys" _ mI (by decide+kernel) (by size_fits)) ⟨hx,hA,fun h' OD e wB=>?_⟩) | wp_step))
 obtain⟨t',u',he⟩:=wB.there;show wpAny _ _ (getattributeRaised _ _ _ _ _ _ _) _ _ _;unfold getattributeRaised;repeat (any_goals (first | assumption | wp_step))
 exact h _ _ wB.of.keeps
theorem g6:entryFor table "dict.update.loop"=some Builtin.«dict.update.loop» :=entryFor_of_fast (by kernel_rfl)
theorem cH:plainId "dict.update.loop"=true:=by decide+kernel
theorem mz:mroOf (.type "dict")=pure [.type "dict",.type "object"]:=by rw[mroOf_type];kernel_rfl
theorem kI:typeLookup (.type "dict") "__new__"=pure (some (.builtin "dict.__new__")):=by rw[typeLookup_type,builtinLookup_eq_fast];kernel_rfl
theorem kE:TypeCalled "dict" "dict.__new__" "dict.__init__":=
 ⟨by decide+kernel,by decide+kernel,⟨_,_,mz⟩,madeBy_type mz kI (by decide+kernel),by decide+kernel,by rw[isSubtype_type];kernel_rfl,F.slot_dict_init⟩
theorem fY(a:Value):checkTypeCall "dict" ⟨[a],[]⟩=pure ():=by kernel_rfl
theorem my(a:Value):checkBuiltinCall "dict.__new__" ⟨[.type "dict",a],[]⟩=pure ():=by kernel_rfl
theorem mV:entryFor table "dict.__new__"=some Builtin.«dict.__new__» :=entryFor_of_tree (by kernel_rfl)
theorem gP:plainId "dict.__new__"=true:=by decide+kernel
theorem nF:isSubtype (.type "dict") (.type "dict")=pure true:=by rw[isSubtype_type];kernel_rfl
theorem iA{s:Shared}(a:Value)(h:Q₁ (.ref s.heap.objs.size) {s with heap:=s.heap.push {cls:= .type "dict",data:= .dict #[]}}):
  codeAny (model prog w) A (.call (.builtin "dict.__new__") ⟨[.type "dict",a],[]⟩) (wants Q₁ E) s:=by
 refine codeAny_of_tree ?_;show wpAny _ A.in1 (do checkBuiltinCall "dict.__new__" ⟨[.type "dict",a],[]⟩;again (.builtin "dict.__new__" ⟨[.type "dict",a],[]⟩)) _ _ s;refine Yr (wpAny_of_eq (my a) (Yv ⟨ad8 gP _,ac2 mV ?_⟩));rw[aa4 gP _];have ET:=nF;have Rf:=mz;obtain⟨hp,g,d,tk,os⟩:=s;unfold Builtin.«dict.__new__»;repeat (any_goals (first | assumption | wp_step))
end xn
namespace LD
open PySem PySem.Spec L2 LB xn PyProof.Rows
theorem u5:bootBuiltins "dict"=some (.type "dict"):=by decide+kernel
section
variable{X:Cx}{a b e f:Expr}{ta tb t:bz}{tA:gn}{pos p p2:Pos}
noncomputable def Tt(T:String):Dt->Option Bool
 | .aI=>some false
 | .bl _=>some (T=="bool" || T=="int")
 | .int _=>some (T=="int")
 | .str _=>some (T=="str")
 | .lst _=>some (T=="list")
 | .tup _=>some (T=="tuple")
 | _=>none
theorem EM{b:Bool}(r:Rep M H v d)(h:Tt T d=some b):sG T H v=some b:=by
 cases r with
 | aI=>exact h
 | bl c=>exact h
 | int c=>exact h
 | str c=>exact h
 | lst e n l r=>simp only [sG,e];exact h
 | tup e n l r=>simp only [sG,e];exact h
 | yG e n k l r=>cases h
 | jO e n k l r=>cases h
inductive Kb(T:String)(Q:Dt->List Sl->Prop)(d:Dt)(δ':List Sl):Prop
 | mk (b:_) (h1:Tt T d=some b) (h2:Q (.bl b) δ')
def R7(T:String)(t:bz):bz:=fun δ Q=>t δ fun d δ'=>Kb T Q d δ'
theorem yT:bootBuiltins "isinstance"=some (.builtin "isinstance"):=by decide+kernel
theorem aX(hT:T="int"\/T="bool"\/T="tuple"\/T="list"\/T="str")(hm:X.mg "isinstance"=none)(ha:PA X [e,f] (lY (lE t) (lY (tC (.ty T)) rF)))(hg:Gl X "isinstance":=by rfl)(he:starEach [e,f] X.env=(false,eval e X.env)::starEach [f] X.env:=by rfl)(cN:(backTo pos (starEach [f] X.env)).any (·.1)=false:=by rfl):
  Ev X (.Call (.Name "isinstance" p) [e,f] [] pos) (R7 T t):=PE.imp (i9 (Jl hT) hg hm yT ha (by decide) (by decide) he cN) fun σ H Q lJ=>(by obtain⟨W,M,α,δ,Qd,E,q,k⟩:=lJ;exact(
 ⟨W,M,α,δ,_,E,q,fun d δ' H' v kH E1 c1 r1=>(by obtain⟨b,hb,q1⟩:=kH;exact(⟨v,b,rfl,EM r1 hb,k _ _ _ _ q1 E1 c1 (.bl _)⟩))⟩))
end
end LD
namespace LD
open PySem PySem.Spec L2 LB xn PyProof.Rows LW
section
variable{X:Cx}{a b e f:Expr}{ta tb t t':bz}{tA:gn}{pos p p2:Pos}
theorem aA.rev(h:aA M H xs ds):aA M H xs.reverse ds.reverse:=by
 induction xs generalizing ds with
 | nil=>
  cases ds with
  | nil=>exact .nil
  | cons=>have:=h.1;simp at this
 | cons x xs ih=>
  cases ds with
  | nil=>have:=h.1;simp at this
  | cons d ds=>
   obtain⟨y,ys,e,r1,r2⟩:=h.aQ;cases e;rw[ae2,ae2];exact(ih r2).append (.one r1)
inductive Fw(Q:Dt->List Sl->Prop)(d:Dt)(δ2:List Sl):Prop
 | mk (ds:_) (h1:d= .tup ds) (h2:Q (.tup ds.reverse) δ2)
def NL(t:bz)(tk:KD):bz:=fun δ Q=>t δ fun d δ1=>tk δ1 fun o δ2=>o=some (-1)/\Fw Q d δ2
theorem JW(he:Ev X e t)(hk:Pv X (some k) tk):Ev X (.Subscript e (.Slice none none (some k) p2) pos) (NL t tk):=PE.imp (IC he hk) fun σ H Q dM=>(by obtain⟨W,M,α,δ,Qd,E,q,k⟩:=dM;exact(
 ⟨W,M,α,δ,_,E,q,fun d δ1 H1 x q1 E1 c1 r1=>⟨W,M,α,δ1,_,E1,q1,fun o2 δ2 H2 iU E2 c2=>(by obtain⟨e2,ds,e,q2⟩:=iU;exact(by
  subst e;obtain⟨a,xs,rfl,ha,n,rr⟩:=(r1.chg E1 c2).bE;refine⟨e2,a,xs,rfl,ha,fun p hp=>?_⟩;have s:aC H2 (upd H2 p (.tup xs.reverse)):=aC.new hp;exact k _ _ _ _ q2 (E2.same s) ((c1.tr c2).tr (da.of s)) (Rep.fZ af (E2.fresh hp) (rr.rev.same s))))⟩⟩))
def UE:Dt->Prop
 | .aI=>True
 | .bl _=>True
 | .int i=>i.natAbs < 2^140
 | .str x=>x.length<=15/\ ∀c∈x.cps.toList,c < 16^8
 | _=>False
def Lv:Nat->Nat->Dt->Prop
 | 0,w,d=>UE d/\200<=w
 | k+1,w,d=>Lv k w d\/ ∃es n w',(d= .lst es\/d= .tup es)/\es.length<=n/\3+n*(w'+2)<=w/\ ∀e∈es,Lv k w' e
theorem Lv.le{w:Nat}: ∀{j k:Nat},Lv j w d->j<=k->Lv k w d
 | j, 0, h, e => by have : j = 0 := by omega
                    subst this;exact h
 | j,k+1,h,e=>by
  by_cases z:j=k+1
  . subst z;exact h
  . exact .inl (Lv.le h (by omega))
noncomputable def yH:Nat->Dt->PyData
 | _,.aI=> .none
 | _,.bl b=> .bool b
 | _,.int i=> .int i
 | _,.str x=> .str x
 | m+1,.lst es=> .list (es.map (yH m))
 | m+1,.tup es=> .tuple (es.map (yH m))
 | _,_=> .none
theorem xh{M:Addr->Prop}{H:Hp}{v:V}{d:Dt}(r:Rep M H v d)(h:UE d):vm v:=by
 cases r <;> first | exact h | exact h.elim
theorem tY{α:Type}{f:α->Nat}{w:Nat}: ∀{l:List α},(∀x∈l,f x<=w)->(l.map fun x=>f x+2).sum<=l.length*(w+2)
 | [],_=>by simp
 | x::l,h=>by
  have:=tY (l:=l) fun y hy=>h y (YQ _ hy);have:=h x YN;rw[YV,List.sum_cons,YS,Nat.succ_mul];omega
theorem aA.mem(h:aA M H xs ds)(hx:x∈xs): ∃d∈ds,Rep M H x d:=by
 obtain⟨i,hi,e⟩:=ZW hx;have jN:i < ds.length:=by rw[<-h.1];exact hi
 exact⟨ds[i],Zv _,h.2 i _ _ (by rw[Ys hi,e]) (Ys jN)⟩
theorem Lv.td: ∀{k m w:Nat} {v:V} {d:Dt},Lv k w d->Rep M H v d->k<=m->Td (fun _=>True) H k v/\wt H m v<=w
 | 0,m,w,v,d,h,r,_=>⟨xh r h.1,by rw[zx (xh r h.1)];exact h.2⟩
 | k+1,0,_,_,_,_,_,hk=>absurd hk (by omega)
 | k+1,m+1,w,v,d,h,r,hk=>by
  rcases h with h | ⟨es,n,w1,h1,h2,h3,h4⟩
  . have:=Lv.td (m:=m+1) h r (by omega);exact⟨.inl this.1,this.2⟩
  . rcases h1 with rfl | rfl
    . obtain⟨a,xs,rfl,ha,_,rr⟩:=r.dF;have all: ∀x∈xs,Td (fun _=>True) H k x/\wt H m x<=w1:=fun x hx=>by
       obtain⟨e,he,re⟩:=rr.mem hx;exact Lv.td (h4 e he) re (by omega)
      refine⟨Td.lst ha trivial fun x hx=>(all x hx).1,?_⟩;rw[zw ha];have s:=tY (f:=wt H m) (l:=xs) fun x hx=>(all x hx).2;have:xs.length*(w1+2)<=n*(w1+2):=ah2 _ (by rw[rr.1];exact h2);omega
    . obtain⟨a,xs,rfl,ha,_,rr⟩:=r.bE;have all: ∀x∈xs,Td (fun _=>True) H k x/\wt H m x<=w1:=fun x hx=>by
       obtain⟨e,he,re⟩:=rr.mem hx;exact Lv.td (h4 e he) re (by omega)
      refine⟨Td.tup ha fun x hx=>(all x hx).1,?_⟩;rw[zv ha];have s:=tY (f:=wt H m) (l:=xs) fun x hx=>(all x hx).2;have:xs.length*(w1+2)<=n*(w1+2):=ah2 _ (by rw[rr.1];exact h2);omega
theorem wV{M:Addr->Prop}{H:Hp}: ∀{m:Nat} {v:V} {d:Dt},Rep M H v d->((∀ks es,d≠ .yG ks es)/\ ∀ks es,d≠ .jO ks es)->(∀es,d= .lst es\/d= .tup es-> ∀e∈es,∀v,Rep M H v e->1<=m->dat H (m - 1) v=yH (m - 1) e)->dat H m v=yH m d:=fun{m v d} r nd h=>by
 cases r with
 | aI=>cases m <;> rfl
 | bl b=>cases m <;> rfl
 | int b=>cases m <;> rfl
 | str b=>cases m <;> rfl
 | @lst a xs ds e n l r=>
  cases m with
  | zero=>rfl
  | succ m=>
   rw[qx e];show PyData.list _=PyData.list _;congr 1
   refine Z2 (by simp [l]) fun i h1 h2=>?_;rw[List.getElem_map,List.getElem_map];rw[Yt] at h1 h2;exact h ds (.inl rfl) _ (Zv h2) _ (r i _ _ (Ys h1) (Ys h2)) (by omega)
 | @tup a xs ds e n l r=>
  cases m with
  | zero=>rfl
  | succ m=>
   rw[qw e];show PyData.tuple _=PyData.tuple _;congr 1
   refine Z2 (by simp [l]) fun i h1 h2=>?_;rw[List.getElem_map,List.getElem_map];rw[Yt] at h1 h2;exact h ds (.inr rfl) _ (Zv h2) _ (r i _ _ (Ys h1) (Ys h2)) (by omega)
 | yG=>exact absurd rfl (nd.1 _ _)
 | jO=>exact absurd rfl (nd.2 _ _)
theorem Lv.dat{M:Addr->Prop}{H:Hp}: ∀{k m w:Nat} {v:V} {d:Dt},Lv k w d->Rep M H v d->dat H m v=yH m d
 | 0,m,w,v,d,h,r=>wV r ⟨(fun ks es z=>by subst z;exact h.1),(fun ks es z=>by subst z;exact h.1)⟩ fun es z=>by rcases z with rfl | rfl <;> exact h.1.elim
 | k+1,m,w,v,d,h,r=>by
  rcases h with h | ⟨es,n,w1,h1,h2,h3,h4⟩
  . exact Lv.dat h r
  . exact wV r ⟨(fun ks es z => by subst z; rcases h1 with z | z <;> cases z), (fun ks es z => by subst z; rcases h1 with z | z <;> cases z)⟩ fun GQ z e he v re _ => by
      have:GQ=es:=by rcases h1 with rfl | rfl <;> rcases z with z | z <;> first | (injection z with z;exact z.symm) | cases z
      subst this;exact Lv.dat (h4 e he) re
end
end LD
namespace LD
open PySem PySem.Spec L2 LB PyProof.Rows LW
theorem Fq:Ev X e (fun _ _=>False):=fun pins s σ H Q I tP=>(by obtain⟨_,_,_,_,_,_,q,_⟩:=tP;exact(q.elim))
end LD
namespace LD
open PySem PySem.Spec L2 LB xn PyProof.Rows
inductive tJ:Dt->Prop where
 | aI:tJ .aI
 | bl (b:Bool):tJ (.bl b)
 | int (i:Int):tJ (.int i)
 | str (x:Str):tJ (.str x)
 | tup {ds:List Dt}:(∀d∈ds,tJ d)->tJ (.tup ds)
theorem Rep.zc(r:Rep M H v d)(f:tJ d)(al:jJ M' H):Rep M' H v d:=by
 induction r with
 | aI=>exact .aI
 | bl b=>exact .bl b
 | int i=>exact .int i
 | str x=>exact .str x
 | lst h n l r ih=>cases f
 | tup h n l r ih=>
  cases f with
  | tup f=>exact .tup h (al.tup h) l fun i x d h1 h2=>ih i x d h1 h2 (f d (Zd h2))
 | yG h n e l r ih=>cases f
 | jO h n e l r ih=>cases f
theorem aA.zc(r:aA M H v d)(f: ∀x∈d,tJ x)(al:jJ M' H):aA M' H v d:=⟨r.1,fun i x e h1 h2=>(r.2 i x e h1 h2).zc (f e (Zd h2)) al⟩
inductive vm:Dt->Prop where
 | aI:vm .aI
 | bl (b:Bool):vm (.bl b)
 | int (i:Int):vm (.int i)
 | str (x:Str):vm (.str x)
theorem Rep.K8(r:Rep M H v d)(f:vm d):Rep M' H' v d:=by
 cases f <;> cases r
 . exact .aI
 . exact .bl _
 . exact .int _
 . exact .str _
section
variable{X:Cx}{a b c e:Expr}{es:List Expr}{ta tb t:bz}{pos p:Pos}{x:Str}{k:Nat}{ps:List Str}
theorem aB.N1{W:List Wd}{M:Addr->Prop}{α:List (List Addr)}{H H':Hp}{σ:L2.St}{δ:List Sl}{i:Nat}{ds:List Dt}(E:aB W M α H σ δ)(hi:δ[i]?=some (.ow ds))(hs: ∀j s,j≠i->δ[j]?=some s->s= .no\/(∃d,s= .im d)\/ ∃t,s= .bx t){a:Addr}(ha:α[i]?=some [a])
  (E1:aB W (fun b=>M b/\b≠a) (α.set i []) H' σ (δ.set i (.im (.lst ds)))) (c1:da (α.set i []) H H'):aB W M α H' σ δ/\da α H H':=by
 obtain⟨a',vs,h1,h2,h3,r⟩:=E.ow hi;rw[ha] at h2;cases h2;have E':=E.BO hi ha;have sub: ∀b,b∈(α.set i []).flatten->b∈α.flatten/\b≠a:=fun b hb=>⟨(br hb).elim id fun z=>absurd z Yy,(E'.mu b hb).2⟩
 have na:a∉(α.set i []).flatten:=fun z=>(sub a z).2 rfl;have uG:H' a=some (.lst vs):=c1 _ _ h3 na;have cg:da α H H':=fun b o e n=>c1 b o e fun z=>n (sub b z).1;have keep: ∀b o,H b=some o-> ¬M b->H' b=some o/\ ¬M b:=fun b o e n=>⟨cg b o e fun z=>n (E.mu b z),n⟩
 refine⟨⟨E.ls,E.la,fun j s hj=>?_,E.nd,E.mu,fun b hb=>?_,fun Wd hW=>?_⟩,cg⟩
 . by_cases bN:j=i
   . subst bN;rw[hi] at hj;cases hj;exact⟨_,_,h1,ha,a,vs,rfl,rfl,uG,r.mono keep⟩
   . obtain⟨o,as,g1,g2,g3⟩:=E.sl j s hj;rcases hs j s bN hj with rfl | ⟨d,rfl⟩ | ⟨t,rfl⟩
     . exact⟨o,as,g1,g2,g3⟩
     . exact⟨o,as,g1,g2,g3.1,let ⟨u,e,ru⟩:=g3.2;⟨u,e,ru.mono keep⟩⟩
     . obtain⟨o2,xj,f1,f2,f3⟩:=E1.sl j (.bx t) (by rw[YF (Ne.symm bN)];exact hj);rw[YF (Ne.symm bN)] at f2;exact⟨o2,xj,f1,f2,f3⟩
 . by_cases z:b=a
   . subst z;exact⟨_,uG,fun xs z=>by cases z⟩
   . exact E1.al b ⟨hb,z⟩
 . have k0:=E.w Wd hW;have k1:=E1.w Wd hW;exact⟨k1.bs,k1.ex,k0.fr,k0.m0,k0.m1,k0.bx,k0.fz⟩
def J7(i:Nat)(t:bz):bz:=fun δ Q=> ∃ds,δ[i]?=some (.ow ds)/\(∀j s,j≠i->δ[j]?=some s->s= .no\/(∃d,s= .im d)\/ ∃t,s= .bx t)/\t (δ.set i (.im (.lst ds))) fun d δ'=>δ'=δ.set i (.im (.lst ds))/\tJ d/\Q d δ
theorem lD(i:Nat)(h:Ev X e t):Ev X e (J7 i t):=PE.imp h fun σ H Q iU=>(by obtain⟨W,M,α,δ,Qd,E,⟨ds,hi,hs,q⟩,k⟩:=iU;exact(by
 obtain⟨a,xs,h1,h2,h3,r⟩:=E.ow hi;refine⟨W,_,α.set i [],_,_,E.BO hi h2,q,fun d δ' H' v nz E1 c1 r1=>?_⟩;obtain⟨eδ,fl,q1⟩:=nz;subst eδ;obtain⟨E2,c2⟩:=E.N1 hi hs h2 E1 c1;exact k _ _ _ _ q1 E2 c2 (r1.zc fl E2.al)))
end
section
variable{X:Cx}{a b e:Expr}{t ta tk:bz}{tA:gn}{pos p apos eG:Pos}
inductive Oq(ds:List Dt)(Q:Dt->Prop):Prop
 | mk (ns:List Int) (h1:ds= [.lst (ns.map .int)]) (h2:Q (.int ns.sum))
theorem Ny(hc:X.calm=true)(hm:X.mg "sum"=none)(ha:Av X [e] tA)(hg:Gl X "sum":=by rfl)(he:starEach [e] X.env=(false,eval e X.env)::starEach [] X.env:=by rfl)(cN:(backTo pos (starEach [] X.env)).any (·.1)=false:=by rfl):
  Ev X (.Call (.Name "sum" p) [e] [] pos) (wZ Oq tA):=fV (CN hc) (fun M H xs ds Qd Q al r cj k=>(by
 obtain⟨ns,e,q⟩:=cj;subst e;obtain⟨x,rfl,r1⟩:=cK r;obtain⟨a,zs,rfl,ha,n,rr⟩:=r1.dF;rw[ints_rep rr] at ha;exact⟨a,ns,rfl,cY.of ha,k H _ _ q (fun _ _ z=>z) (.int _)⟩)) hg hm yQ ha (by decide) (by decide) he cN
end
end LD
namespace L2
open PySem PySem.Spec PyProof.Rows
inductive vg(H:Hp):Nat->V->V->Bool->Prop
 | flat {k:Nat} {v w:V}:eD v=true->eD w=true->vg H k v w (ze v w)
 | tup {k:Nat} {p q:Addr} {xs ys:List V} {e:Nat->Bool}:H p=some (.tup xs)->H q=some (.tup ys)->(∀(j:Nat) x y,xs[j]?=some x->ys[j]?=some y->vg H k x y (e j))->vg H (k+1) (.ref p) (.ref q) ((List.range (min xs.length ys.length)).all e && xs.length==ys.length)
 | lst {k:Nat} {p q:Addr} {xs ys:List V} {e:Nat->Bool}:H p=some (.lst xs)->H q=some (.lst ys)->(∀(j:Nat) x y,xs[j]?=some x->ys[j]?=some y->vg H k x y (e j))->vg H (k+1) (.ref p) (.ref q) ((List.range (min xs.length ys.length)).all e && xs.length==ys.length)
theorem BX(h:eD v=true):ze v v=true:=by cases v <;> first | rfl | (show(_==_)=true;exact ag9 _) | cases h
theorem tE(h: ∀j,j < n->e j=true):((List.range (min n n)).all e && n==n)=true:=by
 rw[Nat.min_self,ag9,Bool.and_true,ab4];exact fun j hj=>h j (Zp.mp hj)
theorem vg.self: ∀{k:Nat} {v w:V} {b:Bool},vg H k v w b->v=w->b=true:=by
 intro k v w b h;induction h with
 | flat f1 f2=>intro e;subst e;exact BX f1
 | tup h1 h2 _ ih=>
  intro e;cases e;rw[h1] at h2;cases h2;exact tE fun j hj=>ih j _ _ (Ys hj) (Ys hj) rfl
 | lst h1 h2 _ ih=>
  intro e;cases e;rw[h1] at h2;cases h2;exact tE fun j hj=>ih j _ _ (Ys hj) (Ys hj) rfl
theorem item_at(r:Vals xs ao)(h:j < ao.toArray.size): ∃x,xs[j]?=some x/\RelV x ao.toArray[j]:=by
 have hl:=r.length;have hj:j < ao.length:=by simpa using h
 obtain⟨u,e,ru⟩:=r.get (i:=j) (x:=xs[j]'(by lia)) (Ys _);refine⟨_,Ys (by lia),?_⟩;have:ao.toArray[j]=u:=by have:=(YB.mp e).2;simpa using this
 rw[this];exact ru
theorem vg.at(I:Inv X pins σ H s): ∀{k:Nat} {v w:V} {b:Bool},vg H k v w b-> ∀{A:Around} {u u':Value},A.units+k < cLine->RelV v u->RelV w u'->SeqAt.EqAt A s u u' b:=by
 intro k v w b h;induction h with
 | flat f1 f2=>intro A u u' _ r1 r2;exact BZ r1 r2 f1 f2
 | @tup k p q xs ys e h1 h2 hc ih=>
  intro A u u' hu r1 r2;cases r1;cases r2;by_cases c:p=q
  . subst c;rw[(vg.tup h1 h2 hc).self rfl];exact SeqAt.EqAt.same _
  . obtain⟨ao,rv,pl,_⟩:=I.tuple (dE.of h1);obtain⟨de,nv,Ed,_⟩:=I.tuple (dE.of h2);have g:=SeqAt.RcAt.tuples (A:=A) (s:=s) (e:=e) (show s.heap.IsTuple p _ from pl) (show s.heap.IsTuple q _ from Ed) (by lia) fun j j1 j2=>by
     obtain⟨x,hx,rx⟩:=item_at rv j1;obtain⟨y,hy,ry⟩:=item_at nv j2;exact ih j x y hx hy (by show A.units+1+k < cLine;lia) rx ry
    rw[YG,YG,<-rv.length,<-nv.length] at g;exact SeqAt.EqAt.of_refs c g
 | @lst k p q xs ys e h1 h2 hc ih=>
  intro A u u' hu r1 r2;cases r1;cases r2;by_cases c:p=q
  . subst c;rw[(vg.lst h1 h2 hc).self rfl];exact SeqAt.EqAt.same _
  . obtain⟨ao,rv,pl,_⟩:=I.list (cY.of h1);obtain⟨de,nv,Ed,_⟩:=I.list (cY.of h2);refine SeqAt.EqAt.of_refs c ?_;by_cases l:xs.length=ys.length
    . have g := SeqAt.RcAt.lists (A := A) (s := s) (e := e) pl.isList Ed.isList (by rw[YG, YG, <- rv.length, <- nv.length]; exact l) (by lia) fun j j1 j2 => by
        obtain⟨x,hx,rx⟩:=item_at rv j1;obtain⟨y,hy,ry⟩:=item_at nv j2;exact ih j x y hx hy (by show A.units+1+k < cLine;lia) rx ry
      rw[YG,<-rv.length] at g;rw[<-l,Nat.min_self,ag9,Bool.and_true];exact g
    . have n:(xs.length==ys.length)=false:=by simpa using l
      rw[n,Bool.and_false];exact SeqAt.RcAt.lists_lengths pl.isList Ed.isList (by rw[YG,YG,<-rv.length,<-nv.length];simpa using l) (by lia)
end L2
namespace LD
open PySem PySem.Spec L2 LB PyProof.Rows
noncomputable def Dv:Nat->Dt->Dt->Bool
 | k+1,.lst ds,.lst es=>(List.range (min ds.length es.length)).all (fun j=>Dv k (ds.getD j .aI) (es.getD j .aI)) && ds.length==es.length
 | k+1,.tup ds,.tup es=>(List.range (min ds.length es.length)).all (fun j=>Dv k (ds.getD j .aI) (es.getD j .aI)) && ds.length==es.length
 | _,d,e=>JP d e
inductive Kn:Nat->Dt->Dt->Prop
 | flat {k:Nat} {d e:Dt}:eE d=true->eE e=true->Kn k d e
 | tup {k:Nat} {ds es:List Dt}:(∀(j:Nat) d e,ds[j]?=some d->es[j]?=some e->Kn k d e)->Kn (k+1) (.tup ds) (.tup es)
 | lst {k:Nat} {ds es:List Dt}:(∀(j:Nat) d e,ds[j]?=some d->es[j]?=some e->Kn k d e)->Kn (k+1) (.lst ds) (.lst es)
theorem BW(h:eE d=true)(h2:eE e=true):Dv k d e=JP d e:=by
 cases k with
 | zero=>unfold Dv;rfl
 | succ k=>cases d <;> cases e <;> first | (unfold Dv;rfl) | cases h | cases h2
theorem Kh(z:Kn k d e): ∀{v w:V},Rep M H v d->Rep M H w e->vg H k v w (Dv k d e):=by
 induction z with
 | flat f1 f2=>
  intro v w r1 r2;rw[BW f1 f2,<-wM r1 r2 f1 f2];exact .flat (jq r1 f1) (jq r2 f2)
 | @tup k ds es _ ih=>
  intro v w r1 r2;obtain⟨p,xs,rfl,h1,_,rr⟩:=r1.bE;obtain⟨q,ys,rfl,h2,_,oB⟩:=r2.bE;show vg H (k+1) _ _ ((List.range (min ds.length es.length)).all (fun j=>Dv k (ds.getD j .aI) (es.getD j .aI)) && ds.length==es.length);rw[<-rr.1,<-oB.1];refine .tup h1 h2 fun j x y hx hy=>?_;have l1:j < ds.length:=by rw[<-rr.1];exact(YB.mp hx).1
  have l2:j < es.length:=by rw[<-oB.1];exact(YB.mp hy).1
  rw[show ds.getD j .aI=ds[j] by simp [List.getD,l1],show es.getD j .aI=es[j] by simp [List.getD,l2]];exact ih j _ _ (Ys l1) (Ys l2) (rr.2 j _ _ hx (Ys l1)) (oB.2 j _ _ hy (Ys l2))
 | @lst k ds es _ ih=>
  intro v w r1 r2;obtain⟨p,xs,rfl,h1,_,rr⟩:=r1.dF;obtain⟨q,ys,rfl,h2,_,oB⟩:=r2.dF;show vg H (k+1) _ _ ((List.range (min ds.length es.length)).all (fun j=>Dv k (ds.getD j .aI) (es.getD j .aI)) && ds.length==es.length);rw[<-rr.1,<-oB.1];refine .lst h1 h2 fun j x y hx hy=>?_;have l1:j < ds.length:=by rw[<-rr.1];exact(YB.mp hx).1
  have l2:j < es.length:=by rw[<-oB.1];exact(YB.mp hy).1
  rw[show ds.getD j .aI=ds[j] by simp [List.getD,l1],show es.getD j .aI=es[j] by simp [List.getD,l2]];exact ih j _ _ (Ys l1) (Ys l2) (rr.2 j _ _ hx (Ys l1)) (oB.2 j _ _ hy (Ys l2))
end LD
namespace L2
open PySem PySem.Spec PyProof.Rows HT
def n4(A:Around)(s:Shared)(y x:Value)(b:Bool):Prop:=
 ∀(prog:Program) (w:World) (E:Value->Shared->Prop) (Q:Value->Shared->Prop),Q (.bool b) s->wpAny (model prog w) A (richCompare .Lt y x) Q E s
noncomputable def mM(n m:Nat)(e l:Nat->Bool):Nat->Nat->Bool
 | 0,_=>decide (n < m)
 | f+1,i=>if e i then mM n m e l f (i+1) else l i
section
open PySem.AutoSeq1 (wpAny_loadPart')
open PySem.MeetsSeq PySem.MeetsSeq2 PySem.MeetsSeq3
theorem nD(l b:Addr)(items aR:Array Value)(n n2:Nat)(dd K5:Option Addr)(sl HQ:Array (Option Value))(e lo:Nat->Bool):
  Meets (Builtin.«tuple.__lt__» ⟨[.ref l,.ref b],[]⟩)
   (fun A R s=>s.heap.get? l=some {cls:= .type "tuple",dict:=dd,data:= .seq items n,slots:=sl}/\s.heap.get? b=some {cls:= .type "tuple",dict:=K5,data:= .seq aR n2,slots:=HQ}/\
    (∀j (h1:j < items.size) (h2:j < aR.size),SeqAt.EqAt A.in1 s items[j] aR[j] (e j))/\(∀j (h1:j < items.size) (h2:j < aR.size),e j=false->n4 A.in1 s items[j] aR[j] (lo j))/\
    R (.ok (.ret (.bool (mM items.size aR.size e lo (min items.size aR.size) 0)))) s):=
 .of_wp fun prog w A R s h=>by
  obtain⟨hp,g,d,tk,os⟩:=s;obtain⟨hl,hb,he,ho,h⟩:=h;have f2:=AutoSeq1.sub_tuple_tuple;have zl:(items.toList.zip aR.toList).length=min items.size aR.size:=by rw[List.length_zip,YH,YH]
  wp_walk using ZO hl,ZO hb,wpAny_forIn_list _ (fun rest b s'=>b.1=none/\s'=⟨hp,g,d,tk,os⟩/\ ∃i,i<=min items.size aR.size/\rest=(items.toList.zip aR.toList).drop i/\
   R (.ok (.ret (.bool (mM items.size aR.size e lo (min items.size aR.size - i) i)))) ⟨hp,g,d,tk,os⟩) _
  case turn=>
   rintro⟨y,x⟩ rest b s' ⟨wI,rfl,i,hi,hz,hR⟩
   have il:i < (items.toList.zip aR.toList).length:=by
    rcases Nat.lt_or_ge i (items.toList.zip aR.toList).length with c | c
    . exact c
    . rw[List.drop_eq_nil_of_le c] at hz;cases hz
   rw[ae4 il] at hz;injection hz with Tu MS
   rw[zl] at il;have i1:i < items.size:=by lia
   have i2:i < aR.size:=by lia
   rw[List.getElem_zip] at Tu;injection Tu with hy hx
   have hy:y=items[i]:=by rw[hy];simp
   have hx:x=aR[i]:=by rw[hx];simp
   subst hy hx;obtain⟨f,ef⟩: ∃f,min items.size aR.size - i=f+1:=⟨min items.size aR.size - i - 1,by lia⟩
   rw[ef,mM] at hR;refine Yr (he i i1 i2 prog w _ _ ?_);cases c:e i with
   | true=>
    rw[c,if_pos rfl] at hR;wp_walk
    exact⟨rfl,rfl,i+1,by lia,MS,by rw[show min items.size aR.size - (i+1)=f by lia];exact hR⟩
   | false=>
    rw[c,if_neg YJ] at hR;have VP:=ho i i1 i2 c prog w;wp_walk using VP
    exact⟨_,rfl,by simpa using hR⟩
  case fin=>
   rintro⟨b1,b2⟩ s' ⟨wI,rfl,i,hi,hz,hR⟩
   simp only at wI;subst wI;have il:min items.size aR.size<=i:=by
    rw[<-zl];exact List.drop_eq_nil_iff.mp hz.symm
   rw[show min items.size aR.size - i=0 by lia,mM] at hR;wp_walk
   exact⟨_,rfl,by simpa [Builtin.Tuple.tupleCompareSizes] using hR⟩
  case h=>
   exact⟨rfl,rfl,0,Za _,rfl,h⟩
end
theorem n4.int(A:Around)(s:Shared)(a:Int)(t:Tok)(c:Int)(u:Tok):n4 A s (.int a t) (.int c u) (decide (a < c)):=fun prog w E Q h=>Am A s a t c u prog w E Q h
theorem n4.tuples{A:Around}{s:Shared}{e lo:Nat->Bool}(hl:IsTup s.heap l items)(hb:IsTup s.heap b aR)(hu:A.units < cLine)(he: ∀j (h1:j < items.size) (h2:j < aR.size),SeqAt.EqAt A.in1 s items[j] aR[j] (e j))(ho: ∀j (h1:j < items.size) (h2:j < aR.size),e j=false->n4 A.in1 s items[j] aR[j] (lo j)):
  n4 A s (.ref l) (.ref b) (mM items.size aR.size e lo (min items.size aR.size) 0):=fun prog w E Q h=>by
 obtain⟨⟨cls,dd,data,sl⟩,h1,hc,n,hd⟩:=id hl;obtain⟨⟨Sk,K5,data2,HQ⟩,h2,Dr,n2,hd2⟩:=id hb;simp only at hc hd Dr hd2;subst hc hd Dr hd2;exact richCompare_meets_room (op:= .Lt) ⟨_,h1,rfl⟩ ⟨_,h2,rfl⟩ PySem.F.slot_tuple_lt PySem.F.entry_tuple_lt (PySem.F.args_tuple_lt_2 _ _) (nD l b items aR n n2 dd K5 sl HQ e lo)
  ⟨h1,h2,he,ho,show Value.bool _≠Value.notImplemented/\Q (.bool _) s from⟨(fun x=>nomatch x),h⟩⟩ hu
inductive Dy(H:Hp):Nat->V->V->Bool->Prop
 | int {k:Nat} {i j:Int}:Dy H k (.int i) (.int j) (decide (i < j))
 | tup {k:Nat} {p q:Addr} {xs ys:List V} {e l:Nat->Bool}:H p=some (.tup xs)->H q=some (.tup ys)->(∀(j:Nat) x y,xs[j]?=some x->ys[j]?=some y->vg H k x y (e j))->(∀(j:Nat) x y,xs[j]?=some x->ys[j]?=some y->e j=false->Dy H k x y (l j))->Dy H (k+1) (.ref p) (.ref q) (mM xs.length ys.length e l (min xs.length ys.length) 0)
theorem Dy.at(I:Inv X pins σ H s): ∀{k:Nat} {v w:V} {b:Bool},Dy H k v w b-> ∀{A:Around} {u u':Value},A.units+k < cLine->RelV v u->RelV w u'->n4 A s u u' b:=by
 intro k v w b h;induction h with
 | int=>
  intro A u u' _ r1 r2;obtain⟨t,rfl⟩:=r1;obtain⟨t2,rfl⟩:=r2;exact n4.int A s _ t _ t2
 | @tup k p q xs ys e l h1 h2 hc ho ih=>
  intro A u u' hu r1 r2;cases r1;cases r2;obtain⟨ao,rv,pl,_⟩:=I.tuple (dE.of h1);obtain⟨de,nv,Ed,_⟩:=I.tuple (dE.of h2);have g:=n4.tuples (A:=A) (s:=s) (e:=e) (lo:=l) pl Ed (by lia) (fun j j1 j2=>by
   obtain⟨x,hx,rx⟩:=item_at rv j1;obtain⟨y,hy,ry⟩:=item_at nv j2;exact(hc j x y hx hy).at I (by show A.units+1+k < cLine;lia) rx ry) fun j j1 j2 ej=>by
   obtain⟨x,hx,rx⟩:=item_at rv j1;obtain⟨y,hy,ry⟩:=item_at nv j2;exact ih j x y hx hy ej (by show A.units+1+k < cLine;lia) rx ry
  rw[YG,YG,<-rv.length,<-nv.length] at g;exact g
end L2
namespace L2
open PySem PySem.Spec PyProof.Rows
noncomputable def held:Option Value->Array Value
 | none=> #[]
 | some v=> #[v,v]
def vi(val:Nat->Int)(j:Nat):Option Value->Prop
 | none=>j=0
 | some v=> ∃i t,i < j/\v= .int (val i) t/\ ∀k,k < j->val k<=val i
theorem CT(a v:Value):argsOk "max" ⟨[a],[("default",v)]⟩:=by unfold argsOk;kernel_rfl
section
variable{prog:Program}{w:World}{A:Around}{R:Result->Shared->Prop}{I S:Addr}{fp wr:List Addr}{n:Nat}{P:Nat->Value->Prop}{St:Nat->Heap->Prop}{val:Nat->Int}{d:Value}
theorem yd(W:Walks prog w A.in1 I fp wr n P St)(hv: ∀i v,P i v-> ∃t,v= .int (val i) t)(hS:S∉fp): ∀(k j:Nat) (s:Shared) (b:Option Value) (c:Nat),n - j=k->j<=n->St j s.heap->vi val j b->
  s.heap.get? S=some {cls:= .type "list",dict:=none,data:= .seq (held b) c,slots:= #[]}->
  (∀b h' tk,vi val n b->(∀x o,x∉wr->x≠S->s.heap.get? x=some o->h'.get? x=some o)->R (.ok (.ret (b.getD d))) {s with heap:=h',toks:=tk})->
  codeAny (model prog w) A (.builtin "max.loop" ⟨[.ref I,.none,.ref S],[("default",d)]⟩) R s:=by
 have nw:S∉wr:=fun z=>hS (W.sub _ z);have nm:(toString "max"++toString ".loop":String)="max.loop":=by decide
 intro k;induction k with
 | zero=>
  intro j s b c e1 e2 st g hs hR;have e3:j=n:=by omega
  subst e3;refine ac2 F.entry_max_loop ?_;rw[aa4 ae6 _];show wpAny _ A.in1 (seqItems? (.ref S) >>=_) _ _ s;refine Yr (aa2 hs rfl ?_);show wpAny _ A.in1 (tryCatch (pyNext (.ref I)) _ >>=_) _ _ s;refine Yr (wpAny_tryCatch (W.done s _ _ st fun h' tk hk=>?_));have oN:=hk S _ nw hs;cases b with
  | none=>exact Yr (Z7 (Yv (hR none _ tk g fun x o n1 n2 e=>hk x o n1 e)))
  | some v=>
   have kq:h'.get? S=some {cls:= .type "list",dict:=none,data:= .seq #[v,v] c,slots:= #[]}:=oN;show wpAny _ A.in1 (updateSeq S (fun _=> #[]) >>=_) _ _ _;refine Yr (wpAny_updateSeq kq rfl (Yr (af9 (Yv ?_))));exact hR (some v) _ tk g fun x o n1 n2 e=>(Z4 _ _ (Ne.symm n2)).trans (hk x o n1 e)
 | succ k ih=>
  intro j s b c e1 e2 st g hs hR;have lt:j < n:=by omega
  refine ac2 F.entry_max_loop ?_;rw[aa4 ae6 _];show wpAny _ A.in1 (seqItems? (.ref S) >>=_) _ _ s;refine Yr (aa2 hs rfl ?_);show wpAny _ A.in1 (tryCatch (pyNext (.ref I)) _ >>=_) _ _ s;refine Yr (wpAny_tryCatch (W.item j s _ _ lt st fun v h' tk hP az hk=>?_));have oN:=hk S _ nw hs;obtain⟨t,rfl⟩:=hv _ _ hP;cases b with
  | none=>
   have e3:j=0:=g;subst e3;show wpAny _ A.in1 (updateSeq S (fun _=> #[_,_]) >>=_) _ _ _;refine Yr (wpAny_updateSeq oN rfl ?_);rw[nm];refine Yv ⟨ad8 ae6 _,ih 1 _ (some (.int (val 0) t)) _ (by omega) lt (W.frame _ _ _ az fun x hx o e=>?_) ⟨0,t,Nat.one_pos,rfl,fun k hk=>?_⟩ (ab9 _ oN rfl) fun b h2 zM g2 k2=>?_⟩
   . exact(Z4 _ _ (fun z:S=x=>hS (by rw[z];exact hx))).trans e
   . rw[show k=0 by omega];exact ZV _
   . exact hR b h2 zM g2 fun x o n1 n2 e=>k2 x o n1 n2 ((Z4 _ _ (Ne.symm n2)).trans (hk x o n1 e))
  | some u=>
   obtain⟨i,t2,i1,rfl,i2⟩:=g;have kq:h'.get? S=some {cls:= .type "list",dict:=none,data:= .seq #[.int (val i) t2,.int (val i) t2] c,slots:= #[]}:=oN;show wpAny _ A.in1 (tryCatch (holding [_,_] (richCompare .Gt (.int (val j) t) (.int (val i) t2) >>=_)) _ >>=_) _ _ _;refine Yr (wpAny_tryCatch (Zs (Yr (CmpOf.ints_gt (P:=fun i v=> ∃t,v= .int (val i) t) val (fun _ _ z=>z) j i _ _ _ _ _ ⟨t,rfl⟩ ⟨t2,rfl⟩ ?_))));refine Yr (Zs (ac4 ?_));refine Yr (af9 (Yv ?_));by_cases c1:val j > val i
   . rw[if_pos (show(fun i j=>decide (val i > val j)) j i=true from Zf c1)];refine Yr (wpAny_updateSeq kq rfl (Yr (af9 ?_)));rw[nm];refine Yv ⟨ad8 ae6 _,ih (j+1) _ (some (.int (val j) t)) _ (by omega) lt (W.frame _ _ _ az fun x hx o e=>?_) ⟨j,t,ad1 _,rfl,fun k hk=>?_⟩ (ab9 _ kq rfl) fun b h2 zM g2 k2=>?_⟩
     . exact(Z4 _ _ (fun z:S=x=>hS (by rw[z];exact hx))).trans e
     . rcases Nat.lt_succ_iff_lt_or_eq.mp hk with z | z
       . have:=i2 k z;omega
       . rw[z];exact ZV _
     . exact hR b h2 zM g2 fun x o n1 n2 e=>k2 x o n1 n2 ((Z4 _ _ (Ne.symm n2)).trans (hk x o n1 e))
   . rw[if_neg (show¬(fun i j=>decide (val i > val j)) j i=true from fun z=>c1 (Ze z))];refine Yr (af9 ?_);rw[nm];refine Yv ⟨ad8 ae6 _,ih (j+1) _ (some (.int (val i) t2)) c (by omega) lt az ⟨i,t2,by omega,rfl,fun k hk=>?_⟩ oN fun b h2 zM g2 k2=>?_⟩
     . rcases Nat.lt_succ_iff_lt_or_eq.mp hk with z | z
       . exact i2 k z
       . rw[z];omega
     . exact hR b h2 zM g2 fun x o n1 n2 e=>k2 x o n1 n2 (hk x o n1 e)
end
theorem ye(hh:A.handled=none)(hl:s.heap.IsList l (intItems xs))(h: ∀b h' tk,vi (numAt xs) xs.size b->(∀x o,s.heap.get? x=some o->h'.get? x=some o)->Q (b.getD d) {s with heap:=h',toks:=tk}):
  wpAny (model prog w) A (call (.builtin "max") [.ref l] [("default",d)]) Q E s:=by
 have nm:(toString "max"++toString ".loop":String)="max.loop":=by decide
 refine kmb_tree F.kind_max F.plain_max F.entry_max (CT _ _) ?_;show wpAny _ A.in1 (Builtin.Builtins.bindParams "max" ["key","default"] 0 ⟨[],[("default",d)]⟩ >>=_) _ _ s;refine Yr (wpAny_of_eq (show Builtin.Builtins.bindParams "max" ["key","default"] 0 ⟨[],[("default",d)]⟩=pure [none,some d] from rfl) ?_);refine Yr (Yv ?_);refine Yr (iter_intList hl fun s2 e st fr ne=>?_);subst e;refine Yr (Zc ?_);rw[nm];have hz:(intItems xs).size=xs.size:=by simp [intItems]
 have W:=Walks.list (prog:=prog) (w:=w) (A:=A.in1) hh s.heap.objs.size l ne (intItems xs);refine Yv ⟨ad8 ae6 _,yd (val:=numAt xs) W (fun _ _=>intItems_at) (fun hm=>Zt _ (fr _ hm)) _ 0 _ none 0 rfl (Za _) (W.frame _ _ _ st fun x _ o e=>Yu _ e) rfl (YI _ rfl) fun b h' tk g hk=>?_⟩;refine h b h' tk (hz▸g) (old_kept fun x o n e=>hk x o n (Zb (YM e)) (Yu _ e))
section
variable{X:Cx}{e:Expr}{kn:List Keyword}{t tk:TA}{p pos:Pos}
def Xk(ns:List Int)(d:V)(v:V):Prop:=(ns= []/\v=d)\/ ∃M,v= .int M/\M∈ns/\ ∀a∈ns,a<=M
def LI(t tk:TA):TE:=fun σ H Q=>t σ H fun vs H1=>tk σ H1 fun ks H2=> ∃(a:Addr) (ns:List Int) (d:V),vs= [.ref a]/\ks= [d]/\H2 a=some (.lst (ns.map V.int))/\ ∀v,Xk ns d v->Q v H2
theorem yR:bootBuiltins "max"=some (.builtin "max"):=by decide+kernel
theorem Eg(hc:X.calm=true)(hg:Gl X "max")(hm:X.mg "max"=none)(ha:PA X [e] t)(hk:PK X kn tk)
  (wH:(backToKw pos (keywordEach kn X.env)).filterMap (·.1)=(["default"]:List Str):=by rfl) (k1:backTo pos (starEach [e] X.env)=(false,eval e X.env)::backTo pos (starEach [] X.env):=by rfl) (k2:(backTo pos (starEach [e] X.env)).any (·.1)=false:=by rfl)
  (k3:(backToKw pos (keywordEach kn X.env)).all (·.1.isSome)=true:=by rfl) (k4:(backToKw pos (keywordEach kn X.env)).any (·.1.isNone)=false:=by rfl):
  PE X (.Call (.Name "max" p) [e] kn pos) (LI t tk):=by
 intro pins s σ H Q I h;refine ab6 (fA I hg hm yR (callWith_kw (aV (ha pos pins s σ H _ I h) fun us s1 zz=>?_) k1 k2 k3 k4));obtain⟨vs,H1,I1,r1,q1⟩:=zz;refine aV (hk pos pins s1 σ H1 _ I1 q1) fun ws s2 zz=>?_;obtain⟨zs,H2,I2,rz,q2⟩:=zz;obtain⟨a,ns,d,rfl,rfl,hq,q⟩:=q2;obtain⟨u,rfl,ru⟩:=vals1 r1;cases ru;obtain⟨ud,rfl,rd⟩:=vals1 rz;rw[wH];obtain⟨ao,rv,pl,_⟩:=I2.list (cY.of hq);have hi:=intsAre_of rv;obtain⟨xs,hx⟩:=hi.allInts.items;have Dl:s2.heap.IsList a (intItems xs):=hx▸pl.isList;have Di:ns=xs.toList.map (·.1):=by
  rw[<-nums_intItems,<-hx];exact(show numsOf ao.toArray.toList=ns from hi.numsOf).symm
 refine ye (I2.ok.hd hc) Dl fun b h' tk g hk=>?_;have hlen:ns.length=xs.size:=by rw[Di,Yt,YH]
 cases b with
 | none=>exact⟨d,H2,I2.kept hk,rd,q d (.inl ⟨List.eq_nil_of_length_eq_zero (hlen.trans g),rfl⟩)⟩
 | some v=>
  obtain⟨i,t2,g1,rfl,g2⟩:=g;refine⟨.int _,H2,I2.kept hk,⟨_,rfl⟩,q _ (.inr ⟨_,rfl,?_,fun m hm=>?_⟩)⟩
  . rw[numAt_eq,<-Di];exact getD_mem (by omega)
  . rw[Di] at hm;obtain⟨j,hj,rfl⟩:=mem_getD hm;rw[Yt,YH] at hj;rw[<-numAt_eq];exact g2 j hj
end
end L2
namespace LD
open PySem PySem.Spec L2 LB PyProof.Rows
noncomputable def KO:Nat->Dt->Dt->Bool
 | _,.int i,.int j=>decide (i < j)
 | k+1,.tup ds,.tup es=>mM ds.length es.length (fun j=>Dv k (ds.getD j .aI) (es.getD j .aI)) (fun j=>KO k (ds.getD j .aI) (es.getD j .aI)) (min ds.length es.length) 0
 | _,_,_=>false
inductive Lb:Nat->Dt->Dt->Prop
 | int {k:Nat} {i j:Int}:Lb k (.int i) (.int j)
 | tup {k:Nat} {ds es:List Dt}:(∀(j:Nat) d e,ds[j]?=some d->es[j]?=some e->Kn k d e)->(∀(j:Nat) d e,ds[j]?=some d->es[j]?=some e->Lb k d e)->Lb (k+1) (.tup ds) (.tup es)
theorem wb:KO k (.int i) (.int j)=decide (i < j):=by cases k <;> rfl
theorem IW: ∀{k:Nat} {d e:Dt},Lb k d e-> ∀{v w:V},Rep M H v d->Rep M H w e->Dy H k v w (KO k d e):=by
 intro k;induction k with
 | zero=>
  intro d e z v w r1 r2;cases z with
  | int=>rw[wb];cases r1.ofInt;cases r2.ofInt;exact .int
 | succ k ih=>
  intro d e z v w r1 r2;cases z with
  | int=>rw[wb];cases r1.ofInt;cases r2.ofInt;exact .int
  | @tup _ ds es hs kq=>
   obtain⟨p,xs,rfl,h1,_,rr⟩:=r1.bE;obtain⟨q,ys,rfl,h2,_,oB⟩:=r2.bE;show Dy H (k+1) _ _ (mM ds.length es.length (fun j=>Dv k (ds.getD j .aI) (es.getD j .aI)) (fun j=>KO k (ds.getD j .aI) (es.getD j .aI)) (min ds.length es.length) 0);rw[<-rr.1,<-oB.1];have at': ∀{j x y},xs[j]?=some x->ys[j]?=some y-> ∃d e,ds[j]?=some d/\es[j]?=some e/\ds.getD j .aI=d/\es.getD j .aI=e/\Rep M H x d/\Rep M H y e:=fun{j x y} hx hy=>by
    have l1:j < ds.length:=by rw[<-rr.1];exact(YB.mp hx).1
    have l2:j < es.length:=by rw[<-oB.1];exact(YB.mp hy).1
    exact⟨ds[j],es[j],Ys l1,Ys l2,by simp [List.getD,l1],by simp [List.getD,l2],rr.2 j _ _ hx (Ys l1),oB.2 j _ _ hy (Ys l2)⟩
   refine .tup h1 h2 (fun j x y hx hy=>?_) (fun j x y hx hy _=>?_)
   . obtain⟨d,e,e1,e2,e3,e4,ra,rb⟩:=at' hx hy;rw[e3,e4];exact Kh (hs j d e e1 e2) ra rb
   . obtain⟨d,e,e1,e2,e3,e4,ra,rb⟩:=at' hx hy;rw[e3,e4];exact ih (kq j d e e1 e2) ra rb
end LD
namespace bD
open PySem PySem.Spec L2 LB PyProof.Rows PySem.W
theorem oK: ∀(us vs:List Value) (i:Nat),
  (∀j u v,us[j]?=some u->vs[j]?=some v->SeqAt.EqAt A s u v (e (i+j)))->(∀j u v,us[j]?=some u->vs[j]?=some v->e (i+j)=false->n4 A s u v (l (i+j)))->
  (i=0-> ∀u v,us[0]?=some u->vs[0]?=some v->e 0=false-> ∃a t b t',u= .int a t/\v= .int b t'/\l 0=decide (a < b))->
  Q (mM n m e l (min us.length vs.length) i) s->KatLex prog w A true (decide (n < m)) Q (us.zip vs) i s
 | [],_,_,_,_,_,q=>kat_nil (by rw[af3,Nat.zero_min] at q;exact q)
 | _::_,[],_,_,_,_,q=>kat_nil (by rw[af3,Nat.min_zero] at q;exact q)
 | u::us,v::vs,i,he,hl,h0,q=>by
  rw[List.zip_cons_cons];have e1:=he 0 u v rfl rfl;rw[YS,YS,show min (us.length+1) (vs.length+1)=min us.length vs.length+1 by lia,mM] at q;refine kat_cons (e1 prog w _ _ (kat_go (fun c=>?_) fun c=>?_))
  . rw[ac0] at c;rw[if_pos c] at q;refine kat_yes (oK us vs (i+1) (fun j a b h1 h2=>?_) (fun j a b h1 h2 h3=>?_) (fun z=>by lia) q)
    . have:=he (j+1) a b (by simpa using h1) (by simpa using h2);rw[show i+(j+1)=i+1+j by lia] at this;exact this
    . have:=hl (j+1) a b (by simpa using h1) (by simpa using h2);rw[show i+(j+1)=i+1+j by lia] at this;exact this h3
  . rw[ac0] at c;rw[if_neg (by rw[c];exact YJ)] at q;refine kat_no ?_;cases i with
    | zero=>
     obtain⟨a,t,b,t',rfl,rfl,e3⟩:=h0 rfl u v rfl rfl c;rw[e3] at q;exact oneLt_int q
    | succ i=>
     have:=hl 0 u v rfl rfl (by rw[ac0];exact c);rw[ac0] at this;exact kat_one _ _ (this prog w _ _ q)
theorem tU(I:Inv X pins σ H s)(h:H t=some (.tup ys)): ∃(o:Obj) (us:List Value) (n:Nat),s.heap.get? t=some o/\o.cls= .type "tuple"/\o.data= .seq us.toArray n/\Vals ys us:=by
 obtain⟨js,rj,pj,_⟩:=I.tuple (dE.of h);obtain⟨o,ho,hc,n,hd⟩:=(show s.heap.IsTuple t js.toArray from pj)
 exact⟨o,js,n,ho,hc,hd,rj⟩
theorem wK(I:Inv X pins σ H s): ∀{xs:List V} {us:List Value},Vals xs us->(∀x∈xs,∃t n ys,x= .ref t/\H t=some (.tup (.int n::ys)))-> ∃fs,KatTups s.heap us fs/\fs.length=us.length/\ ∀v∈fs,∃x t,v=Value.int x t
 | _,_,.nil,_=>⟨[],.nil,rfl,fun v hv=>absurd hv Yy⟩
 | _,_,.cons r rs,hp=>by
  obtain⟨fs,t,lf,hi⟩:=wK I rs fun x hx=>hp x (YQ _ hx);obtain⟨a,n,ys,e,ha⟩:=hp _ YN;subst e;cases r;obtain⟨o,us,m,ho,hc,hd,ru⟩:=tU I ha;cases ru with
  | cons r1 _=>
   obtain⟨tk,rfl⟩:=r1;refine⟨.int n tk::fs,.cons ho hc hd rfl t,by rw[YS,YS,lf],fun v hv=>?_⟩;rcases YU.mp hv with e | hv
   . exact⟨_,_,e⟩
   . exact hi v hv
theorem FY{A:Around}{k:Nat}{K:Nat->Int}(I:Inv X pins σ H s)(hu:A.units+k < cLine)(rv:Vals xs us)(h2:2<=us.length)(hp: ∀x∈xs,∃t n ys,x= .ref t/\H t=some (.tup (.int n::ys)))(hl: ∀i j x y,xs[i]?=some x->xs[j]?=some y->Dy H (k+1) x y (decide (K i < K j))): ∃κ,Ask prog w A us K s κ:=by
 obtain⟨fs,t,lf,hi⟩:=wK I rv hp;refine⟨tuples' true,fun Q q=>kat_kind (T:= .type "int") t (by lia) (fun v hv=>?_) (by rfl) q,fun i j jN Dn C q=>?_⟩
 . obtain⟨x,tk,rfl⟩:=hi v hv;exact Looks.of_pure rfl
 . have fi:us.getD i Value.none=us[i]:=by simp [List.getD,jN]
   have fj:us.getD j Value.none=us[j]:=by simp [List.getD,Dn]
   have li:i < xs.length:=by rw[rv.length];exact jN
   have lj:j < xs.length:=by rw[rv.length];exact Dn
   have L:=hl i j _ _ (Ys li) (Ys lj);obtain⟨u1,g1,r1⟩:=rv.get (Ys li);obtain⟨u2,g2,r2⟩:=rv.get (Ys lj);rw[Ys jN] at g1;rw[Ys Dn] at g2;have g1:us[i]=u1:=Option.some.inj g1;have g2:us[j]=u2:=Option.some.inj g2;obtain⟨t1,n1,Xs,e1,h1⟩:=hp _ (Zv li);obtain⟨t2,n2,Xr,e2,h2⟩:=hp _ (Zv lj);rw[e1] at r1 L;rw[e2] at r2 L;cases r1;cases r2;unfold kas_ask;rw[fi,fj,g1,g2];generalize decide (K i < K j)=b at L q;cases L with
   | @tup _ _ _ Xq Xp e l a1 a2 hc ho=>
    rw[h1] at a1;cases a1;rw[h2] at a2;cases a2;obtain⟨o1,Xv,m1,OR,_,K3,OH⟩:=tU I h1;obtain⟨o2,Xu,m2,K0,_,hd2,nv⟩:=tU I h2;refine kat_lt OR K3 K0 hd2 ?_;rw[YG,YG];have l1:=OH.length;have l2:=nv.length;rw[l1,l2] at q;have K9: ∀{ys:List V} {us:List Value},Vals ys us-> ∀(j:Nat) u,us[j]?=some u-> ∃y,ys[j]?=some y/\RelV y u:=fun{ys us} r j u h=>by
     have hj:j < ys.length:=by rw[r.length];exact(YB.mp h).1
     obtain⟨u',MM,ru⟩:=r.get (Ys hj);rw[h] at MM;cases MM;exact⟨_,Ys hj,ru⟩
    refine oK (e:=e) (l:=l) _ _ 0 (fun j u v g1 g2=>?_) (fun j u v g1 g2 hf=>?_) (fun _ u v g1 g2 hf=>?_) q
    . obtain⟨y1,y2,y3⟩:=K9 OH j u g1;obtain⟨x1,x2,x3⟩:=K9 nv j v g2;rw[ai1];exact(hc j y1 x1 y2 x2).at I hu y3 x3
    . obtain⟨y1,y2,y3⟩:=K9 OH j u g1;obtain⟨x1,x2,x3⟩:=K9 nv j v g2;rw[ai1] at hf ⊢;exact(ho j y1 x1 y2 x2 hf).at I hu y3 x3
    . obtain⟨y1,y2,y3⟩:=K9 OH 0 u g1;obtain⟨x1,x2,x3⟩:=K9 nv 0 v g2;cases y2;cases x2;have:=ho 0 _ _ rfl rfl hf;obtain⟨OC,rfl⟩:=y3;obtain⟨zM,rfl⟩:=x3;generalize l 0=b0 at this;cases this;exact⟨_,_,_,_,rfl,rfl,rfl⟩
end bD
namespace LD
open PySem PySem.Spec L2 LB PyProof.Rows bD
inductive G8:Dt->Prop
 | int (i:Int):G8 (.int i)
 | tup {ds:List Dt}:(∀d∈ds,G8 d)->G8 (.tup ds)
theorem G8.one(n:G8 d): ∀{e:Dt} {v:V},G8 e->Rep M H v d->Rep M H v e->d=e:=by
 induction n with
 | int i=>
  intro e v n2 r1 r2;cases r1.ofInt;cases n2 with
  | int j=>cases r2;rfl
  | tup h=>cases r2
 | @tup ds h ih=>
  intro e v n2 r1 r2;obtain⟨a,xs,rfl,h1,_,rr⟩:=r1.bE;cases n2 with
  | int j=>cases r2
  | @tup es h'=>
   obtain⟨a',OA,e1,sN,_,S7⟩:=r2.bE;cases e1;rw[h1] at sN;cases sN;have ll:ds.length=es.length:=rr.1.symm.trans S7.1;rw[show ds=es from Z2 ll fun i g1 g2=>ih _ (Zv g1) (h' _ (Zv g2)) (rr.2 i _ _ (Ys (by rw[rr.1];exact g1)) (Ys g1)) (S7.2 i _ _ (Ys (by rw[rr.1];exact g1)) (Ys g2))]
end LD
namespace L2
open PySem PySem.Spec PyProof.Rows
section
variable{X:Cx}{pins:List (Addr × Obj)}{σ:St}{H:Hp}{s:Shared}
theorem Inv.tabAt(I:Inv X pins σ H s)(hx:x∈bb)(ht:PySem.W.tabIn X.K x=some (c,P)):
  ∃ps es,H P=some (.tV ps)/\ps[0]?=some (.str (gU x) 0)/\s.heap.get? P=some (PySem.W.tabObj es)/\pe H ps es:=by
 obtain⟨ps,e1,e2⟩:=I.tab x hx c P ht;obtain⟨es,e3,e4⟩:=I.aT P _ e1;exact⟨ps,es,e1,e2,e3,e4⟩
structure jK(X:Cx)(x:Str)(params:Arguments)(body:Expr)(scope:Scope)(f c':Addr)(bX:List (Str × Addr))(pm qz:Value)(H:Hp)(h:Heap):Prop where
 fn:h.get? f=some (PySem.W.kla_obj "<lambda>" (gU x) params body scope bX pm c' qz)
 nf:H f=none
 QA:f∉lC X.stack
 code: ∃oc vs t,H c'=some (.lB oc (.own c'))/\oc.data= .fields vs/\vs[1]?=some (.str (gU x) t)
 c1: ∀y c,(y,c)∈bX->X.env.cells.lookup y=some c
 c2: ∀y,(y,NameKind.free)∈scope.names-> ∃c,(y,c)∈bX
theorem jK.cr(L:jK X x params body scope f c' bX pm qz H h)(aT:gw P w H h):h.CodeRec (.ref c') (gU x):=by
 obtain⟨oc,vs,t,e1,e2,e3⟩:=L.code;obtain⟨e4,_⟩:=aT _ _ e1;exact⟨c',oc,vs,t,rfl,e4,e2,e3⟩
theorem jK.on(L:jK X x params body scope f c' bX pm qz H h)(u:Un (lC X.stack) [] H H' h h'):jK X x params body scope f c' bX pm qz H' h':=by
 obtain⟨oc,vs,t,e1,e2,e3⟩:=L.code;exact⟨u.keep _ _ L.fn L.nf L.QA (by simp),u.free _ _ L.fn L.nf (by simp),L.QA,⟨oc,vs,t,u.nJ _ _ _ e1,e2,e3⟩,L.c1,L.c2⟩
theorem Inv.IS(I:Inv X pins σ H s)(h:s.heap.objs.size<=a):a∉lC X.stack:=fun hb=>by
 rcases YU.mp (I.pE a hb) with e | e
 . exact absurd (YW I.lt (by rw[<-e];exact h)) (Zt _)
 . exact I.Ms h e
theorem Bl{scope:Scope}(I:Inv X pins σ H s)(hx:x∈bb)(ht:PySem.W.tabIn X.K x=some (c,P))(hC:PySem.W.codeHdIn X.K c P=true)(oO:X.env.code= .ref c)(hq:X.env.qual++("<lambda>":Str)=gU x)(BB:defaultsOf params X.env=([],[]))(Q3: ∀y∈scope.names,y.2= .free->X.env.kindOf y.1=some .cell\/X.env.kindOf y.1=some .free)(k: ∀f c' bX pm qz s' H',Inv X pins σ H' s'->aC H H'->jK X x params body scope f c' bX pm qz H' s'.heap->Q (.ref f) s'):wpAny M A (eval (.Lambda params body scope pos) X.env) Q E s:=by
 obtain⟨ps,es,e1,e2,e3,tk,e4⟩:=I.tabAt hx ht;have TY:PySem.W.CodeHd s.heap c P:=PySem.W.codeHd_of_K I.qf hC;obtain⟨bX,Dp,c1,c2⟩:=eJ (scope:=scope) (env:=X.env) fun y hy e=>I.ok.has y.1 (Q3 y hy e);have hg:s.heap.Ns mainGlobals X.mg:=I.ok.mod.glob.keeps I.bk;obtain⟨bm,ob,b1,b2,b3,b4,b5,b6⟩:=I.ok.mod.bm;have N3:=I.bk _ _ b3;have V9:mainGlobals≠P:=fun q=>by
  obtain⟨o,GQ,ep,e,hd,_⟩:=hg;rw[q,e3] at e;cases e;cases hd
 have Ng:bm≠P:=fun q=>by
  rw[q,e3] at N3;cases N3;cases b4
 have Wt:bm≠mainGlobals:=fun q=>by
  obtain⟨o,GQ,ep,e,hd,_⟩:=hg;rw[q,e] at N3;cases N3;rw[hd] at b6;cases b6
 have hB:s.heap.BuiltinsAt X.mg P:=⟨bm,ob,b1,b2,Wt,Ng,N3,b4,b5,b6⟩
 refine PySem.W.kla_eval BB ?_;rw[hq];cases hm:codeAmong pos es.toList with
 | none=>
  refine PySem.W.kla_makeFunction (mg:=X.mg) Dp I.ok.glob hg oO TY e3 tk hm V9 hB fun c' qz h' OD QU Jw df Q6 Tz=>?_;obtain⟨c₂,oc,vs,t,z,MV,hd,hv⟩:=Q6;cases z;have Rx:P < s.heap.objs.size:=YM e3;have Wm:H c'=none:=I.aT.fresh Jw;have XR:c'≠P:=aa8 (YW Rx Jw);have Wz: ∀b o,H b=some o->b=P->o= .tV ps:=fun b o e q=>by subst q;rw[e1] at e;cases e;rfl
  have hs:aC H (upd H c' (.lB oc (.own c'))):=fun b o e=>by rw[ag (aj e Wm)];exact e
  have MO:s.heap.objs.size<=h'.objs.size:=YT Jw (Nat.le_of_lt df);have Rb:gw X.prog X.w (upd H c' (.lB oc (.own c'))) (h'.push (PySem.W.kla_obj "<lambda>" (gU x) params body scope bX ((X.mg "__name__").getD .none) c' qz)):=fun b o e=>by
   by_cases hb:b=c'
   . subst hb;rw[af] at e;cases e;exact⟨Yu _ MV,⟨oc,Yu _ MV⟩⟩
   . rw[ag hb] at e;by_cases Ng:b=P
     . have:=Wz b o e Ng;subst this;subst Ng;refine⟨_,Yu _ Tz,by rw[Zh];exact TriplesOk_snoc _ _ _ _ tk,fun pos' cv z=>?_⟩;rw[Zh] at z;have app: ∀(l:List Value),TriplesOk l->codeAmong pos' (l++ [rawInt pos.line,rawInt pos.col, .ref c'])=some cv->codeAmong pos' l=some cv\/cv= .ref c':=by
        intro l;fun_induction TriplesOk l with
        | case1=>
         intro _ z;simp only [List.nil_append,codeAmong,rawInt] at z;split at z
         . cases z;exact .inr rfl
         . cases z
        | case2 a' t' b' u' y' rest ih=>
         intro h z;simp only [List.cons_append,codeAmong] at z ⊢;split at z
         . rename_i hc;rw[if_pos hc];exact .inl z
         . rename_i hc;rw[if_neg hc];exact ih h z
        | case3 l h1 h2=>intro h;exact h.elim
       rcases app _ tk z with z | z
       . obtain⟨c3,Vo,UZ,q3,t3,U9,f1,f2,f3⟩:=e4 pos' cv z;exact⟨c3,Vo,UZ,q3,t3,U9,f1,hs _ _ f2,f3⟩
       . exact⟨c',oc,vs,gU x,t,0,z,af,hd,hv,e2⟩
     . refine(I.aT b o e).jU (fun d v BC q=>Yu _ (QU d v (fun y=>?_) q)) (fun d q=>hs _ _ q) (fun d xs q=>hs _ _ q) fun d o u q=>hs _ _ q;rcases BC with rfl | BC
       . exact Ng y
       . rw[y,e1] at BC;cases BC
  have U2:Un X.fs [] H (upd H c' (.lB oc (.own c'))) s.heap (h'.push (PySem.W.kla_obj "<lambda>" (gU x) params body scope bX ((X.mg "__name__").getD .none) c' qz)):=by
   have keep: ∀b o,s.heap.get? b=some o->H b=none->(h'.push (PySem.W.kla_obj "<lambda>" (gU x) params body scope bX ((X.mg "__name__").getD .none) c' qz)).get? b=some o:=fun b o q n=>Yu _ (QU b o (fun y=>by rw[y,e1] at n;cases n) q);have Vk: ∀b o,s.heap.get? b=some o->b≠c':=fun b o q=>Zb (YW (YM q) Jw);refine⟨fun b o q n _ _=>keep b o q n,fun b o q n _ _=>⟨o.slots,keep b o q n⟩,fun b o q n _=>by rw[ag (Vk b o q)];exact n,fun b o q _=>?_,fun b xs q=>hs _ _ q,fun b o u q=>hs _ _ q,fun b Xz q=>⟨#[],by rw[hs _ _ q];simp⟩⟩;by_cases hb:b=P
   . subst hb;exact⟨_,Yu _ Tz⟩
   . exact⟨o,Yu _ (QU b o hb q)⟩
  refine k h'.objs.size c' bX _ qz _ _ (I.un U2 Rb) hs ⟨YI _ rfl,?_,I.IS MO,⟨oc,vs,t,af,hd,hv⟩,c1,c2⟩;rw[ag (aa8 df)];exact I.aT.fresh MO
 | some cv=>
  obtain⟨c',oc,vs,q,t,t',f1,f2,f3,f4,f5⟩:=e4 pos cv hm;subst f1;rw[e2] at f5;cases f5;refine PySem.W.kla_makeFunctionHit (mg:=X.mg) Dp I.ok.glob hg oO TY e3 tk hm hB fun qz h' OD hk hsz=>?_;have hn:H h'.objs.size=none:=I.aT.fresh hsz;refine k h'.objs.size c' bX _ qz _ _ (I.kept fun b o e=>Yu _ (hk b o e)) (aC.refl _) ⟨YI _ rfl,hn,I.IS hsz,⟨oc,vs,t,f2,f3,f4⟩,c1,c2⟩
structure C3(X:Cx)(p:Str)(caps:List Str)(js:List Nat)(params:Arguments)(body:Expr)(scope:Scope):Prop where
 kind:scope.kind= .function
 co:scope.isCoroutine=false
 gen:scope.isGenerator=false
 Bd: ∀y∈scope.names,y.2≠ .cell
 par:scope.names.lookup p=some .local
 NZ:js.map (fun j=>X.N[j]?)=caps.map some
 fr: ∀y∈caps,scope.names.lookup y=some .free
 DV: ∀y∈scope.names,y.2= .free->X.env.kindOf y.1=some .cell\/X.env.kindOf y.1=some .free
 bind: ∀(x:Str) (bX:List (Str × Addr)) (pm bZ qz u:Value),bindArgs (PySem.W.kla_fn "<lambda>" x params body scope bX pm bZ qz) ⟨[u],[]⟩=pure [(p,u)]
noncomputable abbrev uy (x:Str) (scope:Scope) (L f c':Addr) (bX:List (Str × Addr)):Env:=PySem.W.envX (gU x) scope L f (.ref c') bX
noncomputable def sC(X:Cx)(A:Around)(N:List Str)(x:Str)(scope:Scope)(f c':Addr)(bX:List (Str × Addr))(s:Shared)(H:Hp):Cx:=
 {X with A:=A.deeper (uy x scope s.heap.objs.size f c' bX),N:=N,s₀:=s,H₀:=H,env:=uy x scope s.heap.objs.size f c' bX,outer:=X.stack,stack:=(uy x scope s.heap.objs.size f c' bX)::X.stack,ex:= [],fn:=fun _=>false,calm:=true,pn:= [],xe:=fun _ _=>False}
noncomputable def oG(js:List Nat)(σ:St)(v:V):St:=some v::js.map fun j=>(σ[j]?).join
theorem Bm{A:Around}(S:C3 X p caps js params body scope)(I:Inv X pins σ H s)(L:jK X x params body scope f c' bX pm qz H s.heap)(hd:A.handled=none)(Wc:A.frames=some X.stack)(Wk:A.depth < recursionLimit)(r:RelV v u)(hb:PE (sC X A (p::caps) x scope f c' bX s H) body te)(hq:te (oG js σ v) H Q):
  wpAny (model X.prog X.w) A (call (.ref f) [u]) (fun r s'=> ∃v' H',Inv X pins σ H' s'/\RelV v' r/\Q v' H'/\jK X x params body scope f c' bX pm qz H' s'.heap/\Un (lC X.stack) [] H H' s.heap s'.heap) (fun _ _=>False) s:=by
 refine wpAny_call (PySem.W.kla_callFunE Wk L.fn rfl S.co S.gen rfl (L.cr I.aT) ?_);rw[S.bind];refine Yv (wpAny_newFunctionEnv S.Bd (fun y hy=>by rw[YX.mp hy];exact S.par) (fun h₁ Di KW=>⟨?_,?_⟩) S.kind)
 . exact I.nolimit.fresh _ KW
 have wG: ∀b o,s.heap.get? b=some o->h₁.get? b=some o:=fun b o e=>KW.extBut b o (Zb (YM e)) (Yu _ e);have sZ: ∀y,scope.names.lookup y=some .free-> ∃d,bX.lookup y=some d:=fun y hy=>by
  obtain⟨d,hd⟩:=L.c2 y (Zn hy);cases e:bX.lookup y with
  | some d=>exact⟨d,rfl⟩
  | none=>
   exfalso;have: ∀{l:List (Str × Addr)},(y,d)∈l->l.lookup y≠none:=fun{l}=>by
    induction l with
    | nil=>intro h;simp at h
    | cons q r ih=>
     intro h;obtain⟨k,w⟩:=q;rw[Zm];cases hb:y==k with
     | true=>simp
     | false=>
      rcases YU.mp h with z | z
      . cases z;simp at hb
      . exact ih z
   exact this hd e
 have cx: ∀y d,bX.lookup y=some d->X.env.cells.lookup y=some d:=fun y d e=>L.c1 y d (Zn e);have I1:Inv (sC X A (p::caps) x scope f c' bX s H) [] (oG js σ v) H {s with heap:=h₁,toks:=s.toks+ [(p,u)].length}:=by
  refine⟨⟨I.ok.mod,S.kind,rfl,rfl,Yx _,fun y z c e1 e2=>I.ok.inj y z c (cx y c e1) (cx z c e2),fun y hy=>?_,fun y c h _=>absurd h (by simp [sC]),fun _=>hd,Around.frames_deeper Wc,.inr ⟨rfl,rfl⟩,fun b hb=>absurd (show b∈([]:List Addr) from hb) (by simp),fun b o e=>⟨I.bk b o e,(I.bs b o e).2⟩,YT I.ok.FU I.sz,fun b _ _ hb=>absurd (show b∈([]:List Addr) from hb) (by simp),fun b hb=>absurd (show b∈([]:List Addr) from hb) (by simp),I.stack,I.pF,I.tab⟩,
   rfl,I.bare,Un.kept wG,⟨_,Di,fun i y w e1 e2 e3=>?_⟩,fun y c e=>?_,I.aT.fresh (Yx _),fun y c e=>I.gg y c (cx y c e),fun q hq=>absurd (show q∈([]:List (Addr × Obj)) from hq) (by simp),I.aT.kept wG,?_⟩
  . rcases hy with hy | hy
    . exact absurd rfl (S.Bd _ (Zn (show scope.names.lookup y=some .cell from hy)))
    . exact sZ y hy
  . cases i with
    | zero=>
     have JS:p=y:=Option.some.inj e1;have yF:v=w:=Option.some.inj (Option.some.inj e2);subst JS;subst yF;exact⟨u,r,.inl ⟨S.par,by simp [List.lookup]⟩⟩
    | succ i=>
     have JS:caps[i]?=some y:=e1;have yF:(js.map fun j=>(σ[j]?).join)[i]?=some (some w):=e2;rw[YC] at yF;cases hj:js[i]? with
     | none=>rw[hj] at yF;cases yF
     | some j=>
      rw[hj] at yF;have qv:(σ[j]?).join=some w:=by simpa using yF
      have hσ:σ[j]?=some (some w):=by
       cases q:σ[j]? with
       | none=>rw[q] at qv;cases qv
       | some o=>rw[q] at qv;simpa using qv
      have hX:X.N[j]?=some y:=by
       have:=ZA (fun l=>l[i]?) S.NZ;simp only [YC,hj,JS,ah9] at this;exact Option.some.inj this
      have iy:=S.fr y (Zd JS);have hk:=S.DV _ (Zn iy) rfl;obtain⟨m,_,hl⟩:=I.loc;obtain⟨u',ru,lk⟩:=hl j y w hX hσ (by rcases hk with q | q;exact .inr (.inl q);exact .inr (.inr q));refine⟨u',ru,?_⟩;rcases lk with ⟨Dm,_⟩ | ⟨_,c,Fb,ky⟩
      . rcases hk with q | q <;> rw[q] at Dm <;> cases Dm
      . obtain⟨d,BC⟩:=sZ y iy;have:=cx y d BC;rw[Fb] at this;cases this;exact .inr ⟨.inr iy,c,BC,ky.keeps wG⟩
  . obtain⟨w,q⟩:=I.cell y c (cx y c e);exact⟨w,q.keeps wG⟩
  . show(oG js σ v).length=(p::caps).length;unfold oG;have:=ZA List.length S.NZ;simp only [Yt] at this;simp [this]
 refine PySem.W.kla_codeExpr (Y2 (hb [] _ _ H Q I1 hq) (fun w s' he=>?_) fun e s' hF=>hF.elim);obtain⟨v',H',I2,rv,q⟩:=he;have un:Un (lC X.stack) [] H H' s.heap s'.heap:=I2.base;exact⟨v',H',I.xb I2.os un I2.aT I2.bare (fun b z=>absurd z (by simp)),rv,q,L.on un,un⟩
end
end L2
namespace LD
open PySem PySem.Spec L2 LB PyProof.Rows
theorem EI{js:List Nat}(E:aB Ws M α H σ δ)(r:Rep M H v d):aB [] M (List.replicate (1+js.length) []) H (oG js σ v) (.im d::js.map fun j=>seen (δ.getD j .no)):=by
 have E1:=jD (nt:=1) (js:=js) E;have E2:=E1.iY (i:=0) r ⟨.no,rfl,rfl⟩;have e1:(List.replicate (1+js.length) ([]:List Addr)).set 0 []=List.replicate (1+js.length) []:=by
  rw[Nat.add_comm,List.replicate_succ];rfl
 rw[e1] at E2;exact E2
end LD
namespace L2
open PySem PySem.Spec PyProof.Rows bD
theorem Inv.taken{X:Cx}{pins:List (Addr × Obj)}{σ:St}{H:Hp}{s:Shared}{h':Heap}{t':Nat}{ch:List Addr}(I:Inv X pins σ H s)(hc: ∀b∈ch,cU X pins H b)(hT:T∈ch)(k: ∀b u,b∉ch->s.heap.get? b=some u->h'.get? b=some u)(new:a9 X.prog X.w (upd H T o) h' T o):Inv X pins σ (upd H T o) {s with heap:=h',toks:=t'}:=by
 have nT:H T=none:=(hc T hT).1;have xG: ∀b u,H b=some u->b∉ch:=fun b u e z=>by rw[(hc b z).1] at e;cases e
 refine I.step (g':=s.gens) (d':=s.drawn) (ch:=ch) (fun b hb=>?_) (fun b u _ _ hn e _=>k b u hn e) (fun b u _ _ hn e _=>⟨u.slots,k b u hn e⟩) (fun b u hn e n=>by rw[ag (fun z=>hn (by rw[z];exact hT))];exact n)
  (fun b u hn e=>⟨u,k b u hn e⟩) (fun b xs e=>by rw[ag (aj e nT)];exact e) (fun b ob u e=>by rw[ag (aj e nT)];exact e) (fun b ps e=>⟨#[],by rw[ag (aj e nT),e];simp⟩) (fun m hm=>?_) (fun b u e=>?_) I.bare
 . obtain⟨f0,f1,f2,f3,f4,f5⟩:=hc b hb;exact⟨f3,f1,f4,f5⟩
 . obtain⟨ob,es,ep,ho,r⟩:=hm;exact⟨ob,es,ep,k _ ob (fun z=>(hc _ z).2.1 rfl) ho,r⟩
 . by_cases hb:b=T
   . subst hb;rw[af] at e;cases e;exact new
   . rw[ag hb] at e;refine(I.aT b u e).jU (fun c v Ds q=>k c v ?_ q) (fun c q=>by rw[ag (aj q nT)];exact q) fun c xs q=>by rw[ag (aj q nT)];exact q
     rcases Ds with z | z
     . rw[z];exact xG b u e
     . exact xG c _ z
inductive iW(js:List Nat)(m:Nat)(te:TE)(σ:St)(Q:V->Hp->Prop)(v:V)(H1:Hp):Prop
 | mk (l:Addr) (xs:List V) (KP:Nat->Hp->V->Prop) (K:Nat->Int) (h1:v= .ref l) (h2:H1 l=some (.lst xs)) (h3:xs.length<=100000) (h4: ∀i x H2 H3,aC H2 H3->KP i H2 x->KP i H3 x)
  (h5: ∀i x,xs[i]?=some x-> ∀H2,aC H1 H2->te (oG js σ x) H2 fun r H3=>KP i H3 r/\aC H2 H3)
  (h6: ∀i H2 y,KP i H2 y-> ∃t n ys,y= .ref t/\H2 t=some (.tup (.int n::ys)))
  (h7: ∀i j H2 x y,KP i H2 x->KP j H2 y->Dy H2 (m+1) x y (decide (K i < K j))) (h8: ∀i j H2 x,KP i H2 x->KP j H2 x->K i=K j)
  (h9: ∀(p:Addr) (q:List Nat) H2,aC H1 H2->H2 p=none->q.Perm (List.range xs.length)->q.Pairwise (fun i j=>K i<=K j)->Q (.ref p) (upd H2 p (.lst (q.map fun i=>xs.getD i .aI))))
def zR(js:List Nat)(m:Nat)(ta te:TE):TE:=fun σ H Q=>ta σ H fun v H1=>iW js m te σ Q v H1
section
variable{X:Cx}{x p:Str}{c P:Addr}{caps:List Str}{js:List Nat}{params:Arguments}{e body:Expr}{scope:Scope}{np lp kp pos:Pos}{k m:Nat}{ta te:TE}
theorem ug(ha:PE X e ta)(S:C3 X p caps js params body scope)(hc:X.calm=true)(hr:bM k X.A)(hu:X.A.units+2+m < cLine)(hx:x∈bb)(ht:PySem.W.tabIn X.K x=some (c,P))(hC:PySem.W.codeHdIn X.K c P=true)
  (oO:X.env.code= .ref c) (hq:X.env.qual++("<lambda>":Str)=gU x) (BB:defaultsOf params X.env=([],[]))
  (hb: ∀A f c' bX s H,PE (sC X A (p::caps) x scope f c' bX s H) body te) (hg:Gl X "sorted") (hm:X.mg "sorted"=none)
  (Bv:starEach [e] X.env=(false,eval e X.env)::starEach [] X.env:=by rfl):
  PE X (.Call (.Name "sorted" np) [e] [⟨some "key",.Lambda params body scope lp,kp⟩] pos) (zR js m ta te):=by
 intro pins s σ H Q I h;refine ab6 (fA (u:= .builtin "sorted") I hg hm (by first | rfl | kernel_rfl) ?_);refine callWith_kw (env:=X.env) ?_ (by rw[Bv];rfl) (by rw[Bv];rfl);refine aV ((ah ha aF Bv) pos pins s σ H (fun vs H1=> ∃v,vs= [v]/\iW js m te σ Q v H1) I ?_) fun us s1 he=>?_
 . have : (fun (v : V) H1 => rF σ H1 fun xs H2 => ∃ v', v :: xs = [v'] /\ iW js m te σ Q v' H2) = (fun (v : V) H1 => iW js m te σ Q v H1) := by
     funext v H1
     unfold rF;refine propext ⟨fun z=>?_,fun z=>⟨v,rfl,z⟩⟩;obtain⟨v',e1,z⟩:=z;cases e1;exact z
   unfold lY;rw[this];exact h
 obtain⟨vs,H1,I1,r1,v,e1,l,xs,KP,K,e2,hl,h3,h4,VN,h6,h7,h8,h9⟩:=he;subst e1;subst e2;obtain⟨u,rfl,ru⟩:=vals1 r1;obtain rfl:u=Value.ref l:=ru;refine kws_cons (Bl I1 hx ht hC oO hq BB S.DV fun f c' bX pm qz s2 H2 I2 kq L2=>?_);refine kws_nil ?_;show wpAny _ _ (call (.builtin "sorted") [.ref l] [(Str.ofString "key",.ref f)]) _ _ s2;have WD:H2 l=some (.lst xs):=kq _ _ hl;obtain⟨_,ao,n,rv,eo⟩:=I2.aT l _ WD;have hlen:ao.length=xs.length:=rv.length.symm;have jo: ∀b H',s2.heap.objs.size<=b->H' b=none->cU X pins H' b:=fun b H' hb hn=>I2.jo hb hn;have Vp: ∀b,s2.heap.objs.size<=b->b∉lC X.stack:=fun b hb=>I2.IS hb;have WM: ∀b,s2.heap.objs.size<=b->f≠b:=fun b hb z=>absurd (YM L2.fn) (Nat.not_lt.mpr (by rw[z];exact hb));refine rJ (vs:=ao) (K:=K)
  (fun ks s'=>(∃H' kv,Inv X pins σ H' s'/\aC H2 H'/\(∀b,s2.heap.objs.size<=b->b < s2.heap.objs.size+4->H' b=none)/\Vals kv ks/\(∀i y,kv[i]?=some y->KP i H' y)/\jK X x params body scope f c' bX pm qz H' s'.heap)/\ ∀b,s2.heap.objs.size<=b->b < s2.heap.objs.size+4-> ∃o,s'.heap.get? b=some o)
  ⟨_,eo,rfl,_,rfl⟩ (by rw[hlen];exact h3) ?_ ?_ ?_ ?_ ?_ ?_
 . intro h' hk hex;exact⟨⟨H2,[],I2.kept (t':=s2.toks) hk,aC.refl _,fun b hb _=>I2.aT.fresh hb,.nil,(fun i y z=>by cases z),L2.on (Un.kept hk)⟩,hex⟩
 . rintro ks s' h' ⟨⟨H',kv,I',oN,hf,rk,Bx,L'⟩,hex⟩ hk Wr
   have n3:=Nat.le_add_right s2.heap.objs.size 3;have l3:s2.heap.objs.size+3 < s2.heap.objs.size+4:=ad1 _;obtain⟨h0,h1,h2,h3,h4,h5⟩:=jo _ H' n3 (hf _ n3 l3);refine⟨⟨H',kv,I'.turned (t':=s'.toks) (it:=s2.heap.objs.size+3) (fun c o hc e=>hk c o hc e) h0 h1 h3 h4 h5,oN,hf,rk,Bx,⟨hk _ _ (WM _ n3) L'.fn,L'.nf,L'.QA,L'.code,L'.c1,L'.c2⟩⟩,fun d hd hd2=>?_⟩;by_cases lu:d=s2.heap.objs.size+3
   . rw[lu];exact Wr
   . obtain⟨o,e⟩:=hex d hd hd2;exact⟨o,hk d o lu e⟩
 . rintro v ks s' df hv ⟨⟨H',kv,I',oN,hf,rk,Bx,L'⟩,hex⟩
   have lx:ks.length < xs.length:=by rw[<-hlen];exact df
   obtain⟨u,MM,Qn⟩:=rv.get (Ys lx);rw[hv] at MM;cases MM;refine Y2 (Bm S I' L' (I2.ok.hd hc) I2.ok.frames hr.depth Qn (hb _ _ _ _ _ _) (VN ks.length _ (Ys lx) H' fun b o e=>oN _ _ (kq _ _ e))) (fun r rN z=>?_) fun _ _ z=>z;obtain⟨v',Xj,SO,Qn,⟨e1,MQ⟩,Xg,un⟩:=z;refine⟨⟨⟨Xj,kv++ [v'],SO,fun b o e=>MQ _ _ (oN _ _ e),fun b hb Fc=>?_,?_,fun i y hy=>?_,Xg⟩,fun b hb Fc=>?_⟩,fun b o hb Fc e=>?_⟩
   . obtain⟨o,e⟩:=hex b hb Fc;exact un.free b o e (hf b hb Fc) (by simp)
   . exact rk.append (.cons Qn .nil)
   . have lk:=rk.length;by_cases hi:i < kv.length
     . rw[Y1 hi] at hy;exact h4 _ _ _ _ MQ (Bx i y hy)
     . rw[Y8 (by omega)] at hy;have:i - kv.length=0:=by
        have:=(YB.mp hy).1;simpa using this
       rw[this] at hy;cases hy;have:i=ks.length:=by omega
       rw[this];exact e1
   . obtain⟨o,e⟩:=hex b hb Fc;exact un.there b o e (by simp)
   . exact un.keep b o e (hf b hb Fc) (Vp b hb) (by simp)
 . rintro ks s' ⟨⟨H',kv,I',oN,hf,rk,Bx,L'⟩,hex⟩ TK i j hi hj e1 _
   have lk:=rk.length;have li:i < kv.length:=by omega
   have lj:j < kv.length:=by omega
   obtain⟨u1,g1,r1⟩:=rk.get (Ys li);obtain⟨u2,g2,r2⟩:=rk.get (Ys lj);rw[show ks.getD i Value.none=u1 by rw[List.getD,g1];rfl,show ks.getD j Value.none=u2 by rw[List.getD,g2];rfl] at e1;subst e1;have p1:=Bx i _ (Ys li);have p2:=Bx j _ (Ys lj);obtain⟨t1,n1,y1,e1,_⟩:=h6 _ _ _ p1;obtain⟨t2,n2,y2,e2,_⟩:=h6 _ _ _ p2;rw[e1] at r1 p1;rw[e2] at r2 p2;cases r1;cases r2;exact h8 i j H' _ p1 p2
 . rintro ks s' ⟨⟨H',kv,I',oN,hf,rk,Bx,L'⟩,hex⟩ TK h2
   refine FY I' (k:=m) (by show X.A.units+1+1+m < cLine;omega) rk (by omega) (fun y hy=>?_) fun i j a b ga gb=>h7 i j H' _ _ (Bx i a ga) (Bx j b gb);obtain⟨i,hi⟩:=List.getElem?_of_mem hy;exact h6 i H' y (Bx i y hi)
 . rintro ks s' p h' ⟨⟨H',kv,I',oN,hf,rk,Bx,L'⟩,hex⟩ TK hp hu M5 ⟨e,he⟩
   have n1:=ah6 s2.heap.objs.size;have n3:=Nat.le_add_right s2.heap.objs.size 3;have f1:=hf _ n1 (by show s2.heap.objs.size+1 < s2.heap.objs.size+4;omega);have f3:=hf _ n3 (ad1 _);have cN:p.toList.Perm (List.range xs.length):=by have:=ZF.mp hp.pm;rw[<-hlen];simpa using this
   have lt: ∀i∈p.toList,i < xs.length:=fun i hi=>by have:=cN.mem_iff.mp hi;simpa using this
   have so:p.toList.Pairwise (fun i j=>K i<=K j):=by
    rw[ZJ];intro i j hi hj bN;rw[YH,hp.sz,hlen] at hi hj;have:=hu i j (by omega) (by omega);have gi:p.getD i 0=p[i]'(by rw[hp.sz];omega):=by simp [Array.getD,hp.sz,hlen,hi]
    have gj:p.getD j 0=p[j]'(by rw[hp.sz];omega):=by simp [Array.getD,hp.sz,hlen,hj]
    unfold bD.kp at this;rw[gi,gj] at this;simpa using this
   refine⟨.ref (s2.heap.objs.size+1),_,I'.taken (t':=s'.toks) (h':=h') (ch:= [s2.heap.objs.size+3,s2.heap.objs.size+1]) (T:=s2.heap.objs.size+1) (o:= .lst (p.toList.map fun i=>xs.getD i .aI)) (fun b hb=>?_) (by simp) (fun b o hb q=>M5 b o (fun z=>hb (by simp [z])) (fun z=>hb (by simp [z])) q) ?_,rfl,h9 _ _ H' (fun b o e=>oN _ _ (kq _ _ e)) f1 cN so⟩
   . rcases YU.mp hb with rfl | hb
     . exact jo _ _ n3 f3
     . rcases YU.mp hb with rfl | hb
       . exact jo _ _ n1 f1
       . cases hb
   . refine⟨by rw[Yt,cN.length_eq,Y5,ZR];omega,p.toList.map (fun i=>ao.getD i Value.none),e,?_,he⟩;refine lQ fun i hi=>?_;have li:=lt i hi;obtain⟨u1,g1,r1⟩:=rv.get (Ys li);rw[show ao.getD i Value.none=u1 by rw[List.getD,g1];rfl,show xs.getD i .aI=xs[i] by simp [List.getD,li]];exact r1
end
end L2
namespace LD
open PySem PySem.Spec L2 LB PyProof.Rows bD
section
variable{X:Cx}{x p:Str}{c P:Addr}{caps:List Str}{js:List Nat}{params:Arguments}{e body:Expr}{scope:Scope}{np lp kp pos:Pos}{k m:Nat}{ta te:bz}
inductive Cz(js:List Nat)(m:Nat)(te:bz)(Q:Dt->List Sl->Prop)(d:Dt)(δ1:List Sl):Prop
 | mk (es:List Dt) (kd:Dt->Dt) (key:Dt->Int) (h1:d= .lst es) (h2:es.length<=100000) (h3: ∀d'∈es,te (.im d'::js.map fun j=>seen (δ1.getD j .no)) fun r _=>r=kd d')
  (h4: ∀d'∈es,G8 (kd d')/\ ∃n rs,kd d'= .tup (.int n::rs)) (h5: ∀d'∈es,∀d2∈es,Lb (m+1) (kd d') (kd d2)/\KO (m+1) (kd d') (kd d2)=decide (key (kd d') < key (kd d2)))
  (h6: ∀ms:List Dt,ms.Perm es->ms.Pairwise (fun a b=>key (kd a)<=key (kd b))->Q (.lst ms) δ1)
def CA(js:List Nat)(m:Nat)(ta te:bz):bz:=fun δ Q=>ta δ fun d δ1=>Cz js m te Q d δ1
theorem t8: ∀σ H Q,lE (CA js m ta te) σ H Q->zR js m (lE ta) (lE te) σ H Q:=fun σ H Q zz=>by
 obtain⟨W,M,α,δ,Qd,E,q,k⟩:=zz;refine⟨W,M,α,δ,_,E,q,fun d δ1 H1 v cj E1 c1 r1=>?_⟩;obtain⟨es,kd,key,rfl,h2,h3,h4,h5,h6⟩:=cj;obtain⟨a,xs,rfl,ha,nM,rs⟩:=r1.dF;have a0:(List.replicate (1+js.length) ([]:List Addr)).flatten= []:=by simp
 have dat: ∀{i:Nat},i < es.length->es.getD i .aI∈es/\es[i]?=some (es.getD i .aI):=fun{i} hi=>by
  have:es.getD i .aI=es[i]:=by simp [List.getD,hi]
  rw[this];exact⟨Zv hi,Ys hi⟩
 refine⟨a,xs,fun i H y=>i < es.length/\Rep M H y (kd (es.getD i .aI)),fun i=>key (kd (es.getD i .aI)),rfl,ha,by rw[rs.1];exact h2,fun i y H2 H3 s zz=>⟨zz.1,zz.2.same s⟩,fun i x' wB H2 s2=>?_,fun i H2 y zz=>?_,fun i j H2 y z cj dM=>?_,fun i j H2 y cj dM=>?_,fun p q' H2 s2 hp pm pw=>?_⟩
 . have hi:i < es.length:=by rw[<-rs.1];exact(YB.mp wB).1
   obtain⟨dm,dg⟩:=dat hi;have rx:=rs.2 i x' _ wB dg;refine⟨[],M,_,_,_,EI (E1.same s2) (rx.same s2),h3 _ dm,fun d2 δ2 H3 v2 e2 E2 c2 r2=>?_⟩;rw[e2] at r2;exact⟨⟨hi,r2⟩,fun b o e=>c2 b o e (by rw[a0];exact Yy)⟩
 . obtain⟨hi,r⟩:=zz;obtain⟨_,n,l,e1⟩:=h4 _ (dat hi).1;rw[e1] at r;obtain⟨t,ys,rfl,ht,_,ry⟩:=r.bE;obtain⟨y,UR,rfl,r2,_⟩:=ry.aQ;cases r2.ofInt;exact⟨t,n,UR,rfl,ht⟩
 . obtain⟨sh,lt⟩:=h5 _ (dat cj.1).1 _ (dat dM.1).1;show Dy H2 (m+1) y z (decide (key (kd (es.getD i .aI)) < key (kd (es.getD j .aI))));rw[<-lt];exact IW sh cj.2 dM.2
 . show key (kd (es.getD i .aI))=key (kd (es.getD j .aI));rw[(h4 _ (dat cj.1).1).1.one (h4 _ (dat dM.1).1).1 cj.2 dM.2]
 . have s:aC H2 (upd H2 p (.lst (q'.map fun i=>xs.getD i .aI))):=aC.new hp;have Qu:(q'.map fun i=>es.getD i .aI).Perm es:=by
    have:=pm.map fun i=>es.getD i .aI;rw[rs.1] at this;refine this.trans (List.Perm.of_eq ?_);apply Z2
    . simp
    . intro i g1 g2;simp [List.getD,g2]
   refine k _ _ _ _ (h6 _ Qu (ZT.mpr pw)) ((E1.same s2).same s) ((c1.tr (da.of s2)).tr (da.of s)) (Rep.vz af ((E1.same s2).fresh hp) ⟨by rw[Yt,Yt],fun i x d hx hd=>?_⟩);rw[YC] at hx hd;cases hi:q'[i]? with
   | none=>rw[hi] at hx;cases hx
   | some j=>
    rw[hi] at hx hd;have lj:j < xs.length:=by have:=pm.mem_iff.mp (Zd hi);simpa using this
    have hz:xs[j]?=some (xs[j]):=Ys lj;obtain⟨_,dg⟩:=dat (i:=j) (by rw[<-rs.1];exact lj);rw[ah9] at hd;cases hd;rw[ah9,show xs.getD j .aI=xs[j] by simp [List.getD,lj]] at hx;cases hx;exact((rs.2 j _ _ hz dg).same s2).same s
theorem yI(ha:Ev X e ta)(S:C3 X p caps js params body scope)(hc:X.calm=true)(hr:bM k X.A)(hu:X.A.units+2+m < cLine)(hx:x∈bb)(ht:PySem.W.tabIn X.K x=some (c,P))(hC:PySem.W.codeHdIn X.K c P=true)
  (oO:X.env.code= .ref c) (hq:X.env.qual++("<lambda>":Str)=gU x) (BB:defaultsOf params X.env=([],[]))
  (hb: ∀A f c' bX s H,Ev (sC X A (p::caps) x scope f c' bX s H) body te) (hg:Gl X "sorted") (hm:X.mg "sorted"=none)
  (Bv:starEach [e] X.env=(false,eval e X.env)::starEach [] X.env:=by rfl):
  Ev X (.Call (.Name "sorted" np) [e] [⟨some "key",.Lambda params body scope lp,kp⟩] pos) (CA js m ta te):=
 PE.imp (ug ha S hc hr hu hx ht hC oO hq BB hb hg hm Bv) t8
end
end LD
namespace xn
open PySem PySem.Spec L2 PyProof.Rows
def Ii(P:Program)(w:World):List V->Hp->VK->Prop:=fun xs H Q=> ∃l aG,xs= [.ref l]/\H l=some (.dT aG)/\aG≠ []/\(aG.map fun kv=>tupleKeyHash (aY P w) kv.1).Nodup/\ ∀d,H d=none->Q (.ref d) (upd H d (.dT aG))
theorem xC: ∀{L:List DictEntry},(L.map (·.hash)).Nodup->(∀x∈L,x.hash=h)->L.length > 1->False
 | x::y::r,nd,al,_=>by
  rw[YV,YV,ad6] at nd;exact nd.1 (by rw[al x YN,al y (by simp)];exact YN)
theorem Nt{prog:Program}{w:World}{A:Around}{E:Value->Shared->Prop}{s:Shared}{id:String}{ep:Nat}(ho:s.heap.get? d=some o)(hd:o.data= .dict es ep)(hk: ∀e∈es.toList,∃a,e.key= .ref a/\s.TypeIs (.ref a) "tuple")(hn:(es.toList.map (·.hash)).Nodup)(h:Q es s):wpAny (model prog w) A (Builtin.Dict.entriesForEmpty id d) Q E s:=by
 unfold Builtin.Dict.entriesForEmpty;refine Yr (ae1 ho hd (Yr (wpAny_forIn_array' _ (fun rest _ s'=>s'=s/\ ∀e∈rest,e∈es.toList) (fun _ s'=>wpAny (model prog w) A (pure es) Q E s') (fun e rest b s' hI=>?_) (fun b s' hI=>?_) es _ ⟨rfl,fun _ z=>z⟩)))
 . obtain⟨rfl,hm⟩:=hI;obtain⟨a,ek,hT⟩:=hk e (hm e YN);have one: ¬(es.filter (·.hash==e.hash)).size > 1:=fun z=>by
    have nd:((es.toList.filter (·.hash==e.hash)).map (·.hash)).Nodup:=hn.sublist (List.Sublist.map _ List.filter_sublist);have al: ∀x∈es.toList.filter (·.hash==e.hash),x.hash=e.hash:=fun x hx=>by have:=(aa6.mp hx).2;rwa [YL] at this
    rw[<-YH,Array.toList_filter] at z;exact xC nd al z
   rw[ek];have f1:typeLookup (.type "tuple") "__eq__"=pure (some (.builtin "tuple.__eq__")):=F.slot_tuple_eq.lookup;unfold Builtin.Dict.quietEq;repeat (any_goals (first | assumption | wp_step))
   exact⟨rfl,fun e he=>hm e (YQ _ he)⟩
 . obtain⟨rfl,_⟩:=hI;exact Yv h
theorem sL: ∀{aG:List (List Key × V)} {xs:List (List Key × Addr × Value)},KT H aG xs->xs.map ((fun x=>x.hash) ∘ entryOfKey (tupleKind (aY P w)))=aG.map fun kv=>tupleKeyHash (aY P w) kv.1
 | _,_,.nil=>rfl
 | _,_,.cons r t=>by
  rw[YV,YV,sL t,r.1];rfl
theorem uZ{X:Cx}(hA:X.A.handled=none):dJ X (.type "dict") (Ii X.prog X.w):=by
 intro pins s σ H xs us Q I rs h;obtain⟨l,aG,rfl,hl,ne,hh,q⟩:=h;obtain⟨u,rfl,ru⟩:=vals1 rs;cases (show u=Value.ref l from ru);have hD:H s.heap.objs.size=none:=I.aT.fresh (Yx _);refine callType_codes (Q₁:=fun obj s₁=>obj= .ref s.heap.objs.size/\s₁={s with heap:=s.heap.push {cls:= .type "dict",data:= .dict #[]}}) kE (fY _) F.entry_dict_init (iA _ ⟨rfl,rfl⟩) fun obj s₁ h₁=>?_;obtain⟨rfl,rfl⟩:=h₁;have I0:Inv X pins σ (upd H s.heap.objs.size (.dT [])) {s with heap:=s.heap.push {cls:= .type "dict",data:= .dict #[]}}:=I.laid (a:=s.heap.objs.size) (o:= .dT []) (t':=s.toks) (fun _ _ q=>Yu _ q) (Yx _) (jy s.heap I.big);have nl:l≠s.heap.objs.size:=aj hl hD;have OU:(upd H s.heap.objs.size (.dT [])) l=some (.dT aG):=by rw[ag nl];exact hl
 obtain⟨zz,EZ,xs,rel,ol,es,ep,Ra,hex,OX,Jz,TM,TF⟩:=sT I0.aT OU;have hS:(s.heap.push {cls:= .type "dict",data:= .dict #[]}).get? s.heap.objs.size=some {cls:= .type "dict",data:= .dict #[]}:=YI _ rfl;have hT:({s with heap:=s.heap.push {cls:= .type "dict",data:= .dict #[]}}:Shared).TypeIs (.ref s.heap.objs.size) "dict":=⟨_,hS,rfl⟩
 have V2:({s with heap:=s.heap.push {cls:= .type "dict",data:= .dict #[]}}:Shared).TypeIs (.ref l) "dict":=⟨_,Ra,hex.1⟩
 have qq:=q _ hD;generalize Jp:s.heap.objs.size=D at*;generalize Q5:({s with heap:=s.heap.push {cls:= .type "dict",data:= .dict #[]}}:Shared)=s0 at*;have OZ:s0.heap.get? D=some {cls:= .type "dict",data:= .dict #[]}:=by rw[<-Q5];exact hS
 refine⟨hT,F.args_dict_init_2 _ _,?_⟩;have sub:isSubtype (.type "dict") (.type "dict")=pure true:=by rw[isSubtype_type];kernel_rfl
 have f3:=F.slot_dict_iter.lookup;unfold Builtin.«dict.__init__»;repeat (any_goals (first | assumption | wp_step))
 have xl:xs.length=aG.length:=(Paired.length rel).symm;have zd:es.toList.length=aG.length:=by rw[Jz,Yt,xl]
 have XE:0 < aG.length:=List.length_pos_iff.mpr ne;have kL: ∀e∈es.toList,∃a,e.key= .ref a/\s0.TypeIs (.ref a) "tuple":=fun e he=>by
  rw[Jz] at he;obtain⟨x,hx,rfl⟩:=YE.mp he;obtain⟨o,items,n,h1,h2,h3,h4⟩:=TM x hx;exact⟨x.2.1,rfl,o,h1,h2⟩
 have WN:(decide (es.size<=8) && es.all fun e=>(keyPart e.key).isSome)=false:=by
  rw[Bool.and_eq_false_iff];refine .inr ?_;rw[<-Array.all_toList];cases hL:es.toList with
  | nil=>rw[hL] at zd;simp at zd;omega
  | cons e r=>
   obtain⟨a,ea,_⟩:=kL e (by rw[hL];exact YN);rw[aj7,ea];rfl
 have hashes:(es.toList.map (·.hash)).Nodup:=by
  rw[Jz,Y3];have:xs.map ((fun x=>x.hash) ∘ entryOfKey (tupleKind (aY X.prog X.w)))=aG.map fun kv=>tupleKeyHash (aY X.prog X.w) kv.1:=by
   exact sL rel
  rw[this];exact hh
 rw[if_neg (by rw[YL];exact fun z=>nl z.symm)];unfold Builtin.Dict.showsAll;rw[if_neg (by rw[EZ];exact YJ)];refine Yr (Yv (Yr (ae1 Ra OX ?_)));dsimp only;rw[WN];rw[if_pos (by decide)];refine Yr (ae1 OZ rfl ?_);rw[if_pos (by decide)];refine Yr (Nt Ra OX kL hashes ?_);have Vt:(!es.isEmpty)=true:=by
  cases hL:es.toList with
  | nil=>rw[hL] at zd;simp at zd;omega
  | cons e r=>rw[<-Array.isEmpty_toList,hL];rfl
 rw[if_pos Vt];have sz:es.size<=sizeLine+1:=by rw[<-YH,zd];omega
 refine Yr (wpAny_updateDictKeysTo OZ rfl (Yv ?_) sz);have sb:Heap.SameBut D s0.heap (s0.heap.update D (Obj.mapDictKeys fun _=>es)):=ZX ..;have gD:(s0.heap.update D (Obj.mapDictKeys fun _=>es)).get? D=some (Obj.mapDictKeys (fun _=>es) {cls:= .type "dict",data:= .dict #[]}):=ab9 _ OZ (Obj.isFreed_of_dict (Obj.data_mapDictKeys rfl _));have Rz:upd H D (.dT []) D=some (.dT []):=af;have I3:=ie (t':=s0.toks) I0 (by rw[Rz];exact True.intro) sb ⟨_,gD⟩ (ob:= .dT aG) ⟨zz,(sT I0.aT Rz).2.1,xs,rel.keeps fun c ys ec=>by rw[ag (v7 ec Rz (fun z=>nomatch z))];exact ec,_,es,_,gD,⟨rfl,rfl,rfl⟩,Obj.data_mapDictKeys rfl _,Jz,TF⟩;have QY:upd (upd H D (.dT [])) D (.dT aG)=upd H D (.dT aG):=by
  funext b
  by_cases hb:b=D
  . subst hb;rw[af,af]
  . rw[ag hb,ag hb,ag hb]
 rw[QY] at I3;unfold Builtin.Dict.addKeywords;repeat (any_goals (first | assumption | wp_step))
 exact⟨rfl,.ref D,_,I3,rfl,qq⟩
end xn
namespace SJ
open PySem PySem.Spec L2 PyProof.Rows PySem.W
section
variable{prog:Program}{w:World}{A:Around}{E:Value->Shared->Prop}{s:Shared}{d it:Addr}{es:Array DictEntry}{ep i:Nat}{od:Obj}
theorem Be(hit:s.heap.IsKeyIter it d i es.size ep)(Jr:s.heap.get? d=some od)(Nc:od.data= .dict es ep)(hi:i < es.size)(hQ: ∀h',h'.IsKeyIter it d (i+1) es.size ep->Heap.SameBut it s.heap h'->Q (some es[i].key) {s with heap:=h'}):wpAny (model prog w) A (pyNext (.ref it)) Q E s:=by
 obtain⟨o,ho,hc,hd⟩:=id hit;have hT:=hit.typeIs;unfold pyNext;refine Yr (ah4 (ZH (name:=Str.ofString "__next__") hT ad3 (ZP ad3 hT F.entry_dict_keyiterator_next ?_ (F.args_dict_keyiterator_next_1 _))));refine Yr (Yv (Yr (Yr ?_)))
 (first | refine Yr (ac7 hT (Yv ?_)) | refine Yr (ae8 hT (Yv ?_)))
 refine Yr (wpAny_fieldsOf ho hd ?_);simp only [show Builtin.Dict_items.ownsTuple "dict_keyiterator"=false by decide,aa0,ad0];show wpAny _ _ (if (Value.ref d==Value.none)=true then _ else _) _ _ _;rw[if_neg (show¬(Value.ref d==Value.none)=true from YJ)];refine Yr (Yv (Yr (ae1 Jr Nc ?_)));rw[if_neg (by simp)];refine Yr (Yv (Yr (wpAny_dictEpoch Jr Nc ?_)));rw[if_neg (by simp)];refine Yv ?_;simp only [show¬((i:Int) < 0) by lia,ad0,ZD,Zo hi];refine Yr ?_
 (first | refine Yr (ac7 hT (Yv ?_)) | refine Yr (ae8 hT (Yv ?_)))
 refine Yr (wpAny_isOneOf_keyiter hT ?_);show wpAny _ _ (setField (.ref it) 1 (rawInt ((i:Int)+1)) >>=fun _=>_) _ _ _;refine Yr (wpAny_setField ho hd (by simp) ?_);have EW:(s.heap.update it (Obj.mapFields (·.setIfInBounds 1 (rawInt ((i:Int)+1))))).IsKeyIter it d (i+1) es.size ep:=⟨_,ab9 _ ho (Obj.isFreed_of_fields (ai4 hd _)),(Obj.cls_mapFields ..).trans hc,by rw[ai4 hd];simp [rawInt]⟩
 refine Yr (Zs (Yr (wpAny_isOneOf_keyiter (s:={s with heap:=s.heap.update it (Obj.mapFields (·.setIfInBounds 1 (rawInt ((i:Int)+1))))}) EW.typeIs ?_)));show wpAny _ _ (pure es[i].key) _ _ _;exact Yv (Yv ⟨_,rfl,Yv (hQ _ EW (ZX ..))⟩)
theorem Fl(hh:A.handled=none)(hit:s.heap.IsKeyIter it d i es.size ep)(Jr:s.heap.get? d=some od)(Nc:od.data= .dict es ep)(hi:es.size<=i)(hQ: ∀h',Heap.ExtBut it s.heap h'->Q none {s with heap:=h'}):wpAny (model prog w) A (pyNext (.ref it)) Q E s:=by
 obtain⟨o,ho,hc,hd⟩:=id hit;have hT:=hit.typeIs;unfold pyNext;refine Yr (ah4 (ZH (name:=Str.ofString "__next__") hT ad3 (ZP ad3 hT F.entry_dict_keyiterator_next ?_ (F.args_dict_keyiterator_next_1 _))));refine Yr (Yv (Yr (Yr ?_)))
 (first | refine Yr (ac7 hT (Yv ?_)) | refine Yr (ae8 hT (Yv ?_)))
 refine Yr (wpAny_fieldsOf ho hd ?_);simp only [show Builtin.Dict_items.ownsTuple "dict_keyiterator"=false by decide,aa0,ad0];show wpAny _ _ (if (Value.ref d==Value.none)=true then _ else _) _ _ _;rw[if_neg (show¬(Value.ref d==Value.none)=true from YJ)];refine Yr (Yv (Yr (ae1 Jr Nc ?_)));rw[if_neg (by simp)];refine Yr (Yv (Yr (wpAny_dictEpoch Jr Nc ?_)));rw[if_neg (by simp)];refine Yv ?_;simp only [show¬((i:Int) < 0) by lia,ad0,ZD,Array.getElem?_eq_none hi];refine Yr ?_
 (first | refine Yr (ac7 hT (Yv ?_)) | refine Yr (ae8 hT (Yv ?_)))
 show wpAny _ _ (setField (.ref it) 0 .none >>=fun _=>_) _ _ _;refine Yr (wpAny_setField ho hd (by simp) ?_);show wpAny _ _ (newExc (.type "StopIteration") [] >>=fun _=>_) _ _ _;refine Yr ?_;simp only [newExc,newTuple];refine Yr (Zc (Yr (m:=firstArgMember _ _) (wpAny_of_eq (a:=Value.none) (by first | rfl | (simp only [firstArgMember];rfl)) (Zc ?_ (by size_fits)))) (by size_fits));simp only [raiseNew];refine Yr (wpAny_handled ?_);rw[show A.in1.handled=none from hh];refine Yr (Yv (wpAny_throw ?_));refine Yr (wpAny_isInstance (T:="StopIteration") (b:=true) (show Shared.TypeIs _ _ _ from⟨_,YI _ rfl,rfl⟩) isSubtype_stop ?_);exact Yv (hQ _ (((ZX ..).extBut.push _).push _))
def Dd(h:Heap)(d:Addr)(od:Obj)(es:Array DictEntry)(ep:Nat):Prop:=h.get? d=some od/\od.data= .dict es ep
theorem tR(hh:A.handled=none)(I d:Addr)(Dj:d≠I)(od:Obj)(es:Array DictEntry)(ep:Nat):
  Walks prog w A I [I,d] [I] es.size (fun i v=> ∃e,es[i]?=some e/\v=e.key) (fun i h=>h.IsKeyIter I d i es.size ep/\Dd h d od es ep) where
 sub:=fun b hb=>by simp at hb;simp [hb]
 frame:=fun _ _ _ st hk=>⟨st.1.at fun o e=>hk I (by simp) o e,hk d (by simp) _ st.2.1,st.2.2⟩
 item:=fun i s Q E hi st hQ=>Be st.1 st.2.1 st.2.2 hi fun h' EW oN=>hQ _ h' s.toks ⟨es[i],Zo hi,rfl⟩ ⟨EW,oN.extBut d od Dj st.2.1,st.2.2⟩ fun b o hb e=>oN.extBut b o (fun h=>hb (by simp [h])) e
 done:=fun s Q E st hQ=>Fl hh st.1 st.2.1 st.2.2 (Yx _) fun h' Wj=>hQ h' s.toks fun b o hb e=>Wj b o (fun h=>hb (by simp [h])) e
 self:=fun _ _ _ _ st hQ=>wpAny_pyIter_keyiter st.1 hQ
theorem Bn(hx:od.ExactDict)(lo:(d==sysModules)=false)(hR:Dd s.heap d od es ep)(hQ:Q (.ref s.heap.objs.size) {s with heap:=s.heap.push {cls:= .type "dict_keyiterator",data:= .fields #[.ref d,.int 0 0,.int es.size 0,.int ep 0]}}):wpAny (model prog w) A (pyIter (.ref d)) Q E s:=by
 obtain⟨ho,E8⟩:=hR;have hT:s.TypeIs (.ref d) "dict":=⟨od,ho,hx.1⟩
 refine wpAny_pyIter_slot hT F.slot_dict_iter (ZP F.slot_dict_iter hT F.entry_dict_iter ?_ (F.args_dict_iter_1 _));unfold Builtin.«dict.__iter__»;refine Yr ?_;unfold Builtin.Dict.dictSlotNone;refine Yr (wpAny_notOrdered_dict hT ?_);show wpAny _ _ (pure (Value.ref d)) _ _ _;refine Yv ?_;show wpAny _ _ (Builtin.Dict.showsAll d >>=fun _=>_) _ _ _;unfold Builtin.Dict.showsAll;rw[if_neg (by rw[lo];exact YJ)];refine Yr (Yv (Yr (ae1 ho E8 (Yr (wpAny_dictEpoch ho E8 (Yr (Zc (Yv ⟨_,rfl,"dict_keyiterator",_,⟨_,YI _ rfl,rfl⟩,F.slot_dict_keyiterator_next.lookup,?_⟩))))))));simpa [rawInt] using hQ
theorem EL(hx:od.ExactDict)(lo:(d==sysModules)=false):KdlSrc prog w "dict" d d es.size (fun i v=> ∃e,es[i]?=some e/\v=e.key) (fun h=>Dd h d od es ep) where
 type:=fun _ hm=>⟨od,hm.1,hx.1⟩
 there:=fun _ hm=>⟨YM hm.1,YM hm.1⟩
 keep:=fun _ _ hm hk=>⟨hk d (.inl rfl) _ hm.1,hm.2⟩
 notList:=by decide
 notTuple:=by decide
 hint:=fun _ _ _ _ hm hq=>kdl_hint_dict ⟨od,hm.1,hx.1⟩ hq
 iter:=fun _ _ hh hm=>⟨_,_,(fun _ _ hq=>Bn hx lo hm hq),tR hh _ d (Zb (YM hm.1)) od es ep,⟨⟨_,YI _ rfl,rfl,rfl⟩,Yu _ hm.1,hm.2⟩⟩
theorem qB(hh:A.handled=none)(hx:od.ExactDict)(lo:(d==sysModules)=false)(hR:Dd s.heap d od es ep)(hn:es.size<=sizeLine)(h: ∀h' tk,s.heap.objs.size < h'.objs.size->(∀b o,s.heap.get? b=some o->h'.get? b=some o)->Q (es.toList.map (·.key)) {s with heap:=h',toks:=tk}):wpAny (model prog w) A (collect (.ref d)) Q E s:=by
 have ld:=YM hR.1;unfold collect;refine Yr (wpAny_runValue (ac2 F.entry_proto_collect ?_));rw[aa4 F.plain_proto_collect _];show wpAny _ A.in1 (newList [] >>=fun l=>again (.builtin "list.__iadd__" ⟨[l,.ref d],[]⟩)) _ _ s;refine Yr (Zc (Yv ⟨ad8 F.plain_list_iadd _,ac2 F.entry_list_iadd ?_⟩));rw[aa4 F.plain_list_iadd _];have hL:(s.heap.push {cls:= .type "list",data:= .seq ([]:List Value).toArray}).get? s.heap.objs.size=some {cls:= .type "list",data:= .seq #[]}:=YI _ rfl;show wpAny _ A.in1 (Builtin.List.listExtendWith (.ref s.heap.objs.size) (.ref d) (.ref s.heap.objs.size)) _ _ _;have fin: ∀(h':Heap) (tk:Nat) (acc:Array Value) (c:Nat),(∀b o,b≠s.heap.objs.size->(s.heap.push {cls:= .type "list",data:= .seq ([]:List Value).toArray}).get? b=some o->h'.get? b=some o)->h'.get? s.heap.objs.size=some {cls:= .type "list",dict:=none,data:= .seq acc c,slots:= #[]}->ItemsOf (fun i v=> ∃e,es[i]?=some e/\v=e.key) acc es.size->s.heap.objs.size < h'.objs.size/\Q acc.toList {s with heap:=h',toks:=tk}:=fun h' tk acc c hk hS BD=>by
  have ea:acc.toList=es.toList.map (·.key):=by
   refine ZN fun j=>?_;rw[YC,Zq,Zq];by_cases c:j < es.size
   . have ja:j < acc.size:=by rw[BD.1];exact c
     obtain⟨e,he,hv⟩:=BD.2 j _ (Zo ja);rw[Zo ja,he,hv];rfl
   . rw[Array.getElem?_eq_none (by rw[BD.1];lia),Array.getElem?_eq_none (by lia)];rfl
  have:=h h' tk (YM hS) fun b o e=>hk b o (Zb (YM e)) (Yu _ e);rw[<-ea] at this;exact⟨YM hS,this⟩
 have key:=kdl_extend (A:=A) (s:={s with heap:=s.heap.push {cls:= .type "list",data:= .seq ([]:List Value).toArray}}) (R:=fun(q:Result) (s':Shared)=> ∃(h':Heap) (tk:Nat) (acc:Array Value) (c:Nat),q= .ok (.ret (.ref s.heap.objs.size))/\s'={s with heap:=h',toks:=tk}/\h'.get? s.heap.objs.size=some {cls:= .type "list",dict:=none,data:= .seq acc c,slots:= #[]}/\Q acc.toList {s with heap:=h',toks:=tk}) (EL (prog:=prog) (w:=w) (ep:=ep) (es:=es) (od:=od) hx lo) hh ⟨Yu _ hR.1,hR.2⟩ s.heap.objs.size (aa8 ld) (aa8 ld) (.ref s.heap.objs.size) 0 hL (fun h' tk acc c hk hS BD=>⟨h',tk,acc,c,rfl,rfl,hS,(fin h' tk acc c hk hS BD).2⟩) hn;refine Y2 key (fun fn s' x=>?_) fun e s' x=>by obtain⟨_,_,_,_,e',_⟩:=x;cases e'
 cases fn with
 | done f=>
  obtain⟨h',tk,acc,c,e,rfl,hS,q⟩:=x;cases e;show wpAny _ A (load s.heap.objs.size >>=fun _=>_) _ _ _;exact Yr (wpAny_load hS (Yv q))
 | again c₁=>
  refine⟨x.1,ag5 x.2 fun q s₂ y=>?_⟩;obtain⟨h',tk,acc,c,rfl,rfl,hS,q⟩:=y;show wpAny _ A (load s.heap.objs.size >>=fun _=>_) _ _ _;exact Yr (wpAny_load hS (Yv q))
end
end SJ
namespace LW
open PySem PySem.Spec L2 PyProof.Rows
theorem uY(hr:bM k X.A):dJ X (.builtin "repr") (fun xs H Q=> ∃x c,xs= [x]/\Td c H 9 x/\wt H 9 x<=sizeLine/\Q (.str (dat H 9 x).shown) H):=by
 intro pins s σ H xs us Q I r h;obtain⟨x,c,rfl,td,hw,q⟩:=h;obtain⟨u,rfl,ru⟩:=vals1 r;have sh:=td.Ql (Yx 9);have hsz:(dat H 9 x).shown.length<=sizeLine:=YT sh.len hw;obtain⟨as,rd⟩:=td.reads I.aT (Yx 9) ru;have un:=hr.un;have fin: ∀(h':Heap) (tk:Tok) (n:Nat),(∀b o,s.heap.get? b=some o->h'.get? b=some o)->EP X pins σ Q (.str (dat H 9 x).shown tk) {s with heap:=h',toks:=n}:=fun h' tk n kk=>⟨.str _,H,I.kept kk,⟨_,rfl⟩,q⟩
 cases x with
 | ref a=>
  cases (show u=Value.ref a from ru);exact repr_of_reads' rd sh.ok (fun z=>by rw[sh.nd] at z;cases z) hr.gd (by have:=sh.dp;lia) (fun _ _ e=>e) (fun h' u tk kk=>fin h' u tk kk) hsz
 | aI=>cases (show u=Value.none from ru);exact PySem.P.repr_of_none (fin s.heap _ _ fun _ _ e=>e)
 | bl b=>cases (show u=Value.bool b from ru);exact PySem.P.repr_of_bool (fin s.heap _ _ fun _ _ e=>e)
 | int i=>obtain⟨t,rfl⟩:=(show∃t,u=Value.int i t from ru);exact PySem.P.repr_of_int (Ze sh.ok) (fin s.heap _ _ fun _ _ e=>e)
 | str y=>obtain⟨t,rfl⟩:=(show∃t,u=Value.str y t from ru);exact PySem.P.repr_of_str (fin s.heap _ _ fun _ _ e=>e) hsz
 | _=>
  rcases td.kind with z | ⟨a,_,z,_⟩
  . exact z.elim
  . cases z
end LW
namespace LD
open PySem PySem.Spec L2 LB LW PyProof.Rows
section
variable{X:Cx}{e:Expr}{tA:gn}{pos p:Pos}
inductive Kx(ds:List Dt)(Q:Dt->Prop):Prop
 | mk (d w:_) (h1:ds= [d]) (h2:Lv 9 w d) (h3:w<=sizeLine) (h4:Q (.str (yH 9 d).shown))
theorem Cp(hr:bM k X.A)(hm:X.mg "repr"=none)(ha:Av X [e] tA)(hg:Gl X "repr":=by rfl)(he:starEach [e] X.env=(false,eval e X.env)::starEach [] X.env:=by rfl)(cN:(backTo pos (starEach [] X.env)).any (·.1)=false:=by rfl):
  Ev X (.Call (.Name "repr" p) [e] [] pos) (wZ Kx tA):=fV (uY hr) (fun M H xs ds Qd Q al r kH k=>(by
 obtain⟨d,w,e,l,lw,q⟩:=kH;subst e;obtain⟨x,rfl,r1⟩:=cK r;obtain⟨td,tw⟩:=l.td r1 (Yx 9);refine⟨x,_,rfl,td,YT tw lw,?_⟩;rw[l.dat (m:=9) r1];exact k H _ _ q (fun _ _ z=>z) (.str _))) hg hm u3 ha (by decide) (by decide) he cN
end
end LD
namespace LD
open PySem PySem.Spec L2 LB PyProof.Rows LW
def qN(M:Addr->Prop)(H:Hp)(vs:List V)(ss:List Sl):Prop:=vs.length=ss.length/\ ∀(i:Nat) v s,vs[i]?=some v->ss[i]?=some s->qO M H (some v) s []/\s.dz=false
theorem qN.nil:qN M H [] []:=⟨rfl,fun i v s h=>by simp at h⟩
theorem qN.cons{M:Addr->Prop}{H:Hp}{v:V}{s:Sl}{vs:List V}{ss:List Sl}(h:qO M H (some v) s [])(nb:s.dz=false)(r:qN M H vs ss):qN M H (v::vs) (s::ss):=
 ⟨by rw[YS,YS,r.1],fun i y t h1 h2=>by
  cases i with
  | zero=>cases h1;cases h2;exact⟨h,nb⟩
  | succ j=>exact r.2 j y t (by simpa using h1) (by simpa using h2)⟩
abbrev DS:=List Sl->(Dt->Prop)->Prop
def spS(S:DS):Sp:=fun vs H Q _=> ∃M ss Qd,jJ M H/\qN M H vs ss/\S ss Qd/\ ∀r H' v',Qd r->aC H H'->Rep M H' v' r->Q v' H'
theorem uN(al:jJ M H)(r:qN M H vs ss)(w: ∀W∈Ws,O3 W M (List.replicate (ss.length+n) []) H (ss++List.replicate n .no)):
  aB Ws M (List.replicate (ss.length+n) []) H (vs.map some++List.replicate n none) (ss++List.replicate n .no):=by
 have a0:(List.replicate (ss.length+n) ([]:List Addr)).flatten= []:=by simp
 refine⟨by simp [r.1],by simp,fun i s h=>?_,by rw[a0];exact ab5,fun a ha=>by rw[a0] at ha;exact absurd ha Yy,al,w⟩;have hi:=(YB.mp h).1;rw[Y9,ZZ] at hi;have ha:(List.replicate (ss.length+n) ([]:List Addr))[i]?=some []:=by rw[YY,if_pos hi]
 by_cases hl:i < ss.length
 . rw[Y1 hl] at h;have hv:vs[i]?=some (vs[i]'(by rw[r.1];exact hl)):=Ys _;exact⟨_,[],by rw[Y1 (by rw[Yt,r.1];exact hl),YC,hv];rfl,ha,(r.2 i _ s hv h).1⟩
 . rw[Y8 (by omega),YY] at h;split at h
   . rename_i hn;cases h;exact⟨none,[],by rw[Y8 (by rw[Yt,r.1];omega),YY,if_pos (by rw[Yt,r.1];exact hn)],ha,rfl⟩
   . cases h
theorem xx:O3 ⟨H,fun _=>False,M,M,none⟩ M (List.replicate k []) H δ:=by
 have a0:(List.replicate k ([]:List Addr)).flatten= []:=by simp
 refine⟨fun b o e _=>e,fun b n=>n,fun a ha=>by rw[a0] at ha;exact absurd ha Yy,fun a h=>h,fun a h=> .inl h,fun d c e=>(by cases e),fun j s as h1 h2 _ a ha=>?_⟩;rw[YY] at h2;split at h2
 . cases h2;exact absurd ha Yy
 . cases h2
section
variable{P:Program}{w:World}{K:PySem.W.Frag}{mg:Str->Option Value}{base:Heap}
theorem zW{N ps:List Str}(r:qN M H vs ss)(l:ss.length=ps.length):L2.start N vs=vs.map some++List.replicate (N.length - ps.length) none:=by unfold L2.start;rw[r.1,l]
theorem T4 {x qual : Str} {st : Stmt} {k : Nat} (F : ip K x qual st f fd) (sc : aM N ps (ae st)) (len : ∀ ss Qd, S ss Qd -> ss.length = ps.length) (fG : ∀ (bZ : Value) (A : Around) (outer : List Env) (s : Shared) (H : Hp) (E : XK), bM k (A.deeper (envOfC qual (ae st) s.heap.objs.size f bZ)) ->
   ∃T,zj (kN eM P w K mg base N qual (ae st) f bZ A outer s H E).Bb (cc st) T/\ ∀ss Qd,S ss Qd->T {nx:=fun _=>Qd .aI,rt:=fun d _=>Qd d} (ss++List.replicate (N.length - ps.length) .no)):
  bp P w K mg base eM (k+1) f fd ps (spS S):=by
 refine F.ok sc (fun vs H Q E h=>?_) (fun bZ A outer s H vs Q E hr h=>?_)
 . obtain⟨M,ss,Qd,al,r,q,_⟩:=h;rw[r.1];exact len ss Qd q
 . obtain⟨M,ss,Qd,al,r,q,kk⟩:=h;obtain⟨T,hT,hq⟩:=fG bZ A outer s H E hr;refine⟨lS T,hT,[⟨H,fun _=>False,M,M,none⟩],M,List.replicate (ss.length+(N.length - ps.length)) [],ss++List.replicate (N.length - ps.length) .no,_,?_,?_,hq ss Qd q⟩
   . rw[zW r (len ss Qd q)];exact uN al r fun W hW=>by rw[YX.mp hW];exact xx
   . have same : ∀ {M' α' H' σ' δ'}, aB [⟨H, fun _ => False, M, M, none⟩] M' α' H' σ' δ' -> aC H H' /\ ∀ a, M a -> M' a := fun E' => by
       have k:=E'.w _ (YX.mpr rfl);exact⟨fun b o e=>k.bs b o e (fun z=>z),k.m0⟩
     refine⟨fun M' α' H' σ' δ' E' q=>kk _ _ _ q (same E').1 .aI,fun M' α' H' σ' δ' v d E' r' q=>kk _ _ _ q (same E').1 (r'.mono fun a o e n=>⟨e,fun z=>n ((same E').2 a z)⟩),fun _ _ _ _ _ _ z=>z.elim,fun _ _ _ _ _ _ z=>z.elim⟩
end
end LD
namespace L2
open PySem PySem.Spec PyProof.Rows
def tI(P:Program)(w:World)(K:PySem.W.Frag)(mg:Str->Option Value)(base:Heap)(f:Addr)(k:Nat)(ps:List Str)(sp:Sp):Prop:=
 ∃fd,PySem.W.keepIn K (.ref f)=true/\Binds K fd ps []/\bp P w K mg base eM k f fd ps sp
section
variable{X:Cx}{f:Addr}{k i:Nat}{ps:List Str}{sp:Sp}{x:Str}{p pos:Pos}{e:Expr}{es:List Expr}{t:TA}
def HJ(f:Addr)(sp:Sp)(i:Nat)(t:TA):TE:=fun σ H Q=>σ[i]?=some (some (.ref f))/\t σ H fun vs H1=>sp vs H1 Q E0
theorem AQ(h:tI X.prog X.w X.K X.mg X.base f k ps sp)(hr:bM k X.A)(hn:PE X (.Name x p) (gG i))(ha:PA X (e::es) t)
  (he:starEach (e::es) X.env=(false,eval e X.env)::starEach es X.env:=by rfl) (cN:(backTo pos (starEach es X.env)).any (·.1)=false:=by rfl):
  PE X (.Call (.Name x p) (e::es) [] pos) (HJ f sp i t):=by
 obtain⟨fd,hk,hb,F⟩:=h;intro pins s σ H Q I hh;obtain⟨hσ,q⟩:=hh;refine ab6 (aV (hn pins s σ H (fun v H1=>v= .ref f/\t σ H1 fun vs H2=>sp vs H2 Q E0) I ⟨_,hσ,rfl,q⟩) fun u s1 zz=>?_);obtain⟨v,H1,I1,rv,ev,q1⟩:=zz;subst ev;obtain rfl:u=Value.ref f:=rv;refine PySem.W.callWith_K (h₀:=X.base) I.ok.mod.OO hk (aV (ha pos pins s1 σ H1 _ I1 q1) fun us s2 dM=>?_) he cN;obtain⟨vs,H2,I2,r,q2⟩:=dM;refine⟨I2.qf,?_⟩;exact Ai (dvs:= []) (ds:= []) F hr hb .nil Gp I2 r (by rw[Zw];exact q2)
end
end L2
namespace LD
open PySem PySem.Spec L2 LB PyProof.Rows LW
abbrev C9:=List Sl->(List Sl->List Sl->Prop)->Prop
inductive lW(t:C9)(σ:L2.St)(H:Hp)(Q:List V->Hp->Prop):Prop
 | mk (W:List Wd) (M:Addr->Prop) (α:List (List Addr)) (δ:List Sl) (Qd:List Sl->List Sl->Prop) (h1:aB W M α H σ δ) (h2:t δ Qd) (h3: ∀ss δ' H' vs,Qd ss δ'->aB W M α H' σ δ'->da α H H'->qN M H' vs ss->Q vs H')
abbrev Wv(X:Cx)(es:List Expr)(t:C9):Prop:=PA X es (lW t)
section
variable{X:Cx}{e:Expr}{es:List Expr}{te:bz}{t:C9}{tA:gn}{y x:Str}{yp p pos:Pos}{f:Addr}{k:Nat}{ps:List Str}{S:DS}{S1:DN}
def PY:C9:=fun δ Q=>Q [] δ
def UU(te:bz)(t:C9):C9:=fun δ Q=>te δ fun d δ1=>t δ1 fun ss δ2=>Q (.im d::ss) δ2
def UX(f:Addr)(i:Nat)(t:C9):C9:=fun δ Q=>δ[i]?=some (.fn f)/\t δ fun ss δ2=>Q (.fn f::ss) δ2
def UW(f:Addr)(t:C9):C9:=fun δ Q=>t δ fun ss δ2=>Q (.fn f::ss) δ2
theorem zF:Wv X [] PY:=PA.imp aF fun σ H Q zz=>(by obtain⟨W,M,α,δ,Qd,E,q,k⟩:=zz;exact k _ _ _ _ q E da.rf .nil)
theorem Hn(he:Ev X e te)(hr:Wv X es t)(hs:starEach (e::es) X.env=(false,eval e X.env)::starEach es X.env:=by rfl):Wv X (e::es) (UU te t):=PA.imp (ah he hr hs) fun σ H Q zz=>(by
 obtain⟨W,M,α,δ,Qd,E,q,k⟩:=zz;exact⟨W,M,α,δ,_,E,q,fun d δ1 H1 v q1 E1 c1 r1=>⟨W,M,α,δ1,_,E1,q1,fun ss δ2 H2 vs q2 E2 c2 r2=>k _ _ _ _ q2 E2 (c1.tr c2) (.cons (s:= .im d) ⟨rfl,v,rfl,r1.chg E1 c2⟩ rfl r2)⟩⟩)
theorem Lm(i:Nat)(ho:PE X (.Name y yp) (gG i))(hr:Wv X es t)(hs:starEach (.Name y yp::es) X.env=(false,eval (.Name y yp) X.env)::starEach es X.env:=by rfl):Wv X (.Name y yp::es) (UX f i t):=PA.imp (ah ho hr hs) fun σ H Q zz=>(by
 obtain⟨W,M,α,δ,Qd,E,⟨h,q⟩,k⟩:=zz;obtain⟨o,as,s1,s2,ea,eo⟩:=E.sl i _ h;subst eo;exact⟨_,s1,W,M,α,δ,_,E,q,fun ss δ2 H2 vs q2 E2 c2 r2=>k _ _ _ _ q2 E2 c2 (.cons (s:= .fn f) ⟨rfl,rfl⟩ rfl r2)⟩)
theorem DI(hg:Gl X x)(hm:X.mg x=some (.ref f))(hr:Wv X es t)(lu:(x==("__debug__":Str))=false:=by decide)(hs:starEach (.Name x p::es) X.env=(false,eval (.Name x p) X.env)::starEach es X.env:=by rfl):Wv X (.Name x p::es) (UW f t):=PA.imp (ah (Eh (v:= .ref f) hg hm rfl lu) hr hs) fun σ H Q zz=>(by
 obtain⟨W,M,α,δ,Qd,E,q,k⟩:=zz;exact⟨W,M,α,δ,_,E,q,fun ss δ2 H2 vs q2 E2 c2 r2=>k _ _ _ _ q2 E2 c2 (.cons (s:= .fn f) ⟨rfl,rfl⟩ rfl r2)⟩)
def WX(S:DS)(t:C9):bz:=fun δ Q=>t δ fun ss δ'=>S ss fun r=>Q r δ'
theorem Ct(h:ik X.prog X.w X.K X.mg X.base x k ps (spS S))(hr:bM k X.A)(ha:Wv X (e::es) t)(hg:Gl X x:=by rfl)
  (lu:(x==("__debug__":Str))=false:=by decide) (he:starEach (e::es) X.env=(false,eval e X.env)::starEach es X.env:=by rfl) (cN:(backTo pos (starEach es X.env)).any (·.1)=false:=by rfl):
  Ev X (.Call (.Name x p) (e::es) [] pos) (WX S t):=PE.imp (mq h hr hg ha lu he cN) fun σ H Q zz=>(by
 obtain⟨W,M,α,δ,Qd,E,q,k⟩:=zz;refine⟨W,M,α,δ,_,E,q,fun ss δ' H' vs q1 E1 c1 r1=>?_⟩;show spS S (vs++ []) H' Q E0;rw[Zw];exact⟨M,ss,_,E1.al,r1,q1,fun r H2 v2 q2 s r2=>k _ _ _ _ q2 (E1.same s) (c1.tr (da.of s)) r2⟩)
def Sa(f:Addr)(S1:DN)(i:Nat)(tA:gn):bz:=fun δ Q=>δ[i]?=some (.fn f)/\tA δ fun ds δ'=>S1 ds fun r=>Q r δ'
theorem g8(i:Nat)(h:tI X.prog X.w X.K X.mg X.base f k ps (dN S1))(hr:bM k X.A)(ho:PE X (.Name y yp) (gG i))(ha:Av X (e::es) tA)
  (he:starEach (e::es) X.env=(false,eval e X.env)::starEach es X.env:=by rfl) (cN:(backTo pos (starEach es X.env)).any (·.1)=false:=by rfl):
  Ev X (.Call (.Name y yp) (e::es) [] pos) (Sa f S1 i tA):=PE.imp (AQ h hr ho ha he cN) fun σ H Q zz=>(by
 obtain⟨W,M,α,δ,Qd,E,⟨hf,q⟩,k⟩:=zz;obtain⟨o,as,s1,s2,ea,eo⟩:=E.sl i _ hf;subst eo;refine⟨s1,W,M,α,δ,_,E,q,fun ds δ' H' vs q1 E1 c1 r1=>?_⟩;exact⟨M,ds,_,E1.al,r1,q1,fun r H2 v2 q2 s r2=>k _ _ _ _ q2 (E1.same s) (c1.tr (da.of s)) r2⟩)
end
noncomputable def wk:List Dt->Option (List Key)
 | []=>some []
 | d::ds=>match MD d,wk ds with
  | some k,some ks=>some (k::ks)
  | _,_=>none
noncomputable def EK:Dt->Option (List Key)
 | .tup ds=>wk ds
 | _=>none
theorem sD: ∀{ds:List Dt} {vs:List V} {ks:List Key},aA M H vs ds->wk ds=some ks->vs=ks.map kV
 | [],vs,ks,r,h=>by cases h;cases r.eV;rfl
 | d::ds,vs,ks,r,h=>by
  obtain⟨x,ys,rfl,rx,ry⟩:=r.aQ;unfold wk at h;split at h
  . rename_i k VD h1 h2;cases h;rw[EJ rx h1,sD ry h2];rfl
  . cases h
theorem mN(r:Rep M H v d)(h:EK d=some k): ∃b,v= .ref b/\H b=some (.tup (k.map kV)):=by
 cases d with
 | tup ds=>
  obtain⟨b,xs,rfl,hb,n,rr⟩:=r.bE;rw[sD rr h] at hb;exact⟨b,rfl,hb⟩
 | _=>cases h
noncomputable def xy:List (List Key)->List Dt->List Key->Option Dt
 | k'::ks,d::ds,k=>if k'=k then some d else xy ks ds k
 | _,_,_=>none
theorem rp: ∀{vs:List (List Key × V)} {ds:List Dt} {d:Dt},aA M H (vs.map (·.2)) ds->xy (vs.map (·.1)) ds k=some d-> ∃v,fM vs k=some v/\Rep M H v d
 | [],ds,d,r,h=>by cases ds <;> cases h
 | (k',v)::vs,[],d,r,h=>by cases h
 | (k',v)::vs,d'::ds,d,r,h=>by
  obtain⟨x,ys,e,rx,ry⟩:=r.aQ;rw[YV] at e;injection e with e1 e2
  have e1:v=x:=e1;subst e1 e2;rw[YV,xy] at h;by_cases c:k'=k
  . rw[if_pos c] at h;cases h;exact⟨v,by unfold fM;rw[List.find?_cons_of_pos (by simpa using c)];rfl,rx⟩
  . rw[if_neg c] at h;obtain⟨u,hu,ru⟩:=rp ry h;exact⟨u,by unfold fM at hu ⊢;rw[List.find?_cons_of_neg (by simpa using c)];exact hu,ru⟩
theorem rT [DecidableEq κ]{aG:List (κ × V)}(h:k∉aG.map (·.1)):putK aG k v=aG++ [(k,v)]:=by
 unfold putK;rw[if_neg];intro z;obtain⟨kv,m,e⟩:=List.any_eq_true.mp z;exact h (YE.mpr ⟨kv,m,by simpa using e⟩)
noncomputable def TD(ks:List (List Key))(ds:List Dt):Uv where
 rel:=fun M H v as=> ∃a vs,as= [a]/\v= .ref a/\H a=some (.dT vs)/\vs.map (·.1)=ks/\aA M H (vs.map (·.2)) ds
 st:=fun z ka k=>by
  obtain⟨a,vs,rfl,ev,h,e,r⟩:=z;exact⟨a,vs,rfl,ev,ka a (by simp) _ h,e,r.mono k⟩
noncomputable abbrev td (ks:List (List Key)) (ds:List Dt):Sl:= .ob (TD ks ds)
section
variable{X:Cx}{a b e:Expr}{ta tb tv t:bz}{x:Str}{xp pos pos':Pos}
inductive Ft(Q:Dt->List Sl->Prop)(d1 d2:Dt)(δ2:List Sl):Prop
 | mk (ks:List (List Key)) (ds:List Dt) (k:List Key) (d:Dt) (h1:d1= .jO ks ds) (h2:EK d2=some k) (h3:xy ks ds k=some d) (h4:Q d δ2)
def NF(ta tb:bz):bz:=fun δ Q=>ta δ fun d1 δ1=>tb δ1 fun d2 δ2=>Ft Q d1 d2 δ2
theorem cT(hu:X.A.units+1 < cLine)(ha:Ev X a ta)(hb:Ev X b tb)(hs:Kr b:=by exact fun _ _=>rfl):Ev X (.Subscript a b pos) (NF ta tb):=PE.imp (i8 hu ha hb hs) fun σ H Q zz=>(by
 obtain⟨W,M,α,δ,Qd,E,q,k⟩:=zz;refine⟨W,M,α,δ,_,E,q,fun d1 δ1 H1 x q1 E1 c1 r1=>⟨W,M,α,δ1,_,E1,q1,fun d2 δ2 H2 y zz E2 c2 r2=>?_⟩⟩;obtain⟨ks,ds,kk,d,e,hk,hv,q2⟩:=zz;subst e;obtain⟨a,vs,rfl,ha,n,e2,rr⟩:=(r1.chg E1 c2).Gs;subst e2;obtain⟨v,VL,rv⟩:=rp rr hv;obtain⟨kb,rfl,M6⟩:=mN r2 hk;exact⟨a,v,rfl,by rw[<-VL];exact kW.t ha M6,k _ _ _ _ q2 E2 (c1.tr c2) rv⟩)
inductive ND(i:Nat)(Δ:eK)(δ:List Sl):Prop
 | mk (h1:cE δ i) (h2:Δ.nx (δ.set i (td [] [])))
theorem Ab(i:Nat)(hN:X.N.Nodup)(hi:X.N[i]?=some x:=by rfl)(hx:Loc X.env.scope x:=by first | exact Or.inl rfl | exact Or.inr rfl)(hs:swapsWith (.Dict [] [] pos') (some (.Name x xp)) pos.line X.env=pure false:=by rfl)(hf:X.fn x=true\/X.env.scope.names.lookup x=some .local:=by first | exact .inl rfl | exact .inr rfl | assumption):
  Ex X (.Assign [.Name x xp] (.Dict [] [] pos') pos) (ND i):=PS.imp (dB hN hi hx AM hs hf) fun D σ H zz=>(by
 obtain⟨Ws,M,α,δ,Δ,E,L,ok,q⟩:=zz;intro p hp;exact L.nx _ _ _ _ _ (E.lZ (s:=td [] []) hp (fun xs z=>by cases z) ok rfl ⟨_,rfl,p,[],rfl,rfl,af,rfl,.nil⟩) q)
theorem rE{i:Nat}(E:aB W M α H σ δ)(h:δ[i]?=some (td ks ds)): ∃a vs,σ[i]?=some (some (.ref a))/\α[i]?=some [a]/\H a=some (.dT vs)/\vs.map (·.1)=ks/\aA M H (vs.map (·.2)) ds:=by
 obtain⟨o,as,s1,s2,v,rfl,a,vs,rfl,rfl,h1,h2,h3⟩:=E.sl i _ h;exact⟨a,vs,s1,s2,h1,h2,h3⟩
inductive wX(i:Nat)(Δ:eK)(d d2:Dt)(δ2:List Sl):Prop
 | mk (k:List Key) (ks:List (List Key)) (ds:List Dt) (h1:EK d2=some k) (h2:δ2[i]?=some (td ks ds)) (h3:ks.length < sizeLine) (h4:k∉ks) (h5:Δ.nx (δ2.set i (td (ks++ [k]) (ds++ [d]))))
def NC(i:Nat)(tb tv:bz):kG:=fun Δ δ=>tv δ fun d δ1=>(∃Tp Cb,δ1[i]?=some (td Tp Cb))/\tb δ1 fun d2 δ2=>wX i Δ d d2 δ2
theorem pN(i:Nat)(hu:X.A.units+1 < cLine)(ho:PE X (.Name x xp) (gG i))(hb:Ev X b tb)(hv:Ev X e tv)(hs:swapsWith e (some (.Subscript (.Name x xp) b pos')) pos.line X.env=pure false:=by rfl):
  Ex X (.Assign [.Subscript (.Name x xp) b pos'] e pos) (NC i tb tv):=PS.imp (vT hu ho hb hv hs) fun D σ H zz=>(by
 obtain⟨Ws,M,α,δ,Δ,E,L,q⟩:=zz;refine⟨Ws,M,α,δ,_,E,q,fun d δ1 H1 v zz E1 c1 r1=>?_⟩;obtain⟨⟨Tp,Cb,h0⟩,q1⟩:=zz;obtain⟨a,U0,h1,h2,h3,h4,r3⟩:=rE E1 h0;refine⟨_,h1,Ws,M,α,δ1,_,E1,q1,fun d2 δ2 H2 y zz E2 c2 r2=>?_⟩;obtain⟨k,ks,ds,hk,hd,l,nk,q2⟩:=zz;obtain⟨a',vs,sN,yw,JG,WI,D8⟩:=rE E2 hd;rw[h1] at sN;cases sN;obtain⟨kb,rfl,M6⟩:=mN r2 hk;subst WI;refine⟨a,_,rfl,kU.t JG M6 (by rw[Yt] at l;exact l),?_⟩;rw[rT nk];have ma:M a:=E2.mu a (aL yw (by simp));have mo: ∀b u,H2 b=some u-> ¬M b->upd H2 a (.dT (vs++ [(k,v)])) b=some u/\ ¬M b:=fun b u e n=>⟨by rw[ag (fun z=>n (by rw[z];exact ma))];exact e,n⟩
 obtain⟨E3,_⟩:=E2.mod (s':=td (vs.map (·.1)++ [k]) (ds++ [d])) (H':=upd H2 a (.dT (vs++ [(k,v)]))) hd h1 yw rfl ⟨_,rfl,a,vs++ [(k,v)],rfl,rfl,af,by rw[Y6];rfl,by
   rw[Y6];exact(D8.mono mo).append (.one ((r1.chg E1 c2).mono mo))⟩ (fun b u e n=>by rw[ag (fun z=>n (by rw[z];simp))];exact e) (fun b hb=>by rw[YX.mp hb];exact⟨_,af,fun xs z=>by cases z⟩)
 exact L.nx _ _ _ _ _ E3 q2)
inductive eS:List Sl->List Sl->Prop
 | nil:eS [] []
 | no {δ δ0:List Sl}:eS δ δ0->eS (.no::δ) (.no::δ0)
 | im {d:Dt} {δ δ0:List Sl}:eS δ δ0->eS (.im d::δ) (.im d::δ0)
 | fn {f:Addr} {δ δ0:List Sl}:eS δ δ0->eS (.fn f::δ) (.fn f::δ0)
 | td {ks:List (List Key)} {ds:List Dt} {δ δ0:List Sl}:eS δ δ0->eS (td ks ds::δ) (.im (.jO ks ds)::δ0)
theorem eS.len(h:eS δ δ0):δ.length=δ0.length:=by induction h <;> simp_all
theorem eS.at(h:eS δ δ0): ∀{i:Nat} {s0:Sl},δ0[i]?=some s0->(δ[i]?=some s0/\(s0= .no\/(∃d,s0= .im d)\/ ∃f,s0= .fn f))\/ ∃ks ds,δ[i]?=some (LD.td ks ds)/\s0= .im (.jO ks ds):=by
 induction h with
 | nil=>intro i s0 h;simp at h
 | no _ ih=>intro i s0 h;cases i with
  | zero=>cases h;exact .inl ⟨rfl,.inl rfl⟩
  | succ i=>simpa using ih (by simpa using h)
 | im _ ih=>intro i s0 h;cases i with
  | zero=>cases h;exact .inl ⟨rfl,.inr (.inl ⟨_,rfl⟩)⟩
  | succ i=>simpa using ih (by simpa using h)
 | fn _ ih=>intro i s0 h;cases i with
  | zero=>cases h;exact .inl ⟨rfl,.inr (.inr ⟨_,rfl⟩)⟩
  | succ i=>simpa using ih (by simpa using h)
 | td _ ih=>intro i s0 h;cases i with
  | zero=>cases h;exact .inr ⟨_,_,rfl,rfl⟩
  | succ i=>simpa using ih (by simpa using h)
inductive J6(t:bz)(δ:List Sl)(Q:Dt->List Sl->Prop):Prop
 | mk (δ0:List Sl) (h1:eS δ δ0) (h2:t δ0 fun d _=>vm d/\Q d δ)
theorem yh(E:aB W M α H σ δ)(h:eS δ δ0):aB [] (fun a=>M a/\a∉α.flatten) (List.replicate δ0.length []) H σ δ0:=by
 have a0:(List.replicate δ0.length ([]:List Addr)).flatten= []:=by simp
 have mo: ∀a u,H a=some u-> ¬M a->H a=some u/\ ¬(M a/\a∉α.flatten):=fun a u e n=>⟨e,fun z=>n z.1⟩
 refine⟨by rw[E.ls,h.len],by simp,fun i s0 hi=>?_,by rw[a0];exact ab5,fun a ha=>by rw[a0] at ha;exact absurd ha Yy,fun a ha=>E.al a ha.1,fun W hW=>absurd hW Yy⟩;have hl:=(YB.mp hi).1;have ha:(List.replicate δ0.length ([]:List Addr))[i]?=some []:=by rw[YY,if_pos hl]
 rcases h.at hi with ⟨hd,hs⟩ | ⟨ks,ds,hd,rfl⟩
 . obtain⟨o,as,h1,h2,h3⟩:=E.sl i _ hd;refine⟨o,[],h1,ha,?_⟩;rcases hs with rfl | ⟨d,rfl⟩ | ⟨f,rfl⟩
   . rfl
   . exact⟨rfl,let ⟨v,e,r⟩:=h3.2;⟨v,e,r.mono mo⟩⟩
   . exact⟨rfl,h3.2⟩
 . obtain⟨a,vs,h1,h2,h3,h4,r⟩:=rE E hd;have rm:=r.mono mo;exact⟨_,[],h1,ha,rfl,_,rfl,.jO h3 (fun z=>z.2 (aL h2 (by simp))) h4 rm.1 rm.2⟩
theorem qy(h:Ev X e t):Ev X e (J6 t):=PE.imp h fun σ H Q zz=>(by
 obtain⟨W,M,α,δ,Qd,E,⟨δ0,fr,q⟩,k⟩:=zz;refine⟨[],_,_,δ0,_,yh E fr,q,fun d δ' H' v zz E1 c1 r1=>?_⟩;obtain⟨at',q1⟩:=zz;have sm:aC H H':=fun b u e=>c1 b u e (by simp);exact k _ _ _ _ q1 (E.same sm) (da.of sm) (r1.K8 at'))
end
theorem aB.RF(E:aB Ws M α H σ δ)(hi:δ[i]?=some (td ks ds)): ∃M' α',aB Ws M' α' H σ (δ.set i (.im (.jO ks ds))):=by
 have df:=(YB.mp hi).1;obtain⟨a,xs,h1,h2,h3,h4,r⟩:=rE E hi;have mono: ∀{v:V} {d:Dt},Rep M H v d->Rep (fun b=>M b/\b≠a) H v d:=fun r=>r.mono fun b u e n=>⟨e,fun z=>n z.1⟩
 have mB: ∀{v:List V} {d:List Dt},aA M H v d->aA (fun b=>M b/\b≠a) H v d:=fun r=>r.mono fun b u e n=>⟨e,fun z=>n z.1⟩
 refine⟨fun b=>M b/\b≠a,α.set i [],⟨by rw[Y7,E.ls],by rw[Y7,Y7,E.la],fun j s hj=>?_,bV E.nd ab5 (fun x hx=>absurd hx Yy),fun b hb=>?_,fun b hb=>E.al b hb.1,fun W hW=>?_⟩⟩
 . by_cases bN:i=j
   . subst bN;rw[YO df] at hj;cases hj;have rm:=mB r;exact⟨some (.ref a),[],h1,by rw[YO (by rw[E.la];exact df)],rfl,_,rfl,.jO h3 (fun z=>z.2 rfl) h4 rm.1 rm.2⟩
   . rw[YF bN] at hj;obtain⟨o2,xj,g1,g2,g3⟩:=E.sl j s hj;refine⟨o2,xj,g1,by rw[YF bN];exact g2,?_⟩;cases s with
     | no=>exact g3
     | im d=>exact⟨g3.1,let ⟨v,e,r⟩:=g3.2;⟨v,e,mono r⟩⟩
     | ow ds=>obtain⟨b,xs,e1,e2,e3,r⟩:=g3;exact⟨b,xs,e1,e2,e3,mB r⟩
     | bx t=>exact g3
     | dk ks ds=>obtain⟨b,vs,e1,e2,e3,e4,r⟩:=g3;exact⟨b,vs,e1,e2,e3,e4,mB r⟩
     | ob R=>obtain⟨v,e,r⟩:=g3;exact⟨v,e,R.st r (fun _ _ _ q=>q) fun b u q n=>⟨q,fun z=>n z.1⟩⟩
     | fn f=>exact g3
 . obtain⟨l,hl,hx⟩:=ah0.mp hb;obtain⟨j,hj,e⟩:=ZW hl;have ej:(α.set i [])[j]?=some l:=by rw[Ys hj,e]
   by_cases bN:i=j
   . subst bN;rw[YO (by rw[E.la];exact df)] at ej;cases ej;exact absurd hx Yy
   . rw[YF bN] at ej;refine⟨E.mu b (aL ej hx),fun z=>?_⟩;subst z;exact fS E.nd ej h2 (Ne.symm bN) hx (by simp)
 . have k:=E.w W hW;refine⟨k.bs,k.ex,fun b hb=>(br hb).elim (k.fr b) fun z=>absurd z Yy,fun b z=>⟨k.m0 b z,fun y=>?_⟩,fun b z=>k.m1 b z.1,fun d c e=>?_,fun j s as g1 g2 nb=>?_⟩
   . subst y;exact k.fz i _ _ hi h2 rfl b (by simp) z
   . obtain⟨t,e1,e2⟩:=k.bx d c e;have:i≠0:=fun z=>by subst z;rw[hi] at e1;cases e1
     exact⟨t,by rw[YF this];exact e1,by rw[YF this];exact e2⟩
   . by_cases bN:i=j
     . subst bN;rw[YO (by rw[E.la];exact df)] at g2;cases g2;exact fun b hb=>absurd hb Yy
     . rw[YF bN] at g1 g2;exact k.fz j s as g1 g2 nb
section
variable{X:Cx}{st:Stmt}{rest:List Stmt}{T:kG}
inductive GZ(i:Nat)(T:kG)(Δ:eK)(δ:List Sl):Prop
 | mk (ks:List (List Key)) (ds:List Dt) (h1:δ[i]?=some (td ks ds)) (h2:T Δ (δ.set i (.im (.jO ks ds))))
theorem yz: ∀D σ H,lS (GZ i T) D σ H->lS T D σ H:=fun D σ H cj=>(by obtain⟨Ws,M,α,δ,Δ,E,L,ks,ds,h,q⟩:=cj;exact(by
 obtain⟨M',α',E'⟩:=aB.RF E h;exact⟨Ws,M',α',_,Δ,E',L,q⟩))
theorem pO(i:Nat)(h:Ex X st T):Ex X st (GZ i T):=PS.imp h yz
end
end LD
namespace L2
open PySem PySem.Spec PyProof.Rows
theorem nP (I : Nat -> Shared -> Prop) (turn : ∀ n s, I n s -> wpAny (model prog w) A (pyNext it) (fun r s₁ => match r with
   | none=>R (.ok .next) s₁
   | some v=>wpAny (model prog w) A (letOwnedTupleGo target it v) (fun _ s₀=>wpAny (model prog w) A (assign target env v) (fun _ s₂=>
     wpAny (model prog w) A (eval kx env) (fun kv s₄=>wpAny (model prog w) A (eval vx env) (fun vv s₅=>
       wpAny (model prog w) A (dictSet D kv vv) (fun _ s₆=> ∃m,m < n/\I m s₆) (fun _ _=>False) s₅) (fun _ _=>False) s₄) (fun _ _=>False) s₂) (fun _ _=>False) s₀) (fun _ _=>False) s₁) (fun _ _=>False) s) (n:Nat) (h:I n s):codeAny (model prog w) A (.compLoop (.DictComp kx vx [⟨target,iter,[],0⟩] scope pos) 0 it (.ref D) env) R s:=by
 refine codeAny_loop rfl I (fun n s hI=>?_) n h;show wpAny _ A ((compTurn (.DictComp kx vx [⟨target,iter,[],0⟩] scope pos) 0 it (.ref D) env).onRaise (fun x=>do noteFrame x env;theTreesLotGoes x)) _ _ s;refine wpAny_noted ?_;rw[compTurn_dict];refine Yr (ZY (Yr (Y2 (turn n s hI) (fun r s₁ h₁=>?_) fun _ _ h'=>h'.elim)));cases r with
 | none=>exact Yv h₁
 | some v=>
  refine Yr (Y2 h₁ (fun _ s₀ h₀=>?_) fun _ _ h'=>h'.elim);refine Yr (Y2 h₀ (fun _ s₂ h₂=>Yr (wpAny_tests_nil ?_)) fun _ _ h'=>h'.elim);refine Yr (Yr (Y2 h₂ (fun kv s₄ h₄=>Yr (Zs (Y2 h₄ (fun vv s₅ h₅=>Yr (ZY (Zs (Y2 h₅ (fun _ s₆ h₆=>Yv ⟨rfl,h₆⟩) fun _ _ h'=>h'.elim)))) fun _ _ h'=>h'.elim))) fun _ _ h'=>h'.elim))
def Df(nt:Nat)(js:List Nat)(g:TG)(tk tv:TE)(σ:St)(Q:VK)(D:Addr)(J:It)(H0:Hp):Prop:=
 ∃W:Nat->Nat->Hp->Prop,(∃m,W 0 m H0)/\ ∀i m H,W i m H->
  (J.stop i H/\Q (.ref D) H)\/(J.go i H/\ ∃B:Hp->Prop,(∀H',B H'-> ∃m',m' < m/\W (i+1) m' H')/\ ∀x H',J.qW i H x H'->g x (gq nt js σ) H' fun σ2 H2=>
   tk σ2 H2 fun kv H3=>tv σ2 H3 fun v H4=> ∃H5,kU H4 D kv v H5/\B H5)
def zS(nt:Nat)(js:List Nat)(wi:TI)(g:TG)(tk tv:TE):TE:=fun σ H Q=>wi σ H fun J H1=> ∀D,H1 D=none->Df nt js g tk tv σ Q D J (upd H1 D (.dT []))
theorem lL(h:Q (.ref s.heap.objs.size) {s with heap:=s.heap.push {cls:= .type "dict",data:= .dict #[]}}):wpAny M A newDict Q E s:=by
 unfold newDict;exact Zc h
theorem oX(hu:A.units < cLine)(I:Inv X pins σ H s)(g:kU H a y v H')(ry:RelV y u)(rv:RelV v r)(h: ∀s',Inv X pins σ H' s'->Q () s'):
  wpAny (model X.prog X.w) A (dictSet a u r) Q E s:=by
 rcases g with ⟨aG,k,e,ey,l,eH⟩ | ⟨aG,k,b,e,ey,eb,l,eH⟩
 . subst ey eH;obtain⟨z,hd,vs,rel,dd⟩:=Ce I.aT e;have hz:vs.length<=sizeLine:=by rw[<-rel.length];exact z
   have hl:(putK aG k v).length<=sizeLine:=by have:=cF aG k v;lia
   refine wpAny_dictSet_pairs (hsz:=hz) (sE ry) dd fun h' zf hs=>h _ ?_;have he: ∃q,h'.get? a=some q:=let ⟨q,_,_,hq,_⟩:=zf;⟨q,hq⟩;exact ie I (by rw[e];exact True.intro) hs he (uP hl hd (rel.put k rv) zf)
 . subst ey eH;cases (show u=Value.ref b from ry);obtain⟨z,hd,xs,rel,dd⟩:=sT I.aT e;have hz:xs.length<=sizeLine:=by rw[<-Paired.length rel];exact z
   have hl:(putK aG k v).length<=sizeLine:=by have:=cF aG k v;lia
   refine wpAny_dictSet_heap (hsz:=hz) hu (qe I.aT eb) dd fun h' zf hs=>h _ ?_;obtain⟨q,es,ep,hq,h2,h3,h4,_,h5⟩:=zf;refine ie I (by rw[e];exact True.intro) hs ⟨q,hq⟩ ⟨hl,hd,_,(rel.put k eb rv).keeps fun c ys ec=>?_,q,es,ep,hq,h2,h3,h4,h5⟩;rw[ag (v7 ec e (fun z=>nomatch z))];exact ec
theorem uT{kx vx tg iter:Expr}{pos:Pos}{g:TG}{tk tv:TE}{cl:List (Str × Addr)}{Q:VK}{E:Value->Shared->Prop}{RR:Value->Addr->Result->Shared->Prop}(S:iS X N nt js scope)(hc:X.calm=true)(hg: ∀s H cl C ex,PG (dA X N scope s H cl C ex) tg g)(eB:iR nt g)(hk: ∀s H cl C ex,PE (dA X N scope s H cl C ex) kx tk)(hv: ∀s H cl C ex,PE (dA X N scope s H cl C ex) vx tv)(hu:X.A.units < cLine){tn:Nat->Heap->Prop}(I:Inv X pins σ H s)(T:Turn X.prog X.w X.K tg J fp it tn)(st:tn 0 s.heap)(ff: ∀b∈fp,cU X pins H b)(c1: ∀x c,(x,c)∈cl->X.env.cells.lookup x=some c)(c2: ∀x,(x,NameKind.free)∈scope.names-> ∃c,(x,c)∈cl)(R: ∀D,H D=none->Df nt js g tk tv σ Q D J (upd H D (.dT [])))(fin: ∀(D C:Addr) (s':Shared) (H':Hp),Inv X pins σ H' s'->cU X pins H' C->(∃m,s'.heap.Ns C m)->Q (.ref D) H'->RR (.ref D) C (.ok .next) s'):
  wpAny (model X.prog X.w) X.A newDict (fun acc s₃=>wpAny (model X.prog X.w) X.A (newFunctionEnv scope X.env.globals cl [] X.env.qual none .none (some X.env)) (fun iP s₄=>
   codeAny (model X.prog X.w) X.A (.compStart (.DictComp kx vx [⟨tg,iter,[],0⟩] scope pos) 0 (.ref it) acc {iP with scope:=relabel scope X.env}) (RR acc iP.locals) s₄) E s₃) E s:=by
 refine lL (fm fun iP sS B9=>?_);rw[sS,B9];dsimp only;have hD:H s.heap.objs.size=none:=I.aT.fresh (Yx _);obtain⟨W,⟨m0,w0⟩,turn⟩:=R s.heap.objs.size hD;have kD: ∀b u,s.heap.get? b=some u->(s.heap.push {cls:= .type "dict",data:= .dict #[]}).get? b=some u:=fun b u e=>Yu _ e;have I3:Inv X pins σ (upd H s.heap.objs.size (.dT [])) {s with heap:=s.heap.push {cls:= .type "dict",data:= .dict #[]},toks:=s.toks}:=
  I.laid kD (Yx _) (jy s.heap I.big)
 have fs: ∀b∈fp,b < s.heap.objs.size:=fun b hb=>by
  obtain⟨o,e,_⟩:=T.obj _ _ st b hb;exact YM e
 have GN: ∀b∈fp,cU X pins (upd H s.heap.objs.size (.dT [])) b:=fun b hb=>⟨by rw[ag (Zb (fs b hb))];exact(ff b hb).1,(ff b hb).2⟩
 have I4:=kc (tk:=s.toks) S hc I3 GN (fun b hb=>by show b < (s.heap.push _).objs.size;rw[ZK];exact ZS (fs b hb)) c1 c2;dsimp only at I4;have Nm:(s.heap.push {cls:= .type "dict",data:= .dict #[]}).objs.size=s.heap.objs.size+1:=ZK ..;generalize hY:dA X N scope {s with heap:=s.heap.push {cls:= .type "dict",data:= .dict #[]},toks:=s.toks} (upd H s.heap.objs.size (.dT [])) cl (s.heap.push {cls:= .type "dict",data:= .dict #[]}).objs.size fp=Y at I4;have TV:=hY;have nh:Y.env=m5 scope cl (s.heap.push {cls:= .type "dict",data:= .dict #[]}).objs.size X.env:=by rw[<-hY];rfl
 have bY:Y.prog=X.prog:=by rw[<-hY];rfl
 have Yw:Y.w=X.w:=by rw[<-hY];rfl
 have YA:Y.A=X.A:=by rw[<-hY];rfl
 have YK:Y.K=X.K:=by rw[<-hY];rfl
 have jI:Y.calm=true:=by rw[<-hY];exact hc
 have qU:Y.xe=fun _ _=>False:=by rw[<-hY];rfl
 have tF:Y.ex=fp:=by rw[<-hY];rfl
 have N8:Y.pn= []:=by rw[<-hY];rfl
 have N9:Y.fs=lC X.stack:=by rw[<-hY];rfl
 have G7:Y.s₀={s with heap:=s.heap.push {cls:= .type "dict",data:= .dict #[]},toks:=s.toks}:=by rw[<-hY];rfl
 have Oa:Y.H₀=upd H s.heap.objs.size (.dT []):=by rw[<-hY];rfl
 have Na:PG Y tg g:=by rw[<-hY];exact hg _ _ _ _ _
 have V5:PE Y kx tk:=by rw[<-hY];exact hk _ _ _ _ _
 have VJ:PE Y vx tv:=by rw[<-hY];exact hv _ _ _ _ _
 have VM:Y.A.units < cLine:=by rw[YA];exact hu
 have hm:(Y.N.length:Nat)=(gq nt js σ).length:=I4.len.symm;rw[<-nh,<-bY,<-Yw,<-YA];have BP: ∀{H':Hp} (_: ∀b∈fp,H' b=none),∀b∈fp,cU Y [] H' b:=fun{H'} hn b hb=>by
  refine⟨hn b hb,(I4.ok.GP b (by rw[tF];exact hb)).1,I4.ok.uL b (by rw[tF];exact hb),.inl (by rw[tF];exact hb),(I4.ok.GP b (by rw[tF];exact hb)).2,fun p hp=>?_⟩;rw[N8] at hp;simp at hp
 have back: ∀{H':Hp} {s':Shared} {σ':St},Inv Y [] σ' H' s'->Inv X pins σ H' s'/\cU X pins H' Y.env.locals/\ ∃m,s'.heap.Ns Y.env.locals m:=fun{H' s' σ'} J=>by
  have hb:Un (lC X.stack) fp (upd H s.heap.objs.size (.dT [])) H' (s.heap.push {cls:= .type "dict",data:= .dict #[]}) s'.heap:=by
   have:=J.base;rw[N9,tF,Oa,G7] at this;exact this
  have loc:Y.env.locals=s.heap.objs.size+1:=by rw[nh];exact Nm
  have os:s'.os=s.os:=by
   have:=J.os;rw[G7] at this;exact this
  have aT:gw X.prog X.w H' s'.heap:=by
   have:=J.aT;rw[bY,Yw] at this;exact this
  refine⟨I3.xb (ch:=fp) os hb aT J.bare fun b hb=>⟨(ff b hb).2.2.2.1,(ff b hb).2.1,(ff b hb).2.2.2.2.1,(ff b hb).2.2.2.2.2⟩,?_,let ⟨m,q,_⟩:=J.loc;⟨m,q⟩⟩;exact I.jo (by rw[loc];exact ah6 _) J.free
 have loop:codeAny (model Y.prog Y.w) Y.A (.compLoop (.DictComp kx vx [⟨tg,iter,[],0⟩] scope pos) 0 (.ref it) (.ref s.heap.objs.size) Y.env) (RR (.ref s.heap.objs.size) Y.env.locals)
   {s with heap:=pushCells ((s.heap.push {cls:= .type "dict",data:= .dict #[]}).push {cls:= .type "dict",data:= .dict #[]}) scope.names}:=by
  refine nP (fun n s'=> ∃i H',Inv Y [] (gq nt js σ) H' s'/\tn i s'.heap/\(∀b∈fp,H' b=none)/\W i n H') ?_ m0
   ⟨0,_,I4,T.keep _ _ _ st fun b _ o e=>ac1 _ _ b o (Yu _ (kD b o e)),fun b hb=>(GN b hb).1,w0⟩
  rintro n s5 ⟨i,H5,I5,t5,yA,w5⟩
  rcases turn i n H5 w5 with ⟨stop,q⟩ | ⟨go,B,hB,step⟩
  . have hd:=T.done Y bY Yw YK jI i [] s5 _ H5 (fun _ _=>False) I5 (BP yA) t5 stop;rw[<-bY,<-Yw] at hd;refine aV hd fun r s6 kH=>?_;obtain⟨hr,I6⟩:=kH;subst hr;obtain⟨b1,b2,b3⟩:=back I6;exact fin _ _ _ _ b1 b2 b3 q
  . have hd:=T.item Y bY Yw YK jI i [] s5 _ H5 (fun _ _=>False) I5 (BP yA) t5 go;rw[<-bY,<-Yw] at hd;refine aV hd fun r s6 nA=>?_;obtain⟨u,hr,h6⟩:=nA;subst hr;refine aV h6 fun _ s7 pA=>?_;obtain⟨x,H7,I7,r7,y7,t4,JI⟩:=pA;have Kv:=I7.pinned (BP JI) (T.obj _ _ t4);have g7:=eB _ _ _ _ (step x H7 y7);have h7:=Na _ s7 _ H7 x u _ Kv r7 g7;rw[qU] at h7;refine aV h7 fun _ s8 nz=>?_;obtain⟨σ8,H8,I8,q8,l8,k8⟩:=nz;have h8:=V5 _ s8 σ8 H8 _ I8 q8;rw[qU] at h8;refine aV h8 fun XD s9 gx=>?_;obtain⟨kv,H9,I9,r9,q9⟩:=gx;have h9:=VJ _ s9 σ8 H9 _ I9 q9;rw[qU] at h9;refine aV h9 fun Xt ir jS=>?_;obtain⟨vv,kF,tH,L8,Dz,dp,Ik⟩:=jS;have Fg:=oX (E:=fun _ _=>False) (Q:=fun _ s'=> ∃m,m < n/\ ∃i H',Inv Y [] (gq nt js σ) H' s'/\tn i s'.heap/\(∀b∈fp,H' b=none)/\W i m H') VM tH dp r9 L8 fun LY F5=>by
     obtain⟨m',Ju,Ho⟩:=hB Dz Ik;refine⟨m',Ju,i+1,Dz,F5.dW.weak l8.symm fun k v e=>?_,T.keep _ _ _ t4 fun b hb o e=>(F5.pin (b,o) (YR _ (YR _ (bA hb e)))).1,fun b hb=>?_,Ho⟩
     . by_cases hk:nt<=k
       . rw[k8 k hk];exact e
       . exfalso;unfold gq at e;rw[Y1 (by simp;lia),YY,if_pos (by lia)] at e;cases e
     . obtain⟨o,e,d⟩:=T.obj _ _ t4 b hb;exact(F5.pin (b,o) (YR _ (YR _ (bA hb e)))).2.1
    exact Fg
 have sR:(s.heap.push {cls:= .type "dict",data:= .dict #[]}).objs.size=Y.env.locals:=by rw[nh];rfl
 rw[sR];exact codeAny_compStart_dict loop (by rw[bY,Yw,YA] at*;exact T.self _ 0 _ _ _ (T.keep _ _ _ st fun b _ o e=>ac1 _ _ b o (Yu _ (kD b o e))) loop)
theorem AN(S:iS X N nt js scope)(hc:X.calm=true)(hi:PI X tg iter wi)(hg: ∀s H cl C ex,PG (dA X N scope s H cl C ex) tg g)(eB:iR nt g)(hk: ∀s H cl C ex,PE (dA X N scope s H cl C ex) kx tk)(hv: ∀s H cl C ex,PE (dA X N scope s H cl C ex) vx tv)(hu:X.A.units < cLine)(hs: ∀x,foldedSetIterable iter X.env x=pure x:=by intro _;rfl):PE X (.DictComp kx vx [⟨tg,iter,[],0⟩] scope pos) (zS nt js wi g tk tv):=by
 intro pins s σ H Q I h;obtain⟨cl,Dp,c1,c2⟩:=eJ (scope:=scope) (env:=X.env) fun x hx e=>I.ok.has x.1 (S.DV x hx e);rw[arm_eval_DictComp];refine ae9 (use:=none) rfl hs Dp S.kind S.names (aV (hi pins s σ H _ I h) fun v s1 h1=>aV h1 fun KQ s2 h2=>?_);obtain⟨it,fp,tn,J,H2,rfl,I2,T,gu,f2,R⟩:=h2;refine uT (RR:=fun acc C=>compPost (model X.prog X.w) X.A X.xe none (EP X pins σ Q) acc C) S hc hg eB hk hv hu I2 T gu f2 c1 c2 R fun D C s' H' I' fo jQ q=>?_;obtain⟨m,hn⟩:=jQ;refine⟨m,hn,fun h' sb=>⟨.ref D,H',?_,rfl,q⟩⟩;obtain⟨f0,f1,_,f3,f4,f5⟩:=fo;exact I'.turned (t':=s'.toks) (fun b o hb e=>(sb.2 b hb).trans e) f0 f1 f3 f4 f5
end L2
namespace LD
open PySem PySem.Spec L2 LB PyProof.Rows LW
abbrev Dc:=List Sl->(List (List Key)->List Dt->List Sl->Prop)->Prop
inductive To(t:Dc)(σ:L2.St)(H:Hp)(Q:VK):Prop
 | mk (W:List Wd) (M:Addr->Prop) (α:List (List Addr)) (δ:List Sl) (Qd:List (List Key)->List Dt->List Sl->Prop) (h1:aB W M α H σ δ) (h2:t δ Qd) (h3: ∀ks ds δ' H1 vs a,Qd ks ds δ'->aB W M α H1 σ δ'->da α H H1->vs.map (·.1)=ks->aA M H1 (vs.map (·.2)) ds->H1 a=none->Q (.ref a) (upd H1 a (.dT vs)))
abbrev SA(X:Cx)(e:Expr)(t:Dc):Prop:=PE X e (To t)
section
variable{X:Cx}{N:List Str}{nt:Nat}{js:List Nat}{scope:Scope}{kx vx tg iter e:Expr}{pos pos':Pos}{ti:n5}{g:tK}{tk tv:bz}{t:Dc}{x:Str}{xp:Pos}
def NG(i:Nat)(t:Dc):kG:=fun Δ δ=>t δ fun ks ds δ'=>cE δ' i/\Δ.nx (δ'.set i (td ks ds))
theorem Ac(i:Nat)(hN:X.N.Nodup)(he:SA X e t)(hi:X.N[i]?=some x:=by rfl)(hx:Loc X.env.scope x:=by first | exact Or.inl rfl | exact Or.inr rfl)(hs:swapsWith e (some (.Name x xp)) pos.line X.env=pure false:=by rfl)(hf:X.fn x=true\/X.env.scope.names.lookup x=some .local:=by first | exact .inl rfl | exact .inr rfl | assumption):
  Ex X (.Assign [.Name x xp] e pos) (NG i t):=PS.imp (dB hN hi hx he hs hf) fun D σ H zz=>(by
 obtain⟨Ws,M,α,δ,Δ,E,L,q⟩:=zz;refine⟨Ws,M,α,δ,_,E,q,fun ks ds δ' H1 vs a zz E1 c1 e1 r1 h1=>?_⟩;obtain⟨ok,q1⟩:=zz;have mo: ∀b u,H1 b=some u-> ¬M b->upd H1 a (.dT vs) b=some u/\ ¬(M b\/b=a):=fun b u e n=>⟨by rw[ag (aj e h1)];exact e,fun z=>z.elim n (aj e h1)⟩
 exact L.nx _ _ _ _ _ (E1.lZ (s:=td ks ds) h1 (fun xs z=>by cases z) ok rfl ⟨_,rfl,a,vs,rfl,rfl,af,e1,r1.mono mo⟩) q1)
def CG(nt:Nat)(js:List Nat)(ti:n5)(g:tK)(tk tv:bz):Dc:=fun δ Q=>ti δ fun ao δ1=>ao.length<=sizeLine/\ ∃(fk:Dt->List Key) (fv:Dt->Dt),(∀d∈ao,g d (cin nt js δ1) fun δ2=>tk δ2 fun dk δ3=>EK dk=some (fk d)/\tv δ3 fun r _=>r=fv d)/\(ao.map fk).Nodup/\Q (ao.map fk) (ao.map fv) δ1
theorem uV(sI: ∀v σ H Q,lG g v σ H Q->gh v σ H Q): ∀σ H Q,To (CG nt js ti g tk tv) σ H Q->zS nt js (lI ti) gh (lE tk) (lE tv) σ H Q:=fun σ H Q zz=>(by
 obtain⟨W,M,α,δ,Qd,E,q,k⟩:=zz;refine⟨W,M,α,δ,_,E,q,fun ao δ1 H1 J dM E1 c1 yl D hD=>?_⟩;obtain⟨hsz,fk,fv,step,nd,q1⟩:=dM;have s0:aC H1 (upd H1 D (.dT [])):=aC.new hD;refine⟨fun i m H2=>m=ao.length - i/\i<=ao.length/\ ∃vs,H2 D=some (.dT vs)/\vs.map (·.1)=(ao.take i).map fk/\aA (fun b=>M b\/b=D) H2 (vs.map (·.2)) ((ao.take i).map fv)/\aC H1 H2/\jJ (fun b=>M b\/b=D) H2,⟨ao.length,by simp,Za _,[],af,rfl,.nil,s0,fun a ha=>?_⟩,?_⟩
 . rcases ha with ha | ha
   . obtain⟨o,e,n⟩:=E1.al a ha;exact⟨o,s0 _ _ e,n⟩
   . subst ha;exact⟨_,af,fun xs z=>by cases z⟩
 rintro i m H2 ⟨rfl,hi,vs,tN,Nq,gr,s2,Gu⟩
 have kf:Kf M H1 H2:=fun b o e _=>s2 _ _ e;by_cases df:i < ao.length
 . have hb: ∀b,H1 b≠none-> ¬M b-> ¬(fun b=>M b\/b=D) b:=fun b n z y=>y.elim z fun w=>n (by rw[w];exact hD);obtain⟨go,qW⟩:=yl.go i H2 (fun b=>M b\/b=D) kf Gu hb df;refine .inr ⟨go,fun H'=> ∃vs,H' D=some (.dT vs)/\vs.map (·.1)=(ao.take (i+1)).map fk/\aA (fun b=>M b\/b=D) H' (vs.map (·.2)) ((ao.take (i+1)).map fv)/\aC H1 H'/\jJ (fun b=>M b\/b=D) H',fun H' iU=>⟨ao.length - (i+1),by omega,rfl,df,iU⟩,fun x H3 y=>?_⟩;obtain⟨s3,d,hd,rx⟩:=qW x H3 y;have E2:aB [] (fun b=>M b\/b=D) (List.replicate (nt+js.length) []) H2 (gq nt js σ) (cin nt js δ1):=by
    have su:aC (upd H1 D (.dT vs)) H2:=fun b o e=>by
     by_cases hb:b=D
     . subst hb;rw[af] at e;cases e;exact tN
     . rw[ag hb] at e;exact s2 _ _ e
    have Ea:aB [] (fun b=>M b\/b=D) α H2 σ δ1:=⟨E1.ls,E1.la,fun i s h=>let ⟨o,as,h1,h2,h3⟩:=E1.sl i s h;⟨o,as,h1,h2,(h3.grow (u:= .dT vs) hD).same su⟩,E1.nd,fun a h=> .inl (E1.mu a h),Gu,fun W hW=>absurd hW Yy⟩
    exact jD Ea
   have E3:=E2.same s3;have a0:(List.replicate (nt+js.length) ([]:List Addr)).flatten= []:=by simp
   refine sI _ _ _ _ ⟨[],_,_,_,d,_,E3,rx,step d (Zd hd),fun α4 δ4 σ4 q4 E4 hα=>?_⟩;have Du:α4.flatten= []:=Z8.mpr fun x hx=>by have:=hα x hx;rw[a0] at this;exact absurd this Yy
   refine⟨[],_,α4,δ4,_,E4,q4,fun dk δ5 H5 kv jP E5 c5 rk=>?_⟩;obtain⟨hk,q5⟩:=jP;have s5:aC H3 H5:=fun b o e=>c5 b o e (by rw[Du];exact Yy);refine⟨[],_,α4,δ5,_,E5,q5,fun r δ6 H6 v e6 E6 c6 r6=>?_⟩;subst e6;have s6:aC H5 H6:=fun b o e=>c6 b o e (by rw[Du];exact Yy);have Ag:aC H2 H6:=fun b o e=>s6 _ _ (s5 _ _ (s3 _ _ e));have RB:=Ag _ _ tN;have P1:ao.take (i+1)=ao.take i++ [d]:=by rw[ag2,hd];rfl
   obtain⟨kb,WO,M6⟩:=mN (rk.same s6) hk;subst WO;have nk:fk d∉vs.map (·.1):=by
    rw[Nq];have:(ao.map fk).Nodup:=nd;rw[<-Z9 (i+1) ao,P1,Y6,Y6] at this;have:=(aa5.mp (aa5.mp this).1).2.2;exact fun z=>this _ z _ YN rfl
   have lv:vs.length < sizeLine:=by
    have:vs.length=(ao.take i).length:=by rw[<-Yt (f:=(·.1)),Nq,Yt]
    rw[this,Zu];exact YW (by omega) hsz
   refine⟨_,kU.t RB M6 lv,?_⟩;rw[rT nk];have up: ∀{zs:List V} {ds:List Dt},aA (fun b=>M b\/b=D) H6 zs ds->aA (fun b=>M b\/b=D) (upd H6 D (.dT (vs++ [(fk d,v)]))) zs ds:=fun r=>r.mono fun a o e n=>⟨by rw[ag (fun z=>n (.inr z))];exact e,n⟩
   refine⟨vs++ [(fk d,v)],af,by rw[P1,Y6,Y6,Nq];rfl,?_,fun b o e=>by rw[ag (aj e hD)];exact Ag _ _ (s2 _ _ e),fun a ha=>?_⟩
   . rw[P1,Y6,Y6];exact up ((gr.same Ag).append (.one r6))
   . by_cases hb:a=D
     . subst hb;exact⟨_,af,fun xs z=>by cases z⟩
     . rw[ag hb];exact E6.al a ha
 . have e:i=ao.length:=by omega
   subst e;refine .inl ⟨yl.stop H2 kf,?_⟩;rw[ab3] at gr Nq;have eH:upd (fun b=>if b=D then none else H2 b) D (.dT vs)=H2:=by
    funext b
    by_cases hb:b=D
    . subst hb;rw[af,tN]
    . rw[ag hb,if_neg hb]
   rw[<-eH];have sH:aC H1 (fun b=>if b=D then none else H2 b):=fun b o e=>by
    show(if b=D then none else H2 b)=some o;rw[if_neg (aj e hD)];exact s2 _ _ e
   refine k _ _ _ _ _ _ q1 (E1.same sH) (c1.tr (da.of sH)) Nq (gr.mono fun a o e n=>⟨?_,fun z=>n (.inl z)⟩) (by show(if D=D then none else H2 D)=none;rw[if_pos rfl]);show(if a=D then none else H2 a)=some o;rw[if_neg (fun z=>n (.inr z))];exact e)
theorem ED(S:iS X N nt js scope)(hc:X.calm=true)(hi:Iv X tg iter ti)(hg: ∀s H cl C ex,PG (dA X N scope s H cl C ex) tg gh)(eB:iR nt gh)(sI: ∀v σ H Q,lG g v σ H Q->gh v σ H Q)(hk: ∀s H cl C ex,Ev (dA X N scope s H cl C ex) kx tk)(hv: ∀s H cl C ex,Ev (dA X N scope s H cl C ex) vx tv)(hu:X.A.units < cLine)(hs: ∀x,foldedSetIterable iter X.env x=pure x:=by intro _;rfl):SA X (.DictComp kx vx [⟨tg,iter,[],0⟩] scope pos) (CG nt js ti g tk tv):=PE.imp (AN S hc hi hg eB hk hv hu hs) (uV sI)
end
section
variable{X:Cx}{x:Str}{xp p pos:Pos}
noncomputable def sM(P:Program)(w:World)(k:List Key):Int:=tupleKeyHash (aY P w) k
inductive Kd(P:Program)(w:World)(i:Nat)(δ:List Sl)(Q:List (List Key)->List Dt->List Sl->Prop):Prop
 | mk (ks:List (List Key)) (ds:List Dt) (h1:δ[i]?=some (td ks ds)) (h2:ks≠ []) (h3:(ks.map (sM P w)).Nodup) (h4:Q ks ds δ)
theorem u4:bootBuiltins "dict"=some (.type "dict"):=by decide+kernel
theorem EC(i:Nat)(hA:X.A.handled=none)(hm:X.mg "dict"=none)(ho:PE X (.Name x xp) (gG i))(hg:Gl X "dict":=by rfl)(he:starEach [.Name x xp] X.env=(false,eval (.Name x xp) X.env)::starEach [] X.env:=by rfl)(cN:(backTo pos (starEach [] X.env)).any (·.1)=false:=by rfl):
  SA X (.Call (.Name "dict" p) [.Name x xp] [] pos) (Kd X.prog X.w i):=PE.imp (ic (xn.uZ hA) hg hm u4 (ah ho aF he) (by decide) (by decide) he cN) fun σ H Q zz=>(by
 obtain⟨W,M,α,δ,Qd,E,⟨ks,ds,h1,h2,h3,q⟩,k⟩:=zz;obtain⟨a,vs,s1,s2,s3,s4,s5⟩:=rE E h1;subst s4;refine⟨_,s1,a,vs,rfl,s3,fun z=>h2 (by rw[z];rfl),by rw[Y3] at h3;exact h3,fun d hd=>k _ _ _ _ _ _ q E da.rf rfl s5 hd⟩)
end
end LD
namespace bD
open PySem PySem.Spec L2 LB PyProof.Rows PySem.W SJ
theorem uh{α β:Type}{R:α->β->Prop}{l:List α}{m:List β}(h:Paired R l m): ∀{i:Nat} {x:α} {y:β},l[i]?=some x->m[i]?=some y->R x y:=by
 induction h with
 | nil=>intro i x y h;simp at h
 | cons r _ ih=>
  intro i x y h1 h2;cases i with
  | zero=>cases h1;cases h2;exact r
  | succ j=>exact ih (by simpa using h1) (by simpa using h2)
noncomputable def kP(q:Int × Int):List Key:= [.inl q.1,.inl q.2]
theorem yZ.inj(a:yZ h v p)(b:yZ h v q):p=q:=by
 obtain⟨t,o,x,y,n,e,g,c,d⟩:=a;obtain⟨t',o',x',y',n',e',g',c',d'⟩:=b;subst e;cases e';rw[g] at g';cases g';rw[d] at d';simp only [Data.seq.injEq,List.toArray_inj,Array.mk.injEq,List.cons.injEq,Value.int.injEq,and_true] at d';exact Prod.ext d'.1.1.1 d'.1.2.1
section
variable{prog:Program}{w:World}{A:Around}{E:Value->Shared->Prop}{s:Shared}{d:Addr}{od:Obj}{es:Array DictEntry}{ep:Nat}{K:Nat->Int}
theorem pJ(hA:A.handled=none)(hx:od.ExactDict)(lo:(d==sysModules)=false)(hR:Dd s.heap d od es ep)(RD:es.size<=100000)(hK: ∀i j,i < es.size->j < es.size->(es.toList.map (·.key)).getD i Value.none=(es.toList.map (·.key)).getD j Value.none->K i=K j)(hk:2<=es.size-> ∀h' tk,(∀b o,s.heap.get? b=some o->h'.get? b=some o)-> ∃κ,Ask prog w A.in1.in1 (es.toList.map (·.key)) K {s with heap:=h',toks:=tk} κ)(h: ∀h' tk p n q,(∀b o,s.heap.get? b=some o->h'.get? b=some o)->s.heap.objs.size<=p->Pm es.size q->KH K q es.size->h'.get? p=some (seqObj "list" (outs (es.toList.map (·.key)) q) n)->Q (.ref p) {s with heap:=h',toks:=tk}):
  wpAny (model prog w) A (call (.builtin "sorted") [.ref d]) Q E s:=by
 have vl:(es.toList.map (·.key)).length=es.size:=by rw[Yt,YH]
 refine Calls.call_function_entry kind_sorted plain_sorted entry_sorted (args_sorted1 _) ?_;unfold Builtin.«sorted»;refine Yr (m:=checkCount "sorted" 1 1 _) (Yv (Yr (qB (by simpa using hA) hx lo hR (by rw[ZR];lia) fun h' tk ls kp=>?_)));refine Yr (wpAny_newList ?_ (by rw[ZR];lia));have g1:(h'.push (seqObj "list" (es.toList.map (·.key)).toArray 0)).get? h'.objs.size=some (seqObj "list" (es.toList.map (·.key)).toArray 0):=YI _ rfl;have k1: ∀b o,s.heap.get? b=some o->(h'.push (seqObj "list" (es.toList.map (·.key)).toArray 0)).get? b=some o:=fun b o e=>Yu _ (kp b o e);refine Yr (Zs (ZP slot_list_sort ⟨_,g1,rfl⟩ entry_list_sort (t7 (z:={s with heap:=h'.push (seqObj "list" (es.toList.map (·.key)).toArray 0),toks:=tk}) (K:=K) g1 (by rw[vl];exact RD) (fun i j x y=>hK i j (by rw[vl] at x;exact x) (by rw[vl] at y;exact y)) (fun c h2 kk=>hk (by rw[vl] at c;exact c) h2 tk fun b o e=>kk b o (Zb (YM (kp b o e))) (k1 b o e)) fun q pm ac=>⟨_,rfl,Yv ⟨_,rfl,?_⟩⟩) (args_list_sort _)));obtain⟨n,hn⟩:=sortedHeap_at (vs:=es.toList.map (·.key)) (out:=outs (es.toList.map (·.key)) q) g1;rw[vl] at pm ac;refine h _ tk _ n q (fun c oo e=>?_) (Nat.le_of_lt ls) pm ac hn;have e1:=kp c oo e;have lc:=YM e1;rw[sortedHeap_old (Zb lc) (Nat.lt_of_lt_of_eq (ZS lc) (ZK _ _).symm)];exact Yu _ e1
end
theorem nS{X:Cx}(hA:X.A.handled=none):dJ X (.builtin "sorted") (fun xs H Q=> ∃(a:Addr) (aG:List (List Key × V)) (qs:List (Int × Int)) (B:Int),xs= [.ref a]/\H a=some (.dT aG)/\aG.map (·.1)=qs.map kP/\qs.length<=100000/\(∀q∈qs,0<=q.2/\q.2 < B)/\
  ∀(p:Addr) (ms:List (V × Int × Int)),H p=none->(ms.map (·.2)).Perm qs->ms.Pairwise (fun q r=>enc B q.2<=enc B r.2)->(∀m∈ms,∃t,m.1= .ref t/\H t=some (.tup [.int m.2.1,.int m.2.2]))->Q (.ref p) (upd H p (.lst (ms.map (·.1))))):=by
 intro pins s σ H xs us Q I r h;obtain⟨a,aG,qs,B,rfl,ha,ek,hl,hb,q⟩:=h;obtain⟨u,rfl,ru⟩:=vals1 r;cases ru;obtain⟨zz,lo,xs,rel,od,es,ep,Jr,hex,OX,Jz,TM,TF⟩:=sT I.aT ha;have xl:xs.length=aG.length:=(Paired.length rel).symm;have ql:qs.length=aG.length:=by have:=ZA List.length ek;rw[Yt,Yt] at this;exact this.symm
 have zd:es.size=qs.length:=by have:=ZA List.length Jz;rw[Yt,YH,xl,<-ql] at this;exact this
 have SY:es.toList.map (·.key)=xs.map fun x=>Value.ref x.2.1:=by rw[Jz,Y3];rfl
 have Rt: ∀(i:Nat) p,qs[i]?=some p-> ∃x,xs[i]?=some x/\H x.2.1=some (.tup [.int p.1,.int p.2]):=fun i p hp=>by
  have il:i < qs.length:=(YB.mp hp).1;have kv:aG[i]?=some (aG[i]'(by lia)):=Ys _;have xv:xs[i]?=some (xs[i]'(by lia)):=Ys _;have e1:(aG[i]'(by lia)).1=kP p:=by
   have:=ZA (·[i]?) ek;simp only [YC,kv,hp,ah9,Option.some.injEq] at this;exact this
  obtain⟨p1,p2,_⟩:=uh rel kv xv;rw[e1] at p2;exact⟨_,xv,p2⟩
 have Q8: ∀(h':Heap),(∀b o,s.heap.get? b=some o->h'.get? b=some o)-> ∀(i:Nat) v p,(es.toList.map (·.key))[i]?=some v->qs[i]?=some p->yZ h' v p:=fun h' kk i v p h1 h2=>by
  obtain⟨x,hx,ht⟩:=Rt i p h2;rw[SY,YC,hx] at h1;cases h1;obtain⟨js,rj,pj,_⟩:=I.tuple (dE.of ht);obtain⟨o,ho,hc,n,hd⟩:=(show s.heap.IsTuple x.2.1 js.toArray from pj)
  cases rj with
  | cons r1 r2=>cases r2 with
   | cons r2 r3=>
    cases r3;obtain⟨a1,rfl⟩:=r1;obtain⟨b1,rfl⟩:=r2;exact⟨x.2.1,o,a1,b1,n,rfl,kk _ _ ho,hc,hd⟩
 have vl:(es.toList.map (·.key)).length=qs.length:=by rw[Yt,YH,zd]
 refine pJ (K:=fun i=>enc B (qs.getD i (0,0))) hA hex lo ⟨Jr,OX⟩ (by rw[zd];exact hl) (fun i j x y e=>by
  have ix:i < qs.length:=by rw[<-zd];exact x
  have jx:j < qs.length:=by rw[<-zd];exact y
  have gi:(es.toList.map (·.key))[i]?=some ((es.toList.map (·.key)).getD i Value.none):=by
   rw[List.getD,Ys (by rw[vl];exact ix)];rfl
  have gj:(es.toList.map (·.key))[j]?=some ((es.toList.map (·.key)).getD j Value.none):=by
   rw[List.getD,Ys (by rw[vl];exact jx)];rfl
  have pi:=Q8 s.heap (fun _ _ e=>e) i _ _ gi (Ys ix);have pj:=Q8 s.heap (fun _ _ e=>e) j _ _ gj (Ys jx);rw[e] at pi;have:=pi.inj pj;show enc B (qs.getD i (0,0))=enc B (qs.getD j (0,0));rw[show qs.getD i (0,0)=qs[i] by simp [List.getD,ix],show qs.getD j (0,0)=qs[j] by simp [List.getD,jx],this]) (fun h2 h' tk kk=>yX (ps:=qs) vl (by rw[vl,<-zd];exact h2) (Q8 h' kk) hb) fun h' tk p n pq kk lp pm ac hg=>?_
 have hf:H p=none:=I.aT.fresh lp;rw[zd] at pm ac;have cN:pq.toList.Perm (List.range qs.length):=by have:=ZF.mp pm.pm;simpa using this
 have lt: ∀i∈pq.toList,i < qs.length:=fun i hi=>by have:=cN.mem_iff.mp hi;simpa using this
 let dd:Int × Int:=(0,0)
 let f:Nat->V × Int × Int:=fun i=>(.ref (((xs[i]?).map fun x=>x.2.1).getD 0),qs.getD i dd)
 have Qu:((pq.toList.map f).map (·.2)).Perm qs:=by
  rw[Y3];have:=cN.map fun i=>qs.getD i dd;rw[map_getD] at this;exact this
 have so:(pq.toList.map f).Pairwise (fun q r=>enc B q.2<=enc B r.2):=by
  rw[ZJ];intro i j hi hj bN;rw[Yt,YH,pm.sz] at hi hj;have:=ac i j (by lia) (by lia);have gi:pq.getD i 0=pq[i]'(by rw[pm.sz];lia):=by simp [Array.getD,pm.sz,hi]
  have gj:pq.getD j 0=pq[j]'(by rw[pm.sz];lia):=by simp [Array.getD,pm.sz,hj]
  unfold kp at this;rw[gi,gj] at this;simpa [f] using this
 have nC: ∀m∈pq.toList.map f,∃t,m.1= .ref t/\H t=some (.tup [.int m.2.1,.int m.2.2]):=fun m hm=>by
  obtain⟨i,hi,rfl⟩:=YE.mp hm;have il:=lt i hi;obtain⟨x,hx,ht⟩:=Rt i qs[i] (Ys il);refine⟨x.2.1,?_,?_⟩
  . show V.ref (((xs[i]?).map fun x=>x.2.1).getD 0)=_;rw[hx];rfl
  . show H x.2.1=some (.tup [.int (qs.getD i dd).1,.int (qs.getD i dd).2]);rw[show qs.getD i dd=qs[i] by simp [List.getD,il]];exact ht
 refine⟨.ref p,_,I.laid (t':=tk) (o:= .lst ((pq.toList.map f).map (·.1))) (fun b o e=>kk b o e) lp ?_,rfl,q p _ hf Qu so nC⟩;refine⟨?_,pq.toList.map (fun i=>(es.toList.map fun x:DictEntry=>x.key).getD i Value.none),n,?_,hg⟩
 . rw[Yt,Yt,YH,pm.sz,ZR];lia
 . rw[Y3];refine lQ fun i hi=>?_;have il:=lt i hi;obtain⟨x,hx,ht⟩:=Rt i qs[i] (Ys il);show RelV (V.ref (((xs[i]?).map fun x=>x.2.1).getD 0)) ((es.toList.map (·.key)).getD i Value.none);rw[SY,List.getD,YC,hx];rfl
end bD
namespace LD
open PySem PySem.Spec L2 LB PyProof.Rows bD
section
variable{X:Cx}{e:Expr}{tA:gn}{pos p:Pos}
inductive vf(ds:List Dt)(Q:Dt->Prop):Prop
 | mk (qs:List (Int × Int)) (es:List Dt) (B:Int) (h1:ds= [.jO (qs.map kP) es]) (h2:qs.length<=100000) (h3: ∀q∈qs,0<=q.2/\q.2 < B) (h4: ∀ms:List (Int × Int),ms.Perm qs->ms.Pairwise (fun q r=>enc B q<=enc B r)->Q (.lst (ms.map Iu)))
theorem uQ(hA:X.A.handled=none)(hm:X.mg "sorted"=none)(ha:Av X [e] tA)(hg:Gl X "sorted":=by rfl)(he:starEach [e] X.env=(false,eval e X.env)::starEach [] X.env:=by rfl)(cN:(backTo pos (starEach [] X.env)).any (·.1)=false:=by rfl):
  Ev X (.Call (.Name "sorted" p) [e] [] pos) (wZ vf tA):=fV (nS hA) (fun M H xs ds Qd Q al r cj k=>(by
 obtain⟨qs,es,B,e,l,hb,q⟩:=cj;subst e;obtain⟨x,rfl,r1⟩:=cK r;obtain⟨a,vs,rfl,ha,n,e2,rr⟩:=r1.Gs;refine⟨a,vs,qs,B,rfl,ha,e2,l,hb,fun p ms hp VS VR ht=>?_⟩;have s:aC H (upd H p (.lst (ms.map (·.1)))):=aC.new hp;have pw:(ms.map (·.2)).Pairwise (fun q r=>enc B q<=enc B r):=ZT.mpr VR;refine k _ _ _ (q (ms.map (·.2)) VS pw) s (Rep.vz af (al.fresh hp) (vN fun m hm=>?_));obtain⟨t,e1,h1⟩:=ht m hm;rw[e1];exact Rep.fZ (s _ _ h1) (al.tup h1) (.cons (.int _) (.one (.int _))))) hg hm qE ha (by decide) (by decide) he cN
end
end LD
namespace LD
open PySem PySem.Spec L2 LB PyProof.Rows LW
section
variable{X:Cx}{e:Expr}{tA:gn}{p pos qd cp:Pos}{j:Nat}{nm:Option Str}
inductive Ky(ds:List Dt)(Q:Dt->Prop):Prop
 | mk (ns:List Int) (h1:ds= [.lst (ns.map .int)]) (h2:ns= []->Q .aI) (h3: ∀m,m∈ns->(∀a∈ns,a<=m)->Q (.int m))
theorem JY(hc:X.calm=true)(hm:X.mg "max"=none)(ha:Av X [e] tA)(hg:Gl X "max":=by rfl)
  (wH:(backToKw pos (keywordEach [⟨nm,.Constant .none j cp,qd⟩] X.env)).filterMap (·.1)=(["default"]:List Str):=by rfl) (k1:backTo pos (starEach [e] X.env)=(false,eval e X.env)::backTo pos (starEach [] X.env):=by rfl) (k2:(backTo pos (starEach [e] X.env)).any (·.1)=false:=by rfl)
  (k3:(backToKw pos (keywordEach [⟨nm,.Constant .none j cp,qd⟩] X.env)).all (·.1.isSome)=true:=by rfl) (k4:(backToKw pos (keywordEach [⟨nm,.Constant .none j cp,qd⟩] X.env)).any (·.1.isNone)=false:=by rfl):
  Ev X (.Call (.Name "max" p) [e] [⟨nm,.Constant .none j cp,qd⟩] pos) (wZ Ky tA):=PE.imp (Eg hc hg hm ha (vX AJ Az) wH k1 k2 k3 k4) fun σ H Q zz=>(by
 obtain⟨W,M,α,δ,Qd,E,q,k⟩:=zz;refine⟨W,M,α,δ,_,E,q,fun es δ1 H1 vs zz E1 c1 r1=>?_⟩;obtain⟨ns,e1,q2,q3⟩:=zz;subst e1;obtain⟨x,rfl,rx⟩:=cK r1;obtain⟨a,zs,rfl,ha,n,rr⟩:=rx.dF;rw[ints_rep rr] at ha;refine⟨a,ns,.aI,rfl,rfl,ha,fun v hv=>?_⟩;rcases hv with ⟨h1,rfl⟩ | ⟨m,rfl,h1,h2⟩
 . exact k _ _ _ _ (q2 h1) E1 c1 .aI
 . exact k _ _ _ _ (q3 m h1 h2) E1 c1 (.int _))
end
section
variable{X:Cx}{a b e f:Expr}{ta tb:bz}{tA:gn}{p pos:Pos}
inductive C6(ds:List Dt)(Q:Dt->Prop):Prop
 | mk (i j:Int) (h1:ds= [.int i,.int j]) (h2:0 < j) (h3:j < 2^64) (h4:Q (.tup [.int (i / j),.int (i % j)]))
theorem qF:bootBuiltins "divmod"=some (.builtin "divmod"):=by decide+kernel
theorem Cv(hm:X.mg "divmod"=none)(ha:Av X [e,f] tA)(hg:Gl X "divmod":=by rfl)(he:starEach [e,f] X.env=(false,eval e X.env)::starEach [f] X.env:=by rfl)(cN:(backTo pos (starEach [f] X.env)).any (·.1)=false:=by rfl):
  Ev X (.Call (.Name "divmod" p) [e,f] [] pos) (wZ C6 tA):=fV jG (fun M H xs ds Qd Q al r zz k=>(by
 obtain⟨i,j,e1,h2,h3,q⟩:=zz;subst e1;obtain⟨x,ys,rfl,r2,r3⟩:=r.aQ;obtain⟨y,zs,rfl,r4,r5⟩:=r3.aQ;cases r5.eV;cases r2.ofInt;cases r4.ofInt;refine⟨i,j,rfl,⟨h2,h3⟩,fun q1 hq=>?_⟩;exact k _ _ _ q (aC.new hq) (Rep.fZ af (al.fresh hq) (.cons (.int _) (.cons (.int _) .nil))))) hg hm qF ha (by decide) (by decide) he cN
end
section
variable{X:Cx}{pos:Pos}
inductive Ci(i j l m:Nat)(d:Dt)(δ:List Sl)(Q:List Sl->Prop):Prop
 | mk (d1 d2 d3 d4:Dt) (h1:d= .tup [d1,d2,d3,d4]) (h2:cE δ i) (h3:cE (δ.set i (.im d1)) j) (h4:cE ((δ.set i (.im d1)).set j (.im d2)) l) (h5:cE (((δ.set i (.im d1)).set j (.im d2)).set l (.im d3)) m) (h6:Q ((((δ.set i (.im d1)).set j (.im d2)).set l (.im d3)).set m (.im d4)))
theorem uI{i j l m:Nat}{K:PySem.W.Frag}: ∀v σ H Q,lG (Ci i j l m) v σ H Q->BM K 4 (gZ (cQ i) (gZ (cQ j) (gZ (cQ l) (gZ (cQ m) yy)))) v σ H Q:=fun v σ H Q zz=>(by
 obtain⟨W,M,α,δ,d,Qd,E,r,⟨d1,d2,d3,d4,e,IQ,IP,Vn,Vm,q⟩,k⟩:=zz;subst e;obtain⟨a,xs,rfl,ha,n,rr⟩:=r.bE;obtain⟨x,ys,rfl,r2,r3⟩:=rr.aQ;obtain⟨y,zs,rfl,r4,r5⟩:=r3.aQ;obtain⟨z,ws,rfl,r6,r7⟩:=r5.aQ;obtain⟨u,us,rfl,r8,r9⟩:=r7.aQ;cases r9.eV;exact⟨a,_,rfl,dE.of ha,rfl,x,_,rfl,y,_,rfl,z,_,rfl,u,_,rfl,rfl,k _ _ _ q ((((E.iY r2 IQ).iY r4 IP).iY r6 Vn).iY r8 Vm) fun x h=>eC x (eC x (eC x (eC x h)))⟩)
theorem BK(i j l m:Nat)(hc:X.calm=true)(hN:X.N.Nodup)(hi:X.N[i]?=some x:=by rfl)(hj:X.N[j]?=some y:=by rfl)(hl:X.N[l]?=some z:=by rfl)(hm:X.N[m]?=some u:=by rfl)(hx:Loc X.env.scope x:=by first | exact Or.inl rfl | exact Or.inr rfl)(hy:Loc X.env.scope y:=by first | exact Or.inl rfl | exact Or.inr rfl)(hz:Loc X.env.scope z:=by first | exact Or.inl rfl | exact Or.inr rfl)(hu:Loc X.env.scope u:=by first | exact Or.inl rfl | exact Or.inr rfl)(hf:X.fn x=true\/X.env.scope.names.lookup x=some .local:=by first | exact .inl rfl | exact .inr rfl | assumption)(BA:X.fn y=true\/X.env.scope.names.lookup y=some .local:=by first | exact .inl rfl | exact .inr rfl | assumption)(Wg:X.fn z=true\/X.env.scope.names.lookup z=some .local:=by first | exact .inl rfl | exact .inr rfl | assumption)(Wf:X.fn u=true\/X.env.scope.names.lookup u=some .local:=by first | exact .inl rfl | exact .inr rfl | assumption)(hn:(assignEach [.Name x px, .Name y py, .Name z pz, .Name u pu] X.env).length=4:=by rfl)(Bv:(assignEach [.Name x px, .Name y py, .Name z pz, .Name u pu] X.env).findIdx? (·.1)=none:=by rfl)(h1:(assignEach [.Name x px, .Name y py, .Name z pz, .Name u pu] X.env).map (·.2)=assign (.Name x px) X.env::(assignEach [.Name y py, .Name z pz, .Name u pu] X.env).map (·.2):=by rfl)(h2:(assignEach [.Name y py, .Name z pz, .Name u pu] X.env).map (·.2)=assign (.Name y py) X.env::(assignEach [.Name z pz, .Name u pu] X.env).map (·.2):=by rfl)(h3:(assignEach [.Name z pz, .Name u pu] X.env).map (·.2)=assign (.Name z pz) X.env::(assignEach [.Name u pu] X.env).map (·.2):=by rfl)(h4:(assignEach [.Name u pu] X.env).map (·.2)=assign (.Name u pu) X.env::(assignEach [] X.env).map (·.2):=by rfl):
  Gv X (.Tuple [.Name x px,.Name y py,.Name z pz,.Name u pu] kk pos) (Ci i j l m):=PG.imp (et hc (aN (aE hN hi hx hf) (aN (aE hN hj hy BA) (aN (aE hN hl hz Wg) (aN (aE hN hm hu Wf) cI h4) h3) h2) h1) hn Bv) uI
end
section
variable{X:Cx}
inductive NK(i:Nat)(δ:List Sl)(Q:Dt->List Sl->Prop):Prop
 | mk (ds:List Dt) (h1:δ[i]?=some (.ow ds)) (h2:Q .aI (δ.set i (.ow ds.reverse)))
theorem oW(i:Nat){xp apos eG:Pos}(ho:PE X (.Name x xp) (gG i))(jf:attributeBase (.Name x xp) "reverse" X.env (eval (.Name x xp) X.env)=eval (.Name x xp) X.env:=by rfl)(je:(apos.endLine==eG.line)=true:=by rfl):
  Ev X (.Call (.Attribute (.Name x xp) "reverse" apos) [] [] eG) (NK i):=
 PE.imp (AR aj1 PySem.F.slot_list_reverse PySem.F.type_list_reverse uq ho jf je) fun σ H Q zz=>(by
  obtain⟨W,M,α,δ,Qd,E,⟨ds,hd,q⟩,k⟩:=zz;obtain⟨a,xs,h1,h2,h3,r3⟩:=E.ow hd;refine⟨_,h1,.inl ⟨rfl,_,cY.of h3⟩,a,xs,rfl,rfl,h3,?_⟩;obtain⟨E2,c2⟩:=k6 E hd h1 h2 r3.rev;exact k _ _ _ _ q E2 c2 .aI)
end
theorem Rep.RI(f:tJ d)(t: ∀b ys,H b=some (.tup ys)->H' b=some (.tup ys))(al:jJ M' H'): ∀{v:V},Rep M H v d->Rep M' H' v d:=by
 induction f with
 | aI=>intro v r;cases r;exact .aI
 | bl b=>intro v r;cases r;exact .bl b
 | int i=>intro v r;cases r;exact .int i
 | str x=>intro v r;cases r;exact .str x
 | @tup ds _ ih=>
  intro v r;obtain⟨a,xs,rfl,ha,_,rr⟩:=r.bE;exact Rep.fZ (t _ _ ha) (al.tup (t _ _ ha)) ⟨rr.1,fun i x d h1 h2=>ih d (Zd h2) (rr.2 i x d h1 h2)⟩
section
variable{X:Cx}{x:Str}{k:Nat}{ps:List Str}{e:Expr}{es:List Expr}{p pos:Pos}
def Sd(S:DN)(t:gn):zk:=fun δ Q=>t δ fun ds δ'=>(∀d∈ds,tJ d)/\S ds fun r=> ∃es,r= .lst es/\(∀d∈es,tJ d)/\Q es δ'
theorem Mp(h:ik X.prog X.w X.K X.mg X.base x k ps (dN S))(hr:bM k X.A)(ha:Av X (e::es) t)(hg:Gl X x:=by rfl)(lu:(x==("__debug__":Str))=false:=by decide)(he:starEach (e::es) X.env=(false,eval e X.env)::starEach es X.env:=by rfl)(cN:(backTo pos (starEach es X.env)).any (·.1)=false:=by rfl):
  Ov X (.Call (.Name x p) (e::es) [] pos) (Sd S t):=PE.imp (mq h hr hg ha lu he cN) fun σ H Q cj=>(by
 obtain⟨W,M,α,δ,Qd,E,q,k⟩:=cj;refine⟨W,M,α,δ,_,E,q,fun ds δ' H' vs dM E1 c1 r1=>?_⟩;obtain⟨fl,q1⟩:=dM;show dN S (vs++ []) H' Q E0;rw[Zw];have al:jJ (fun a=>M a\/ ∃o,H' a=some o/\ ∀xs,o≠ .tup xs) H':=fun a z=>z.elim (E1.al a) id;refine⟨_,ds,_,al,r1.zc fl al,q1,fun r H2 v2 nA s r2=>?_⟩;obtain⟨es,er,at',q2⟩:=nA;subst er;obtain⟨a,xs,rfl,h2,n,rr⟩:=r2.dF;have fr:H' a=none:=by
  cases e:H' a with
  | none=>rfl
  | some o=>
   have:=s _ _ e;rw[h2] at this;cases this;exact absurd (.inr ⟨_,e,fun xs z=>by cases z⟩) n
 have e2:H2=upd (fun b=>if b=a then none else H2 b) a (.lst xs):=by
  funext b
  by_cases c:b=a
  . subst c;rw[af];exact h2
  . rw[ag c,if_neg c]
 have s2:aC H' (fun b=>if b=a then none else H2 b):=fun b o e=>by
  have:b≠a:=fun z=>by subst z;rw[fr] at e;cases e
  show(if b=a then none else H2 b)=some o;rw[if_neg this];exact s _ _ e
 have E2:=E1.same s2;have oB:aA M (fun b=>if b=a then none else H2 b) xs es:=⟨rr.1,fun i x d g1 g2=>Rep.RI (at' d (Zd g2)) (fun b ys hb=>by
  have:b≠a:=fun z=>by subst z;rw[h2] at hb;cases hb
  show(if b=a then none else H2 b)=_;rw[if_neg this];exact hb) E2.al (rr.2 i x d g1 g2)⟩
 rw[e2];exact k _ _ _ _ _ q2 E2 (c1.tr (da.of s2)) oB (if_pos rfl))
end
end LD
namespace cZ
open PySem PySem.Spec L2 LB LD PyProof.Rows
abbrev Pr:=Nat × Nat
noncomputable def dI(n:Nat):List Pr:=(List.range (n - 1)).flatMap fun k=>(List.range (n - (k+1))).map fun j=>(j+1,j+1+(k+1))
theorem dr:p∈dI n↔1<=p.1/\p.1 < p.2/\p.2<=n:=by
 unfold dI;constructor
 . intro h;obtain⟨k,hk,h⟩:=Zl.mp h;obtain⟨j,hj,rfl⟩:=YE.mp h;have:=Zp.mp hk;have:=Zp.mp hj;exact⟨by dsimp only;lia,by dsimp only;lia,by dsimp only;lia⟩
 . rintro⟨h1,h2,h3⟩
   refine Zl.mpr ⟨p.2 - p.1 - 1,Zp.mpr (by lia),YE.mpr ⟨p.1 - 1,Zp.mpr (by lia),?_⟩⟩;obtain⟨a,b⟩:=p;simp only at h1 h2 h3 ⊢;rw[show a - 1+1=a by lia,show a+(b - a - 1+1)=b by lia]
def lo(p q:Pr):Prop:=p.2 - p.1 < q.2 - q.1\/(p.2 - p.1=q.2 - q.1/\p.1 < q.1)
theorem u0(n:Nat):(dI n).Pairwise lo:=by
 unfold dI;rw[List.pairwise_flatMap];refine⟨fun k _=>?_,?_⟩
 . rw[ZT];refine List.pairwise_lt_range.imp fun h=> .inr ⟨?_,?_⟩
   . show _+1+(k+1) - (_+1)=_+1+(k+1) - (_+1);lia
   . show _+1 < _+1;lia
 . refine List.pairwise_lt_range.imp fun h x hx y hy=> .inl ?_;obtain⟨j,_,rfl⟩:=YE.mp hx;obtain⟨i,_,rfl⟩:=YE.mp hy;show _+1+(_+1) - (_+1) < _+1+(_+1) - (_+1);lia
theorem tm(h:(dI n)[i]?=some p)(hq:q∈dI n)(l:q.2 - q.1 < p.2 - p.1):q∈(dI n).take i:=by
 obtain⟨j,hj,rfl⟩:=ZW hq;obtain⟨hi,rfl⟩:=YB.mp h;have lt:j < i:=by
  rcases Nat.lt_trichotomy j i with c | c | c
  . exact c
  . subst c;lia
  . have:=ZJ.mp (u0 n) i j hi hj c;unfold lo at this;lia
 exact List.mem_take_iff_getElem.mpr ⟨j,by lia,rfl⟩
theorem qD(h:(dI n)[i]?=some p):p∉(dI n).take i:=fun z=>by
 obtain⟨hi,rfl⟩:=YB.mp h;obtain⟨j,hj,e⟩:=List.mem_take_iff_getElem.mp z;have:=ZJ.mp (u0 n) j i (by lia) hi (by lia);rw[e] at this;unfold lo at this;lia
noncomputable def pk(p:Pr):List Key:= [.inl (p.1:Int),.inl (p.2:Int)]
theorem AA(h:pk p=pk q):p=q:=by
 unfold pk at h;injection h with h1 h2
 injection h2 with h2 _
 injection h1 with h1
 injection h2 with h2
 exact Prod.ext (by lia) (by lia)
theorem bI: ∀{L:List Pr},p∈L->xy (L.map pk) (L.map g) (pk p)=some (g p)
 | q::L,h=>by
  rw[YV,YV,xy];by_cases c:pk q=pk p
  . rw[if_pos c,AA c]
  . rw[if_neg c];exact bI ((YU.mp h).elim (fun z=>absurd (by rw[z]) c) id)
theorem Iz{p:Pr}{L:List Pr}(h:p∉L):pk p∉L.map pk:=fun z=>by
 obtain⟨q,hq,e⟩:=YE.mp z;exact h (AA e▸hq)
noncomputable def dg(n:Nat):List Pr:=(List.range' 1 n).map fun i=>(i,i)
theorem qc:p∈dg n↔p.1=p.2/\1<=p.1/\p.1<=n:=by
 unfold dg;constructor
 . intro h;obtain⟨i,hi,rfl⟩:=YE.mp h;have:=Y4.mp hi;exact⟨rfl,by simp;lia,by simp;lia⟩
 . rintro⟨h1,h2,h3⟩
   exact YE.mpr ⟨p.1,Y4.mpr ⟨by lia,by lia⟩,Prod.ext rfl h1⟩
theorem Cg(h:(dI n)[i]?=some p):p∉dg n++(dI n).take i:=fun z=>by
 have:=dr.mp (Zd h);rcases Zi.mp z with z | z
 . have:=qc.mp z;lia
 . exact qD h z
theorem xi(e:(dI n)[i]?=some (l,h))(h1:l<=a)(h2:a<=b)(h3:b<=h)(h4:b - a < h - l):(a,b)∈dg n++(dI n).take i:=by
 have m:=dr.mp (Zd e);simp only at m;by_cases c:a=b
 . exact Z3 _ (qc.mpr ⟨c,by simp;lia,by simp;lia⟩)
 . exact YR _ (tm e (dr.mpr ⟨by simp;lia,by simp;lia,by simp;lia⟩) h4)
theorem Ss(e:(dI n)[i]?=some (l,h))(h1:l<=a)(h2:a < b)(h3:b<=h)(h4:b - a < h - l):(a,b)∈(dI n).take i:=by
 have m:=dr.mp (Zd e);simp only at m;exact tm e (dr.mpr ⟨by simp;lia,by simp;lia,by simp;lia⟩) h4
theorem take_snoc(h:(dI n)[i]?=some p):(dI n).take (i+1)=(dI n).take i++ [p]:=by rw[ag2,h];rfl
noncomputable def hk(i:Nat):Int:=reduceHash (Builtin.Tuple.tupleHashOf [hashInt (i:Int),hashInt (i:Int)])
theorem Fd(P:Program)(w:World)(i:Nat):sM P w (pk (i,i))=hk i:=by rfl
theorem By:((List.range' 1 12).map hk).Nodup:=by decide+kernel
theorem x9{f:Nat->Int}(TZ:((List.range' 1 m).map f).Nodup)(h:n<=m):((List.range' 1 n).map f).Nodup:=by
 have e:List.range' 1 m=List.range' 1 n++List.range' (1+n) (m - n):=by
  rw[aa3,Nat.add_sub_cancel' h]
 rw[e,Y6] at TZ;exact TZ.sublist (List.sublist_append_left _ _)
theorem JT(f:List Key->Int)(n:Nat):((dg n).map pk).map f=(List.range' 1 n).map fun i=>f (pk (i,i)):=by
 unfold dg;rw[Y3,Y3];rfl
theorem wO(P:Program)(w:World)(h:n<=12):(((dg n).map pk).map (sM P w)).Nodup:=by
 have e1:=JT (sM P w) n;have e2:((List.range' 1 n).map fun i=>sM P w (pk (i,i)))=(List.range' 1 n).map hk:=Y0 fun i _=>Fd P w i;exact(e1.trans e2)▸x9 By h
section
variable{α:Type}
noncomputable def nI(jn:List α->α)(rg lf:Nat->Nat->α)(l h:Nat):List α:=(List.range' l (h - l)).map fun a=>jn [rg l a,lf (a+1) h]
noncomputable def Ig(jn:List α->α)(rg rt:Nat->Nat->α)(l h:Nat):List α:=(List.range' (l+1) (h - l)).map fun a=>jn [rt l a,rg a h]
noncomputable def Ja(jn:List α->α)(lf lt:Nat->Nat->α)(l h:Nat):List α:=(List.range' l (h - l)).map fun a=>jn [lf l a,lt a h]
noncomputable def toV(jn:List α->α)(w lf rg:Nat->Nat->α)(n:Nat):List α:=(List.range' 1 n).map fun t=>jn [w t 0,lf 1 t,rg t n]
structure Sz(oJ oC:List α->Prop)(jn ch:List α->α)(n:Nat)(w rg rt lf lt:Nat->Nat->α):Prop where
 j0:oJ []
 r0: ∀l,rg l l=jn []
 l0: ∀l,lf l l=jn []
 ji: ∀l a h,1<=l->l<=a->a < h->h<=n->oJ [rg l a,lf (a+1) h]
 ci: ∀l h,1<=l->l < h->h<=n->oC (nI jn rg lf l h)
 jr: ∀l h,1<=l->l < h->h<=n->oJ [w h l,ch (nI jn rg lf l h)]
 er: ∀l h,1<=l->l < h->h<=n->rt l h=jn [w h l,ch (nI jn rg lf l h)]
 jl: ∀l h,1<=l->l < h->h<=n->oJ [w l h,ch (nI jn rg lf l h)]
 el: ∀l h,1<=l->l < h->h<=n->lt l h=jn [w l h,ch (nI jn rg lf l h)]
 jR: ∀l a h,1<=l->l < a->a<=h->h<=n->oJ [rt l a,rg a h]
 cR: ∀l h,1<=l->l < h->h<=n->oC (Ig jn rg rt l h)
 eR: ∀l h,1<=l->l < h->h<=n->rg l h=ch (Ig jn rg rt l h)
 jL: ∀l a h,1<=l->l<=a->a < h->h<=n->oJ [lf l a,lt a h]
 cL: ∀l h,1<=l->l < h->h<=n->oC (Ja jn lf lt l h)
 eL: ∀l h,1<=l->l < h->h<=n->lf l h=ch (Ja jn lf lt l h)
 jt: ∀t,1<=t->t<=n->oJ [w t 0,lf 1 t,rg t n]
 ct:oC (toV jn w lf rg n)
variable (D:α->Dt)
def oT(ok:List α->Prop)(f:List α->α):DN:=fun ds Q=> ∃L:List α,ds= [.lst (L.map D)]/\ok L/\Q (D (f L))
noncomputable def Fn(L:List Pr)(f:Nat->Nat->α):Dt:= .jO (L.map pk) (L.map fun p=>D (f p.1 p.2))
noncomputable def rO(n:Nat)(w:Nat->Nat->α)(i:Nat):Dt:= .tup ((List.range (n+1)).map fun o=>D (w i o))
noncomputable def HF(n:Nat)(w:Nat->Nat->α):Dt:= .tup ((List.range' 1 n).map (rO D n w))
theorem pS{n:Nat}{w:Nat->Nat->α}{i x:Nat}(h:x<=n):kO ((List.range (n+1)).map fun o=>D (w i o)) (x:Int)=some (D (w i x)):=
 aZ (j:=x) (by rw[YC,Zr (by omega)];rfl)
theorem vC{n:Nat}{w:Nat->Nat->α}{x:Nat}(h1:1<=x)(h:x<=n):kO ((List.range' 1 n).map (rO D n w)) ((x:Int) - 1)=some (rO D n w x):=by
 rw[show(x:Int) - 1=((x - 1:Nat):Int) by omega];exact aZ (j:=x - 1) (by rw[YC,ZL (by omega),show 1+1*(x - 1)=x by omega];rfl)
end
end cZ
namespace LD
open PySem PySem.Spec L2 LB PyProof.Rows
theorem fR{ao:List Dt}{g:tK}{tb:kG}{Δ:eK}(I:Nat->List Sl->Prop)(h0:I 0 δ1)(h: ∀i d δ2,ao[i]?=some d->I i δ2-> ∀Δ':eK,(∀δ',I (i+1) δ'->Δ'.nx δ')->(∀d δ',Δ.rt d δ'->Δ'.rt d δ')->g d δ2 fun δ3=>tb Δ' δ3)(fin: ∀δ2,I ao.length δ2->Δ.nx δ2):
  ∃P:Nat->List Sl->Prop,P 0 δ1/\(∀i d δ2,ao[i]?=some d->P i δ2->g d δ2 fun δ3=>tb {Δ with nx:=P (i+1),ct:=P (i+1),bk:=Δ.nx} δ3)/\ ∀δ2,P ao.length δ2->Δ.nx δ2:=
 ⟨I,h0,fun i d δ2 e hI=>h i d δ2 e hI _ (fun _ z=>z) fun _ _ z=>z,fin⟩
end LD
namespace kg
abbrev Wo:=Option Int
noncomputable def ad:Wo->Wo->Wo
 | some a,some b=>some (a+b)
 | _,_=>none
noncomputable def mx:Wo->Wo->Wo
 | some a,some b=>some (max a b)
 | some a,none=>some a
 | none,y=>y
noncomputable def hG:List Wo->Wo
 | []=>some 0
 | x::xs=>ad x (hG xs)
noncomputable def bQ:List Wo->Wo
 | []=>none
 | x::xs=>mx x (bQ xs)
theorem ng(x y z:Wo):ad (ad x y) z=ad x (ad y z):=by cases x <;> cases y <;> cases z <;> simp [ad,Int.add_assoc]
theorem fW(x y:Wo):ad x y=ad y x:=by cases x <;> cases y <;> simp [ad,Int.add_comm]
theorem FZ(x:Wo):ad (some 0) x=x:=by cases x <;> simp [ad]
theorem m9(x:Wo):ad x (some 0)=x:=by cases x <;> simp [ad]
theorem xk(x:Wo):ad x none=none:=by cases x <;> rfl
theorem lg(x:Wo):mx x none=x:=by cases x <;> rfl
theorem Bg(x y z:Wo):mx (mx x y) z=mx x (mx y z):=by cases x <;> cases y <;> cases z <;> simp [mx] <;> lia
theorem G6(x y z:Wo):ad x (mx y z)=mx (ad x y) (ad x z):=by cases x <;> cases y <;> cases z <;> simp [ad,mx] <;> lia
theorem Mw(x y z:Wo):ad (mx y z) x=mx (ad y x) (ad z x):=by rw[fW,G6,fW x y,fW x z]
theorem DL(l m:List Wo):hG (l++m)=ad (hG l) (hG m):=by
 induction l with
 | nil=>simp [hG,FZ]
 | cons x xs ih=>show ad x (hG (xs++m))=_;rw[ih,hG,ng]
theorem wJ(l m:List Wo):bQ (l++m)=mx (bQ l) (bQ m):=by
 induction l with
 | nil=>rfl
 | cons x xs ih=>show mx x (bQ (xs++m))=_;rw[ih,bQ,Bg]
theorem rB{l m:List Wo}(h:l.Perm m):hG l=hG m:=by
 induction h with
 | nil=>rfl
 | cons x _ ih=>rw[hG,hG,ih]
 | swap x y l=>rw[hG,hG,hG,hG,<-ng,<-ng,fW y x]
 | trans _ _ i1 i2=>rw[i1,i2]
theorem cO:bQ l=none↔ ∀x∈l,x=none:=by
 induction l with
 | nil=>simp [bQ]
 | cons x xs ih=>
  cases x with
  | none=>
   show bQ xs=none↔_;rw[ih];exact⟨fun h y hy=>(YU.mp hy).elim id (h y),fun h y hy=>h y (YQ _ hy)⟩
  | some a=>
   refine⟨fun h=>?_,fun h=>?_⟩
   . cases e:bQ xs with
     | none=>rw[bQ,e] at h;cases h
     | some b=>rw[bQ,e] at h;cases h
   . have:=h _ YN;cases this
theorem eX: ∀{l:List Wo} {v:Int},bQ l=some v->some v∈l
 | x::xs,v,h=>by
  cases x with
  | none=>exact YQ _ (eX (by simpa [bQ,mx] using h))
  | some a=>
   cases e:bQ xs with
   | none=>rw[bQ,e] at h;cases h;exact YN
   | some b=>
    rw[bQ,e] at h;have hv:max a b=v:=Option.some.inj h;by_cases c:a<=b
    . have:b=v:=by lia
      rw[this] at e;exact YQ _ (eX e)
    . have:a=v:=by lia
      rw[this];exact YN
theorem mS: ∀{l:List Wo} {v u:Int},bQ l=some v->some u∈l->u<=v
 | x::xs,v,u,h,hu=>by
  rcases YU.mp hu with e | hu
  . subst e;cases e:bQ xs with
    | none=>rw[bQ,e] at h;cases h;exact ZV _
    | some b=>rw[bQ,e] at h;have:max u b=v:=Option.some.inj h;lia
  . cases e:bQ xs with
    | none=>have:=cO.mp e _ hu;cases this
    | some b=>
     have i:=mS e hu;cases x with
     | none=>rw[bQ,e] at h;cases h;exact i
     | some a=>rw[bQ,e] at h;have:max a b=v:=Option.some.inj h;lia
theorem bf{α β:Type}{f g:α->List β}: ∀{l:List α},(∀a∈l,f a=g a)->l.flatMap f=l.flatMap g
 | [],_=>rfl
 | a::l,h=>by rw[aj4,aj4,h a YN,bf fun b hb=>h b (YQ _ hb)]
abbrev Way:=List (Nat × Nat)
noncomputable def wt(w:Nat->Nat->Wo)(a:Way):Wo:=hG (a.map fun p=>w p.1 p.2)
noncomputable def ev(w:Nat->Nat->Wo)(S:List Way):Wo:=bQ (S.map (wt w))
noncomputable def pr(S T:List Way):List Way:=S.flatMap fun a=>T.map fun b=>a++b
theorem Hm(w:Nat->Nat->Wo)(a b:Way):wt w (a++b)=ad (wt w a) (wt w b):=by unfold wt;rw[Y6,DL]
theorem BV(w:Nat->Nat->Wo)(S T:List Way):ev w (S++T)=mx (ev w S) (ev w T):=by unfold ev;rw[Y6,wJ]
theorem Fj(w:Nat->Nat->Wo)(a:Way)(T:List Way):ev w (T.map fun b=>a++b)=ad (wt w a) (ev w T):=by
 induction T with
 | nil=>exact(xk _).symm
 | cons b T ih=>
  show mx (wt w (a++b)) (ev w (T.map fun b=>a++b))=ad (wt w a) (mx (wt w b) (ev w T));rw[ih,Hm,G6]
theorem kz(w:Nat->Nat->Wo)(S T:List Way):ev w (pr S T)=ad (ev w S) (ev w T):=by
 induction S with
 | nil=>rfl
 | cons a S ih=>
  show ev w ((T.map fun b=>a++b)++pr S T)=ad (mx (wt w a) (ev w S)) (ev w T);rw[BV,Fj,ih,Mw]
theorem jv(w:Nat->Nat->Wo)(L:List Nat)(f:Nat->List Way):ev w (L.flatMap f)=bQ (L.map fun x=>ev w (f x)):=by
 induction L with
 | nil=>rfl
 | cons x L ih=>rw[aj4,BV,ih];rfl
theorem JM(w:Nat->Nat->Wo)(a:Way):ev w [a]=wt w a:=lg _
theorem qr(w:Nat->Nat->Wo)(i o:Nat):ev w [[(i,o)]]=w i o:=by rw[JM];exact m9 _
structure va where
 rg:List Way
 rt:List Way
 lf:List Way
 lt:List Way
noncomputable def nH(q:Nat->Nat->va)(l h:Nat):List Way:=(List.range' l (h - l)).flatMap fun at'=>pr (q l at').rg (q (at'+1) h).lf
noncomputable def QD(q:Nat->Nat->va)(rt:List Way)(l h:Nat):List Way:=(List.range' (l+1) (h - l)).flatMap fun a=>pr (if a=h then rt else(q l a).rt) (if a=h then [[]] else(q a h).rg)
noncomputable def QE(q:Nat->Nat->va)(lt:List Way)(l h:Nat):List Way:=(List.range' l (h - l)).flatMap fun a=>pr (if a=l then [[]] else(q l a).lf) (if a=l then lt else(q a h).lt)
noncomputable def Mx(q:Nat->Nat->va)(l h:Nat):va:=⟨QD q (pr [[(h,l)]] (nH q l h)) l h,pr [[(h,l)]] (nH q l h),QE q (pr [[(l,h)]] (nH q l h)) l h,pr [[(l,h)]] (nH q l h)⟩
noncomputable def sp:Nat->Nat->Nat->va
 | 0,_,_=>⟨[[]],[],[[]],[]⟩
 | d+1,l,h=>if h<=l+d then sp d l h else Mx (sp d) l h
noncomputable def Q(l h:Nat):va:=sp (h - l) l h
theorem Gj: ∀(d l h:Nat),h<=l+d->sp d l h=Q l h
 | 0,l,h,hd=>by unfold Q;rw[show h - l=0 by lia]
 | d+1,l,h,hd=>by
  by_cases c:h<=l+d
  . rw[sp,if_pos c];exact Gj d l h c
  . unfold Q;rw[show h - l=d+1 by lia]
theorem bP(l:Nat):Q l l=⟨[[]],[],[[]],[]⟩:=by unfold Q;rw[ag6];rfl
theorem yb(e: ∀a b,l<=a->b<=h->b - a < h - l->q a b=r a b):Mx q l h=Mx r l h:=by
 have ei:nH q l h=nH r l h:=by
  unfold nH;refine bf fun a ha=>?_;have:=Y4.mp ha;rw[e l a (by lia) (by lia) (by lia),e (a+1) h (by lia) (by lia) (by lia)]
 have er: ∀x,QD q x l h=QD r x l h:=fun x=>bf fun a ha=>by
  have:=Y4.mp ha;by_cases c:a=h
  . rw[if_pos c,if_pos c,if_pos c,if_pos c]
  . rw[if_neg c,if_neg c,if_neg c,if_neg c,e l a (by lia) (by lia) (by lia),e a h (by lia) (by lia) (by lia)]
 have el: ∀x,QE q x l h=QE r x l h:=fun x=>bf fun a ha=>by
  have:=Y4.mp ha;by_cases c:a=l
  . rw[if_pos c,if_pos c,if_pos c,if_pos c]
  . rw[if_neg c,if_neg c,if_neg c,if_neg c,e l a (by lia) (by lia) (by lia),e a h (by lia) (by lia) (by lia)]
 unfold Mx;rw[ei,er,el]
theorem bO(lt:l < h):Q l h=Mx Q l h:=by
 obtain⟨d,e⟩: ∃d,h - l=d+1:=⟨h - l - 1,by lia⟩
 unfold Q;rw[e,sp,if_neg (by lia)];exact yb fun a b h1 h2 h3=>Gj d a b (by lia)
theorem mi(w:Nat->Nat->Wo)(lt:l < h):ev w (Q l h).rt=ad (w h l) (bQ ((List.range' l (h - l)).map fun a=>ad (ev w (Q l a).rg) (ev w (Q (a+1) h).lf))):=by
 rw[bO lt];show ev w (pr [[(h,l)]] (nH Q l h))=_;rw[kz,qr];unfold nH;rw[jv];congr 2
 exact Y0 fun a _=>kz _ _ _
theorem mH(w:Nat->Nat->Wo)(lt:l < h):ev w (Q l h).lt=ad (w l h) (bQ ((List.range' l (h - l)).map fun a=>ad (ev w (Q l a).rg) (ev w (Q (a+1) h).lf))):=by
 rw[bO lt];show ev w (pr [[(l,h)]] (nH Q l h))=_;rw[kz,qr];unfold nH;rw[jv];congr 2
 exact Y0 fun a _=>kz _ _ _
theorem mm(w:Nat->Nat->Wo)(lt:l < h):ev w (Q l h).rg=bQ ((List.range' (l+1) (h - l)).map fun a=>ad (ev w (Q l a).rt) (ev w (Q a h).rg)):=by
 have er:(Q l h).rg=(List.range' (l+1) (h - l)).flatMap fun a=>pr (Q l a).rt (Q a h).rg:=by
  conv=>lhs;rw[bO lt]
  show(List.range' (l+1) (h - l)).flatMap _=_;refine bf fun a ha=>?_;by_cases c:a=h
  . subst c;rw[if_pos rfl,if_pos rfl,bP];congr 1
    rw[bO lt];rfl
  . rw[if_neg c,if_neg c]
 rw[er,jv];congr 1
 exact Y0 fun a _=>kz _ _ _
theorem mK(w:Nat->Nat->Wo)(lt:l < h):ev w (Q l h).lf=bQ ((List.range' l (h - l)).map fun a=>ad (ev w (Q l a).lf) (ev w (Q a h).lt)):=by
 have er:(Q l h).lf=(List.range' l (h - l)).flatMap fun a=>pr (Q l a).lf (Q a h).lt:=by
  conv=>lhs;rw[bO lt]
  show(List.range' l (h - l)).flatMap _=_;refine bf fun a ha=>?_;by_cases c:a=l
  . subst c;rw[if_pos rfl,if_pos rfl,bP];congr 1
    rw[bO lt];rfl
  . rw[if_neg c,if_neg c]
 rw[er,jv];congr 1
 exact Y0 fun a _=>kz _ _ _
noncomputable def ws(a:Way):List Nat:=a.map (·.1)
structure iT(S:List Way)(lo n m:Nat):Prop where
 c: ∀a∈S,(ws a).Perm (List.range' lo n)/\ ∀p∈a,p.2<=m
theorem iO(h1:iT S lo n m)(h2:iT T (lo+n) k m):iT (pr S T) lo (n+k) m:=⟨fun a ha=>by
 obtain⟨x,hx,ha⟩:=Zl.mp ha;obtain⟨y,hy,rfl⟩:=YE.mp ha;refine⟨?_,fun p hp=>(Zi.mp hp).elim ((h1.c x hx).2 p) ((h2.c y hy).2 p)⟩;unfold ws;rw[Y6,<-aa3];exact(h1.c x hx).1.append (h2.c y hy).1⟩
theorem jC{L:List Nat}{f:Nat->List Way}{lo n m:Nat}(h: ∀x∈L,iT (f x) lo n m):iT (L.flatMap f) lo n m:=⟨fun a ha=>by
 obtain⟨x,hx,ha⟩:=Zl.mp ha;exact(h x hx).c a ha⟩
theorem lF:iT [[]] lo 0 m:=⟨fun a ha=>by rw[YX.mp ha];exact⟨.nil,fun p hp=>absurd hp Yy⟩⟩
theorem jB(h:o<=m):iT [[(i,o)]] i 1 m:=⟨fun a ha=>by
 rw[YX.mp ha];exact⟨.refl _,fun p hp=>by rw[YX.mp hp];exact h⟩⟩
theorem iT.cast(h:iT S lo n m)(e1:lo=VB)(e2:n=n'):iT S VB n' m:=by subst e1;subst e2;exact h
theorem CK(h1:iT S (lo+k) n m)(h2:iT T lo k m):iT (pr S T) lo (n+k) m:=⟨fun a ha=>by
 obtain⟨x,hx,ha⟩:=Zl.mp ha;obtain⟨y,hy,rfl⟩:=YE.mp ha;refine⟨?_,fun p hp=>(Zi.mp hp).elim ((h1.c x hx).2 p) ((h2.c y hy).2 p)⟩;unfold ws;rw[Y6,Nat.add_comm n k,<-aa3];exact ad7.trans ((h2.c y hy).1.append (h1.c x hx).1)⟩
theorem fe: ∀(d l h:Nat),h - l=d->l<=h->h<=m->iT (Q l h).rg (l+1) (h - l) m/\iT (Q l h).lf l (h - l) m/\(l < h->iT (Q l h).rt (l+1) (h - l) m/\iT (Q l h).lt l (h - l) m):=fun d=>by
 induction d using Nat.strongRecOn with
 | _ d ih=>
  intro l h hd hl hm;by_cases c:l=h
  . subst c;rw[bP,ag6];exact⟨lF,lF,fun z=>absurd z (Zt _)⟩
  have lt:l < h:=by lia
  have hi:iT (nH Q l h) (l+1) (h - l - 1) m:=jC fun a ha=>by
   have:=Y4.mp ha;have h1:=(ih (a - l) (by lia) l a rfl (by lia) (by lia)).1;have h2:=(ih (h - (a+1)) (by lia) (a+1) h rfl (by lia) (by lia)).2.1;exact(iO h1 (h2.cast (by lia) rfl)).cast rfl (by lia)
  have KY:iT (Q l h).rt (l+1) (h - l) m:=by
   rw[bO lt];show iT (pr [[(h,l)]] (nH Q l h)) _ _ _;have h1:iT [[(h,l)]] (l+1+(h - l - 1)) 1 m:=(jB (by lia)).cast (by lia) rfl;exact(CK h1 hi).cast rfl (by lia)
  have df:iT (Q l h).lt l (h - l) m:=by
   rw[bO lt];show iT (pr [[(l,h)]] (nH Q l h)) _ _ _;exact(iO (jB (by lia)) hi).cast rfl (by lia)
  refine⟨?_,?_,fun _=>⟨KY,df⟩⟩
  . rw[bO lt];refine jC fun a ha=>?_;have:=Y4.mp ha;by_cases e:a=h
    . rw[if_pos e,if_pos e];rw[bO lt] at KY;exact(iO KY lF).cast rfl (by lia)
    . rw[if_neg e,if_neg e];have h1:=((ih (a - l) (by lia) l a rfl (by lia) (by lia)).2.2 (by lia)).1;have h2:=(ih (h - a) (by lia) a h rfl (by lia) hm).1;exact(iO h1 (h2.cast (by lia) rfl)).cast rfl (by lia)
  . rw[bO lt];refine jC fun a ha=>?_;have:=Y4.mp ha;by_cases e:a=l
    . rw[if_pos e,if_pos e];rw[bO lt] at df;exact(iO lF df).cast rfl (by lia)
    . rw[if_neg e,if_neg e];have h1:=(ih (a - l) (by lia) l a rfl (by lia) (by lia)).2.1;have h2:=((ih (h - a) (by lia) a h rfl (by lia) hm).2.2 (by lia)).2;exact(iO h1 (h2.cast (by lia) rfl)).cast rfl (by lia)
noncomputable def F1(n:Nat):List Way:=(List.range' 1 n).flatMap fun t=>pr [[(t,0)]] (pr (Q 1 t).lf (Q t n).rg)
theorem vw(w:Nat->Nat->Wo)(n:Nat):ev w (F1 n)=bQ ((List.range' 1 n).map fun t=>ad (w t 0) (ad (ev w (Q 1 t).lf) (ev w (Q t n).rg))):=by
 unfold F1;rw[jv];congr 1
 exact Y0 fun t _=>by rw[kz,qr,kz]
theorem w6(n:Nat): ∀a∈F1 n,(ws a).Perm (List.range' 1 n)/\ ∀p∈a,p.2<=n:=fun a ha=>by
 obtain⟨t,ht,ha⟩:=Zl.mp ha;have:=Y4.mp ht;have h1:=(fe (m:=n) (t - 1) 1 t rfl (by lia) (by lia)).2.1;have h2:=(fe (m:=n) (n - t) t n rfl (by lia) (Yx _)).1;have h3:iT [[(t,0)]] t 1 n:=jB (Za _);obtain⟨x,hx,ha⟩:=Zl.mp ha;obtain⟨y,hy,rfl⟩:=YE.mp ha;obtain⟨u,hu,hy⟩:=Zl.mp hy;obtain⟨v,hv,rfl⟩:=YE.mp hy;refine⟨?_,fun p hp=>?_⟩
 . have p1:=(h1.c u hu).1;have p2:=(h2.c v hv).1;have p3:=(h3.c x hx).1;unfold ws at p1 p2 p3 ⊢;rw[Y6,Y6];have e:List.range' 1 n=List.range' 1 (t - 1)++(List.range' t 1++List.range' (t+1) (n - t)):=by
    have a1:List.range' t 1++List.range' (t+1) (n - t)=List.range' t (1+(n - t)):=aa3 ..;have a2:List.range' 1 (t - 1)++List.range' (1+(t - 1)) (1+(n - t))=List.range' 1 ((t - 1)+(1+(n - t))):=aa3 ..;rw[a1];rw[show(1:Nat)+(t - 1)=t by lia] at a2;rw[a2];congr 1
    lia
   rw[e];refine(p3.append (p1.append p2)).trans ?_;rw[<-Zg,<-Zg];exact List.perm_append_comm.append_right _
 . rcases Zi.mp hp with hp | hp
   . exact(h3.c x hx).2 p hp
   . rcases Zi.mp hp with hp | hp
     . exact(h1.c u hu).2 p hp
     . exact(h2.c v hv).2 p hp
noncomputable def eO(w:Nat->Nat->Wo):Nat->List Nat->Wo
 | _,[]=>some 0
 | i,x::xs=>ad (w i x) (eO w (i+1) xs)
noncomputable abbrev qT (w:Nat->Nat->Wo) (h:List Nat):Wo:=eO w 1 h
noncomputable def lk(a:Way)(i:Nat):Nat:=(a.lookup i).getD 0
noncomputable def Fe(n:Nat)(a:Way):List Nat:=(List.range' 1 n).map (lk a)
theorem lK(w:Nat->Nat->Wo)(f:Nat->Nat): ∀(n i:Nat),eO w i ((List.range' i n).map f)=hG ((List.range' i n).map fun j=>w j (f j))
 | 0,_=>rfl
 | n+1,i=>by rw[List.range'_succ,YV,YV,eO,hG,lK w f n (i+1)]
theorem lookup_mem: ∀{a:Way} {p:Nat × Nat},(ws a).Nodup->p∈a->a.lookup p.1=some p.2
 | q::a,p,nd,h=>by
  unfold ws at nd;rw[YV,ad6] at nd;obtain⟨qa,qb⟩:=q;rcases YU.mp h with e | h
  . subst e;simp [Zm]
  . have ne:p.1≠qa:=fun z=>nd.1 (by rw[<-z];exact YE.mpr ⟨p,h,rfl⟩);have:(p.1==qa)=false:=ac8.mpr ne;rw[Zm,this];exact lookup_mem nd.2 h
theorem DD(w:Nat->Nat->Wo)(h:(ws a).Perm (List.range' 1 n)):wt w a=qT w (Fe n a):=by
 have nd:(ws a).Nodup:=h.nodup_iff.mpr ag3;unfold qT Fe;rw[lK];have e:a.map (fun p=>w p.1 p.2)=(ws a).map fun j=>w j (lk a j):=by
  unfold ws;rw[Y3];refine Y0 fun p hp=>?_;show w p.1 p.2=w p.1 (lk a p.1);unfold lk;rw[lookup_mem nd hp];rfl
 unfold wt;rw[e];exact rB (h.map _)
noncomputable def nV(n:Nat):List (List Nat):=(F1 n).map (Fe n)
theorem lM(w:Nat->Nat->Wo)(n:Nat):ev w (F1 n)=bQ ((nV n).map (qT w)):=by
 unfold ev nV;rw[Y3];congr 1
 exact Y0 fun a ha=>DD w (w6 n a ha).1
theorem gA(m:h∈nV n):h.length=n:=by
 obtain⟨a,_,rfl⟩:=YE.mp m;unfold Fe;rw[Yt,YZ]
theorem yf{a:Way}:a.lookup i=some x->(i,x)∈a:=by
 induction a with
 | nil=>intro h;cases h
 | cons p a ih=>
  intro h;obtain⟨pa,pb⟩:=p;rw[Zm] at h;by_cases c:i=pa
  . subst c;simp at h;subst h;exact YN
  . have:(i==pa)=false:=ac8.mpr c;rw[this] at h;exact YQ _ (ih h)
theorem vt(m:h∈nV n): ∀x∈h,x<=n:=by
 obtain⟨a,ha,rfl⟩:=YE.mp m;intro x hx;obtain⟨i,_,rfl⟩:=YE.mp hx;unfold lk;cases e:a.lookup i with
 | none=>exact Za _
 | some y=>exact(w6 n a ha).2 _ (yf e)
noncomputable def code(B:Nat):List Nat->Int
 | []=>0
 | x::xs=>(x:Int)*(B:Int)^xs.length+code B xs
theorem Ax{B:Nat}(h:0 < B)(n:Nat):0 < (B:Int)^n:=Int.pow_pos (by lia)
theorem w9: ∀{h:List Nat},(∀x∈h,x < B)->0<=code B h/\code B h < (B:Int)^h.length
 | [],_=>⟨ZV _,by show(0:Int) < 1;decide⟩
 | x::xs,hx=>by
  have x1:=hx x YN;obtain⟨a,b⟩:=w9 (h:=xs) fun y hy=>hx y (YQ _ hy);have p:=Ax (B:=B) (by lia) xs.length;unfold code;rw[YS,Int.pow_succ];generalize (B:Int)^xs.length=P at*;have e1:0<=(x:Int)*P:=Int.mul_nonneg (by lia) (by lia);have e2:((x:Int)+1)*P<=(B:Int)*P:=ac3 (by lia) (by lia);rw[aj6,Int.one_mul] at e2;rw[Int.mul_comm P];exact⟨by lia,by lia⟩
theorem o4(B:Nat): ∀(h:List Nat) (x:Nat),code B (h++ [x])=code B h*(B:Int)+(x:Int)
 | [],x=>by simp [code]
 | y::ys,x=>by
  rw[List.cons_append,code,code,o4 B ys x,Y9,List.length_singleton,Int.pow_succ,aj6,Int.mul_assoc,Int.add_assoc]
noncomputable def wr(n:Nat)(w:Nat->Nat->Wo)(i o:Nat):Wo:=(w i o).map fun v=>v*((n:Int)+1)^n - (o:Int)*((n:Int)+1)^(n - i)
theorem kX(n:Nat)(w:Nat->Nat->Wo): ∀(h:List Nat) (i:Nat),i+h.length=n+1->1<=i->eO (wr n w) i h=(eO w i h).map fun v=>v*((n:Int)+1)^n - code (n+1) h
 | [],i,e,_=>by simp [eO,code]
 | x::xs,i,e,i1=>by
  have e':i+1+xs.length=n+1:=by rw[YS] at e;lia
  rw[eO,eO,kX n w xs (i+1) e' (by lia)];unfold wr;rw[show n - i=xs.length by lia];have ec:code (n+1) (x::xs)=(x:Int)*((n:Int)+1)^xs.length+code (n+1) xs:=by
   rw[code];push_cast
   rfl
  rw[ec];cases w i x with
  | none=>rfl
  | some a=>
   cases eO w (i+1) xs with
   | none=>rfl
   | some b=>
    show some ((a*((n:Int)+1)^n - (x:Int)*((n:Int)+1)^xs.length)+(b*((n:Int)+1)^n - code (n+1) xs))=some ((a+b)*((n:Int)+1)^n - ((x:Int)*((n:Int)+1)^xs.length+code (n+1) xs));congr 1
    rw[aj6];generalize a*((n:Int)+1)^n=p;generalize b*((n:Int)+1)^n=q;generalize (x:Int)*((n:Int)+1)^xs.length=r;lia
inductive vj(n:Nat)(w:Nat->Nat->Wo):Option (Int × List Nat)->Prop
 | no (h: ∀g∈nV n,qT w g=none):vj n w none
 | yes (v:Int) (h:List Nat) (m:h∈nV n) (e:qT w h=some v) (b: ∀g∈nV n,∀u,qT w g=some u->u < v\/(u=v/\code (n+1) h<=code (n+1) g)):vj n w (some (v,h))
theorem D4{v u c d P:Int}(c0:0<=c)(cP:c < P)(d0:0<=d)(dP:d < P)(h:u*P - d<=v*P - c):u < v\/(u=v/\c<=d):=by
 rcases Int.lt_trichotomy u v with z | z | z
 . exact .inl z
 . subst z;exact .inr ⟨rfl,by lia⟩
 . have e2:(v+1)*P<=u*P:=ac3 (by lia) (by lia);rw[aj6,Int.one_mul] at e2;lia
theorem n8(m:h∈nV n):0<=code (n+1) h/\code (n+1) h < ((n:Int)+1)^n:=by
 have:=w9 (B:=n+1) (h:=h) fun x hx=>Nat.lt_succ_of_le (vt m x hx);rw[gA m] at this;push_cast at this
 exact this
theorem yW(h:ev (wr n w) (F1 n)=none):vj n w none:= .no fun g m=>by
 rw[lM] at h;have:=cO.mp h _ (YE.mpr ⟨g,m,rfl⟩);unfold qT at this;rw[kX n w g 1 (by rw[gA m];lia) (by decide)] at this;cases e:qT w g with
 | none=>rfl
 | some v=>unfold qT at e;rw[e] at this;cases this
theorem yV(h:ev (wr n w) (F1 n)=some T): ∃v g,vj n w (some (v,g))/\T=v*((n:Int)+1)^n - code (n+1) g:=by
 rw[lM] at h;obtain⟨g,m,e⟩:=YE.mp (eX h);unfold qT at e;rw[kX n w g 1 (by rw[gA m];lia) (by decide)] at e;cases ew:qT w g with
 | none=>unfold qT at ew;rw[ew] at e;cases e
 | some v=>
  have T6:=ew;unfold qT at T6;rw[T6] at e;have eT:v*((n:Int)+1)^n - code (n+1) g=T:=Option.some.inj e;refine⟨v,g,.yes v g m ew fun g' m' u eu=>?_,eT.symm⟩;have hm:some (u*((n:Int)+1)^n - code (n+1) g')∈(nV n).map (qT (wr n w)):=YE.mpr ⟨g',m',by
   unfold qT at eu ⊢;rw[kX n w g' 1 (by rw[gA m'];lia) (by decide),eu];rfl⟩
  have:=mS h hm;rw[<-eT] at this;obtain⟨a,b⟩:=n8 m;obtain⟨c,d⟩:=n8 m';exact D4 a b c d this
abbrev Rs:=Int × List Nat
structure Xh(n:Nat)(r:Rs):Prop where
 l:r.2.length=n
 b: ∀x∈r.2,x<=n
theorem FW(h:vj n w (some r)):Xh n r:=by
 cases h with
 | yes v h m e b=>exact⟨gA m,vt m⟩
noncomputable def kM(B:Int):Nat->Int->List Int
 | 0,_=> []
 | k+1,x=>x % B::kM B k (x / B)
theorem oV(hB:0 < B)(v:Int): ∀(n:Nat) (h:List Nat),h.length=n->(∀x∈h,x < B)->kM B n (code B h - v*(B:Int)^n)=h.reverse.map Int.ofNat
 | 0,[],_,_=>rfl
 | n+1,h,l,hx=>by
  have ne:h≠ []:=fun z=>by rw[z] at l;cases l
  obtain⟨hs,x,e⟩: ∃hs x,h=hs++ [x]:=⟨h.dropLast,h.getLast ne,(List.dropLast_concat_getLast ne).symm⟩
  subst e;have l':hs.length=n:=by rw[Y9] at l;simpa using l
  have xB:=hx x (by simp);have e1:code B (hs++ [x]) - v*(B:Int)^(n+1)=(x:Int)+(code B hs - v*(B:Int)^n)*(B:Int):=by
   rw[o4,Int.pow_succ,Int.sub_mul,Int.mul_assoc];lia
  have b0:(B:Int)≠0:=by lia
  rw[kM,e1,Int.add_mul_emod_self_right,Int.emod_eq_of_lt (by lia) (by lia),Int.add_mul_ediv_right _ _ b0,Int.ediv_eq_zero_of_lt (by lia) (by lia),Int.zero_add,oV hB v n hs l' fun y hy=>hx y (Z3 _ hy)];simp
abbrev LL:=List (List Nat)
noncomputable def Iw(S T:LL):LL:=S.flatMap fun a=>T.map fun b=>a++b
theorem lh:x∈Iw S T↔ ∃a b,a∈S/\b∈T/\x=a++b:=by
 unfold Iw;rw[Zl];constructor
 . rintro⟨a,ha,h⟩
   obtain⟨b,hb,e⟩:=YE.mp h;exact⟨a,b,ha,hb,e.symm⟩
 . rintro⟨a,b,ha,hb,e⟩
   exact⟨a,ha,YE.mpr ⟨b,hb,e.symm⟩⟩
noncomputable def ft:Nat->(Nat->Nat->Nat->LL) × (Nat->Nat->Nat->LL)
 | 0=>(fun _ _ _=> [[]],fun _ _ _=> [])
 | d+1=>(fun f m on=>if m=0 then [[]] else(List.range m).flatMap fun e=>Iw ((ft d).2 f (e+1) on) ((ft d).1 (f+e+1) (m - (e+1)) on),
   fun f m on=>(List.range m).flatMap fun k=>Iw ((ft d).1 f k (f+k)) (((ft d).1 (f+k+1) (m - (k+1)) (f+k)).map fun b=>on::b))
noncomputable def Fo(f m on:Nat):LL:=(ft (2*m+1)).1 f m on
noncomputable def Tr(f m on:Nat):LL:=(ft (2*m)).2 f m on
theorem g0: ∀(d d':Nat),(∀f m on,2*m<=d->2*m<=d'->(2*m+1<=d->2*m+1<=d'->(ft d).1 f m on=(ft d').1 f m on)/\(ft d).2 f m on=(ft d').2 f m on)
 | 0,0=>fun f m on _ _=>⟨fun _ _=>rfl,rfl⟩
 | 0,d'+1=>fun f m on h _=>by
  have:m=0:=by lia
  subst this;exact⟨fun h=>absurd h (by lia),rfl⟩
 | d+1,0=>fun f m on _ h=>by
  have:m=0:=by lia
  subst this;exact⟨fun _ h=>absurd h (by lia),rfl⟩
 | d+1,d'+1=>fun f m on h h'=>by
  refine⟨fun k k'=>?_,?_⟩
  . show(if m=0 then [[]] else _)=(if m=0 then [[]] else _)
    by_cases c:m=0
    . rw[if_pos c,if_pos c]
    . rw[if_neg c,if_neg c];refine bf fun e he=>?_;have:=Zp.mp he;rw[(g0 d d' f (e+1) on (by lia) (by lia)).2,(g0 d d' (f+e+1) (m - (e+1)) on (by lia) (by lia)).1 (by lia) (by lia)]
  . show(List.range m).flatMap _=(List.range m).flatMap _;refine bf fun e he=>?_;have:=Zp.mp he;rw[(g0 d d' f e (f+e) (by lia) (by lia)).1 (by lia) (by lia),(g0 d d' (f+e+1) (m - (e+1)) (f+e) (by lia) (by lia)).1 (by lia) (by lia)]
theorem F6(f on:Nat):Fo f 0 on= [[]]:=rfl
theorem F7(h:0 < m):Fo f m on=(List.range m).flatMap fun e=>Iw (Tr f (e+1) on) (Fo (f+e+1) (m - (e+1)) on):=by
 unfold Fo Tr;show(if m=0 then [[]] else _)=_;rw[if_neg (by lia)];refine bf fun e he=>?_;have:=Zp.mp he;rw[(g0 (2*m) (2*(e+1)) f (e+1) on (by lia) (by lia)).2,(g0 (2*m) (2*(m - (e+1))+1) (f+e+1) (m - (e+1)) on (by lia) (by lia)).1 (by lia) (by lia)]
theorem F0:Tr f m on=(List.range m).flatMap fun k=>Iw (Fo f k (f+k)) ((Fo (f+k+1) (m - (k+1)) (f+k)).map fun b=>on::b):=by
 unfold Fo Tr;cases m with
 | zero=>rfl
 | succ m=>
  rw[show 2*(m+1)=(2*m+1)+1 by lia];show(List.range (m+1)).flatMap (fun k=>Iw ((ft (2*m+1)).1 f k (f+k)) (((ft (2*m+1)).1 (f+k+1) (m+1 - (k+1)) (f+k)).map fun b=>on::b))=_;refine bf fun e he=>?_;have:=Zp.mp he;rw[(g0 (2*m+1) (2*e+1) f e (f+e) (by lia) (by lia)).1 (by lia) (by lia),(g0 (2*m+1) (2*(m+1 - (e+1))+1) (f+e+1) (m+1 - (e+1)) (f+e) (by lia) (by lia)).1 (by lia) (by lia)]
theorem fP(h:0 < m):x∈Fo f m on↔ ∃e t r,e < m/\t∈Tr f (e+1) on/\r∈Fo (f+e+1) (m - (e+1)) on/\x=t++r:=by
 rw[F7 h,Zl];constructor
 . rintro⟨e,he,hx⟩
   obtain⟨t,r,h1,h2,h3⟩:=lh.mp hx;exact⟨e,t,r,Zp.mp he,h1,h2,h3⟩
 . rintro⟨e,t,r,he,h1,h2,h3⟩
   exact⟨e,Zp.mpr he,lh.mpr ⟨t,r,h1,h2,h3⟩⟩
theorem j4:x∈Tr f m on↔ ∃k a b,k < m/\a∈Fo f k (f+k)/\b∈Fo (f+k+1) (m - (k+1)) (f+k)/\x=a++on::b:=by
 rw[F0,Zl];constructor
 . rintro⟨e,he,hx⟩
   obtain⟨a,c,h1,h2,h3⟩:=lh.mp hx;obtain⟨b,hb,rfl⟩:=YE.mp h2;exact⟨e,a,b,Zp.mp he,h1,hb,h3⟩
 . rintro⟨e,a,b,he,h1,h2,h3⟩
   exact⟨e,Zp.mpr he,lh.mpr ⟨a,on::b,h1,YE.mpr ⟨b,h2,rfl⟩,h3⟩⟩
theorem eW:x∈Fo f 0 on↔x= []:=by rw[F6,YX]
theorem ux: ∀(m:Nat),(∀f on x,x∈Fo f m on->x.length=m)/\ ∀f on x,x∈Tr f m on->x.length=m:=fun m=>by
 induction m using Nat.strongRecOn with
 | _ m ih=>
  have hT: ∀f on x,x∈Tr f m on->x.length=m:=fun f on x hx=>by
   obtain⟨k,a,b,hk,ha,hb,rfl⟩:=j4.mp hx;have h1:=(ih k (by lia)).1 _ _ _ ha;have h2:=(ih (m - (k+1)) (by lia)).1 _ _ _ hb;rw[Y9,YS,h1,h2];lia
  refine⟨fun f on x hx=>?_,hT⟩;by_cases c:m=0
  . subst c;rw[eW.mp hx];rfl
  . obtain⟨e,t,r,he,ht,hr,rfl⟩:=(fP (by lia)).mp hx;have h2:=(ih (m - (e+1)) (by lia)).1 _ _ _ hr;have h1:t.length=e+1:=by
     by_cases d:e+1=m
     . rw[d] at ht ⊢;exact hT _ _ _ ht
     . exact(ih (e+1) (by lia)).2 _ _ _ ht
    rw[Y9,h1,h2];lia
theorem EH: ∀(m f on:Nat) (x:List Nat),0 < m->x∈Fo f m on-> ∃e a t,e < m/\a∈Fo f e on/\t∈Tr (f+e) (m - e) on/\x=a++t:=fun m=>by
 induction m using Nat.strongRecOn with
 | _ m ih=>
  intro f on x hm hx;obtain⟨e,t,r,he,ht,hr,rfl⟩:=(fP hm).mp hx;by_cases c:m - (e+1)=0
  . rw[c] at hr;rw[eW.mp hr];exact⟨0,[],t,hm,eW.mpr rfl,by rw[show m - 0=e+1 by lia];exact ht,by rw[Zw];rfl⟩
  . obtain⟨e',a',t',h1,h2,h3,rfl⟩:=ih (m - (e+1)) (by lia) (f+e+1) on r (by lia) hr;refine⟨e+1+e',t++a',t',by lia,(fP (by lia)).mpr ⟨e,t,a',by lia,ht,by rw[show e+1+e' - (e+1)=e' by lia];exact h2,rfl⟩,?_,by rw[Zg]⟩;rw[show f+(e+1+e')=f+e+1+e' by lia,show m - (e+1+e')=m - (e+1) - e' by lia];exact h3
theorem EA: ∀(e m f on:Nat) (a t:List Nat),e < m->a∈Fo f e on->t∈Tr (f+e) (m - e) on->a++t∈Fo f m on:=fun e=>by
 induction e using Nat.strongRecOn with
 | _ e ih=>
  intro m f on a t h ha ht;by_cases c:e=0
  . subst c;rw[eW.mp ha];exact(fP (by lia)).mpr ⟨m - 1,t,[],by lia,by rw[show m - 1+1=m - 0 by lia];exact ht,by rw[show m - (m - 1+1)=0 by lia];exact eW.mpr rfl,by rw[Zw];rfl⟩
  . obtain⟨e0,t0,r0,h1,h2,h3,rfl⟩:=(fP (by lia)).mp ha;have:=ih (e - (e0+1)) (by lia) (m - (e0+1)) (f+e0+1) on r0 t (by lia) h3 (by
     rw[show f+e0+1+(e - (e0+1))=f+e by lia,show m - (e0+1) - (e - (e0+1))=m - e by lia];exact ht)
    exact(fP (by lia)).mpr ⟨e0,t0,r0++t,by lia,h2,this,by rw[Zg]⟩
noncomputable def hg(lo n:Nat)(a:Way):List Nat:=(List.range' lo n).map (lk a)
theorem oF(nd:(ws a).Nodup)(h:(i,x)∈a):lk a i=x:=by
 unfold lk;rw[show a.lookup i=some x from lookup_mem (p:=(i,x)) nd h];rfl
theorem zy(h:i∈ws a): ∃x,(i,x)∈a:=by
 obtain⟨p,hp,rfl⟩:=YE.mp h;exact⟨p.2,hp⟩
def Om(S:List Way)(lo n:Nat)(x:List Nat):Prop:= ∃a∈S,x=hg lo n a
theorem qk{a b c:Way}(ha:(ws a).Perm (List.range' lo n))(hb:(ws b).Perm (List.range' (lo+n) k))(hc:c.Perm (a++b)):hg lo (n+k) c=hg lo n a++hg (lo+n) k b:=by
 have wc:(ws c).Perm (List.range' lo (n+k)):=by
  rw[<-aa3];refine(hc.map _).trans ?_;rw[Y6];exact ha.append hb
 have nc:(ws c).Nodup:=wc.nodup_iff.mpr ag3;unfold hg;rw[<-aa3,Y6];congr 1
 . refine Y0 fun i hi=>?_;obtain⟨x,hx⟩:=zy (ha.mem_iff.mpr hi);rw[oF (ha.nodup_iff.mpr ag3) hx,oF nc (hc.mem_iff.mpr (Z3 _ hx))]
 . refine Y0 fun i hi=>?_;obtain⟨x,hx⟩:=zy (hb.mem_iff.mpr hi);rw[oF (hb.nodup_iff.mpr ag3) hx,oF nc (hc.mem_iff.mpr (YR _ hx))]
theorem v3(h1:iT S lo n m)(h2:iT T (lo+n) k m):Om (pr S T) lo (n+k) x↔ ∃y z,Om S lo n y/\Om T (lo+n) k z/\x=y++z:=by
 constructor
 . rintro⟨c,hc,rfl⟩
   obtain⟨a,ha,hc⟩:=Zl.mp hc;obtain⟨b,hb,rfl⟩:=YE.mp hc;exact⟨_,_,⟨a,ha,rfl⟩,⟨b,hb,rfl⟩,qk (h1.c a ha).1 (h2.c b hb).1 (.refl _)⟩
 . rintro⟨y,z,⟨a,ha,rfl⟩,⟨b,hb,rfl⟩,rfl⟩
   exact⟨a++b,Zl.mpr ⟨a,ha,YE.mpr ⟨b,hb,rfl⟩⟩,(qk (h1.c a ha).1 (h2.c b hb).1 (.refl _)).symm⟩
theorem Es(h1:iT S (lo+k) n m)(h2:iT T lo k m):Om (pr S T) lo (k+n) x↔ ∃y z,Om T lo k y/\Om S (lo+k) n z/\x=y++z:=by
 constructor
 . rintro⟨c,hc,rfl⟩
   obtain⟨a,ha,hc⟩:=Zl.mp hc;obtain⟨b,hb,rfl⟩:=YE.mp hc;exact⟨_,_,⟨b,hb,rfl⟩,⟨a,ha,rfl⟩,qk (h2.c b hb).1 (h1.c a ha).1 ad7⟩
 . rintro⟨y,z,⟨b,hb,rfl⟩,⟨a,ha,rfl⟩,rfl⟩
   exact⟨a++b,Zl.mpr ⟨a,ha,YE.mpr ⟨b,hb,rfl⟩⟩,(qk (h2.c b hb).1 (h1.c a ha).1 ad7).symm⟩
theorem p8{L:List Nat}:Om (L.flatMap g) lo n x↔ ∃j∈L,Om (g j) lo n x:=by
 constructor
 . rintro⟨c,hc,rfl⟩
   obtain⟨j,hj,h⟩:=Zl.mp hc;exact⟨j,hj,c,h,rfl⟩
 . rintro⟨j,hj,c,h,rfl⟩
   exact⟨c,Zl.mpr ⟨j,hj,h⟩,rfl⟩
theorem jZ:Om [[]] lo 0 x↔x= []:=by
 constructor
 . rintro⟨c,hc,rfl⟩;rfl
 . rintro rfl;exact⟨[],YX.mpr rfl,rfl⟩
theorem p6:Om [[(i,o)]] i 1 x↔x= [o]:=by
 have e:hg i 1 [(i,o)]= [o]:=by
  show [lk [(i,o)] i]= [o]
  rw[oF (x:=o) (by simp [ws]) (YX.mpr rfl)]
 constructor
 . rintro⟨c,hc,rfl⟩;rw[YX.mp hc];exact e
 . rintro rfl;exact⟨_,YX.mpr rfl,e.symm⟩
theorem p7(lt:l < h):Om (nH Q l h) (l+1) (h - l - 1) x↔ ∃m u v,l<=m/\m < h/\Om (Q l m).rg (l+1) (m - l) u/\Om (Q (m+1) h).lf (m+1) (h - (m+1)) v/\x=u++v:=by
 unfold nH;rw[p8];have one: ∀m,l<=m->m < h-> ∀x,Om (pr (Q l m).rg (Q (m+1) h).lf) (l+1) (h - l - 1) x↔ ∃u v,Om (Q l m).rg (l+1) (m - l) u/\Om (Q (m+1) h).lf (m+1) (h - (m+1)) v/\x=u++v:=fun m h1 h2 x=>by
  have c1:=(fe (m:=h) (m - l) l m rfl h1 (by lia)).1;have c2:=(fe (m:=h) (h - (m+1)) (m+1) h rfl (by lia) (Yx _)).2.1;have:=v3 c1 (c2.cast (show m+1=l+1+(m - l) by lia) rfl) (x:=x);rw[show m - l+(h - (m+1))=h - l - 1 by lia,show l+1+(m - l)=m+1 by lia] at this;exact this
 constructor
 . rintro⟨m,hm,hx⟩
   have:=Y4.mp hm;obtain⟨u,v,h1,h2,h3⟩:=(one m (by lia) (by lia) x).mp hx;exact⟨m,u,v,by lia,by lia,h1,h2,h3⟩
 . rintro⟨m,u,v,a1,a2,h1,h2,h3⟩
   exact⟨m,Y4.mpr ⟨a1,by lia⟩,(one m a1 a2 x).mpr ⟨u,v,h1,h2,h3⟩⟩
theorem w8(lt:l < h)(hm:h<=m):iT (nH Q l h) (l+1) (h - l - 1) m:=jC fun a ha=>by
 have:=Y4.mp ha;have h1:=(fe (m:=m) (a - l) l a rfl (by lia) (by lia)).1;have h2:=(fe (m:=m) (h - (a+1)) (a+1) h rfl (by lia) (by lia)).2.1;exact(iO h1 (h2.cast (by lia) rfl)).cast rfl (by lia)
theorem AU(lt:l < h):Om (Q l h).rt (l+1) (h - l) x↔ ∃y,Om (nH Q l h) (l+1) (h - l - 1) y/\x=y++ [l]:=by
 rw[bO lt];show Om (pr [[(h,l)]] (nH Q l h)) _ _ _↔_;have c1:iT [[(h,l)]] (l+1+(h - l - 1)) 1 h:=(jB (by lia)).cast (by lia) rfl;have:=Es c1 (w8 lt (Yx _)) (x:=x);rw[show h - l - 1+1=h - l by lia,show l+1+(h - l - 1)=h by lia] at this;rw[this];constructor
 . rintro⟨y,z,h1,h2,h3⟩
   rw[p6.mp h2] at h3;exact⟨y,h1,h3⟩
 . rintro⟨y,h1,h3⟩
   exact⟨y,[l],h1,p6.mpr rfl,h3⟩
theorem AW(lt:l < h):Om (Q l h).lt l (h - l) x↔ ∃y,Om (nH Q l h) (l+1) (h - l - 1) y/\x=h::y:=by
 rw[bO lt];show Om (pr [[(l,h)]] (nH Q l h)) _ _ _↔_;have:=v3 (lo:=l) (n:=1) (jB (m:=h) (Yx _)) (w8 lt (Yx _)) (x:=x);rw[show 1+(h - l - 1)=h - l by lia] at this;rw[this];constructor
 . rintro⟨y,z,h1,h2,h3⟩
   rw[p6.mp h1] at h3;exact⟨z,h2,h3⟩
 . rintro⟨y,h1,h3⟩
   exact⟨[h],y,p6.mpr rfl,h1,h3⟩
theorem AV(lt:l < h):Om (Q l h).rg (l+1) (h - l) x↔ ∃a y z,l < a/\a<=h/\Om (Q l a).rt (l+1) (a - l) y/\Om (Q a h).rg (a+1) (h - a) z/\x=y++z:=by
 have er:(Q l h).rg=(List.range' (l+1) (h - l)).flatMap fun a=>pr (Q l a).rt (Q a h).rg:=by
  conv=>lhs;rw[bO lt]
  show(List.range' (l+1) (h - l)).flatMap _=_;refine bf fun a ha=>?_;by_cases c:a=h
  . subst c;rw[if_pos rfl,if_pos rfl,bP];congr 1
    rw[bO lt];rfl
  . rw[if_neg c,if_neg c]
 rw[er,p8];have one: ∀a,l < a->a<=h-> ∀x,Om (pr (Q l a).rt (Q a h).rg) (l+1) (h - l) x↔ ∃y z,Om (Q l a).rt (l+1) (a - l) y/\Om (Q a h).rg (a+1) (h - a) z/\x=y++z:=fun a h1 h2 x=>by
  have c1:=((fe (m:=h) (a - l) l a rfl (by lia) (by lia)).2.2 h1).1;have c2:=(fe (m:=h) (h - a) a h rfl (by lia) (Yx _)).1;have:=v3 c1 (c2.cast (show a+1=l+1+(a - l) by lia) rfl) (x:=x);rw[show a - l+(h - a)=h - l by lia,show l+1+(a - l)=a+1 by lia] at this;exact this
 constructor
 . rintro⟨a,ha,hx⟩
   have:=Y4.mp ha;obtain⟨u,v,h1,h2,h3⟩:=(one a (by lia) (by lia) x).mp hx;exact⟨a,u,v,by lia,by lia,h1,h2,h3⟩
 . rintro⟨a,u,v,a1,a2,h1,h2,h3⟩
   exact⟨a,Y4.mpr ⟨a1,by lia⟩,(one a a1 a2 x).mpr ⟨u,v,h1,h2,h3⟩⟩
theorem AX(lt:l < h):Om (Q l h).lf l (h - l) x↔ ∃a y z,l<=a/\a < h/\Om (Q l a).lf l (a - l) y/\Om (Q a h).lt a (h - a) z/\x=y++z:=by
 have er:(Q l h).lf=(List.range' l (h - l)).flatMap fun a=>pr (Q l a).lf (Q a h).lt:=by
  conv=>lhs;rw[bO lt]
  show(List.range' l (h - l)).flatMap _=_;refine bf fun a ha=>?_;by_cases c:a=l
  . subst c;rw[if_pos rfl,if_pos rfl,bP];congr 1
    rw[bO lt];rfl
  . rw[if_neg c,if_neg c]
 rw[er,p8];have one: ∀a,l<=a->a < h-> ∀x,Om (pr (Q l a).lf (Q a h).lt) l (h - l) x↔ ∃y z,Om (Q l a).lf l (a - l) y/\Om (Q a h).lt a (h - a) z/\x=y++z:=fun a h1 h2 x=>by
  have c1:=(fe (m:=h) (a - l) l a rfl (by lia) (by lia)).2.1;have c2:=((fe (m:=h) (h - a) a h rfl (by lia) (Yx _)).2.2 h2).2;have:=v3 c1 (c2.cast (show a=l+(a - l) by lia) rfl) (x:=x);rw[show a - l+(h - a)=h - l by lia,show l+(a - l)=a by lia] at this;exact this
 constructor
 . rintro⟨a,ha,hx⟩
   have:=Y4.mp ha;obtain⟨u,v,h1,h2,h3⟩:=(one a (by lia) (by lia) x).mp hx;exact⟨a,u,v,by lia,by lia,h1,h2,h3⟩
 . rintro⟨a,u,v,a1,a2,h1,h2,h3⟩
   exact⟨a,Y4.mpr ⟨a1,by lia⟩,(one a a1 a2 x).mpr ⟨u,v,h1,h2,h3⟩⟩
theorem gQ: ∀(d l h:Nat),h - l=d->l<=h->(∀x,Om (Q l h).rg (l+1) (h - l) x↔x∈Fo (l+1) (h - l) l)/\ ∀x,Om (Q l h).lf l (h - l) x↔x∈Fo l (h - l) h:=fun d=>by
 induction d using Nat.strongRecOn with
 | _ d ih=>
  intro l h hd hl;by_cases c:l=h
  . subst c;rw[bP,ag6];exact⟨fun x=>by rw[eW];exact jZ,fun x=>by rw[eW];exact jZ⟩
  have lt:l < h:=by lia
  refine⟨fun x=>?_,fun x=>?_⟩
  . rw[AV lt];constructor
    . rintro⟨a,y,z,a1,a2,hy,hz,rfl⟩
      obtain⟨y',KR,rfl⟩:=(AU a1).mp hy;obtain⟨m,u,v,m1,m2,hu,hv,rfl⟩:=(p7 a1).mp KR;have fu:=((ih (m - l) (by lia) l m rfl m1).1 u).mp hu;have fv:=((ih (a - (m+1)) (by lia) (m+1) a rfl (by lia)).2 v).mp hv;have fz:=((ih (h - a) (by lia) a h rfl a2).1 z).mp hz;have ft:v++l::z∈Tr (m+1) (h - m) l:=j4.mpr ⟨a - (m+1),v,z,by lia,by rw[show m+1+(a - (m+1))=a by lia];exact fv,by rw[show m+1+(a - (m+1))=a by lia,show h - m - (a - (m+1)+1)=h - a by lia];exact fz,rfl⟩;have:=EA (m - l) (h - l) (l+1) l u (v++l::z) (by lia) fu (by rw[show l+1+(m - l)=m+1 by lia,show h - l - (m - l)=h - m by lia];exact ft);rw[show u++v++ [l]++z=u++(v++l::z) by simp];exact this
    . intro hx;obtain⟨e,u,t,he,hu,ht,rfl⟩:=EH (h - l) (l+1) l x (by lia) hx;obtain⟨k,v,z,hk,hv,hz,rfl⟩:=j4.mp ht;have ou:=((ih e (by lia) l (l+e) (by lia) (by lia)).1 u).mpr (by rw[show l+e - l=e by lia];exact hu);have ov:=((ih k (by lia) (l+1+e) (l+1+e+k) (by lia) (by lia)).2 v).mpr (by rw[show l+1+e+k - (l+1+e)=k by lia];exact hv);have oz:=((ih (h - (l+1+e+k)) (by lia) (l+1+e+k) h rfl (by lia)).1 z).mpr (by rw[show h - (l+1+e+k)=h - l - e - (k+1) by lia];exact hz);refine⟨l+1+e+k,u++v++ [l],z,by lia,by lia,(AU (by lia)).mpr ⟨u++v,(p7 (by lia)).mpr ⟨l+e,u,v,by lia,by lia,ou,?_,rfl⟩,rfl⟩,oz,by simp⟩;rw[show l+e+1=l+1+e by lia];exact ov
  . rw[AX lt];constructor
    . rintro⟨a,y,z,a1,a2,hy,hz,rfl⟩
      obtain⟨z',VI,rfl⟩:=(AW a2).mp hz;obtain⟨m,u,v,m1,m2,hu,hv,rfl⟩:=(p7 a2).mp VI;have fy:=((ih (a - l) (by lia) l a rfl a1).2 y).mp hy;have fu:=((ih (m - a) (by lia) a m rfl m1).1 u).mp hu;have fv:=((ih (h - (m+1)) (by lia) (m+1) h rfl (by lia)).2 v).mp hv;have ft:y++h::u∈Tr l (m - l+1) h:=j4.mpr ⟨a - l,y,u,by lia,by rw[show l+(a - l)=a by lia];exact fy,by rw[show l+(a - l)=a by lia,show m - l+1 - (a - l+1)=m - a by lia];exact fu,rfl⟩;refine(fP (by lia)).mpr ⟨m - l,y++h::u,v,by lia,ft,by rw[show l+(m - l)+1=m+1 by lia,show h - l - (m - l+1)=h - (m+1) by lia];exact fv,by simp⟩
    . intro hx;obtain⟨e,t,v,he,ht,hv,rfl⟩:=(fP (by lia)).mp hx;obtain⟨k,y,u,hk,hy,hu,rfl⟩:=j4.mp ht;have oy:=((ih k (by lia) l (l+k) (by lia) (by lia)).2 y).mpr (by rw[show l+k - l=k by lia];exact hy);have ou:=((ih (e - k) (by lia) (l+k) (l+e) (by lia) (by lia)).1 u).mpr (by rw[show l+e - (l+k)=e+1 - (k+1) by lia];exact hu);have ov:=((ih (h - (l+e+1)) (by lia) (l+e+1) h rfl (by lia)).2 v).mpr (by rw[show h - (l+e+1)=h - l - (e+1) by lia];exact hv);exact⟨l+k,y,h::(u++v),by lia,by lia,oy,(AW (by lia)).mpr ⟨u++v,(p7 (by lia)).mpr ⟨l+e,u,v,by lia,by lia,ou,ov,rfl⟩,rfl⟩,by simp⟩
theorem v9(h: ∀x,x∈A↔x∈B):bQ A=bQ B:=by
 cases e:bQ A with
 | none=>exact(cO.mpr fun x hx=>cO.mp e x ((h x).mpr hx)).symm
 | some v=>
  have mv:=(h _).mp (eX e);cases e2:bQ B with
  | none=>have:=cO.mp e2 _ mv;cases this
  | some u=>
   have mu:=(h _).mpr (eX e2);have h1:=mS e mu;have h2:=mS e2 mv;congr 1
   lia
theorem F9(w:Nat->Nat->Wo)(h:(ws a).Perm (List.range' lo n)):wt w a=eO w lo (hg lo n a):=by
 have nd:(ws a).Nodup:=h.nodup_iff.mpr ag3;unfold hg;rw[lK];have e:a.map (fun p=>w p.1 p.2)=(ws a).map fun j=>w j (lk a j):=by
  unfold ws;rw[Y3];refine Y0 fun p hp=>?_;show w p.1 p.2=w p.1 (lk a p.1);rw[oF (x:=p.2) nd hp]
 unfold wt;rw[e];exact rB (h.map _)
theorem wL{w:Nat->Nat->Wo}{S:List Way}{lo n m:Nat}(c:iT S lo n m){L:LL}(h: ∀x,Om S lo n x↔x∈L):ev w S=bQ (L.map (eO w lo)):=by
 unfold ev;refine v9 fun v=>?_;constructor
 . intro hv;obtain⟨a,ha,rfl⟩:=YE.mp hv;exact YE.mpr ⟨hg lo n a,(h _).mp ⟨a,ha,rfl⟩,(F9 w (c.c a ha).1).symm⟩
 . intro hv;obtain⟨x,hx,rfl⟩:=YE.mp hv;obtain⟨a,ha,rfl⟩:=(h _).mpr hx;exact YE.mpr ⟨a,ha,F9 w (c.c a ha).1⟩
theorem Hr(w:Nat->Nat->Wo)(le:l<=h):ev w (Q l h).rg=bQ ((Fo (l+1) (h - l) l).map (eO w (l+1))):=wL (fe (m:=h) (h - l) l h rfl le (Yx _)).1 (gQ _ l h rfl le).1
theorem Ht(w:Nat->Nat->Wo)(le:l<=h):ev w (Q l h).lf=bQ ((Fo l (h - l) h).map (eO w l)):=wL (fe (m:=h) (h - l) l h rfl le (Yx _)).2.1 (gQ _ l h rfl le).2
theorem Gz: ∀(m:Nat),(∀f on x,x∈Fo f m on-> ∀e∈x,e=on\/(f<=e/\e < f+m))/\ ∀f on x,x∈Tr f m on-> ∀e∈x,e=on\/(f<=e/\e < f+m):=fun m=>by
 induction m using Nat.strongRecOn with
 | _ m ih=>
  have hT: ∀f on x,x∈Tr f m on-> ∀e∈x,e=on\/(f<=e/\e < f+m):=fun f on x hx e he=>by
   obtain⟨k,a,b,hk,ha,hb,rfl⟩:=j4.mp hx;rcases Zi.mp he with z | z
   . have:=(ih k (by lia)).1 _ _ _ ha e z;lia
   . rcases YU.mp z with z | z
     . exact .inl z
     . have:=(ih (m - (k+1)) (by lia)).1 _ _ _ hb e z;lia
  refine⟨fun f on x hx e he=>?_,hT⟩;by_cases c:m=0
  . subst c;rw[eW.mp hx] at he;exact absurd he Yy
  . obtain⟨k,t,r,hk,ht,hr,rfl⟩:=(fP (by lia)).mp hx;rcases Zi.mp he with z | z
    . by_cases d:k+1=m
      . rw[d] at ht;exact hT _ _ _ ht e z
      . have:=(ih (k+1) (by lia)).2 _ _ _ ht e z;lia
    . have:=(ih (m - (k+1)) (by lia)).1 _ _ _ hr e z;lia
theorem IJ(lt:l < h)(x:List Nat):Om (Q l h).rt (l+1) (h - l) x↔x∈(Fo (l+1) (h - l) l).filter fun x=>x.getLast?=some l:=by
 rw[aa6,af5];constructor
 . intro hx;refine⟨((gQ _ l h rfl (by lia)).1 x).mp ((AV lt).mpr ⟨h,x,[],lt,Yx _,hx,by rw[bP,ag6];exact jZ.mpr rfl,by simp⟩),?_⟩;obtain⟨y,_,rfl⟩:=(AU lt).mp hx;simp
 . rintro⟨hx,hl⟩
   obtain⟨a,y,z,a1,a2,hy,hz,rfl⟩:=(AV lt).mp (((gQ _ l h rfl (by lia)).1 x).mpr hx);by_cases c:a=h
   . subst c;rw[bP,ag6] at hz;rw[jZ.mp hz,Zw];exact hy
   . have fz:=((gQ _ a h rfl a2).1 z).mp hz;have lz:=(ux _).1 _ _ _ fz;have UH:z≠ []:=fun e=>by rw[e] at lz;simp at lz;lia
     have MZ:z.getLast?=some l:=by
      rw[List.getLast?_append] at hl;cases e:z.getLast? with
      | none=>exact absurd (List.getLast?_eq_none_iff.mp e) UH
      | some v=>rw[e] at hl;exact hl
     have:=(Gz _).1 _ _ _ fz l (List.mem_of_getLast? MZ);lia
theorem IK(lt:l < h)(x:List Nat):Om (Q l h).lt l (h - l) x↔x∈(Fo l (h - l) h).filter fun x=>x.head?=some h:=by
 rw[aa6,af5];constructor
 . intro hx;refine⟨((gQ _ l h rfl (by lia)).2 x).mp ((AX lt).mpr ⟨l,[],x,Yx _,lt,by rw[bP,ag6];exact jZ.mpr rfl,hx,rfl⟩),?_⟩;obtain⟨y,_,rfl⟩:=(AW lt).mp hx;rfl
 . rintro⟨hx,hl⟩
   obtain⟨a,y,z,a1,a2,hy,hz,rfl⟩:=(AX lt).mp (((gQ _ l h rfl (by lia)).2 x).mpr hx);by_cases c:a=l
   . subst c;rw[bP,ag6] at hy;rw[jZ.mp hy];exact hz
   . have fy:=((gQ _ l a rfl a1).2 y).mp hy;have ly:=(ux _).1 _ _ _ fy;cases y with
     | nil=>simp at ly;lia
     | cons e y=>
      have he:e=h:=by simpa using hl
      have:=(Gz _).1 _ _ _ fy e YN;lia
theorem Hq(w:Nat->Nat->Wo)(lt:l < h):ev w (Q l h).rt=bQ (((Fo (l+1) (h - l) l).filter fun x=>x.getLast?=some l).map (eO w (l+1))):=wL ((fe (m:=h) (h - l) l h rfl (by lia) (Yx _)).2.2 lt).1 (IJ lt)
theorem Hs(w:Nat->Nat->Wo)(lt:l < h):ev w (Q l h).lt=bQ (((Fo l (h - l) h).filter fun x=>x.head?=some h).map (eO w l)):=wL ((fe (m:=h) (h - l) l h rfl (by lia) (Yx _)).2.2 lt).2 (IK lt)
noncomputable def aW(n:Nat):List (Nat × Nat):=(List.range' 1 n).flatMap fun l=>(List.range' (l+1) (n - l)).map fun h=>(l,h)
theorem aK:p∈aW n↔1<=p.1/\p.1 < p.2/\p.2<=n:=by
 unfold aW;constructor
 . intro h;obtain⟨l,hl,h⟩:=Zl.mp h;obtain⟨q,hq,rfl⟩:=YE.mp h;have:=Y4.mp hl;have:=Y4.mp hq;exact⟨by dsimp only;lia,by dsimp only;lia,by dsimp only;lia⟩
 . rintro⟨h1,h2,h3⟩
   exact Zl.mpr ⟨p.1,Y4.mpr ⟨h1,by lia⟩,YE.mpr ⟨p.2,Y4.mpr ⟨by lia,by lia⟩,rfl⟩⟩
noncomputable def kJ(p:Nat × Nat):Int × Int:=((p.1:Int),(p.2:Int))
theorem qu{n:Nat}(hp:p.2<=n)(hq:q.2<=n):bD.enc ((n:Int)+1) (kJ p) < bD.enc ((n:Int)+1) (kJ q)↔p.1 < q.1\/(p.1=q.1/\p.2 < q.2):=by
 have:=bD.B8 (B:=(n:Int)+1) (p:=kJ p) (q:=kJ q) ⟨by show(0:Int)<=(p.2:Int);lia,by show(p.2:Int) < _;lia⟩ ⟨by show(0:Int)<=(q.2:Int);lia,by show(q.2:Int) < _;lia⟩;refine(af5 (p:=bD.enc ((n:Int)+1) (kJ p) < bD.enc ((n:Int)+1) (kJ q))).symm.trans ?_;rw[this];show(if (((p.1:Nat):Int)==((q.1:Nat):Int))=true then(if (((p.2:Nat):Int)==((q.2:Nat):Int))=true then false else decide (((p.2:Nat):Int) < ((q.2:Nat):Int))) else decide (((p.1:Nat):Int) < ((q.1:Nat):Int)))=true↔_;by_cases c:p.1=q.1
 . rw[if_pos (by rw[c];exact ag9 _)];by_cases d:p.2=q.2
   . rw[if_pos (by rw[d];exact ag9 _)];constructor
     . intro z;cases z
     . intro z;lia
   . rw[if_neg (by rw[YL];lia),af5];constructor
     . intro z;exact .inr ⟨c,by lia⟩
     . intro z;lia
 . rw[if_neg (by rw[YL];lia),af5];constructor
   . intro z;exact .inl (by lia)
   . intro z;lia
theorem fQ(n:Nat):(aW n).Pairwise fun p q=>p.1 < q.1\/(p.1=q.1/\p.2 < q.2):=by
 unfold aW;rw[List.pairwise_flatMap];refine⟨fun l _=>?_,?_⟩
 . rw[ZT];exact(List.pairwise_lt_range' (s:=_) (n:=_)).imp fun h=> .inr ⟨rfl,h⟩
 . refine(List.pairwise_lt_range' (s:=_) (n:=_)).imp fun h x hx y hy=> .inl ?_;obtain⟨_,_,rfl⟩:=YE.mp hx;obtain⟨_,_,rfl⟩:=YE.mp hy;exact h
theorem dQ{α:Type}{R:α->α->Prop}(QP: ∀a,¬R a a)(N5: ∀a b,R a b-> ¬R b a): ∀{l m:List α},l.Pairwise R->m.Pairwise R->(∀x,x∈l↔x∈m)->l=m
 | [],[],_,_,_=>rfl
 | [],y::m,_,_,h=>absurd ((h y).mpr YN) Yy
 | x::l,[],_,_,h=>absurd ((h x).mp YN) Yy
 | x::l,y::m,hl,hm,h=>by
  obtain⟨a1,a2⟩:=List.pairwise_cons.mp hl;obtain⟨b1,b2⟩:=List.pairwise_cons.mp hm;have e:x=y:=by
   rcases YU.mp ((h x).mp YN) with z | z
   . exact z
   . rcases YU.mp ((h y).mpr YN) with u | u
     . exact u.symm
     . exact absurd (a1 y u) (N5 _ _ (b1 x z))
  subst e;congr 1
  refine dQ QP N5 a2 b2 fun z=>⟨fun hz=>?_,fun hz=>?_⟩
  . rcases YU.mp ((h z).mp (YQ _ hz)) with u | u
    . subst u;exact absurd (a1 z hz) (QP _)
    . exact u
  . rcases YU.mp ((h z).mpr (YQ _ hz)) with u | u
    . subst u;exact absurd (b1 z hz) (QP _)
    . exact u
theorem EN(h:kJ p=kJ q):p=q:=by
 unfold kJ at h;injection h with h1 h2
 exact Prod.ext (by lia) (by lia)
theorem pI{L:List (Nat × Nat)}(nd:L.Nodup)(hL: ∀p,p∈L↔1<=p.1/\p.1 < p.2/\p.2<=n){ms:List (Int × Int)}(pm:ms.Perm (L.map kJ))(so:ms.Pairwise fun q r=>bD.enc ((n:Int)+1) q<=bD.enc ((n:Int)+1) r):ms=(aW n).map kJ:=by
 have Vu:ms.Nodup:=pm.nodup_iff.mpr (ZT.mpr (nd.imp fun h e=>h (EN e)));have mem: ∀q,q∈ms↔q∈(aW n).map kJ:=fun q=>by
  rw[pm.mem_iff,YE,YE];constructor
  . rintro⟨p,hp,rfl⟩;exact⟨p,aK.mpr ((hL p).mp hp),rfl⟩
  . rintro⟨p,hp,rfl⟩;exact⟨p,(hL p).mpr (aK.mp hp),rfl⟩
 have inR: ∀q∈ms,∃p:Nat × Nat,q=kJ p/\p.2<=n:=fun q hq=>by
  obtain⟨p,hp,rfl⟩:=YE.mp ((mem q).mp hq);exact⟨p,rfl,(aK.mp hp).2.2⟩
 refine dQ (R:=fun q r=>bD.enc ((n:Int)+1) q < bD.enc ((n:Int)+1) r) (fun a=>Int.lt_irrefl _) (fun a b h1 h2=>by lia) ?_ ?_ mem
 . rw[ZJ] at so ⊢;intro i j hi hj bN;have h1:=so i j hi hj bN;have h2:ms[i]≠ms[j]:=ZJ.mp Vu i j hi hj bN;obtain⟨p,ep,pn⟩:=inR ms[i] (Zv hi);obtain⟨q,eq,qn⟩:=inR ms[j] (Zv hj);rw[ep,eq] at h1 h2 ⊢;rcases Int.lt_or_le (bD.enc ((n:Int)+1) (kJ p)) (bD.enc ((n:Int)+1) (kJ q)) with z | z
   . exact z
   . exfalso;have n1: ¬bD.enc ((n:Int)+1) (kJ p) < bD.enc ((n:Int)+1) (kJ q):=by lia
     have n2: ¬bD.enc ((n:Int)+1) (kJ q) < bD.enc ((n:Int)+1) (kJ p):=by lia
     rw[qu pn qn] at n1;rw[qu qn pn] at n2;exact h2 (by rw[show p=q from Prod.ext (by lia) (by lia)])
 . rw[ZT];have:=fQ n;rw[ZJ] at this ⊢;intro i j hi hj bN;exact(qu (aK.mp (Zv hi)).2.2 (aK.mp (Zv hj)).2.2).mpr (this i j hi hj bN)
end kg
namespace cn
open PySem L2 LB LD PyProof.Rows
noncomputable def top(i:Nat):Stmt:=PySem.Challenge.pw_hungwords_k16_spans_cut_and_turned.main.body.getD i (.Pass ⟨0,0,0,0⟩)
noncomputable abbrev jX:Stmt:=top 1
noncomputable abbrev fF:Stmt:=top 2
noncomputable abbrev gK:Stmt:=top 3
noncomputable abbrev i3:Stmt:=top 4
noncomputable abbrev ub:Stmt:=top 5
noncomputable abbrev mh:Stmt:=top 6
noncomputable abbrev l9:Stmt:=top 8
noncomputable abbrev iE:Stmt:=top 9
noncomputable abbrev gN:Stmt:=top 10
noncomputable abbrev gO:Stmt:=top 11
noncomputable abbrev gL:Stmt:=top 12
noncomputable abbrev pR:Stmt:=top 14
noncomputable abbrev pQ:Stmt:=top 15
noncomputable abbrev eh:Stmt:=top 16
noncomputable abbrev uc:Stmt:=top 17
noncomputable abbrev pP:Stmt:=top 18
noncomputable abbrev i4:Stmt:=top 19
noncomputable abbrev cu:Stmt:=top 20
noncomputable abbrev rM:Stmt:=top 22
noncomputable abbrev en:Stmt:=top 23
noncomputable abbrev dy:Stmt:=top 24
noncomputable abbrev gM:Stmt:=top 25
noncomputable abbrev HW:Stmt:=top 26
structure Txt(mg:Str->Option Value):Prop where
 gv:mg "isinstance"=none
 len:mg "len"=none
 RO:mg "enumerate"=none
 tup:mg "tuple"=none
 int:mg "int"=none
 bool:mg "bool"=none
 rP:mg "range"=none
 lst:mg "list"=none
 T8:mg "divmod"=none
 S8:mg "repr"=none
 all:mg "all"=none
 str:mg "str"=none
 sum:mg "sum"=none
 zip:mg "zip"=none
 HM:mg "sorted"=none
 max:mg "max"=none
 O2:mg "dict"=none
theorem t9:aM ["worths"] ["worths"] (ae jX):=⟨rfl,rfl,rfl,by decide+kernel,rfl,by decide+kernel,by decide+kernel⟩
theorem ua:aM ["worths"] ["worths"] (ae fF):=⟨rfl,rfl,rfl,by decide+kernel,rfl,by decide+kernel,by decide+kernel⟩
theorem xP:aM ["w","h"] ["w","h"] (ae gK):=⟨rfl,rfl,rfl,by decide+kernel,rfl,by decide+kernel,by decide+kernel⟩
theorem rK:aM ["w","scale"] ["w"] (ae i3):=⟨rfl,rfl,rfl,by decide+kernel,rfl,by decide+kernel,by decide+kernel⟩
theorem pL:aM ["base","many","scale","place"] ["base","many"] (ae ub):=⟨rfl,rfl,rfl,by decide+kernel,rfl,by decide+kernel,by decide+kernel⟩
theorem hZ:aM ["number","base","many","found","place","figure"] ["number","base","many"] (ae mh):=⟨rfl,rfl,rfl,by decide+kernel,rfl,by decide+kernel,by decide+kernel⟩
theorem vJ:aM ["w","right","right_tied","left","left_tied"] ["w"] (ae l9):=⟨rfl,rfl,rfl,by decide+kernel,rfl,by decide+kernel,by decide+kernel⟩
theorem gI:aM ["w","total","h"] ["w"] (ae iE):=⟨rfl,rfl,rfl,by decide+kernel,rfl,by decide+kernel,by decide+kernel⟩
theorem iD:aM ["w","joined","chosen","right","left","right_tied","left_tied","low","high","inner"] ["w","joined","chosen"] (ae gN):=⟨rfl,rfl,rfl,by decide+kernel,rfl,by decide+kernel,by decide+kernel⟩
theorem xQ:aM ["n"] ["n"] (ae gO):=⟨rfl,rfl,rfl,by decide+kernel,rfl,by decide+kernel,by decide+kernel⟩
theorem ox:aM ["w","joined","chosen","right","right_tied","left","left_tied"] ["w","joined","chosen"] (ae gL):=⟨rfl,rfl,rfl,by decide+kernel,rfl,by decide+kernel,by decide+kernel⟩
theorem l5:aM ["_law_script","_law_cells"] ["_law_script"] (ae pR):=⟨rfl,rfl,rfl,by decide+kernel,rfl,by decide+kernel,by decide+kernel⟩
theorem fN:aM ["_law_state","_law_many_here","_law_turn","_law_place","_law_cell","_law_digit","_law_mixed"] ["_law_state","_law_many_here"] (ae pQ):=⟨rfl,rfl,rfl,by decide+kernel,rfl,by decide+kernel,by decide+kernel⟩
theorem pM:aM ["_law_found","_law_due"] ["_law_found","_law_due"] (ae eh):=⟨rfl,rfl,rfl,by decide+kernel,rfl,by decide+kernel,by decide+kernel⟩
theorem vK:aM ["_law_state","_law_few","_law_most","_law_great"] ["_law_state","_law_few","_law_most"] (ae uc):=⟨rfl,rfl,rfl,by decide+kernel,rfl,by decide+kernel,by decide+kernel⟩
theorem rL:aM ["_law_state","_law_way","_law_some"] ["_law_state","_law_way"] (ae pP):=⟨rfl,rfl,rfl,by decide+kernel,rfl,by decide+kernel,by decide+kernel⟩
theorem fE:aM ["_law_state","_law_many_here","_law_way","_law_bare","_law_rows","_law_word","_law_row","_law_on"] ["_law_state","_law_many_here"] (ae i4):=⟨rfl,rfl,rfl,by decide+kernel,rfl,by decide+kernel,by decide+kernel⟩
theorem l4:aM ["_law_w"] ["_law_w"] (ae cu):=⟨rfl,rfl,rfl,by decide+kernel,rfl,by decide+kernel,by decide+kernel⟩
theorem HS:aM ["_law_w","_law_first","_law_last"] ["_law_w","_law_first","_law_last"] (ae rM):=⟨rfl,rfl,rfl,by decide+kernel,rfl,by decide+kernel,by decide+kernel⟩
theorem oA:aM ["_law_rows","_law_first","_law_last","_law_some"] ["_law_rows","_law_first","_law_last"] (ae en):=⟨rfl,rfl,rfl,by decide+kernel,rfl,by decide+kernel,by decide+kernel⟩
theorem iZ:aM ["_law_rows","_law_many_here","_law_found"] ["_law_rows","_law_many_here"] (ae dy):=⟨rfl,rfl,rfl,by decide+kernel,rfl,by decide+kernel,by decide+kernel⟩
theorem cD:aM ["_law_w","_law_rows","_law_many_here","_law_told","_law_best","_law_word","_law_left","_law_right","_law_worth_here"] ["_law_w","_law_rows"] (ae gM):=⟨rfl,rfl,rfl,by decide+kernel,rfl,by decide+kernel,by decide+kernel⟩
theorem iq:aM ["_law_script","_law_state","_law_turn","_law_many_here","_law_w","_law_rows","_law_first","_law_last","_law_told","_law_due","_law_kept"] ["_law_script"] (ae HW):=⟨rfl,rfl,rfl,by decide+kernel,rfl,by decide+kernel,by decide+kernel⟩
end cn
namespace cn
open PySem PySem.Spec L2 LB LD PyProof.Rows kg
theorem uA{c A B:Prop} [Decidable c](hc:c)(h:A):if c then A else B:=by rw[if_pos hc];exact h
theorem uB{c A B:Prop} [Decidable c](hc: ¬c)(h:B):if c then A else B:=by rw[if_neg hc];exact h
noncomputable def aU:Wo->Dt
 | none=> .aI
 | some v=> .int v
def jT:DN:=fun ds Q=> ∃L:List Wo,ds= [.lst (L.map aU)]/\Q (aU (hG L))
def oP:DN:=fun ds Q=> ∃L:List Wo,ds= [.lst (L.map aU)]/\L.length<=sizeLine/\Q (aU (bQ L))
theorem vq(L:List Wo):(L.map aU).all eE=true:=by
 induction L with
 | nil=>rfl
 | cons x xs ih=>rw[YV,aj7,ih,Bool.and_true];cases x <;> rfl
theorem Ga(L:List Wo):inD .aI (L.map aU)=decide (none∈L):=by
 induction L with
 | nil=>rfl
 | cons x xs ih=>
  unfold inD at ih ⊢;rw[YV,ad9,ih];cases x with
  | none=>simp [aU,JP]
  | some v=>simp [aU,JP]
theorem rC: ∀{L:List Wo},none∈L->hG L=none
 | x::xs,h=>by
  rcases YU.mp h with e | e
  . rw[<-e];rfl
  . rw[hG,rC e,xk]
theorem rD: ∀(L:List Wo),none∉L-> ∃ns:List Int,L=ns.map some/\hG L=some ns.sum
 | [],_=>⟨[],rfl,rfl⟩
 | none::xs,h=>absurd YN h
 | some v::xs,h=>by
  obtain⟨ns,e1,e2⟩:=rD xs fun z=>h (YQ _ z);exact⟨v::ns,by rw[e1];rfl,by rw[hG,e2];rfl⟩
theorem DF(ns:List Int):(ns.map some).map aU=ns.map Dt.int:=by rw[Y3];rfl
noncomputable def gH(L:List Wo):List Int:=L.filterMap id
noncomputable def QO:Dt->Bool
 | .aI=>false
 | _=>true
theorem zD(L:List Wo):((L.map aU).filter QO).map id=(gH L).map Dt.int:=by
 induction L with
 | nil=>rfl
 | cons x xs ih=>
  rw[List.map_id] at ih ⊢;cases x with
  | none=>exact ih
  | some v=>show Dt.int v::((xs.map aU).filter QO)=_;rw[ih];rfl
theorem Fh(h:gH L= []):bQ L=none:=cO.mpr fun x hx=>by
 cases x with
 | none=>rfl
 | some v=>
  have:v∈gH L:=af7.mpr ⟨some v,hx,rfl⟩;rw[h] at this;cases this
theorem Fi(h1:m∈gH L)(h2: ∀a∈gH L,a<=m):bQ L=some m:=by
 induction L generalizing m with
 | nil=>cases h1
 | cons x xs ih=>
  cases x with
  | none=>exact ih h1 h2
  | some v=>
   have e:gH (some v::xs)=v::gH xs:=rfl;rw[e] at h1 h2;show mx (some v) (bQ xs)=some m;cases e2:bQ xs with
   | none=>
    have n:gH xs= []:=by
     cases e3:gH xs with
     | nil=>rfl
     | cons a as=>
      have hm:a∈gH xs:=by rw[e3];exact YN
      obtain⟨y,hy,Tw⟩:=af7.mp hm;have:=cO.mp e2 y hy;rw[this] at Tw;cases Tw
    rw[n] at h1;cases YX.mp h1;rfl
   | some u=>
    have hu:some u∈xs:=eX e2;have QZ:u∈gH xs:=af7.mpr ⟨some u,hu,rfl⟩;show some (max v u)=some m;have a1:=h2 v YN;have a2:=h2 u (YQ _ QZ);rcases YU.mp h1 with z | z
    . rw[z] at a2 ⊢;congr 1;omega
    . have:=ih z fun a ha=>h2 a (YQ _ ha);rw[e2] at this;cases this;congr 1;omega
section
variable{P:Program}{w:World}{K:PySem.W.Frag}{mg:Str->Option Value}{base:Heap}
theorem km(F:ip K "together" "together" jX f fd)(T:Txt mg):bp P w K mg base eM 1 f fd ["worths"] (dN jT):=by
 refine tO F t9 (fun ds Qd h=>?_) (fun bZ A outer s H E hr=>⟨_,(aq (dZ (P6 jA (dv 0))
 (aJ (aP jA))
 bR)
 (aJ (aP (Ny rfl T.sum (aa (dv 0) ai))))),fun ds Qd h=>?_⟩)
 . obtain⟨L,rfl,_⟩:=h;rfl
 . obtain⟨L,rfl,q⟩:=h;refine⟨_,rfl,⟨_, .inl rfl,rfl,vq L,?_⟩⟩;rw[Ga];by_cases c:none∈L
   . rw[Zf c];rw[rC c] at q;exact⟨true,rfl,dD q⟩
   . rw[ZI c];obtain⟨ns,e1,e2⟩:=rD L c;rw[e2] at q;exact⟨false,rfl,bF ⟨_,rfl,ns,by rw[e1,DF],q⟩⟩
theorem rY(F:ip K "greatest" "greatest" fF f fd)(T:Txt mg):bp P w K mg base eM 1 f fd ["worths"] (dN oP):=by
 refine tO F ua (fun ds Qd h=>?_) (fun bZ A outer s H E hr=>⟨_,(aJ (aP (JY rfl T.max (aa (Ov.ev (cm (N:= ["worth"]) (nt:=1) (js:= []) ⟨rfl,by decide+kernel,by decide,rfl,by decide+kernel,(by show∀x∈(_:List (Str × NameKind)),x.2=NameKind.free->(ae fF).names.lookup x.1=some .cell\/(ae fF).names.lookup x.1=some .free;decide+kernel)⟩ rfl (iK (dv 0)) (fun _ _ _ _ _=>aE (i:=0) (show(["worth"]:List Str).Nodup by decide+kernel) rfl (by first | exact Or.inl rfl | exact Or.inr rfl)) ba aO (fun _ _ _ _ _=>GO (HH (dv 0))) (fun _ _ _ _ _=>(dv 0)))) ai)))),fun ds Qd h=>?_⟩)
 . obtain⟨L,rfl,_⟩:=h;rfl
 . obtain⟨L,rfl,l,q⟩:=h;refine⟨_,rfl,⟨_,rfl,by rw[Yt];exact l,QO,id,fun d hd=>?_,?_⟩⟩
   . obtain⟨x,_,rfl⟩:=YE.mp hd;refine⟨⟨_,rfl,rfl⟩,?_⟩;cases x with
     | none=>exact⟨_,rfl,false,rfl,rfl,fun z=>by cases z⟩
     | some v=>exact⟨_,rfl,true,rfl,rfl,fun z=>⟨_,rfl,rfl⟩⟩
   . rw[zD];refine⟨_,rfl,fun z=>?_,fun m h1 h2=>?_⟩
     . rw[Fh z] at q;exact q
     . rw[Fi h1 h2] at q;exact q
end
noncomputable def i7(b:Int)(m:Nat):List Int:=(List.range (m+1)).map fun i=>b^i
def zI:DN:=fun ds Q=> ∃(b:Int) (m:Nat),ds= [.int b,.int (m:Int)]/\0<=b/\b < 2^60/\m<=60/\Q (.lst ((i7 b m).reverse.map .int))
noncomputable def shr(B:Int):Nat->Int->Int
 | 0,x=>x
 | k+1,x=>shr B k x / B
theorem Aa(B:Int): ∀(k:Nat) (x:Int),shr B k (x / B)=shr B (k+1) x
 | 0,_=>rfl
 | k+1,x=>by rw[shr,Aa B k x];rfl
theorem oU(B:Int): ∀(k:Nat) (x:Int),kM B (k+1) x=kM B k x++ [shr B k x % B]
 | 0,_=>rfl
 | k+1,x=>by rw[kM,oU B k (x / B),Aa,kM];rfl
theorem sP(B:Int): ∀(k:Nat) (x:Int),(kM B k x).length=k
 | 0,_=>rfl
 | k+1,x=>by rw[kM,YS,sP B k]
def sO:DN:=fun ds Q=> ∃(x b:Int) (m:Nat),ds= [.int x,.int b,.int (m:Int)]/\0 < b/\b < 2^60/\m<=60/\Q (.lst ((kM b m x).reverse.map .int))
inductive W7(b:Int)(m:Nat)(i:Nat)(δ:List Sl):Prop
 | mk (s:Sl) (h1:δ= [.im (.int b),.im (.int (m:Int)),.ow ((i7 b i).map .int),s]) (h2:s.dz=false)
inductive Xl(x b:Int)(m:Nat)(i:Nat)(δ:List Sl):Prop
 | mk (s4 s5:Sl) (h1:δ= [.im (.int (shr b i x)),.im (.int b),.im (.int (m:Int)),.ow ((kM b i x).map .int),s4,s5]) (h2:s4.dz=false) (h3:s5.dz=false)
theorem oD(b:Int)(m:Nat):i7 b (m+1)=i7 b m++ [b^(m+1)]:=by
 unfold i7;rw[List.range_succ,Y6];rfl
section
variable{P:Program}{w:World}{K:PySem.W.Frag}{mg:Str->Option Value}{base:Heap}
theorem AZ(F:ip K "units" "units" ub f fd)(T:Txt mg):bp P w K mg base eM 1 f fd ["base","many"] (dN zI):=by
 refine tO F pL (fun ds Qd h=>?_) (fun bZ A outer s H E hr=>⟨_,(aq (l6 2 pL.nd (rZ (aa ay ai)))
 (aq (l7 rfl (mO T.rP (aa (dv 1) ai)) (j5 3 pL.nd)
 (aJ (jW (mW 2 (pv 2) (aa (Cr (GU 2 (pv 2) (wW ay)) (dv 0)) ai)))) ad5)
 (aq (jW (oW 2 (pv 2)))
 (aJ (vL 2 (aP (dv 2))))))),fun ds Qd h=>?_⟩)
 . obtain⟨b,m,rfl,_⟩:=h;rfl
 . obtain⟨b,m,rfl,b0,b1,m1,q⟩:=h;refine⟨by show 1<=sizeLine;decide,⟨_,rfl,rfl⟩,?_⟩;refine⟨_,rfl,_,rfl,by lia,by lia,?_⟩;refine fR (W7 b m) ⟨.no,by rw[show i7 b 0= [1] from by simp [i7]];rfl,rfl⟩ (fun i d δ hi hP Δ' uE KY=>?_) (fun δ hP=>?_)
   . obtain⟨s,rfl,hs⟩:=hP;have il:i < m:=by have:=(YB.mp hi).1;rw[Yt,Y5] at this;lia
     refine⟨⟨_,rfl,hs⟩,?_⟩;have hl:kO ((i7 b i).map Dt.int) (-1)=some (.int (b^i)):=by
      cases i with
      | zero=>rw[show i7 b 0= [1] from by simp [i7]];rw[Int.pow_zero];exact tD (α:=Dt) [] _
      | succ i=>rw[oD,Y6];exact tD _ _
     refine⟨⟨_,rfl⟩,⟨_,rfl⟩,_,rfl,_,_,_,rfl,rfl,hl,_,rfl,?_⟩;refine⟨_,_,rfl,rfl,.inr ⟨by lia,by lia⟩,_,_,rfl,rfl,?_,uE _ ⟨.im d,?_,rfl⟩⟩
     . rw[Yt];exact YW (show(i7 b i).length < 100 by rw[i7,Yt,Y5];lia) (by decide)
     . rw[oD,Y6,Int.pow_succ];rfl
   . obtain⟨s,rfl,hs⟩:=hP;rw[Yt,Y5,ZD];refine⟨_,rfl,_,rfl,?_⟩;rw[List.map_reverse] at q;exact⟨_,rfl,q⟩
theorem uk(F:ip K "figures" "figures" mh f fd)(T:Txt mg):bp P w K mg base eM 1 f fd ["number","base","many"] (dN sO):=by
 refine tO F hZ (fun ds Qd h=>?_) (fun bZ A outer s H E hr=>⟨_,(aq (l6 3 hZ.nd (rZ ai))
 (aq (l7 rfl (mO T.rP (aa (dv 2) ai)) (j5 4 hZ.nd)
 (aq (Af (Cv T.T8 (aa (dv 0) (aa (dv 1) ai))) (BL 0 5 rfl hZ.nd))
 (aJ (jW (mW 3 (pv 3) (aa (dv 5) ai))))) ad5)
 (aq (jW (oW 3 (pv 3)))
 (aJ (vL 3 (aP (dv 3))))))),fun ds Qd h=>?_⟩)
 . obtain⟨x,b,m,rfl,_⟩:=h;rfl
 . obtain⟨x,b,m,rfl,b0,b1,m1,q⟩:=h;refine⟨by show 0<=sizeLine;decide,⟨_,rfl,rfl⟩,?_⟩;refine⟨_,rfl,_,rfl,by lia,by lia,?_⟩;refine fR (Xl x b m) ⟨.no, .no,rfl,rfl,rfl⟩ (fun i d δ hi hP Δ' uE KY=>?_) (fun δ hP=>?_)
   . obtain⟨s4,s5,rfl,h4,h5⟩:=hP;have il:i < m:=by have:=(YB.mp hi).1;rw[Yt,Y5] at this;lia
     refine⟨⟨_,rfl,h4⟩,?_⟩;refine⟨_,rfl,_,rfl,_,_,rfl,b0,by lia,_,_,rfl,⟨_,rfl,rfl⟩,⟨_,rfl,h5⟩,?_⟩;refine⟨⟨_,rfl⟩,_,rfl,_,_,rfl,rfl,?_,uE _ ⟨.im d,.im (.int (shr b i x % b)),?_,rfl,rfl⟩⟩
     . rw[Yt,sP];exact YW (show i < 100 by lia) (by decide)
     . rw[oU,Y6];rfl
   . obtain⟨s4,s5,rfl,h4,h5⟩:=hP;rw[Yt,Y5,ZD];refine⟨_,rfl,_,rfl,?_⟩;rw[List.map_reverse] at q;exact⟨_,rfl,q⟩
end
noncomputable def OI(p:Nat × Nat):Dt:= .tup [.int (p.1:Int),.int (p.2:Int)]
noncomputable def dI(n:Nat):List (Nat × Nat):=(List.range (n - 1)).flatMap fun k=>(List.range (n - (k+1))).map fun j=>(j+1,j+1+(k+1))
def tj:DN:=fun ds Q=> ∃n:Nat,ds= [.int (n:Int)]/\n<=60/\Q (.lst ((dI n).map OI))
theorem sA{α β:Type}{f:α->List β}{c:Nat}: ∀{l:List α},(∀x∈l,(f x).length<=c)->(l.flatMap f).length<=l.length*c
 | [],_=>by simp
 | x::l,h=>by
  rw[aj4,Y9,YS,Nat.succ_mul];have:=sA (l:=l) fun y hy=>h y (YQ _ hy);have:=h x YN;omega
theorem xc(h:n<=60):(dI n).length < 3601:=by
 have:=sA (f:=fun k=>(List.range (n - (k+1))).map fun j=>(j+1,j+1+(k+1))) (c:=60) (l:=List.range (n - 1)) fun x _=>by rw[Yt,Y5];omega
 rw[Y5] at this;have e:(n - 1)*60<=60*60:=ah2 _ (by omega);unfold dI;omega
noncomputable def wF(n:Nat):Dt->List Dt
 | .int v=>(List.range (n - v.toNat)).map fun j=>OI (j+1,j+1+v.toNat)
 | _=> []
noncomputable def UT(v:Int):Dt->Dt
 | .int u=> .tup [.int u,.int (u+v)]
 | _=> .aI
theorem zH(n:Nat):((List.range ((n:Int) - 1).toNat).map fun k=>Dt.int (1+(k:Nat))).flatMap (wF n)=(dI n).map OI:=by
 unfold dI;rw[List.flatMap_map,List.map_flatMap,show((n:Int) - 1).toNat=n - 1 by omega];congr 1
 funext k
 show(List.range (n - (1+(k:Int)).toNat)).map _=_;rw[show(1+(k:Int)).toNat=k+1 by omega,Y3];rfl
section
variable{P:Program}{w:World}{K:PySem.W.Frag}{mg:Str->Option Value}{base:Heap}
theorem um(F:ip K "by_width" "by_width" gO f fd)(T:Txt mg):bp P w K mg base eM 1 f fd ["n"] (dN tj):=by
 refine tO F xQ (fun ds Qd h=>?_) (fun bZ A outer s H E hr=>⟨_,(aJ (aP (Ov.ev (EE 1 (N:= ["width","low","n"]) (nt:=2) (js:= [0]) ⟨rfl,by decide+kernel,by decide,rfl,by decide+kernel,(by show∀x∈(_:List (Str × NameKind)),x.2=NameKind.free->(ae gO).names.lookup x.1=some .cell\/(ae gO).names.lookup x.1=some .free;decide+kernel)⟩ rfl
 (gV T.rP (aa ay (aa (dv 0) ai))) (fun _ _ _ _ _=>aE (i:=0) (show(["width","low","n"]:List Str).Nodup by decide+kernel) rfl (by first | exact Or.inl rfl | exact Or.inr rfl)) ba aO (fun _ _ _ _ _=>cX) (fun _ _ _ _ _=>(gV T.rP (aa ay (aa (bW (eZ (dv 2) (dv 0)) ay) ai)))) (fun _ _ _ _ _=>aE (i:=1) (show(["width","low","n"]:List Str).Nodup by decide+kernel) rfl (by first | exact Or.inl rfl | exact Or.inr rfl)) yx aO (fun _ _ _ _ _=>cX) (fun _ _ _ _ _=>(bL (aa (dv 1) (aa (bW (dv 1) (dv 0)) ai)))))))),fun ds Qd h=>?_⟩)
 . obtain⟨n,rfl,_⟩:=h;rfl
 . obtain⟨n,rfl,n1,q⟩:=h;refine⟨_,rfl,_,_,rfl,⟨by decide,by decide,by lia,by lia⟩,?_⟩;refine⟨wF n,?_,fun d hd=>?_,?_⟩
   . rw[zH,Yt];exact YW (xc n1) (by decide)
   . obtain⟨k,hk,rfl⟩:=YE.mp hd;have kl:k < n - 1:=by have:=Zp.mp hk;omega
     refine⟨⟨_,rfl,rfl⟩,?_⟩;simp only [GV,if_true];refine⟨_,rfl,_,rfl,_,_,rfl,rfl,_,_,rfl,rfl,_,_,rfl,⟨by decide,by decide,by lia,by lia⟩,fun _=>true,UT (1+(k:Int)),fun e he=>?_,?_⟩
     . obtain⟨j,_,rfl⟩:=YE.mp he;refine⟨⟨_,rfl,rfl⟩,rfl,fun _=>?_⟩;exact⟨_,rfl,_,rfl,_,rfl,_,_,rfl,rfl,by show 2<=sizeLine;decide,rfl⟩
     . rw[Zx.mpr fun _ _=>rfl,Y3];show(List.range (n - (1+(k:Int)).toNat)).map _=_;rw[show(1+(k:Int)).toNat=k+1 by omega,show((n:Int) - (1+(k:Int))+1 - 1).toNat=n - (k+1) by omega];refine Y0 fun j _=>?_;show Dt.tup [.int ((j+1:Nat):Int),.int ((j+1+(k+1):Nat):Int)]=Dt.tup [.int (1+(j:Int)),.int (1+(j:Int)+(1+(k:Int)))];rw[show((j+1:Nat):Int)=1+(j:Int) by omega,show((j+1+(k+1):Nat):Int)=1+(j:Int)+(1+(k:Int)) by omega]
   . show Qd (.lst _);rw[zH];exact q
end
noncomputable def cC(n:Nat)(w:Nat->Nat->Wo)(i:Nat):Dt:= .tup ((List.range (n+1)).map fun o=>aU (w i o))
noncomputable def dw(n:Nat)(w:Nat->Nat->Wo):Dt:= .tup ((List.range' 1 n).map (cC n w))
noncomputable def xI(x:Nat):Dt:= .int (x:Int)
noncomputable def GJ(h:List Nat):Dt:= .tup (h.map xI)
def q0:DN:=fun ds Q=> ∃(n:Nat) (w:Nat->Nat->Wo) (h:List Nat),ds= [dw n w,GJ h]/\h.length=n/\(∀x∈h,x<=n)/\n<=60/\Q (aU (qT w h))
theorem ue{n:Nat}{w:Nat->Nat->Wo}(h:x<=n):kO ((List.range (n+1)).map fun o=>aU (w i o)) (x:Int)=some (aU (w i x)):=
 aZ (j:=x) (by rw[YC,Zr (by omega)];rfl)
noncomputable def Nr:Dt->Dt
 | .tup [.tup ds,.int v]=>(kO ds v).getD .aI
 | _=> .aI
theorem vn: ∀{h:List Nat} {i:Nat},(∀x∈h,x<=n)->(fh ((List.range' i h.length).map (cC n w)) (h.map xI)).map Nr=(List.zipWith w (List.range' i h.length) h).map aU
 | [],_,_=>rfl
 | x::h,i,hx=>by
  have ih:=vn (n:=n) (w:=w) (h:=h) (i:=i+1) fun y hy=>hx y (YQ _ hy);rw[YS,List.range'_succ,YV,YV,ag0,YV,<-ih];unfold fh;rw[ag0,YV];congr 1
  show(kO ((List.range (n+1)).map fun o=>aU (w i o)) (x:Int)).getD .aI=_;rw[ue (hx x YN)];rfl
theorem zt: ∀{h:List Nat} {i:Nat} {d:Dt},d∈fh ((List.range' i h.length).map (cC n w)) (h.map xI)-> ∃j x,x∈h/\d= .tup [cC n w j,xI x]
 | [],_,d,hd=>by cases hd
 | x::h,i,d,hd=>by
  rw[YS,List.range'_succ,YV,YV] at hd;unfold fh at hd;rw[ag0] at hd;rcases YU.mp hd with e | e
  . exact⟨i,x,YN,e⟩
  . obtain⟨j,y,hy,e⟩:=zt (i:=i+1) e;exact⟨j,y,YQ _ hy,e⟩
theorem vy: ∀{h:List Nat} {i:Nat},hG (List.zipWith w (List.range' i h.length) h)=eO w i h
 | [],_=>rfl
 | x::h,i=>by rw[YS,List.range'_succ,ag0,hG,vy,eO]
section
variable{P:Program}{w:World}{K:PySem.W.Frag}{mg:Str->Option Value}{base:Heap}
theorem ui(F:ip K "worth_of" "worth_of" gK f fd)(T:Txt mg)(y4:ik P w K mg base "together" 1 ["worths"] (dN jT)):bp P w K mg base eM 2 f fd ["w","h"] (dN q0):=by
 refine tO F xP (fun ds Qd h=>?_) (fun bZ A outer s H E hr=>⟨_,(aJ (aP (cz y4 (hr.mono (by decide)) (aa (Ov.ev (cm (N:= ["row","on"]) (nt:=2) (js:= []) ⟨rfl,by decide+kernel,by decide,rfl,by decide+kernel,(by show∀x∈(_:List (Str × NameKind)),x.2=NameKind.free->(ae gK).names.lookup x.1=some .cell\/(ae gK).names.lookup x.1=some .free;decide+kernel)⟩ rfl (wy (aa (dv 0) (aa (dv 1) ai)) fun z=>pY (by rfl) T.zip z) (fun _ _ _ _ _=>et rfl (aN (aE (i:=0) (show(["row","on"]:List Str).Nodup by decide+kernel) rfl (by first | exact Or.inl rfl | exact Or.inr rfl)) (aN (aE (i:=1) (show(["row","on"]:List Str).Nodup by decide+kernel) rfl (by first | exact Or.inl rfl | exact Or.inr rfl)) cI))) dh bU (fun _ _ _ _ _=>cX) (fun _ _ _ _ _=>(eQ (dv 0) (dv 1))))) ai)))),fun ds Qd h=>?_⟩)
 . obtain⟨n,w,h,rfl,_⟩:=h;rfl
 . obtain⟨n,w,h,rfl,l,hx,n1,q⟩:=h;subst l;refine⟨_,rfl,_,rfl,true,true,_,_,rfl,?_⟩;have zl:(fh ((List.range' 1 h.length).map (cC h.length w)) (h.map xI)).length<=60:=by
    unfold fh;rw[List.length_zipWith,Yt,Yt,YZ];omega
   refine⟨YT zl (by decide),fun _=>true,Nr,fun d hd=>?_,?_⟩
   . obtain⟨j,x,hm,rfl⟩:=zt hd;refine⟨_,_,rfl,⟨_,rfl,rfl⟩,⟨_,rfl,rfl⟩,rfl,fun _=>?_⟩;exact⟨_,rfl,_,rfl,_,_,_,.inr rfl,rfl,ue (hx x hm),by show aU (w j x)=(kO _ _).getD _;rw[ue (hx x hm)];rfl⟩
   . rw[Zx.mpr fun _ _=>rfl,vn hx];exact⟨_,rfl,by rw[vy];exact q⟩
end
theorem z0{env:Env}: ∀x∈([]:List (Str × NameKind)),x.2= .free->env.kindOf x.1=some .cell\/env.kindOf x.1=some .free:=fun x hx=>absurd hx Yy
theorem vH{env:Env}{p:Str × NameKind}(h:p.2≠ .free)(r: ∀x∈l,x.2= .free->env.kindOf x.1=some .cell\/env.kindOf x.1=some .free): ∀x∈p::l,x.2= .free->env.kindOf x.1=some .cell\/env.kindOf x.1=some .free:=fun x hx e=>by
 rcases YU.mp hx with z | z
 . subst z;exact absurd e h
 . exact r x z e
theorem vG{env:Env}{p:Str × NameKind}(h:env.kindOf p.1=some .cell\/env.kindOf p.1=some .free)(r: ∀x∈l,x.2= .free->env.kindOf x.1=some .cell\/env.kindOf x.1=some .free): ∀x∈p::l,x.2= .free->env.kindOf x.1=some .cell\/env.kindOf x.1=some .free:=fun x hx e=>by
 rcases YU.mp hx with z | z
 . subst z;exact h
 . exact r x z e
def Sm(w:Nat->Nat->Wo):Prop:= ∀i o v,w i o=some v-> -(2^60) < v/\v < 2^60
def vO:DN:=fun ds Q=> ∃(n:Nat) (w:Nat->Nat->Wo),ds= [dw n w]/\n<=60/\Sm w/\Q (dw n (wr n w))
noncomputable def L1(n i:Nat):Dt->Dt
 | .tup [.int o,.int v]=> .int (v*((n:Int)+1)^n - o*((n:Int)+1)^(n - i))
 | _=> .aI
noncomputable def S9(n:Nat):Dt->Dt
 | .tup [.int i,.tup ds]=> .tup ((cf 0 ds).map (L1 n i.toNat))
 | _=> .aI
theorem qt(h:d∈cf k ds): ∃j e,ds[j]?=some e/\d= .tup [.int ((j+k:Nat):Int),e]:=by
 unfold cf at h;obtain⟨j,hj,e⟩:=List.mem_mapIdx.mp h;exact⟨j,_,Ys hj,e.symm⟩
theorem Ib(n:Nat)(w:Nat->Nat->Wo)(i:Nat):(cf 0 ((List.range (n+1)).map fun o=>aU (w i o))).map (L1 n i)=(List.range (n+1)).map fun o=>aU (wr n w i o):=by
 apply ZN;intro j;unfold cf;rw[YC,ah3,YC,YC];cases e:(List.range (n+1))[j]? with
 | none=>rfl
 | some o=>
  have:o=j:=by
   have:=YB.mp e;obtain⟨h1,h2⟩:=this;rw[List.getElem_range] at h2;exact h2.symm
  subst this;show some (L1 n i (.tup [.int ((o+0:Nat):Int),aU (w i o)]))=some (aU (wr n w i o));unfold wr;cases w i o <;> rfl
theorem Ie(n:Nat)(w:Nat->Nat->Wo):(cf 1 ((List.range' 1 n).map (cC n w))).map (S9 n)=(List.range' 1 n).map (cC n (wr n w)):=by
 apply ZN;intro j;unfold cf;rw[YC,ah3,YC,YC];cases e:(List.range' 1 n)[j]? with
 | none=>rfl
 | some i=>
  have:i=j+1:=by
   obtain⟨h1,h2⟩:=YB.mp e;rw[List.getElem_range'] at h2;omega
  subst this;show some (Dt.tup ((cf 0 _).map (L1 n (((j+1:Nat):Int)).toNat)))=some (cC n (wr n w) (j+1));rw[ZD,Ib];rfl
theorem Ay{n k:Nat}(h:k<=n):kO ((i7 ((n:Int)+1) n).reverse.map Dt.int) (k:Int)=some (.int (((n:Int)+1)^(n - k))):=
 aZ (j:=k) (by
  unfold i7;rw[YC,ag8 (by rw[Yt,Y5];omega),Yt,Y5,YC,Zr (by omega)];rw[show n+1 - 1 - k=n - k by omega];rfl)
section
variable{P:Program}{w:World}{K:PySem.W.Frag}{mg:Str->Option Value}{base:Heap}
theorem xZ(F:ip K "ranked" "ranked" i3 f fd)(T:Txt mg)(vc:ik P w K mg base "units" 1 ["base","many"] (dN zI)):bp P w K mg base eM 2 f fd ["w"] (dN vO):=by
 refine tO F rK (fun ds Qd h=>?_) (fun bZ A outer s H E hr=>⟨_,(aq (dY 1 rK.nd (cz vc (hr.mono (by decide)) (aa (bW (fb T.len (aa (dv 0) ai)) ay) (aa (fb T.len (aa (dv 0) ai)) ai))))
 (aJ (aP (jz T.tup (aa (Ov.ev (cm (N:= ["word","row","scale"]) (nt:=2) (js:= [1]) ⟨rfl,by decide+kernel,by decide,rfl,by decide+kernel,(by show∀x∈(_:List (Str × NameKind)),x.2=NameKind.free->(ae i3).names.lookup x.1=some .cell\/(ae i3).names.lookup x.1=some .free;decide+kernel)⟩ rfl (wz T.RO (aa (dv 0) ai) ay) (fun _ _ _ _ _=>et rfl (aN (aE (i:=0) (show(["word","row","scale"]:List Str).Nodup by decide+kernel) rfl (by first | exact Or.inl rfl | exact Or.inr rfl)) (aN (aE (i:=1) (show(["word","row","scale"]:List Str).Nodup by decide+kernel) rfl (by first | exact Or.inl rfl | exact Or.inr rfl)) cI))) dh bU (fun _ _ _ _ _=>cX) (fun _ _ _ _ _=>(jz T.tup (aa (Ov.ev (cm (N:= ["on","worth","scale","word"]) (nt:=2) (js:= [2,0]) ⟨rfl,by decide+kernel,by decide,rfl,by decide+kernel,(by repeat (first | exact z0 | refine vG (by first | exact Or.inl rfl | exact Or.inr rfl) ?_ | refine vH (fun z=>nomatch z) ?_))⟩ rfl (ES T.RO (aa (dv 1) ai)) (fun _ _ _ _ _=>et rfl (aN (aE (i:=0) (show(["on","worth","scale","word"]:List Str).Nodup by decide+kernel) rfl (by first | exact Or.inl rfl | exact Or.inr rfl)) (aN (aE (i:=1) (show(["on","worth","scale","word"]:List Str).Nodup by decide+kernel) rfl (by first | exact Or.inl rfl | exact Or.inr rfl)) cI))) dh bU (fun _ _ _ _ _=>cX) (fun _ _ _ _ _=>(ig (lX (dv 1)) jA (eZ (Cr (dv 1) (eQ (dv 2) ay)) (Cr (dv 0) (eQ (dv 2) (dv 3)))))))) ai))))) ai))))),fun ds Qd h=>?_⟩)
 . obtain⟨n,w,rfl,_⟩:=h;rfl
 . obtain⟨n,w,rfl,n1,sm,q⟩:=h;have hl:((List.range' 1 n).map (cC n w)).length=n:=by rw[Yt,YZ]
   have MZ:(cf 1 ((List.range' 1 n).map (cC n w))).length=n:=by unfold cf;rw[ai5,hl]
   refine⟨_,rfl,_,.inr rfl,_,_,rfl,rfl,_,rfl,_,.inr rfl,?_⟩;rw[hl];refine⟨(n:Int)+1,n,rfl,by lia,by lia,n1,⟨_,rfl,rfl⟩,?_⟩;refine⟨_,rfl,_,rfl,rfl,by rw[MZ];exact YT n1 (by decide),fun _=>true,S9 n,fun d hd=>?_,?_⟩
   . obtain⟨j,e,he,rfl⟩:=qt hd;have jl:j < n:=by have:=(YB.mp he).1;rw[hl] at this;exact this
     have ee:e=cC n w (j+1):=by
      rw[YC,ZL jl] at he;have:=(Option.some.inj he).symm;rw[this];congr 1;omega
     subst ee;have rl:(cf 0 ((List.range (n+1)).map fun o=>aU (w (j+1) o))).length=n+1:=by unfold cf;rw[ai5,Yt,Y5]
     refine⟨_,_,rfl,⟨_,rfl,rfl⟩,⟨_,rfl,rfl⟩,rfl,fun _=>?_⟩;refine⟨_,rfl,_,rfl,by rw[rl];exact YT (show n+1<=61 by omega) (by decide),fun _=>true,L1 n (j+1),fun d hd=>?_,?_⟩
     . obtain⟨o,e,he,rfl⟩:=qt hd;have ol:o<=n:=by have:=(YB.mp he).1;rw[Yt,Y5] at this;omega
       have ee:e=aU (w (j+1) o):=by
        rw[YC,Zr (by omega)] at he;exact(Option.some.inj he).symm
       subst ee;refine⟨_,_,rfl,⟨_,rfl,rfl⟩,⟨_,rfl,rfl⟩,rfl,fun _=>?_⟩;cases ew:w (j+1) o with
       | none=>exact⟨_,rfl,true,rfl,dD rfl⟩
       | some v=>
        have vs:=sm _ _ _ ew;refine⟨_,rfl,false,rfl,bF ?_⟩;have o1:y8 ((o+0:Nat):Int) (((n:Int)+1)^(n - (j+1))):= .inl ⟨by lia,by lia⟩;have v1:y8 v (((n:Int)+1)^(n - 0)):= .inl ⟨by lia,by lia⟩;exact⟨_,rfl,_,rfl,_,_,_,.inl rfl,rfl,Ay (k:=0) (Za _),_,_,rfl,rfl,v1,_,rfl,_,rfl,_,rfl,_,_,_,.inl rfl,rfl,Ay (k:=j+1) jl,_,_,rfl,rfl,o1,_,_,rfl,rfl,rfl⟩
     . rw[Zx.mpr fun _ _=>rfl];exact⟨_,.inl rfl,rfl⟩
   . rw[Zx.mpr fun _ _=>rfl,Ie];exact⟨_,.inl rfl,q⟩
end
noncomputable def Vg(r:Rs):Dt:= .tup [.int r.1,GJ r.2]
noncomputable def Tf:Option Rs->Dt
 | none=> .aI
 | some r=>Vg r
end cn
namespace cn
open PySem PySem.Spec L2 LB LW LD PyProof.Rows
section
variable{P:Program}{w:World}{K:PySem.W.Frag}{mg:Str->Option Value}{base:Heap}
theorem Et(F:ip K "_law_take" "_law_take" pQ f fd)(T:Txt mg):bp P w K mg base eM 1 f fd ["_law_state","_law_many_here"] zZ:=by
 refine F.ok fN (fun vs H Q E h=>?_) (fun bZ A outer s H vs Q E hr h=>?_)
 . obtain⟨d,c,t,m,rfl,_⟩:=h;rfl
 . obtain⟨d,c,t,m,rfl,B,ht,OT,VZ,q⟩:=h;have hu:=cw hr;have Ti:=B.ne;have t0:=B.t0;obtain⟨ns,hc,EV,GH⟩:=B.cs;refine⟨_,bK (dB (i:=2) fN.nd rfl (Or.inl rfl) (cJ mw (i8 hu (pv 0) iG (fun _ _=>rfl)) bT))
    (bK (vT hu (pv 0) iG (pv 2) rfl)
    (bK (dB (i:=3) fN.nd rfl (Or.inl rfl) (cJ jY (pv 2) (i9 jF (by rfl) T.len PySem.boot_len (ah (i8 hu (pv 0) iG (fun _ _=>rfl)) aF))))
    (bK (dB (i:=4) fN.nd rfl (Or.inl rfl) (AK qg (i8 hu (pv 0) iG (fun _ _=>rfl)) (pv 3) (fun _ _=>rfl)))
    (bK (As (pU Ml (pv 4) (cJ II bT bT) (fO _))
     (bK (pX (i9 jG (by rfl) T.T8 qG (ah (pv 4) (ah (pv 1) aF))) (et rfl (aN (AF (i8 hu (pv 0) iG (fun _ _=>rfl)) (pv 3) set_list) (aN (aE (i:=5) fN.nd rfl (Or.inl rfl)) cI))))
      (i6 (pW (pv 5)))) pV)
    (bK (dB (i:=6) fN.nd rfl (Or.inl rfl) (cJ jY (cJ iI (cJ mw (cJ mw (cJ jY (pv 4) bT) (cJ iI (cJ iI (pv 2) (pv 2)) bT)) bT) bT) bT))
    (bK (dB (i:=6) fN.nd rfl (Or.inl rfl) (cJ jY (cJ iI (pv 6) (pv 6)) bT))
    (i6 (pW (cJ jY (cJ En (cJ jY (cJ iI (cJ mw (pv 6) (cJ iI (pv 2) bT)) bT) bT) bT) (pv 1)))))))))),?_⟩
   refine⟨_,rfl,d,_,rfl,by rw[<-FT c t];exact kW.k (k:=Sum.inr "turn") B.dc,_,_,rfl,rfl,?_⟩;refine⟨_,rfl,_,rfl,d,_,rfl,kU.k (k:=Sum.inr "turn") B.dc (by show 2 < sizeLine;decide),?_⟩;rw[Kj];have K3:(upd H d (.dK (bx c (t+1)))) d=some (.dK (bx c (t+1))):=af;have Fb:(upd H d (.dK (bx c (t+1)))) c=some (.lst (ns.map V.int)):=by rw[ag Ti.symm];exact hc
   have gc:kW (upd H d (.dK (bx c (t+1)))) d (.str "cells") (some (.ref c)):=by rw[<-tq c (t+1)];exact kW.k (k:=Sum.inr "cells") K3
   have hl:(0:Int) < ((ns.map V.int).length:Int):=by rw[Yt];lia
   refine⟨_,rfl,_,rfl,d,_,rfl,gc,c,_,rfl,.inl (cY.of Fb),_,_,rfl,rfl,hl,?_⟩;have MT:0<=(t+1) % ((ns.map V.int).length:Int):=Int.emod_nonneg _ (by lia);have KZ:(t+1) % ((ns.map V.int).length:Int) < ((ns.map V.int).length:Int):=ai6 _ hl;obtain⟨cell,ky⟩: ∃cell,(ns.map V.int)[((t+1) % ((ns.map V.int).length:Int)).toNat]?=some (V.int cell):=by
    have XN:((t+1) % ((ns.map V.int).length:Int)).toNat < ns.length:=by rw[Yt] at MT KZ ⊢;lia
    exact⟨ns[((t+1) % ((ns.map V.int).length:Int)).toNat],by simp⟩
   refine⟨_,rfl,d,_,rfl,gc,_,rfl,c,_,_,_,rfl,rfl,cY.of Fb,FX MT ky,?_⟩;refine⟨_,rfl,_,_,rfl,rfl,(show KG 10 18 from by unfold KG;decide),_,_,rfl,rfl,_,rfl,?_⟩;refine QK (fun _=>?_) (fun _=>?_)
   . refine⟨_,rfl,_,rfl,_,_,rfl,⟨OT,VZ⟩,fun p hp=>?_⟩;have hd2:(upd (upd H d (.dK (bx c (t+1)))) p (.tup [.int (cell / m), .int (cell % m)])) d=some (.dK (bx c (t+1))):=by rw[ag (aj K3 hp)];exact K3
     have Dr:(upd (upd H d (.dK (bx c (t+1)))) p (.tup [.int (cell / m),.int (cell % m)])) c=some (.lst (ns.map V.int)):=by rw[ag (aj Fb hp)];exact Fb
     refine⟨p,_,rfl,dE.of af,rfl,_,_,rfl,?_⟩;refine⟨_,rfl,d,_,rfl,by rw[<-tq c (t+1)];exact kW.k (k:=Sum.inr "cells") hd2,_,rfl,c,_,_,_,rfl,rfl,Dr,wo MT KZ,?_⟩;refine⟨_,_,rfl,rfl,?_⟩;refine⟨_,rfl,?_⟩;refine q _ _ (Int.emod_nonneg _ (by lia)) (ai6 _ OT) ⟨by rw[ag Ti];exact hd2,⟨ns.set ((t+1) % ((ns.map V.int).length:Int)).toNat (cell / m),?_,by rw[Y7];exact EV,by rw[Y7];exact GH⟩,by lia,by lia⟩ fun b o e h1 h2=>?_
     . rw[af,List.map_set]
     . have e1:(upd H d (.dK (bx c (t+1)))) b=some o:=by rw[ag h1];exact e
       rw[ag h2,ag (aj e1 hp)];exact e1
   . refine⟨_,rfl,_,_,rfl,rfl,(by show(0:Int) < 2147483629;decide),_,rfl,_,rfl,_,_,rfl,rfl, .inl ⟨by lia,by lia⟩,_,_,rfl,rfl, .inr ⟨by decide,by decide⟩,_,_,rfl,rfl,_,_,rfl,rfl,_,_,rfl,rfl, .inr ⟨by decide,by decide⟩,_,_,rfl,rfl,(by show(0:Int) < 2147483647;decide),?_⟩;generalize TH:((cell % 2147483629+(t+1)*(t+1)*7919+11)*48271 % 2147483647:Int)=mx;have m0:0<=mx:=by rw[<-TH];exact Int.emod_nonneg _ (by decide)
     have m1:mx < 2147483647:=by rw[<-TH];exact ai6 _ (by decide)
     refine⟨_,rfl,_,rfl,_,_,rfl,rfl,.inl ⟨by lia,by lia⟩,_,_,rfl,rfl,(by show(0:Int) < 2147483587;decide),?_⟩;refine⟨_,rfl,_,rfl,_,_,rfl,rfl,.inr ⟨by decide,by decide⟩,_,_,rfl,rfl,_,_,rfl,rfl,.inr ⟨by decide,by decide⟩,_,_,rfl,rfl,(by show(0:Int) < 2147483629;decide),_,_,rfl,rfl,⟨by decide,by decide⟩,_,rfl,_,_,rfl,rfl,OT,?_⟩;refine q _ _ (Int.emod_nonneg _ (by lia)) (ai6 _ OT) ⟨K3,⟨ns,Fb,EV,GH⟩,by lia,by lia⟩ fun b o e h1 h2=>?_;rw[ag h1];exact e
theorem A8(F:ip K "_law_begin" "_law_begin" pR f fd)(T:Txt mg):bp P w K mg base eM 1 f fd ["_law_script"] (pH K):=by
 refine F.ok l5 (fun vs H Q E h=>?_) (fun bZ A outer s H vs Q E hr h=>?_)
 . obtain⟨a,ns,rfl,_⟩:=h;rfl
 . obtain⟨a,ns,rfl,hS,hn,q⟩:=h;have hu:=cw hr;refine⟨_,bK (dB (i:=1) l5.nd rfl (Or.inl rfl) (ic qC (by rfl) T.lst bB (ah (rW DU (pv 0) vW (vV bT)) aF)))
    (bK (As (pU (oE hr.zJ) (pv 1) (pZ aF) (fO _)) (i6 (dB (i:=1) l5.nd rfl (Or.inl rfl) (pZ (ah bT aF)))) pV)
    (i6 (pW (Ej (rV iG (pv 1) (rV iG bT Ec)) rfl rfl (by simp) (by decide))))),?_⟩
   refine⟨_,rfl,_,rfl,a,_,rfl,hS,fun p hp=>?_⟩;have RP:mX (ns.map V.int) none (some 63)=ns.map V.int:=by
    unfold mX;rw[HT.mf,show((63:Int))=((63:Nat):Int) from rfl,HT.i5,List.drop_zero,ai2,Yt];exact List.take_of_length_le (by rw[Yt];lia)
   rw[RP];refine⟨p,_,rfl,.inl (cY.of af),fun l hl=>?_⟩;have s1:aC H (upd (upd H p (.lst (ns.map V.int))) l (.lst (ns.map V.int))):=fun b o e=>by
    have e1:(upd H p (.lst (ns.map V.int))) b=some o:=by rw[ag (aj e hp)];exact e
    rw[ag (aj e1 hl)];exact e1
   have Ri:(upd (upd H p (.lst (ns.map V.int))) l (.lst (ns.map V.int))) l=some (.lst (ns.map V.int)):=af;generalize upd (upd H p (.lst (ns.map V.int))) l (.lst (ns.map V.int))=H1 at s1 Ri;refine⟨_,rfl,Za _,fun e0 Wi=>?_⟩;have s2:aC H1 (upd H1 e0 (.lst [])):=fun b o e=>by rw[ag (aj e Wi)];exact e
   refine⟨l,e0,_,rfl,rfl,cY.of (s2 _ _ Ri),cY.of af,_,rfl,?_⟩;have fin: ∀(g:Addr) (ms:List Int) (H2:Hp),aC H H2->H2 g=some (.lst (ms.map V.int))->0 < ms.length->ms.length<=63->Gh [(tC (.str "cells"),gG 1),(tC (.str "turn"),tC (.int 0))] [some (.ref a),some (.ref g)] H2 Q:=fun g ms H2 s3 hg h1 h2=>by
    intro d hd;have nd:g≠d:=aj hg hd;refine⟨_,rfl,af,[(Sum.inr "cells",.ref g),(Sum.inr "turn",.int 0)],rfl,by show 2<=15;decide,?_⟩;have em:iJ [] [((Sum.inr "cells":Key),V.ref g),(Sum.inr "turn",V.int 0)]=bx g 0:=by
     simp [iJ,putK,bx,QI]
    rw[em];refine q d g _ ⟨af,⟨ms,by rw[ag nd,ag nd];exact hg,h1,h2⟩,ZV _,by decide⟩ fun b o e=>?_;have e1:=s3 b o e;rw[ag (aj e1 hd),ag (aj e1 hd)];exact e1
   cases Di:ns with
   | nil=>
    refine dD ⟨by show 1<=sizeLine;decide,fun g hg=>?_⟩;refine fin g [7] _ (fun b o e=>?_) af (by decide) (by decide);have e1:=s2 _ _ (s1 b o e);rw[ag (aj e1 hg)];exact e1
   | cons n0 nr=>
    refine bF ?_;exact fin l ns _ (fun b o e=>s2 _ _ (s1 b o e)) (s2 _ _ Ri) (by rw[Di];simp) hn
theorem A3(F:ip K "_law_take" "_law_take" pQ f fd)(T:Txt mg):bp P w K mg base eM 1 f fd ["_law_state","_law_many_here"] (t6 om):=(Et F T).imp fun _ _ _ _ h=>DM h
end
end cn
namespace cn
open PySem PySem.Spec L2 LB LD PyProof.Rows
inductive Dh:Dt->Prop
 | aI:Dh .aI
 | int (i:Int):Dh (.int i)
 | bl (b:Bool):Dh (.bl b)
def HU:DN:=fun ds Q=> ∃d,ds= [d,d]/\Dh d/\Q (.bl true)
def Gw:DB:=fun t ds Q=>ds= [.int 8,.int 12]/\t+2<=1000000/\ ∀n:Nat,1<=n->n<=12->Q (xI n) (t+2)
def zC:DB:=fun t ds Q=> ∃y:Nat,ds= [xI y]/\y < 4/\t+3<=1000000/\ ∀i:Int,i.natAbs<=2000000000->Q (.int i) (t+3)
section
variable{P:Program}{w:World}{K:PySem.W.Frag}{mg:Str->Option Value}{base:Heap}
theorem A7(F:ip K "_law_same" "_law_same" eh f fd)(T:Txt mg):bp P w K mg base eM 1 f fd ["_law_found","_law_due"] (dN HU):=by
 refine tO F pM (fun ds Qd h=>?_) (fun bZ A outer s H E hr=>⟨_,(aq (dZ (lX (dv 1))
 (aJ (aP (Cs (dv 0))))
 bR)
 (aq (dZ (PW.pt (w_or (dH (aX (T:="list") (by decide) T.gv (ah (dv 1) (ah (aH (v:= .ty "list") (by rfl) T.lst bB rfl) aF)))) (lN (dH (aX (T:="tuple") (by decide) T.gv (ah (dv 1) (ah (aH (v:= .ty "tuple") (by rfl) T.tup a8 rfl) aF)))))))
 (aq (dZ (PW.pt (w_or (tW (aX (T:="list") (by decide) T.gv (ah (dv 0) (ah (aH (v:= .ty "list") (by rfl) T.lst bB rfl) aF))) (aX (T:="list") (by decide) T.gv (ah (dv 1) (ah (aH (v:= .ty "list") (by rfl) T.lst bB rfl) aF)))) (lN (tW (aX (T:="tuple") (by decide) T.gv (ah (dv 0) (ah (aH (v:= .ty "tuple") (by rfl) T.tup a8 rfl) aF))) (aX (T:="tuple") (by decide) T.gv (ah (dv 1) (ah (aH (v:= .ty "tuple") (by rfl) T.tup a8 rfl) aF)))))))
 (aJ (aP uR))
 bR)
 (aJ (aP (eF (j7 (fb T.len (aa (dv 0) ai)) (fb T.len (aa (dv 1) ai))) (gm (Cy rfl T.all (aa (Ov.ev (cm (N:= ["_law_one","_law_other"]) (nt:=2) (js:= []) ⟨rfl,by decide+kernel,by decide,rfl,by decide+kernel,(by show∀x∈(_:List (Str × NameKind)),x.2=NameKind.free->(ae eh).names.lookup x.1=some .cell\/(ae eh).names.lookup x.1=some .free;decide+kernel)⟩ rfl (wy (aa (dv 0) (aa (dv 1) ai)) fun z=>pY (by rfl) T.zip z) (fun _ _ _ _ _=>et rfl (aN (aE (i:=0) (show(["_law_one","_law_other"]:List Str).Nodup by decide+kernel) rfl (by first | exact Or.inl rfl | exact Or.inr rfl)) (aN (aE (i:=1) (show(["_law_one","_law_other"]:List Str).Nodup by decide+kernel) rfl (by first | exact Or.inl rfl | exact Or.inr rfl)) cI))) dh bU (fun _ _ _ _ _=>cX) (fun _ _ _ _ _=>Fq))) ai)))))))
 bR)
 (aq (dZ (dH (aX (T:="str") (by decide) T.gv (ah (dv 1) (ah (aH (v:= .ty "str") (by rfl) T.str dS rfl) aF))))
 (aJ (aP (eF (aX (T:="str") (by decide) T.gv (ah (dv 0) (ah (aH (v:= .ty "str") (by rfl) T.str dS rfl) aF))) (gm (j7 (dv 0) (dv 1))))))
 bR)
 (aq (dZ (dH (aX (T:="bool") (by decide) T.gv (ah (dv 1) (ah (aH (v:= .ty "bool") (by rfl) T.bool bJ rfl) aF))))
 (aJ (aP (eF (aX (T:="bool") (by decide) T.gv (ah (dv 0) (ah (aH (v:= .ty "bool") (by rfl) T.bool bJ rfl) aF))) (gm (j7 (dv 0) (dv 1))))))
 bR)
 (aJ (aP (eF (aX (T:="int") (by decide) T.gv (ah (dv 0) (ah (aH (v:= .ty "int") (by rfl) T.int j9 rfl) aF))) (eF (Cq (aX (T:="bool") (by decide) T.gv (ah (dv 0) (ah (aH (v:= .ty "bool") (by rfl) T.bool bJ rfl) aF)))) (gm (j7 (dv 0) (dv 1))))))))))),fun ds Qd h=>?_⟩)
 . obtain⟨d,rfl,_⟩:=h;rfl
 . obtain⟨d,rfl,a,q⟩:=h;cases a with
   | aI=>exact⟨_,rfl,_,rfl,dD ⟨_,rfl,q⟩⟩
   | int i=>
    refine⟨_,rfl,_,rfl,bF ⟨_,rfl,_,rfl,_,rfl,bF ⟨_,rfl,_,rfl,_,rfl,bF ⟨_,rfl,_,rfl,_,rfl,bF ⟨_,rfl,_,rfl,_,rfl,bF ?_⟩⟩⟩⟩⟩;exact⟨_,rfl,_,rfl,_,rfl,dD ⟨_,rfl,_,rfl,_,rfl,_,rfl,dD ⟨_,rfl,_,rfl,true,(show some (decide _)=some true from ZA some (Zf rfl)),q⟩⟩⟩
   | bl b=>
    refine⟨_,rfl,_,rfl,bF ⟨_,rfl,_,rfl,_,rfl,bF ⟨_,rfl,_,rfl,_,rfl,bF ⟨_,rfl,_,rfl,_,rfl,bF ⟨_,rfl,_,rfl,_,rfl,dD ?_⟩⟩⟩⟩⟩;exact⟨_,rfl,_,rfl,_,rfl,dD ⟨_,rfl,_,rfl,true,(show some (decide _)=some true from ZA some (Zf rfl)),q⟩⟩
theorem Eu(F:ip K "_law_many" "_law_many" uc f fd)(T:Txt mg)(dq:ik P w K mg base "_law_take" 1 ["_law_state","_law_many_here"] (t6 om)):bp P w K mg base eM 2 f fd ["_law_state","_law_few","_law_most"] (t6 Gw):=by
 refine RG F vK (fun t ds Qd h=>?_) (fun bZ A outer s H E hr=>⟨_,(aq (dY 3 vK.nd (j7 (fH 0 dq (hr.mono (by decide)) (pv 0) (aa ay ai)) ay))
 (aJ (aP (bW ay (fH 0 dq (hr.mono (by decide)) (pv 0) (aa (ig (dH (dv 3)) (dv 2) (dv 1)) ai)))))),fun t ds Qd h=>?_⟩)
 . obtain⟨rfl,_⟩:=h;rfl
 . obtain⟨rfl,ht,q⟩:=h;refine⟨⟨_,rfl⟩,_,rfl,_,rfl,by lia,by decide,by decide,fun r h0 h1=>⟨_,rfl,⟨_,rfl,rfl⟩,⟨_,rfl⟩,_,rfl,_,rfl,?_⟩⟩;have fin: ∀r:Int,0<=r->r < 12->Qd (.int (1+r)) (t+1+1):=fun r h0 h1=>by
    have:=q (1+r).toNat (by lia) (by lia);rw[show(xI (1+r).toNat:Dt)= .int (1+r) by show Dt.int _=_;congr 1;lia,show t+2=t+1+1 by lia] at this;exact this
   by_cases c:r=0
   . exact uA (Zf c) ⟨_,rfl,_,rfl,_,rfl,by lia,by decide,by decide,fun r h0 h1=>⟨_,_,rfl,rfl,_,rfl,fin r h0 h1⟩⟩
   . exact uB (fun z=>c (Ze z)) ⟨_,rfl,_,rfl,_,rfl,by lia,by decide,by decide,fun r h0 h1=>⟨_,_,rfl,rfl,_,rfl,fin r h0 (by lia)⟩⟩
theorem AY(F:ip K "_law_worth" "_law_worth" pP f fd)(T:Txt mg)(dq:ik P w K mg base "_law_take" 1 ["_law_state","_law_many_here"] (t6 om)):bp P w K mg base eM 2 f fd ["_law_state","_law_way"] (t6 zC):=by
 refine RG F rL (fun t ds Qd h=>?_) (fun bZ A outer s H E hr=>⟨_,(aq (l6 2 rL.nd (rZ (aa (fH 0 dq (hr.mono (by decide)) (pv 0) (aa ay ai)) (aa (eZ (fH 0 dq (hr.mono (by decide)) (pv 0) (aa ay ai)) ay) (aa (eZ (fH 0 dq (hr.mono (by decide)) (pv 0) (aa ay ai)) ay) (aa ay ai))))))
 (aJ (aP (GU 2 (pv 2) (dv 1))))),fun t ds Qd h=>?_⟩)
 . obtain⟨y,rfl,_⟩:=h;rfl
 . obtain⟨y,rfl,hy,ht,q⟩:=h;refine⟨⟨_,rfl⟩,_,rfl,_,rfl,by lia,by decide,by decide,fun r1 a1 a2=>⟨⟨_,rfl⟩,_,rfl,_,rfl,by lia,by decide,by decide,fun r2 b1 b2=>⟨_,_,rfl,rfl,⟨_,rfl⟩,_,rfl,_,rfl,by lia,by decide,by decide,fun r3 c1 c2=>⟨_,_,rfl,rfl,?_⟩⟩⟩⟩;refine⟨by show 4<=sizeLine;decide,⟨_,rfl,rfl⟩,⟨_,rfl⟩,_,rfl,?_⟩;have q': ∀i:Int,i.natAbs<=2000000000->Qd (.int i) (t+1+1+1):=fun i hi=>by rw[show t+1+1+1=t+3 by lia];exact q i hi
   match y,hy with
   | 0,_=>exact⟨_,_,_,rfl,rfl,aZ (j:=0) rfl,_,rfl,q' _ (by lia)⟩
   | 1,_=>exact⟨_,_,_,rfl,rfl,aZ (j:=1) rfl,_,rfl,q' _ (by lia)⟩
   | 2,_=>exact⟨_,_,_,rfl,rfl,aZ (j:=2) rfl,_,rfl,q' _ (by lia)⟩
   | 3,_=>exact⟨_,_,_,rfl,rfl,aZ (j:=3) rfl,_,rfl,q' _ (by lia)⟩
end
end cn
namespace cn
open PySem PySem.Spec L2 LB LD PyProof.Rows kg
def jV(A:Dt->Prop):DN:=fun ds Q=> ∃d,ds= [d,d]/\A d/\Q (.bl true)
def Up(A:Dt->Prop)(d:Dt):Prop:=Dh d\/ ∃es,d= .tup es/\(∀e∈es,A e)/\es.length<=100
theorem qV(h:d∈fh es es): ∃e∈es,d= .tup [e,e]:=by
 unfold fh at h;rw[List.zipWith_self] at h;obtain⟨e,he,z⟩:=YE.mp h;exact⟨e,he,z.symm⟩
section
variable{P:Program}{w:World}{K:PySem.W.Frag}{mg:Str->Option Value}{base:Heap}
theorem xY(F:ip K "_law_same" "_law_same" eh f fd)(T:Txt mg)(nu:ik P w K mg base "_law_same" k ["_law_found","_law_due"] (dN (jV A0))):bp P w K mg base eM (k+1) f fd ["_law_found","_law_due"] (dN (jV (Up A0))):=by
 refine tO F pM (fun ds Qd h=>?_) (fun bZ A outer s H E hr=>⟨_,(aq (dZ (lX (dv 1))
 (aJ (aP (Cs (dv 0))))
 bR)
 (aq (dZ (PW.pt (w_or (dH (aX (T:="list") (by decide) T.gv (ah (dv 1) (ah (aH (v:= .ty "list") (by rfl) T.lst bB rfl) aF)))) (lN (dH (aX (T:="tuple") (by decide) T.gv (ah (dv 1) (ah (aH (v:= .ty "tuple") (by rfl) T.tup a8 rfl) aF)))))))
 (aq (dZ (PW.pt (w_or (tW (aX (T:="list") (by decide) T.gv (ah (dv 0) (ah (aH (v:= .ty "list") (by rfl) T.lst bB rfl) aF))) (aX (T:="list") (by decide) T.gv (ah (dv 1) (ah (aH (v:= .ty "list") (by rfl) T.lst bB rfl) aF)))) (lN (tW (aX (T:="tuple") (by decide) T.gv (ah (dv 0) (ah (aH (v:= .ty "tuple") (by rfl) T.tup a8 rfl) aF))) (aX (T:="tuple") (by decide) T.gv (ah (dv 1) (ah (aH (v:= .ty "tuple") (by rfl) T.tup a8 rfl) aF)))))))
 (aJ (aP uR))
 bR)
 (aJ (aP (eF (j7 (fb T.len (aa (dv 0) ai)) (fb T.len (aa (dv 1) ai))) (gm (Cy rfl T.all (aa (Ov.ev (cm (N:= ["_law_one","_law_other"]) (nt:=2) (js:= []) ⟨rfl,by decide+kernel,by decide,rfl,by decide+kernel,(by show∀x∈(_:List (Str × NameKind)),x.2=NameKind.free->(ae eh).names.lookup x.1=some .cell\/(ae eh).names.lookup x.1=some .free;decide+kernel)⟩ rfl (wy (aa (dv 0) (aa (dv 1) ai)) fun z=>pY (by rfl) T.zip z) (fun _ _ _ _ _=>et rfl (aN (aE (i:=0) (show(["_law_one","_law_other"]:List Str).Nodup by decide+kernel) rfl (by first | exact Or.inl rfl | exact Or.inr rfl)) (aN (aE (i:=1) (show(["_law_one","_law_other"]:List Str).Nodup by decide+kernel) rfl (by first | exact Or.inl rfl | exact Or.inr rfl)) cI))) dh bU (fun _ _ _ _ _=>cX) (fun _ _ _ _ _=>(cz nu (hr.mono (Yx _)) (aa (dv 0) (aa (dv 1) ai)))))) ai)))))))
 bR)
 (aq (dZ (dH (aX (T:="str") (by decide) T.gv (ah (dv 1) (ah (aH (v:= .ty "str") (by rfl) T.str dS rfl) aF))))
 (aJ (aP (eF (aX (T:="str") (by decide) T.gv (ah (dv 0) (ah (aH (v:= .ty "str") (by rfl) T.str dS rfl) aF))) (gm (j7 (dv 0) (dv 1))))))
 bR)
 (aq (dZ (dH (aX (T:="bool") (by decide) T.gv (ah (dv 1) (ah (aH (v:= .ty "bool") (by rfl) T.bool bJ rfl) aF))))
 (aJ (aP (eF (aX (T:="bool") (by decide) T.gv (ah (dv 0) (ah (aH (v:= .ty "bool") (by rfl) T.bool bJ rfl) aF))) (gm (j7 (dv 0) (dv 1))))))
 bR)
 (aJ (aP (eF (aX (T:="int") (by decide) T.gv (ah (dv 0) (ah (aH (v:= .ty "int") (by rfl) T.int j9 rfl) aF))) (eF (Cq (aX (T:="bool") (by decide) T.gv (ah (dv 0) (ah (aH (v:= .ty "bool") (by rfl) T.bool bJ rfl) aF)))) (gm (j7 (dv 0) (dv 1))))))))))),fun ds Qd h=>?_⟩)
 . obtain⟨d,rfl,_⟩:=h;rfl
 . obtain⟨d,rfl,a | ⟨es,rfl,ax,l⟩,q⟩:=h
   . cases a with
     | aI=>exact⟨_,rfl,_,rfl,dD ⟨_,rfl,q⟩⟩
     | int i=>
      refine⟨_,rfl,_,rfl,bF ⟨_,rfl,_,rfl,_,rfl,bF ⟨_,rfl,_,rfl,_,rfl,bF ⟨_,rfl,_,rfl,_,rfl,bF ⟨_,rfl,_,rfl,_,rfl,bF ?_⟩⟩⟩⟩⟩;exact⟨_,rfl,_,rfl,_,rfl,dD ⟨_,rfl,_,rfl,_,rfl,_,rfl,dD ⟨_,rfl,_,rfl,true,(show some (decide _)=some true from ZA some (Zf rfl)),q⟩⟩⟩
     | bl b=>
      refine⟨_,rfl,_,rfl,bF ⟨_,rfl,_,rfl,_,rfl,bF ⟨_,rfl,_,rfl,_,rfl,bF ⟨_,rfl,_,rfl,_,rfl,bF ⟨_,rfl,_,rfl,_,rfl,dD ?_⟩⟩⟩⟩⟩;exact⟨_,rfl,_,rfl,_,rfl,dD ⟨_,rfl,_,rfl,true,(show some (decide _)=some true from ZA some (Zf rfl)),q⟩⟩
   . refine⟨_,rfl,_,rfl,bF ⟨_,rfl,_,rfl,_,rfl,bF ⟨_,rfl,_,rfl,_,rfl,dD ?_⟩⟩⟩;refine⟨_,rfl,_,rfl,_,rfl,_,rfl,true,rfl,_,rfl,bF ⟨_,rfl,_,rfl,_,rfl,_,rfl,true,rfl,_,rfl,bF ?_⟩⟩;refine⟨_,rfl,_, .inr rfl,_,rfl,_, .inr rfl,true,(show some (decide _)=some true from ZA some (Zf rfl)),_,rfl,dD ?_⟩;have zl:(fh es es).length<=100:=by unfold fh;rw[List.zipWith_self,Yt];exact l
     refine⟨_,rfl,_,rfl,true,true,_,_,rfl,YT zl (by decide),fun _=>true,fun _=> .bl true,fun e he=>?_,?_⟩
     . obtain⟨x,hx,rfl⟩:=qV he;exact⟨_,_,rfl,⟨_,rfl,rfl⟩,⟨_,rfl,rfl⟩,rfl,fun _=>⟨_,rfl,_,rfl,_,rfl,ax x hx,rfl⟩⟩
     . rw[Zx.mpr fun _ _=>rfl];refine⟨List.replicate (fh es es).length true,?_,?_⟩
       . rw[List.map_const',List.map_replicate]
       . rw[show(List.replicate (fh es es).length true).all id=true from ab4.mpr fun x hx=>(List.mem_replicate.mp hx).2];exact q
end
noncomputable def Gk(r:List Wo):Dt:= .tup (r.map aU)
def Lc(n:Nat)(r:List Wo):Prop:=r.length=n+1/\ ∀v,some v∈r->v.natAbs<=2000000000
def La(n:Nat)(T:List (List Wo)):Prop:= ∀j r,T[j]?=some r->Lc n r/\r[j+1]?=some none
def pe(n:Nat)(w:Nat->Nat->Wo):Prop:=(∀i o v,w i o=some v->v.natAbs<=2000000000)/\ ∀i,w i i=none
def zN:DB:=fun t ds Q=> ∃n:Nat,ds= [xI n]/\1<=n/\n<=12/\t+700<=1000000/\ ∀(w:Nat->Nat->Wo) (t':Int),t'<=t+700->pe n w->Q (dw n w) t'
def W8(n y b:Nat)(t:Int)(i:Nat)(δ:List Sl):Prop:= ∃(T:List (List Wo)) (t':Int) (s5 s6 s7:Sl),δ= [.bx t',.im (xI n),.im (xI y),.im (xI b),.ow (T.map Gk),s5,s6,s7]/\s5.dz=false/\s6.dz=false/\s7.dz=false/\T.length=i/\La n T/\t'<=t+2+52*i
def W9(n y b:Nat)(T:List (List Wo))(wd:Nat)(t:Int)(k:Nat)(δ:List Sl):Prop:= ∃(r:List Wo) (t':Int) (s7:Sl),δ= [.bx t',.im (xI n),.im (xI y),.im (xI b),.ow (T.map Gk),.im (xI wd),.ow (r.map aU),s7]/\s7.dz=false/\Lc n r/\(wd < k->r[wd]?=some none)/\t'<=t+k
noncomputable def xK(T:List (List Wo))(i o:Nat):Wo:=match i with
 | 0=>none
 | k+1=>(((T[k]?).getD [])[o]?).join
theorem HG{T:List (List Wo)}(l:T.length=n)(h:La n T): .tup (T.map Gk)=dw n (xK T):=by
 unfold dw;congr 1
 refine ZN fun j=>?_;rw[YC,YC];by_cases c:j < n
 . have c':j < T.length:=by lia
   rw[ZL c,Ys c'];show some (Gk T[j])=some (cC n (xK T) (1+1*j));congr 1
   unfold Gk cC;congr 1
   have hr:=(h j _ (Ys c')).1;refine ZN fun o=>?_;rw[YC,YC];by_cases d:o < n+1
   . have d':o < T[j].length:=by rw[hr.1];exact d
     rw[Zr d,Ys d'];show some (aU (T[j])[o])=some (aU (xK T (1+1*j) o));rw[show 1+1*j=j+1 by lia];show _=some (aU (((T[j]?).getD [])[o]?).join);rw[Ys c'];show _=some (aU ((T[j])[o]?).join);rw[Ys d'];rfl
   . rw[Zj (by rw[hr.1];lia),Zj (by rw[Y5];lia)];rfl
 . rw[Zj (by lia),Zj (by rw[YZ];lia)];rfl
theorem vD(h:xK T i o=some v): ∃k r,i=k+1/\T[k]?=some r/\r[o]?=some (some v):=by
 cases i with
 | zero=>cases h
 | succ k=>
  have h:(((T[k]?).getD [])[o]?).join=some v:=h;cases e:T[k]? with
  | none=>rw[e] at h;cases h
  | some r=>
   rw[e] at h;exact⟨k,r,rfl,e,by
    cases e2:r[o]? with
    | none=>rw[show(some r).getD []=r from rfl,e2] at h;cases h
    | some x=>rw[show(some r).getD []=r from rfl,e2] at h;exact ZA some h⟩
theorem DO(h:La n T):pe n (xK T):=by
 refine⟨fun i o v e=>?_,fun i=>?_⟩
 . obtain⟨k,r,rfl,e1,e2⟩:=vD e;exact(h k r e1).1.2 v (Zd e2)
 . cases e:xK T i i with
   | none=>rfl
   | some v=>
    obtain⟨k,r,rfl,e1,e2⟩:=vD e;rw[(h k r e1).2] at e2;cases e2
theorem La.snoc(h:La n T)(hr:Lc n r)(he:r[T.length+1]?=some none):La n (T++ [r]):=fun j r' e=>by
 by_cases c:j < T.length
 . rw[Y1 c] at e;exact h j r' e
 . rw[Y8 (by lia)] at e;have:j - T.length=0:=by
    cases z:j - T.length with
    | zero=>rfl
    | succ m=>rw[z] at e;simp at e
   rw[this] at e;cases e;have:j=T.length:=by lia
   subst this;exact⟨hr,he⟩
theorem Lc.set(h:Lc n r)(k:Nat):Lc n (r.set k none):=⟨by rw[Y7];exact h.1,fun v hv=>by
 rcases List.mem_or_eq_of_mem_set hv with z | z
 . exact h.2 v z
 . cases z⟩
theorem RL:eq2 (xI x) (xI y)=some (decide (x=y)):=by
 show some (decide ((x:Int)=(y:Int)))=_;congr 1
 by_cases c:x=y
 . rw[Zf c,Zf (by lia)]
 . rw[ZI c,ZI (by lia)]
theorem QJ(h:k < n):wq n (k:Int)=some k:=by
 have:=wo (n:=n) (i:=(k:Int)) (by lia) (by lia);rw[this,ZD]
theorem getNat{r:Int}{m:Nat}(h:0<=r)(h2:r < (m:Int)): ∃k:Nat,r=(k:Int)/\k < m:=⟨r.toNat,by lia,by lia⟩
theorem Ia:((List.range m).map fun k=>Dt.int (1+(k:Nat)))=(List.range' 1 m).map xI:=by
 rw[List.range'_eq_map_range,Y3];refine Y0 fun k _=>?_;show Dt.int _=Dt.int _;congr 1
theorem L0:((List.range m).map fun k=>Dt.int (0+(k:Nat)))=(List.range m).map xI:=by
 refine Y0 fun k _=>?_;show Dt.int _=Dt.int _;congr 1
 lia
section
variable{P:Program}{w:World}{K:PySem.W.Frag}{mg:Str->Option Value}{base:Heap}
theorem A4(F:ip K "_law_table" "_law_table" i4 f fd)(T:Txt mg)(dq:ik P w K mg base "_law_take" 1 ["_law_state","_law_many_here"] (t6 om))(F2:ik P w K mg base "_law_worth" 2 ["_law_state","_law_way"] (t6 zC)):bp P w K mg base eM 3 f fd ["_law_state","_law_many_here"] (t6 zN):=by
 refine RG F fE (fun t ds Qd h=>?_) (fun bZ A outer s H E hr=>⟨_,(aq (DX 2 3 rfl fE.nd (yu (fH 0 dq (hr.mono (by decide)) (pv 0) (aa ay ai)) (yu (eQ (kB (aa ay (aa ay (aa ay (aa ay (aa ay ai)))))) (fH 0 dq (hr.mono (by decide)) (pv 0) (aa ay ai))) BE)))
 (aq (l6 4 fE.nd (rZ ai))
 (aq (l7 rfl (gV T.rP (aa ay (aa (bW (dv 1) ay) ai))) (j5 5 fE.nd)
 (aq (DY 6 1 0 fE.nd (N:= ["_law_on","_law_state","_law_way"]) (nt:=1) (js:= [0,2]) ⟨rfl,by decide+kernel,by decide,rfl,by decide+kernel,(by show∀x∈(_:List (Str × NameKind)),x.2=NameKind.free->(ae i4).names.lookup x.1=some .cell\/(ae i4).names.lookup x.1=some .free;decide+kernel)⟩ rfl (mO T.rP (aa (bW (dv 1) ay) ai)) (fun _ _ _ _ _=>aE (i:=0) (show(["_law_on","_law_state","_law_way"]:List Str).Nodup by decide+kernel) rfl (by first | exact Or.inl rfl | exact Or.inr rfl)) ba aO (fun _ _ _ _ _=>(fH 1 F2 (hr.mono (by decide)) (pv 1) (aa (dv 2) ai))))
 (aq (l7 rfl (mO T.rP (aa (bW (dv 1) ay) ai)) (j5 7 fE.nd)
 (aJ (dZ (PW.pt (w_or (Lz (dv 7) (dv 5)) (lN (PW.pt (w_and (Ly (dv 3) ay) (zG (Lz (fH 0 dq (hr.mono (by decide)) (pv 0) (aa (dv 3) ai)) ay)))))))
 (aJ (HV 6 jA (pv 6) (dv 7)))
 bR)) ad5)
 (aJ (jW (mW 4 (pv 4) (aa (Co 6 T.tup (pv 6)) ai)))))) ad5)
 (aJ (aP (Co 4 T.tup (pv 4))))))),fun t ds Qd h=>?_⟩)
 . obtain⟨n,rfl,_⟩:=h;rfl
 . obtain⟨n,rfl,n1,eP,ht,q⟩:=h;refine⟨⟨_,rfl⟩,_,rfl,_,rfl,by lia,by decide,by decide,fun y y0 y1=>?_⟩;obtain⟨y,rfl,hy⟩:=getNat (m:=4) y0 y1;refine⟨by show 5<=sizeLine;decide,⟨_,rfl⟩,_,rfl,_,rfl,by lia,by decide,by decide,fun r h0 h1=>?_⟩;obtain⟨z,rfl,hz⟩:=getNat (m:=5) h0 h1;obtain⟨b,em,m2⟩: ∃m:Nat,[Dt.int 0,Dt.int 0,Dt.int 8,Dt.int 3,Dt.int 2][z]?=some (xI m)/\m<=8:=by
    match z,hz with
    | 0,_=>exact⟨0,rfl,by decide⟩
    | 1,_=>exact⟨0,rfl,by decide⟩
    | 2,_=>exact⟨8,rfl,by decide⟩
    | 3,_=>exact⟨3,rfl,by decide⟩
    | 4,_=>exact⟨2,rfl,by decide⟩
   refine⟨_,_,xI b,.inl rfl,rfl,aZ em,_,_,rfl,⟨_,rfl,rfl⟩,⟨_,rfl,rfl⟩,?_⟩;dsimp only;refine⟨by show 0<=sizeLine;decide,⟨_,rfl,rfl⟩,?_⟩;refine⟨_,rfl,_,_,rfl,rfl,1,(n:Int)+1,rfl,⟨by decide,by decide,by lia,by lia⟩,?_⟩;rw[show((n:Int)+1 - 1).toNat=n by lia,Ia];refine fR (W8 n y b t) ⟨[],_,.no,.no,.no,rfl,rfl,rfl,rfl,rfl,fun j r hr=>by simp at hr,by lia⟩ (fun i d δ hi hP Δ' uE KY=>?_) (fun δ hP=>?_)
   . obtain⟨t0,t',s5,s6,s7,rfl,b5,b6,b7,tl,tk,TC⟩:=hP;rw[YC] at hi;obtain⟨wd,QW,rfl⟩:=ab0.mp hi;have il:i < n:=by have:=(YB.mp QW).1;simpa using this
     have ew:wd=i+1:=by
      rw[ZL il] at QW;have:=Option.some.inj QW;lia
     subst ew;refine⟨⟨_,rfl,b5⟩,?_⟩;refine⟨_,rfl,_,_,rfl,rfl,_,rfl,by lia,by lia,?_⟩;rw[show((n:Int)+1).toNat=n+1 by lia,L0];refine⟨t',fun k acc t3=> ∃r:List Wo,acc=r.map aU/\r.length=k/\(∀v,some v∈r->v.natAbs<=2000000000)/\t3=t'+3*k,rfl,⟨[],rfl,rfl,fun v hv=>absurd hv Yy,by lia⟩,fun k d acc t3 hk hP=>?_,fun acc t3 hP=>?_⟩
     . obtain⟨r,rfl,rl,rb,rfl⟩:=hP;have kl:k < n+1:=by have:=(YB.mp hk).1;simpa using this
       refine⟨by rw[Yt];exact YW (show r.length < 100 by lia) (by decide),⟨_,rfl,rfl⟩,rfl,⟨_,rfl⟩,_,rfl,_,rfl,y,rfl,hy,by lia,fun v hv=>?_⟩;refine⟨_,rfl,r++ [some v],by rw[Y6];rfl,by rw[Y9,rl];rfl,fun u hu=>?_,by lia⟩;rcases Zi.mp hu with z | z
       . exact rb u z
       . cases YX.mp z;exact hv
     . obtain⟨r,rfl,rl,rb,rfl⟩:=hP;rw[Yt,Y5] at rl ⊢;refine⟨⟨_,rfl,b6⟩,?_⟩;refine⟨_,rfl,_,_,rfl,rfl,_,rfl,by lia,by lia,?_⟩;rw[show((n:Int)+1).toNat=n+1 by lia,L0];refine fR (W9 n y b t0 (i+1) (t'+3*((n+1:Nat):Int))) ⟨r,_,s7,rfl,b7,⟨rl,rb⟩,fun z=>absurd z (Nat.not_lt_zero _),by lia⟩ (fun j d δ hj hP Δ2 OS wD=>?_) (fun δ hP=>?_)
       . obtain⟨r,Gi,s7,rfl,b7,rk,rn,MN⟩:=hP;rw[YC] at hj;obtain⟨on,Q9,rfl⟩:=ab0.mp hj;have jl:j < n+1:=by have:=(YB.mp Q9).1;rw[Y5] at this;exact this
         have eo:on=j:=by
          rw[Zr jl] at Q9;exact(Option.some.inj Q9).symm
         subst eo;have yes: ∀t3:Int,t3<=Gi+1->GY 6 (dC Dt.aI) (J1 7) Δ2 [.bx t3,.im (xI n),.im (xI y),.im (xI b),.ow (t0.map Gk),.im (xI (i+1)),.ow (r.map aU),.im (xI on)]:=fun t3 h3=>by
          refine⟨⟨_,rfl⟩,_,rfl,_,_,on,rfl,rfl,by rw[Yt];exact QJ (by rw[rk.1];exact jl),OS _ ⟨r.set on none,t3,.im (xI on),?_,rfl,rk.set on,fun z=>?_,by lia⟩⟩
          . rw[List.map_set];rfl
          . by_cases c:on=i+1
            . subst c;rw[YO (by rw[rk.1];exact jl)]
            . rw[YF c];exact rn (by lia)
         have no: ∀t3:Int,on≠i+1->t3<=Gi+1->Δ2.nx [.bx t3,.im (xI n),.im (xI y),.im (xI b),.ow (t0.map Gk),.im (xI (i+1)),.ow (r.map aU),.im (xI on)]:=fun t3 c h3=>OS _ ⟨r,t3,.im (xI on),rfl,rfl,rk,fun z=>rn (by lia),by lia⟩;refine⟨⟨_,rfl,b7⟩,_,rfl,_,rfl,_,RL,_,rfl,?_⟩;by_cases c:on=i+1
         . exact uA (Zf c) (dD (yes Gi (by lia)))
         . refine uB (fun z=>c (Ze z)) ⟨_,rfl,_,_,rfl,rfl,_,rfl,?_⟩;by_cases e:(b:Int) > 0
           . refine uA (Zf e) ⟨⟨_,rfl⟩,_,rfl,_,rfl,_,rfl,by lia,e,by lia,fun v v0 v1=>⟨_,rfl,_,rfl,?_⟩⟩;by_cases g:v=0
             . exact uA (Zf g) (yes (Gi+1) (by lia))
             . exact uB (fun z=>g (Ze z)) (no (Gi+1) c (by lia))
           . exact uB (fun z=>e (Ze z)) (bF (no Gi c (by lia)))
       . obtain⟨r,Gi,s7,rfl,b7,rk,rn,MN⟩:=hP;rw[Yt,Y5] at rn MN;refine⟨⟨_,rfl⟩,_,rfl,_,_,rfl,rfl,?_,uE _ ⟨t0++ [r],Gi, .im (xI (i+1)), .ow (r.map aU),s7,?_,rfl,rfl,b7,by rw[Y9,tl];rfl,tk.snoc rk (by rw[tl];exact rn (by lia)),by lia⟩⟩
         . rw[Yt,tl];exact YW (show i < 100 by lia) (by decide)
         . rw[Y6];rfl
   . obtain⟨t0,t',s5,s6,s7,rfl,b5,b6,b7,tl,tk,TC⟩:=hP;rw[Yt,YZ] at tl TC;refine⟨_,rfl,_,rfl,?_⟩;show Qd (.tup (t0.map Gk)) t';rw[HG tl tk];exact q _ t' (by lia) (DO tk)
end
end cn
namespace cn
open PySem PySem.Spec L2 LB LD PyProof.Rows cZ
noncomputable def fI{β:Type} [Inhabited β](g:Nat->β):Dt->β
 | .int v=>g v.toNat
 | _=>default
instance:Inhabited Dt:=⟨.aI⟩
theorem HZ{l h:Nat}:((List.range ((h:Int) - (l:Int)).toNat).map fun k=>Dt.int ((l:Int)+(k:Nat)))=(List.range' l (h - l)).map xI:=by
 rw[show((h:Int) - (l:Int)).toNat=h - l by omega,List.range'_eq_map_range,Y3];refine Y0 fun k _=>?_;show Dt.int _=Dt.int _;congr 1
theorem uv{L:List Nat}{g:Nat->Dt}:(((L.map xI).filter fun _=>true).map (fI g))=L.map g:=by
 rw[Zx.mpr fun _ _=>rfl,Y3];rfl
theorem wj:((List.range' 1 n).map xI).map (fI fun i=>pk (i,i))=(dg n).map pk:=by
 unfold dg;rw[Y3,Y3];rfl
theorem DJ{n:Nat}{d:Dt}(h: ∀i,f (i,i)=d):((List.range' 1 n).map xI).map (fI fun _=>d)=(dg n).map f:=by
 unfold dg;rw[Y3,Y3];exact Y0 fun i _=>(h i).symm
section
variable{α:Type}(D:α->Dt)
noncomputable abbrev HC (L:List Pr) (f:Nat->Nat->α):Sl:=td (L.map pk) (L.map fun p=>D (f p.1 p.2))
def BS(oJ oC:List α->Prop)(jn ch:List α->α)(fj fc:Addr):DS:=fun ss Q=> ∃(n:Nat) (w rg rt lf lt:Nat->Nat->α),ss= [.im (HF D n w),.fn fj,.fn fc]/\1<=n/\n<=12/\Sz oJ oC jn ch n w rg rt lf lt/\
 Q (.tup [Fn D (dg n++cZ.dI n) rg,Fn D (cZ.dI n) rt,Fn D (dg n++cZ.dI n) lf,Fn D (cZ.dI n) lt])
def FI(n:Nat)(w rg rt lf lt:Nat->Nat->α)(fj fc:Addr)(i:Nat)(δ:List Sl):Prop:= ∃(s7 s8 s9:Sl),δ= [.im (HF D n w),.fn fj,.fn fc,HC D (dg n++(cZ.dI n).take i) rg,HC D (dg n++(cZ.dI n).take i) lf,HC D ((cZ.dI n).take i) rt,HC D ((cZ.dI n).take i) lt,s7,s8,s9]/\s7.dz=false/\s8.dz=false/\s9.dz=false/\eS [s9] [s9]
end
theorem vQ{Δ:eK}(e2:d2=OI (l,h))(e1:δ[i]?=some (HC D L f))(hL:L.length<=4000)(hn:(l,h)∉L)(hd:d=D (f l h))(q:Δ.nx (δ.set i (HC D (L++ [(l,h)]) f))):wX i Δ d d2 δ:=by
 subst e2;subst hd;refine⟨pk (l,h),_,_,rfl,e1,by rw[Yt];exact af6 hL (by decide),Iz hn,?_⟩;unfold HC at q;rw[Y6,Y6] at q;exact q
section
variable{P:Program}{wd:World}{K:PySem.W.Frag}{mg:Str->Option Value}{base:Heap}
theorem Ew(K8: ∀x,vm (D x))(hJ:tI P wd K mg base fj 1 pj (dN (oT D oJ jn)))(hC:tI P wd K mg base fc 1 pc (dN (oT D oC ch)))(F:ip K "fill" "fill" gN f fd)(T:Txt mg)(C2:ik P wd K mg base "by_width" 1 ["n"] (dN tj)):bp P wd K mg base eM 2 f fd ["w","joined","chosen"] (spS (BS D oJ oC jn ch fj fc)):=by
 refine T4 F iD (fun ss Qd h=>?_) (fun bZ A outer s H E hr=>⟨_,aq (Ac 3 iD.nd (ED (N:= ["word","joined"]) (nt:=1) (js:= [1]) ⟨rfl,by decide+kernel,by decide,rfl,by decide+kernel,(by show∀x∈(_:List (Str × NameKind)),x.2=NameKind.free->(ae gN).names.lookup x.1=some .cell\/(ae gN).names.lookup x.1=some .free;decide+kernel)⟩ rfl (gV T.rP (aa ay (aa (bW (fb T.len (aa (dv 0) ai)) ay) ai))) (fun _ _ _ _ _=>aE (i:=0) (show(["word","joined"]:List Str).Nodup by decide+kernel) rfl (by first | exact Or.inl rfl | exact Or.inr rfl)) ba aO (fun _ _ _ _ _=>bL (aa (dv 0) (aa (dv 0) ai))) (fun _ _ _ _ _=>g8 1 hJ (hr.mono (by decide)) (pv 1) (aa (kB ai) ai)) (Nat.lt_of_succ_lt (cw hr))))
  (aq (Ac 4 iD.nd (EC 3 hr.hd T.O2 (pv 3)))
  (aq (Ab 5 iD.nd)
  (aq (Ab 6 iD.nd)
  (aq (l7 rfl (iK (cz C2 (hr.mono (by decide)) (aa (fb T.len (aa (dv 0) ai)) ai))) (BL 7 8 rfl iD.nd)
   (aq (dY 9 iD.nd (qy (g8 2 hC (hr.mono (by decide)) (pv 2) (aa (Ov.ev (cm (N:= ["at","joined","right","low","left","high"]) (nt:=1) (js:= [1,3,7,4,8]) ⟨rfl,by decide+kernel,by decide,rfl,by decide+kernel,(by show∀x∈(_:List (Str × NameKind)),x.2=NameKind.free->(ae gN).names.lookup x.1=some .cell\/(ae gN).names.lookup x.1=some .free;decide+kernel)⟩ rfl (gV T.rP (aa (dv 7) (aa (dv 8) ai))) (fun _ _ _ _ _=>aE (i:=0) (show(["at","joined","right","low","left","high"]:List Str).Nodup by decide+kernel) rfl (by first | exact Or.inl rfl | exact Or.inr rfl)) ba aO (fun _ _ _ _ _=>cX) (fun _ _ _ _ _=>g8 1 hJ (hr.mono (by decide)) (pv 1) (aa (kB (aa (cT (cw hr) (dv 2) (bL (aa (dv 3) (aa (dv 0) ai)))) (aa (cT (cw hr) (dv 4) (bL (aa (bW (dv 0) ay) (aa (dv 5) ai)))) ai))) ai)))) ai))))
   (aq (pN 5 (cw hr) (pv 5) (bL (aa (dv 7) (aa (dv 8) ai))) (g8 1 hJ (hr.mono (by decide)) (pv 1) (aa (kB (aa (eQ (eQ (dv 0) (eZ (dv 8) ay)) (dv 7)) (aa (dv 9) ai))) ai)))
   (aq (pN 6 (cw hr) (pv 6) (bL (aa (dv 7) (aa (dv 8) ai))) (g8 1 hJ (hr.mono (by decide)) (pv 1) (aa (kB (aa (eQ (eQ (dv 0) (eZ (dv 7) ay)) (dv 8)) (aa (dv 9) ai))) ai)))
   (aq (pN 3 (cw hr) (pv 3) (bL (aa (dv 7) (aa (dv 8) ai))) (qy (g8 2 hC (hr.mono (by decide)) (pv 2) (aa (Ov.ev (cm (N:= ["at","joined","right_tied","low","right","high"]) (nt:=1) (js:= [1,5,7,3,8]) ⟨rfl,by decide+kernel,by decide,rfl,by decide+kernel,(by show∀x∈(_:List (Str × NameKind)),x.2=NameKind.free->(ae gN).names.lookup x.1=some .cell\/(ae gN).names.lookup x.1=some .free;decide+kernel)⟩ rfl (gV T.rP (aa (bW (dv 7) ay) (aa (bW (dv 8) ay) ai))) (fun _ _ _ _ _=>aE (i:=0) (show(["at","joined","right_tied","low","right","high"]:List Str).Nodup by decide+kernel) rfl (by first | exact Or.inl rfl | exact Or.inr rfl)) ba aO (fun _ _ _ _ _=>cX) (fun _ _ _ _ _=>g8 1 hJ (hr.mono (by decide)) (pv 1) (aa (kB (aa (cT (cw hr) (dv 2) (bL (aa (dv 3) (aa (dv 0) ai)))) (aa (cT (cw hr) (dv 4) (bL (aa (dv 0) (aa (dv 5) ai)))) ai))) ai)))) ai))))
   (aJ (pN 4 (cw hr) (pv 4) (bL (aa (dv 7) (aa (dv 8) ai))) (qy (g8 2 hC (hr.mono (by decide)) (pv 2) (aa (Ov.ev (cm (N:= ["at","joined","left","low","left_tied","high"]) (nt:=1) (js:= [1,4,7,6,8]) ⟨rfl,by decide+kernel,by decide,rfl,by decide+kernel,(by show∀x∈(_:List (Str × NameKind)),x.2=NameKind.free->(ae gN).names.lookup x.1=some .cell\/(ae gN).names.lookup x.1=some .free;decide+kernel)⟩ rfl (gV T.rP (aa (dv 7) (aa (dv 8) ai))) (fun _ _ _ _ _=>aE (i:=0) (show(["at","joined","left","low","left_tied","high"]:List Str).Nodup by decide+kernel) rfl (by first | exact Or.inl rfl | exact Or.inr rfl)) ba aO (fun _ _ _ _ _=>cX) (fun _ _ _ _ _=>g8 1 hJ (hr.mono (by decide)) (pv 1) (aa (kB (aa (cT (cw hr) (dv 2) (bL (aa (dv 3) (aa (dv 0) ai)))) (aa (cT (cw hr) (dv 4) (bL (aa (dv 0) (aa (dv 5) ai)))) ai))) ai)))) ai))))))))) ad5)
  (aJ (pO 3 (pO 5 (pO 4 (pO 6 (aP (bL (aa (dv 3) (aa (dv 5) (aa (dv 4) (aa (dv 6) ai))))))))))))))),fun ss Qd h=>?_⟩)
 . obtain⟨n,w,rg,rt,lf,lt,rfl,_⟩:=h;rfl
 . obtain⟨n,w,rg,rt,lf,lt,rfl,n1,eP,V,q⟩:=h;have hl:((List.range' 1 n).map (rO D n w)).length=n:=by rw[Yt,YZ]
   refine⟨_,rfl,_,.inr rfl,_,_,rfl,rfl,1,_,rfl,⟨by decide,by decide,by rw[hl];lia,by rw[hl];lia⟩,?_⟩;rw[hl,show((n:Int)+1 - 1).toNat=n by lia,Ia];refine⟨by rw[Yt,YZ];exact YT eP (by decide),fI fun i=>pk (i,i),fI fun i=>D (jn []),fun d hd=>?_,?_,?_⟩
   . obtain⟨i,hi,rfl⟩:=YE.mp hd;exact⟨⟨_,rfl,rfl⟩,_,rfl,_,rfl,by show 2<=sizeLine;decide,rfl,rfl,by show 0<=sizeLine;decide,[],rfl,V.j0,rfl⟩
   . rw[wj];exact List.Pairwise.of_map _ (fun a b z e=>z (ZA _ e)) (wO P wd eP)
   . rw[wj,show((List.range' 1 n).map xI).map (fI fun i=>D (jn []))=(dg n).map fun p=>D (rg p.1 p.2) from DJ fun i=>by rw[V.r0]];refine⟨⟨_,rfl,rfl⟩,_,_,rfl,fun z=>?_,wO _ _ eP,⟨_,rfl,rfl⟩,⟨_,rfl,rfl⟩,⟨_,rfl,rfl⟩,?_⟩
     . have:=ZA List.length z;unfold dg at this;rw[Yt,Yt,YZ] at this;have:n=0:=this;lia
     refine⟨_,rfl,_,.inr rfl,n,by rw[hl],YT eP (by decide),_,rfl,?_⟩;have e0:((dg n).map fun p=>D (rg p.1 p.2))=(dg n).map fun p=>D (lf p.1 p.2):=Y0 fun p hp=>by
      have:=(qc.mp hp).1;rw[this,V.r0,V.l0]
     refine fR (FI D n w rg rt lf lt fj fc) ⟨.no,.no,.no,?_,rfl,rfl,rfl,.no .nil⟩ (fun i d δ hi hP Δ' uE _=>?_) (fun δ hP=>?_)
     . rw[aj0,Zw];show [_,_,_,td ((dg n).map pk) ((dg n).map fun p=>D (rg p.1 p.2)),td ((dg n).map pk) ((dg n).map fun p=>D (rg p.1 p.2)),td [] [],td [] [],_,_,_]= [_,_,_,td ((dg n).map pk) ((dg n).map fun p=>D (rg p.1 p.2)),td ((dg n).map pk) ((dg n).map fun p=>D (lf p.1 p.2)),td [] [],td [] [],_,_,_]
       rw[<-e0]
     . obtain⟨s7,s8,s9,rfl,b7,b8,b9,f9⟩:=hP;rw[YC] at hi;obtain⟨⟨l,h⟩,hp,rfl⟩:=ab0.mp hi;have hp:(cZ.dI n)[i]?=some (l,h):=hp;obtain⟨m1,m2,m3⟩:=dr.mp (Zd hp);have m1:1<=l:=m1;have m2:l < h:=m2;have m3:h<=n:=m3;have lw:(cZ.dI n).length < 3601:=xc (YT eP (by decide));have lt':((cZ.dI n).take i).length<=3601:=by rw[Zu];lia
       have ld:(dg n++(cZ.dI n).take i).length<=4000:=by
        rw[Y9];have:(dg n).length=n:=by unfold dg;rw[Yt,YZ]
        lia
       refine⟨_,_,rfl,⟨_,rfl,b7⟩,⟨_,rfl,b8⟩,?_⟩;refine⟨_,eS.im (eS.fn (eS.fn (eS.td (eS.td (eS.td (eS.td (eS.im (eS.im f9)))))))),rfl,?_⟩;refine⟨_,rfl,_,rfl,(l:Int),(h:Int),rfl,⟨by lia,by lia,by lia,by lia⟩,?_⟩;rw[HZ];refine⟨by rw[Yt,YZ];exact YT (show h - l<=12 by lia) (by decide),fun _=>true,fI fun a=>D (jn [rg l a,lf (a+1) h]),fun d hd=>?_,?_⟩
       . obtain⟨a,ha,rfl⟩:=YE.mp hd;have:=Y4.mp ha;exact⟨⟨_,rfl,rfl⟩,rfl,fun _=>⟨rfl,_,rfl,_,rfl,_,rfl,by show 2<=sizeLine;decide,⟨_,_,pk (l,a),_,rfl,rfl,bI (xi hp (by lia) (by lia) (by lia) (by lia)),_,rfl,_,rfl,_,_,rfl,rfl,_,rfl,by show 2<=sizeLine;decide,⟨_,_,pk (a+1,h),_,rfl,rfl,bI (xi hp (by lia) (by lia) (by lia) (by lia)),by show 2<=sizeLine;decide,[rg l a,lf (a+1) h],rfl,V.ji l a h (by lia) (by lia) (by lia) (by lia),rfl⟩⟩⟩⟩
       rw[uv];refine⟨cZ.nI jn rg lf l h,by rw[cZ.nI,Y3];rfl,V.ci l h m1 m2 m3,K8 _,⟨_,rfl,b9⟩,?_⟩;refine⟨rfl,_,rfl,_,rfl,_,_,rfl,rfl,_,_,_,.inr rfl,rfl,vC D (by lia) (by lia),_,rfl,_,_,_,.inr rfl,rfl,pS D (by lia),_,rfl,by show 2<=sizeLine;decide,[w h l,ch (cZ.nI jn rg lf l h)],rfl,V.jr l h m1 m2 m3,⟨_,_,rfl⟩,_,rfl,_,rfl,by show 2<=sizeLine;decide,vQ (L:=(cZ.dI n).take i) (f:=rt) rfl rfl (by lia) (qD hp) (by rw[V.er l h m1 m2 m3]) ?_⟩;refine⟨rfl,_,rfl,_,rfl,_,_,rfl,rfl,_,_,_,.inr rfl,rfl,vC D (by lia) (by lia),_,rfl,_,_,_,.inr rfl,rfl,pS D (by lia),_,rfl,by show 2<=sizeLine;decide,[w l h,ch (cZ.nI jn rg lf l h)],rfl,V.jl l h m1 m2 m3,⟨_,_,rfl⟩,_,rfl,_,rfl,by show 2<=sizeLine;decide,vQ (L:=(cZ.dI n).take i) (f:=lt) rfl rfl (by lia) (qD hp) (by rw[V.el l h m1 m2 m3]) ?_⟩;refine⟨_,eS.im (eS.fn (eS.fn (eS.td (eS.td (eS.td (eS.td (eS.im (eS.im (eS.im .nil))))))))),rfl,?_⟩;refine⟨_,rfl,_,_,rfl,rfl,_,rfl,_,_,rfl,rfl,((l+1:Nat):Int),((h+1:Nat):Int),rfl,⟨by lia,by lia,by lia,by lia⟩,?_⟩;rw[HZ];have mt: ∀{a b:Nat},l<=a->a < b->b<=h->(a,b)∈(cZ.dI n).take i++ [(l,h)]:=fun{a b} h1 h2 h3=>by
        by_cases c:b - a < h - l
        . exact Z3 _ (Ss hp h1 h2 h3 c)
        . exact YR _ (by rw[show a=l by lia,show b=h by lia];exact YX.mpr rfl)
       refine⟨by rw[Yt,YZ];exact YT (show h+1 - (l+1)<=12 by lia) (by decide),fun _=>true,fI fun a=>D (jn [rt l a,rg a h]),fun d hd=>?_,?_⟩
       . obtain⟨a,ha,rfl⟩:=YE.mp hd;have:=Y4.mp ha;exact⟨⟨_,rfl,rfl⟩,rfl,fun _=>⟨rfl,_,rfl,_,rfl,_,rfl,by show 2<=sizeLine;decide,⟨_,_,pk (l,a),_,rfl,rfl,bI (mt (by lia) (by lia) (by lia)),_,rfl,_,rfl,_,rfl,by show 2<=sizeLine;decide,⟨_,_,pk (a,h),_,rfl,rfl,bI (xi hp (by lia) (by lia) (by lia) (by lia)),by show 2<=sizeLine;decide,[rt l a,rg a h],rfl,V.jR l a h (by lia) (by lia) (by lia) (by lia),rfl⟩⟩⟩⟩
       rw[uv];refine⟨Ig jn rg rt l h,by rw[Ig,Y3,Nat.add_sub_add_right];rfl,V.cR l h m1 m2 m3,K8 _,⟨_,_,rfl⟩,_,rfl,_,rfl,by show 2<=sizeLine;decide,vQ (L:=dg n++(cZ.dI n).take i) (f:=rg) rfl rfl ld (Cg hp) (by rw[V.eR l h m1 m2 m3]) ?_⟩;refine⟨_,eS.im (eS.fn (eS.fn (eS.td (eS.td (eS.td (eS.td (eS.im (eS.im (eS.im .nil))))))))),rfl,?_⟩;refine⟨_,rfl,_,rfl,(l:Int),(h:Int),rfl,⟨by lia,by lia,by lia,by lia⟩,?_⟩;rw[HZ];refine⟨by rw[Yt,YZ];exact YT (show h - l<=12 by lia) (by decide),fun _=>true,fI fun a=>D (jn [lf l a,lt a h]),fun d hd=>?_,?_⟩
       . obtain⟨a,ha,rfl⟩:=YE.mp hd;have:=Y4.mp ha;exact⟨⟨_,rfl,rfl⟩,rfl,fun _=>⟨rfl,_,rfl,_,rfl,_,rfl,by show 2<=sizeLine;decide,⟨_,_,pk (l,a),_,rfl,rfl,bI (xi hp (by lia) (by lia) (by lia) (by lia)),_,rfl,_,rfl,_,rfl,by show 2<=sizeLine;decide,⟨_,_,pk (a,h),_,rfl,rfl,bI (mt (by lia) (by lia) (by lia)),by show 2<=sizeLine;decide,[lf l a,lt a h],rfl,V.jL l a h (by lia) (by lia) (by lia) (by lia),rfl⟩⟩⟩⟩
       rw[uv];refine⟨Ja jn lf lt l h,by rw[Ja,Y3];rfl,V.cL l h m1 m2 m3,K8 _,⟨_,_,rfl⟩,_,rfl,_,rfl,by show 2<=sizeLine;decide,vQ (L:=dg n++(cZ.dI n).take i) (f:=lf) rfl rfl ld (Cg hp) (by rw[V.eL l h m1 m2 m3]) ?_⟩;refine uE _ ⟨.im (.int (l:Int)),.im (.int (h:Int)),.im (D (ch (cZ.nI jn rg lf l h))),?_,rfl,rfl,rfl,.im .nil⟩;rw[take_snoc hp,<-Zg];rfl
     . obtain⟨s7,s8,s9,rfl,b7,b8,b9,f9⟩:=hP;rw[Yt,show(cn.dI n).length=(cZ.dI n).length from rfl,ab3];exact⟨_,_,rfl,_,_,rfl,_,_,rfl,_,_,rfl,_,rfl,_,rfl,_,rfl,_,rfl,by show 4<=sizeLine;decide,q⟩
end
section
variable{α:Type}(D:α->Dt)
def Gq(oJ oC:List α->Prop)(jn ch:List α->α)(fj fc:Addr):DS:=fun ss Q=> ∃(n:Nat) (w rg rt lf lt:Nat->Nat->α),ss= [.im (HF D n w),.fn fj,.fn fc]/\1<=n/\n<=12/\Sz oJ oC jn ch n w rg rt lf lt/\Q (D (ch (toV jn w lf rg n)))
noncomputable def S3(g:Nat->Dt):Dt->Dt
 | .tup [.int v,_]=>g v.toNat
 | _=> .aI
theorem EF{n:Nat}{w:Nat->Nat->α}{g:Nat->Dt}:((cf 1 ((List.range' 1 n).map (rO D n w))).filter fun _=>true).map (S3 g)=(List.range' 1 n).map g:=by
 rw[Zx.mpr fun _ _=>rfl];apply ZN;intro j;unfold cf;rw[YC,ah3,YC,YC];by_cases c:j < n
 . rw[ZL c];show some (g (((j+1:Nat):Int)).toNat)=some (g (1+1*j));rw[ZD,show 1+1*j=j+1 by lia]
 . rw[Zj (by rw[YZ];lia)];rfl
end
section
variable{P:Program}{wd:World}{K:PySem.W.Frag}{mg:Str->Option Value}{base:Heap}
theorem uj(K8: ∀x,vm (D x))(hJ:tI P wd K mg base fj 1 pj (dN (oT D oJ jn)))(hC:tI P wd K mg base fc 1 pc (dN (oT D oC ch)))(F:ip K "over_all" "over_all" gL f fd)(T:Txt mg)(pf:ik P wd K mg base "fill" 2 ["w","joined","chosen"] (spS (BS D oJ oC jn ch fj fc))):bp P wd K mg base eM 3 f fd ["w","joined","chosen"] (spS (Gq D oJ oC jn ch fj fc)):=by
 refine T4 F ox (fun ss Qd h=>?_) (fun bZ A outer s H E hr=>⟨_,(aq (Af (Ct pf (hr.mono (by decide)) (Hn (dv 0) (Lm (f:=fj) 1 (pv 1) (Lm (f:=fc) 2 (pv 2) zF)))) (BK 3 4 5 6 rfl ox.nd))
 (aJ (aP (g8 2 hC (hr.mono (by decide)) (pv 2) (aa (Ov.ev (cm (N:= ["top","row","joined","left","right","w"]) (nt:=2) (js:= [1,5,3,0]) ⟨rfl,by decide+kernel,by decide,rfl,by decide+kernel,(by show∀x∈(_:List (Str × NameKind)),x.2=NameKind.free->(ae gL).names.lookup x.1=some .cell\/(ae gL).names.lookup x.1=some .free;decide+kernel)⟩ rfl (wz T.RO (aa (dv 0) ai) ay) (fun _ _ _ _ _=>et rfl (aN (aE (i:=0) (show(["top","row","joined","left","right","w"]:List Str).Nodup by decide+kernel) rfl (by first | exact Or.inl rfl | exact Or.inr rfl)) (aN (aE (i:=1) (show(["top","row","joined","left","right","w"]:List Str).Nodup by decide+kernel) rfl (by first | exact Or.inl rfl | exact Or.inr rfl)) cI))) dh bU (fun _ _ _ _ _=>cX) (fun _ _ _ _ _=>(g8 2 hJ (hr.mono (by decide)) (pv 2) (aa (kB (aa (eQ (dv 1) ay) (aa (cT (cw hr) (dv 3) (bL (aa ay (aa (dv 0) ai)))) (aa (cT (cw hr) (dv 4) (bL (aa (dv 0) (aa (fb T.len (aa (dv 5) ai)) ai)))) ai)))) ai))))) ai))))),fun ss Qd h=>?_⟩)
 . obtain⟨n,w,rg,rt,lf,lt,rfl,_⟩:=h;rfl
 . obtain⟨n,w,rg,rt,lf,lt,rfl,n1,eP,V,q⟩:=h;have hl:((List.range' 1 n).map (rO D n w)).length=n:=by rw[Yt,YZ]
   have MZ:(cf 1 ((List.range' 1 n).map (rO D n w))).length=n:=by unfold cf;rw[ai5,hl]
   refine⟨_,rfl,rfl,rfl,n,w,rg,rt,lf,lt,rfl,n1,eP,V,_,_,_,_,rfl,⟨_,rfl,rfl⟩,⟨_,rfl,rfl⟩,⟨_,rfl,rfl⟩,⟨_,rfl,rfl⟩,?_⟩;refine⟨rfl,_,rfl,_,rfl,rfl,by rw[MZ];exact YT eP (by decide),fun _=>true,S3 fun t=>D (jn [w t 0,lf 1 t,rg t n]),fun d hd=>?_,?_⟩
   . obtain⟨j,e,he,rfl⟩:=qt hd;have jl:j < n:=by have:=(YB.mp he).1;rw[hl] at this;exact this
     have ee:e=rO D n w (j+1):=by
      rw[YC,ZL jl] at he;have:=(Option.some.inj he).symm;rw[this];congr 1;lia
     subst ee;have mL: ∀{a b:Nat},1<=a->a<=b->b<=n->(a,b)∈dg n++cZ.dI n:=fun{a b} h1 h2 h3=>by
      by_cases c:a=b
      . exact Z3 _ (qc.mpr ⟨c,by dsimp only;lia,by dsimp only;lia⟩)
      . exact YR _ (dr.mpr ⟨by dsimp only;lia,by dsimp only;lia,by dsimp only;lia⟩)
     refine⟨_,_,rfl,⟨_,rfl,rfl⟩,⟨_,rfl,rfl⟩,rfl,fun _=>?_⟩;refine⟨rfl,_,rfl,_,_,_,.inr rfl,rfl,pS D (x:=0) (Za _),_,rfl,_,rfl,by show 2<=sizeLine;decide,?_⟩;refine⟨_,_,pk (1,j+1),_,rfl,rfl,bI (mL (by lia) (by lia) (by lia)),_,rfl,_,rfl,_,rfl,_,.inr rfl,by show 2<=sizeLine;decide,?_⟩;rw[hl];exact⟨_,_,pk (j+1,n),_,rfl,rfl,bI (mL (by lia) (by lia) (by lia)),by show 3<=sizeLine;decide,[w (j+1) 0,lf 1 (j+1),rg (j+1) n],rfl,V.jt (j+1) (by lia) (by lia),rfl⟩
   . rw[EF];exact⟨toV jn w lf rg n,by rw[toV,Y3];rfl,V.ct,q⟩
end
open kg
theorem xJ:hG [a,b]=ad a b:=by show ad a (ad b (some 0))=_;rw[m9]
theorem P0:hG [a,b,c]=ad a (ad b c):=by show ad a (ad b (ad c (some 0)))=_;rw[m9]
def OK(n:Nat)(L:List Wo):Prop:=L.length<=n
theorem BU(w:Nat->Nat->Wo):ev w [[]]=hG []:=by
 show mx (wt w []) none=hG [];exact lg _
theorem S6{n:Nat}(w:Nat->Nat->Wo)(eP:n<=12):Sz (fun _=>True) (OK 12) hG bQ n w (fun l h=>ev w (Q l h).rg) (fun l h=>ev w (Q l h).rt) (fun l h=>ev w (Q l h).lf) (fun l h=>ev w (Q l h).lt) where
 j0:=trivial
 r0:=fun l=>by rw[bP];exact BU w
 l0:=fun l=>by rw[bP];exact BU w
 ji:=fun _ _ _ _ _ _ _=>trivial
 ci:=fun l h _ _ _=>by show(cZ.nI _ _ _ _ _).length<=12;unfold cZ.nI;rw[Yt,YZ];lia
 jr:=fun _ _ _ _ _=>trivial
 er:=fun l h _ lt _=>by rw[xJ,mi w lt];unfold cZ.nI;congr 2;exact Y0 fun a _=>xJ.symm
 jl:=fun _ _ _ _ _=>trivial
 el:=fun l h _ lt _=>by rw[xJ,mH w lt];unfold cZ.nI;congr 2;exact Y0 fun a _=>xJ.symm
 jR:=fun _ _ _ _ _ _ _=>trivial
 cR:=fun l h _ _ _=>by show(Ig _ _ _ _ _).length<=12;unfold Ig;rw[Yt,YZ];lia
 eR:=fun l h _ lt _=>by rw[mm w lt];unfold Ig;congr 1;exact Y0 fun a _=>xJ.symm
 jL:=fun _ _ _ _ _ _ _=>trivial
 cL:=fun l h _ _ _=>by show(Ja _ _ _ _ _).length<=12;unfold Ja;rw[Yt,YZ];lia
 eL:=fun l h _ lt _=>by rw[mK w lt];unfold Ja;congr 1;exact Y0 fun a _=>xJ.symm
 jt:=fun _ _ _=>trivial
 ct:=by show(toV _ _ _ _ _).length<=12;unfold toV;rw[Yt,YZ];exact eP
theorem HB(w:Nat->Nat->Wo)(n:Nat):bQ (toV hG w (fun l h=>ev w (Q l h).lf) (fun l h=>ev w (Q l h).rg) n)=ev w (F1 n):=by
 rw[vw];unfold toV;congr 1
 exact Y0 fun t _=>P0
theorem zE(x:Wo):vm (aU x):=by cases x <;> constructor
def G5:DN:=fun ds Q=> ∃(n:Nat) (w:Nat->Nat->Wo),ds= [dw n w]/\1<=n/\n<=12/\Sm w/\ ∀r,vj n w r->Q (Tf r)
abbrev Ts:DN:=oT aU (fun _=>True) hG
abbrev Uq:DN:=oT aU (OK 12) bQ
theorem vF(h: ∀ds Q,S' ds Q->S ds Q): ∀vs H Q E,dN S' vs H Q E->dN S vs H Q E:=fun vs H Q E z=>by
 obtain⟨M,ds,Qd,al,r,q,k⟩:=z;exact⟨M,ds,Qd,al,r,h _ _ q,k⟩
theorem ME: ∀ds Q,Ts ds Q->jT ds Q:=fun ds Q z=>by obtain⟨L,e,_,q⟩:=z;exact⟨L,e,q⟩
theorem NY: ∀ds Q,Uq ds Q->oP ds Q:=fun ds Q z=>by obtain⟨L,e,l,q⟩:=z;exact⟨L,e,YT l (by decide),q⟩
section
variable{P:Program}{wd:World}{K:PySem.W.Frag}{mg:Str->Option Value}{base:Heap}
theorem Ey(gJ:mg "together"=some (.ref fj))(gC:mg "greatest"=some (.ref fc))(F:ip K "best_plain" "best_plain" iE f fd)(T:Txt mg)(CY:ik P wd K mg base "over_all" 3 ["w","joined","chosen"] (spS (Gq aU (fun _=>True) (OK 12) hG bQ fj fc)))(qS:ik P wd K mg base "ranked" 2 ["w"] (dN vO))(C1:ik P wd K mg base "figures" 1 ["number","base","many"] (dN sO))(nq:ik P wd K mg base "worth_of" 2 ["w","h"] (dN q0)):bp P wd K mg base eM 4 f fd ["w"] (dN G5):=by
 refine tO F gI (fun ds Qd h=>?_) (fun bZ A outer s H E hr=>⟨_,(aq (dY 1 gI.nd (Ct CY (hr.mono (by decide)) (Hn (cz qS (hr.mono (by decide)) (aa (dv 0) ai)) (DI (by rfl) gJ (DI (by rfl) gC zF)))))
 (aq (dZ (lX (dv 1))
 (aJ (aP jA))
 bR)
 (aq (dY 2 gI.nd (jz T.tup (aa (cz C1 (hr.mono (by decide)) (aa (wW (dv 1)) (aa (bW (fb T.len (aa (dv 0) ai)) ay) (aa (fb T.len (aa (dv 0) ai)) ai)))) ai)))
 (aJ (aP (bL (aa (cz nq (hr.mono (by decide)) (aa (dv 0) (aa (dv 2) ai))) (aa (dv 2) ai)))))))),fun ds Qd h=>?_⟩)
 . obtain⟨n,w,rfl,_⟩:=h;rfl
 . obtain⟨n,w,rfl,n1,eP,sm,q⟩:=h;have hl:((List.range' 1 n).map (cC n w)).length=n:=by rw[Yt,YZ]
   refine⟨_,rfl,n,w,rfl,by lia,sm,n,wr n w,_,_,_,_,rfl,n1,eP,S6 (wr n w) eP,⟨_,rfl,rfl⟩,?_⟩;rw[HB];cases e:ev (wr n w) (F1 n) with
   | none=>exact⟨_,rfl,true,rfl,dD (q none (yW e))⟩
   | some t=>
    obtain⟨v,g,B,rfl⟩:=yV e;refine⟨_,rfl,false,rfl,bF ?_⟩;have gi:=FW B;have ef:kM ((n:Int)+1) n (-(v*((n:Int)+1)^n - code (n+1) g))=g.reverse.map Int.ofNat:=by
     have:=oV (B:=n+1) (by lia) v n g gi.l fun x hx=>Nat.lt_succ_of_le (gi.b x hx);rw[show -(v*((n:Int)+1)^n - code (n+1) g)=code (n+1) g - v*((n:Int)+1)^n by lia];push_cast at this
     exact this
    refine⟨_,rfl,_,rfl,_,rfl,_,.inr rfl,_,_,rfl,rfl,_,rfl,_,.inr rfl,?_⟩;rw[hl];refine⟨_,_,n,rfl,by lia,by lia,by lia,?_⟩;rw[ef];have ew:qT w g=some v:=by cases B;assumption
    have eg:((g.reverse.map Int.ofNat).reverse.map Dt.int)=g.map xI:=by rw[<-List.map_reverse,List.reverse_reverse,Y3];rfl
    rw[eg];refine⟨_,.inl rfl,⟨_,rfl,rfl⟩,_,rfl,_,rfl,n,w,g,rfl,gi.l,gi.b,by lia,_,rfl,by show 2<=sizeLine;decide,?_⟩;rw[ew];exact q (some (v,g)) B
end
end cn
namespace cn
open PySem PySem.Spec L2 LB LD PyProof.Rows kg
noncomputable def fq(w:Nat->Nat->Wo)(p:Nat × Nat):Dt:= .tup [xI p.1,xI p.2,aU (ev w (Q p.1 p.2).rg),aU (ev w (Q p.1 p.2).rt),aU (ev w (Q p.1 p.2).lf),aU (ev w (Q p.1 p.2).lt)]
noncomputable def Qk(w:Nat->Nat->Wo):Dt->Dt
 | .tup [.int a,.int b]=>fq w (a.toNat,b.toNat)
 | _=> .aI
def zX:DN:=fun ds Q=> ∃(n:Nat) (w:Nat->Nat->Wo),ds= [dw n w]/\1<=n/\n<=12/\Q (.lst ((aW n).map (fq w)))
theorem FR(h:n<=12):(cZ.dI n).length<=100000:=by
 have: ∀n∈List.range 13,(cZ.dI n).length<=100000:=by decide+kernel
 exact this n (Zp.mpr (by lia))
theorem yO(n:Nat):(cZ.dI n).Nodup:=(cZ.u0 n).imp fun h e=>by
 subst e;unfold cZ.lo at h;lia
theorem small(h:m<=100000):m<=sizeLine:=YT h (by decide)
theorem cM(h:n<=12):(aW n).length<=100:=by
 have: ∀n∈List.range 13,(aW n).length<=100:=by decide+kernel
 exact this n (Zp.mpr (by lia))
section
variable{P:Program}{wd:World}{K:PySem.W.Frag}{mg:Str->Option Value}{base:Heap}
theorem A5(gJ:mg "together"=some (.ref fj))(gC:mg "greatest"=some (.ref fc))(F:ip K "spans" "spans" l9 f fd)(T:Txt mg)(pf:ik P wd K mg base "fill" 2 ["w","joined","chosen"] (spS (BS aU (fun _=>True) (OK 12) hG bQ fj fc))):bp P wd K mg base eM 3 f fd ["w"] (dN zX):=by
 refine tO F vJ (fun ds Qd h=>?_) (fun bZ A outer s H E hr=>⟨_,(aq (Af (Ct pf (hr.mono (by decide)) (Hn (dv 0) (DI (by rfl) gJ (DI (by rfl) gC zF)))) (BK 1 2 3 4 rfl vJ.nd))
 (aJ (aP (Ov.ev (cm (N:= ["pair","right","right_tied","left","left_tied"]) (nt:=1) (js:= [1,2,3,4]) ⟨rfl,by decide+kernel,by decide,rfl,by decide+kernel,(by show∀x∈(_:List (Str × NameKind)),x.2=NameKind.free->(ae l9).names.lookup x.1=some .cell\/(ae l9).names.lookup x.1=some .free;decide+kernel)⟩ rfl (iK (uQ hr.hd T.HM (aa (dv 2) ai))) (fun _ _ _ _ _=>aE (i:=0) (show(["pair","right","right_tied","left","left_tied"]:List Str).Nodup by decide+kernel) rfl (by first | exact Or.inl rfl | exact Or.inr rfl)) ba aO (fun _ _ _ _ _=>cX) (fun _ _ _ _ _=>(j8 (dv 0) (bL (aa (cT (cw hr) (dv 1) (dv 0)) (aa (cT (cw hr) (dv 2) (dv 0)) (aa (cT (cw hr) (dv 3) (dv 0)) (aa (cT (cw hr) (dv 4) (dv 0)) ai)))))))))))),fun ds Qd h=>?_⟩)
 . obtain⟨n,w,rfl,_⟩:=h;rfl
 . obtain⟨n,w,rfl,n1,n7,q⟩:=h;refine⟨_,rfl,n,w,_,_,_,_,rfl,n1,by lia,S6 w (by lia),_,_,_,_,rfl,⟨_,rfl,rfl⟩,⟨_,rfl,rfl⟩,⟨_,rfl,rfl⟩,⟨_,rfl,rfl⟩,?_⟩;refine⟨_,rfl,(cZ.dI n).map kJ,(cZ.dI n).map fun p=>aU (ev w (Q p.1 p.2).rt),(n:Int)+1,?_,by rw[Yt];exact FR n7,fun q hq=>?_,fun ms pm so=>?_⟩
   . rw[Y3];rfl
   . obtain⟨p,hp,rfl⟩:=YE.mp hq;have:=(cZ.dr.mp hp).2.2;exact⟨by show(0:Int)<=(p.2:Int);lia,by show(p.2:Int) < _;lia⟩
   have em:=pI (yO n) (fun p=>cZ.dr) pm so;subst em;refine⟨_,rfl,by rw[Yt,Yt];exact small (YT (cM n7) (by decide)),fun _=>true,Qk w,fun d hd=>?_,?_⟩
   . obtain⟨q,hq,rfl⟩:=YE.mp hd;obtain⟨p,hp,rfl⟩:=YE.mp hq;have hb:=cZ.dr.mpr (aK.mp hp);have TQ:p∈cZ.dg n++cZ.dI n:=YR _ hb;refine⟨⟨_,rfl,rfl⟩,rfl,fun _=>⟨_,rfl,_,rfl,_,rfl,⟨_,_,cZ.pk p,_,rfl,rfl,cZ.bI TQ,_,rfl,_,rfl,⟨_,_,cZ.pk p,_,rfl,rfl,cZ.bI hb,_,rfl,_,rfl,⟨_,_,cZ.pk p,_,rfl,rfl,cZ.bI TQ,_,rfl,_,rfl,⟨_,_,cZ.pk p,_,rfl,rfl,cZ.bI hb,by show 4<=sizeLine;decide,_,_,rfl,rfl,by show 6<=sizeLine;decide,?_⟩⟩⟩⟩⟩⟩;show Dt.tup _=fq w (((p.1:Nat):Int).toNat,((p.2:Nat):Int).toNat);rw[ZD,ZD];rfl
   . rw[Zx.mpr fun _ _=>rfl,Y3,Y3];have e:(aW n).map ((Qk w ∘ Iu) ∘ kJ)=(aW n).map (fq w):=Y0 fun p _=>by
      show fq w (((p.1:Nat):Int).toNat,((p.2:Nat):Int).toNat)=_;rw[ZD,ZD]
     have e':(aW n).map (Qk w ∘ Iu ∘ kJ)=(aW n).map (fq w):=e;first | (rw[e];exact q) | (rw[e'];exact q)
end
end cn
namespace kg
theorem D1(a s:Nat): ∀n,List.range' (a+s) n=(List.range' a n).map (· +s):=fun n=>by
 apply Z2
 . simp
 . intro i h1 h2;simp
   lia
theorem qp(hb:b=a+s)(h: ∀x,a<=x->x < a+n->F x=G (x+s)):bQ ((List.range' a n).map F)=bQ ((List.range' b n).map G):=by
 subst hb;rw[D1,Y3];congr 1
 refine Y0 fun x hx=>?_;rw[Y4] at hx;exact h x hx.1 hx.2
theorem FJ(e: ∀i o,lo<=i->i<=hi->lo<=o->o<=hi->w' i o=w (i+s) (o+s)): ∀(d l h:Nat),h - l=d->lo<=l->l<=h->h<=hi->
  ev w' (Q l h).rt=ev w (Q (l+s) (h+s)).rt/\ev w' (Q l h).lt=ev w (Q (l+s) (h+s)).lt/\ev w' (Q l h).rg=ev w (Q (l+s) (h+s)).rg/\ev w' (Q l h).lf=ev w (Q (l+s) (h+s)).lf:=by
 intro d;induction d using Nat.strongRecOn with
 | ind d ih=>
  intro l h hd h1 h2 h3;rcases Nat.eq_or_lt_of_le h2 with q | lt
  . subst q;rw[bP,bP];exact⟨rfl,rfl,rfl,rfl⟩
  . have lt':l+s < h+s:=by lia
    have ed:h+s - (l+s)=h - l:=by lia
    have eI:bQ ((List.range' l (h - l)).map fun a=>ad (ev w' (Q l a).rg) (ev w' (Q (a+1) h).lf))=bQ ((List.range' (l+s) (h - l)).map fun a=>ad (ev w (Q (l+s) a).rg) (ev w (Q (a+1) (h+s)).lf)):=qp rfl fun x x1 x2=>by
     rw[(ih (x - l) (by lia) l x rfl h1 x1 (by lia)).2.2.1,(ih (h - (x+1)) (by lia) (x+1) h rfl (by lia) (by lia) h3).2.2.2,show x+1+s=x+s+1 by lia]
    have eR:ev w' (Q l h).rt=ev w (Q (l+s) (h+s)).rt:=by
     rw[mi w' lt,mi w lt',e h l (by lia) h3 h1 (by lia),ed,eI]
    have eL:ev w' (Q l h).lt=ev w (Q (l+s) (h+s)).lt:=by
     rw[mH w' lt,mH w lt',e l h h1 (by lia) (by lia) h3,ed,eI]
    refine⟨eR,eL,?_,?_⟩
    . rw[mm w' lt,mm w lt',ed];refine qp (s:=s) (by lia) fun x x1 x2=>?_;rw[(ih (h - x) (by lia) x h rfl (by lia) (by lia) h3).2.2.1];by_cases hx:x=h
      . subst hx;rw[eR]
      . rw[(ih (x - l) (by lia) l x rfl h1 (by lia) (by lia)).1]
    . rw[mK w' lt,mK w lt',ed];refine qp (s:=s) rfl fun x x1 x2=>?_;rw[(ih (x - l) (by lia) l x rfl h1 (by lia) (by lia)).2.2.2];by_cases hx:x=l
      . subst hx;rw[eL]
      . rw[(ih (h - x) (by lia) x h rfl (by lia) (by lia) h3).2.1]
theorem mR(hm:b+(a+n)=m+1)(h: ∀x,a<=x->x < a+n->F x=G (m - x)):bQ ((List.range' a n).map F)=bQ ((List.range' b n).map G):=by
 refine v9 fun y=>⟨fun hy=>?_,fun hy=>?_⟩
 . obtain⟨x,hx,rfl⟩:=YE.mp hy;rw[Y4] at hx;rw[h x hx.1 hx.2];exact af0 (Y4.mpr ⟨by lia,by lia⟩)
 . obtain⟨x,hx,rfl⟩:=YE.mp hy;rw[Y4] at hx;have:=h (m - x) (by lia) (by lia);rw[show m - (m - x)=x by lia] at this;rw[<-this];exact af0 (Y4.mpr ⟨by lia,by lia⟩)
theorem turn_val(e: ∀i o,1<=i->i<=n->1<=o->o<=n->w' i o=w (n+1 - i) (n+1 - o)): ∀(d l h:Nat),h - l=d->1<=l->l<=h->h<=n->
  ev w' (Q l h).rt=ev w (Q (n+1 - h) (n+1 - l)).lt/\ev w' (Q l h).lt=ev w (Q (n+1 - h) (n+1 - l)).rt/\ev w' (Q l h).rg=ev w (Q (n+1 - h) (n+1 - l)).lf/\ev w' (Q l h).lf=ev w (Q (n+1 - h) (n+1 - l)).rg:=by
 intro d;induction d using Nat.strongRecOn with
 | ind d ih=>
  intro l h hd h1 h2 h3;rcases Nat.eq_or_lt_of_le h2 with q | lt
  . subst q;rw[bP,bP];exact⟨rfl,rfl,rfl,rfl⟩
  . have lt':n+1 - h < n+1 - l:=by lia
    have ed:n+1 - l - (n+1 - h)=h - l:=by lia
    have eI:bQ ((List.range' l (h - l)).map fun a=>ad (ev w' (Q l a).rg) (ev w' (Q (a+1) h).lf))=bQ ((List.range' (n+1 - h) (h - l)).map fun a=>ad (ev w (Q (n+1 - h) a).rg) (ev w (Q (a+1) (n+1 - l)).lf)):=mR (m:=n) (by lia) fun x x1 x2=>by
     rw[(ih (x - l) (by lia) l x rfl h1 x1 (by lia)).2.2.1,(ih (h - (x+1)) (by lia) (x+1) h rfl (by lia) (by lia) h3).2.2.2,show n+1 - (x+1)=n - x by lia,show n+1 - x=n - x+1 by lia,fW]
    have eR:ev w' (Q l h).rt=ev w (Q (n+1 - h) (n+1 - l)).lt:=by
     rw[mi w' lt,mH w lt',e h l (by lia) h3 h1 (by lia),ed,eI]
    have eL:ev w' (Q l h).lt=ev w (Q (n+1 - h) (n+1 - l)).rt:=by
     rw[mH w' lt,mi w lt',e l h h1 (by lia) (by lia) h3,ed,eI]
    refine⟨eR,eL,?_,?_⟩
    . rw[mm w' lt,mK w lt',ed];refine mR (m:=n+1) (by lia) fun x x1 x2=>?_;rw[(ih (h - x) (by lia) x h rfl (by lia) (by lia) h3).2.2.1,fW];by_cases hx:x=h
      . subst hx;rw[eR]
      . rw[(ih (x - l) (by lia) l x rfl h1 (by lia) (by lia)).1]
    . rw[mK w' lt,mm w lt',ed];refine mR (m:=n+1) (by lia) fun x x1 x2=>?_;rw[(ih (x - l) (by lia) l x rfl h1 (by lia) (by lia)).2.2.2,fW];by_cases hx:x=l
      . subst hx;rw[eL]
      . rw[(ih (h - x) (by lia) x h rfl (by lia) (by lia) h3).2.1]
theorem CS(B:vj n w r):r.map (·.1)=bQ ((List.range' 1 n).map fun t=>ad (w t 0) (ad (ev w (Q 1 t).lf) (ev w (Q t n).rg))):=by
 rw[<-vw,lM];cases B with
 | no h=>
  refine(cO.mpr fun x hx=>?_).symm;obtain⟨g,m,rfl⟩:=YE.mp hx;exact h g m
 | yes v h m e b=>
  cases c:bQ ((nV n).map (qT w)) with
  | none=>
   have:=cO.mp c _ (af0 m);rw[e] at this;cases this
  | some u=>
   obtain⟨g,mg,eg⟩:=YE.mp (eX c);have h1:v<=u:=mS c (by rw[<-e];exact af0 m);have h2:=b g mg u eg;have:u=v:=by lia
   subst this;rfl
theorem BG(l:List Wo)(x:Wo):bQ (l++ [x])=mx (bQ l) x:=by rw[wJ];show mx _ (mx x none)=_;rw[lg]
end kg
namespace LD
open PySem PySem.Spec L2 LB PyProof.Rows
structure Kw(K:PySem.W.Frag)(x qual:Str)(st:Stmt)(f:Addr)(fd:FuncData)(c P:Addr):Prop where
 ex: ∃(oc:Value) (od:Option Addr) (kV doc pm:Value) (an:Option Addr) (ct:Value) (y9:Array (Option Value)),
  fd=PySem.W.fnOf x qual (fU st) (cc st) (ae st) .none kV doc pm an (.ref c) ct/\K.lookup f=some ⟨oc,od,.func fd,y9⟩/\PySem.W.codeIn K (.ref c) qual=true
 tab:PySem.W.tabIn K x=some (c,P)
 hd:PySem.W.codeHdIn K c P=true
section
variable{P:Program}{w:World}{K:PySem.W.Frag}{mg:Str->Option Value}{base:Heap}
theorem RH {x qual : Str} {st : Stmt} {k : Nat} (F : Kw K x qual st f fd c Pt) (sc : aM N ps (ae st)) (len : ∀ ds Qd, S ds Qd -> ds.length = ps.length) (fG : ∀ (A : Around) (outer : List Env) (s : Shared) (H : Hp) (E : XK), bM k (A.deeper (envOfC qual (ae st) s.heap.objs.size f (.ref c))) ->
   ∃T,zj (kN eM P w K mg base N qual (ae st) f (.ref c) A outer s H E).Bb (cc st) T/\ ∀ds Qd,S ds Qd->T {nx:=fun _=>Qd .aI,rt:=fun d _=>Qd d} (ds.map .im++List.replicate (N.length - ps.length) .no)):
  bp P w K mg base eM (k+1) f fd ps (dN S):=by
 obtain⟨oc,od,kV,doc,pm,an,ct,y9,rfl,lk,sJ⟩:=F.ex;refine GL lk sJ sc (fun vs H Q E h=>?_) (fun A outer s H vs Q E hr h=>?_)
 . obtain⟨M,ds,Qd,al,r,q,_⟩:=h;rw[r.1];exact len ds Qd q
 . obtain⟨M,ds,Qd,al,r,q,kk⟩:=h;obtain⟨T,hT,hq⟩:=fG A outer s H E hr;refine⟨lS T,qQ.Bb hT,[⟨H,fun _=>False,M,M,none⟩],M,List.replicate (ds.length+(N.length - ps.length)) [],ds.map .im++List.replicate (N.length - ps.length) .no,_,?_,?_,hq ds Qd q⟩
   . have e:L2.start N vs=vs.map some++List.replicate (N.length - ps.length) none:=by unfold L2.start;rw[r.1,len ds Qd q]
     rw[e];refine j6 al r fun W hW=>?_;rw[YX.mp hW];have a0:(List.replicate (ds.length+(N.length - ps.length)) ([]:List Addr)).flatten= []:=by simp
     refine⟨fun b o e _=>e,fun b n=>n,fun a ha=>by rw[a0] at ha;exact absurd ha Yy,fun a h=>h,fun a h=> .inl h,fun d c e=>(by cases e),fun j s as h1 h2 _ a ha=>?_⟩;rw[YY] at h2;split at h2
     . cases h2;exact absurd ha Yy
     . cases h2
   . have same : ∀ {M' α' H' σ' δ'}, aB [⟨H, fun _ => False, M, M, none⟩] M' α' H' σ' δ' -> aC H H' /\ ∀ a, M a -> M' a := fun E' => by
       have k:=E'.w _ (YX.mpr rfl);exact⟨fun b o e=>k.bs b o e (fun z=>z),k.m0⟩
     refine⟨fun M' α' H' σ' δ' E' q=>kk _ _ _ q (same E').1 .aI,fun M' α' H' σ' δ' v d E' r' q=>kk _ _ _ q (same E').1 (r'.mono fun a o e n=>⟨e,fun z=>n ((same E').2 a z)⟩),fun _ _ _ _ _ _ z=>z.elim,fun _ _ _ _ _ _ z=>z.elim⟩
end
end LD
namespace L2
open PySem PySem.Spec PyProof.Rows HT
theorem HP{n:Nat}(n1:1<=n)(hs:s.heap.IsSliceOf sl .none vh vk)(ph:IsPart vh (some 0))(pk:IsPart vk (some (-1)))(h:Q ((n:Int) - 1,-1,n - 1) s):wpAny (model prog w) A (Builtin.Slice.sliceApplied (.ref sl) (pure (n:Int))) Q E s:=by
 obtain⟨os,k1,k2,k3⟩:=id hs;unfold Builtin.Slice.sliceApplied Builtin.Slice.sliceFields;refine Yr (Yr (ZG k1 k3 (x:= .none) rfl (Yr (ZG k1 k3 (x:=vh) rfl (Yr (ZG k1 k3 (x:=vk) rfl (Yv ?_)))))));refine Yr (dX pk ?_);show wpAny _ _ (if ((-1:Int)==0)=true then _ else _) _ _ s;rw[if_neg (by decide)];refine Yr (ai9 (Yr (dX ph (Yr (Yv ?_)))));have e1:Builtin.Slice.sliceAdjust none (some 0) ((some (-1:Int)).getD 1) (n:Int)=((n:Int) - 1,0):=by
  unfold Builtin.Slice.sliceAdjust;simp
  try lia
 rw[e1];have e:Builtin.Slice.slicePlaces ((n:Int) - 1) 0 (-1)=n - 1:=by
  unfold Builtin.Slice.slicePlaces;rw[if_neg (by decide),show(- -1:Int)=1 by decide,Int.ediv_one];split <;> lia
 show wpAny _ _ (pure ((n:Int) - 1,(-1:Int),Builtin.Slice.slicePlaces ((n:Int) - 1) 0 (-1))) _ _ s;rw[e];exact Yv h
theorem Aj(xs:Array Value)(n1:1<=xs.size):((List.range (xs.size - 1)).filterMap fun(m:Nat)=>xs[(((xs.size:Int) - 1)+(m:Int)*(-1)).toNat]?).toArray=(xs.toList.drop 1).reverse.toArray:=by
 congr 1
 have e:(List.range (xs.size - 1)).filterMap (fun(m:Nat)=>xs[(((xs.size:Int) - 1)+(m:Int)*(-1)).toNat]?)=(List.range (xs.size - 1)).filterMap fun m=>(xs.toList.drop 1).reverse[m]?:=by
  refine bf fun m hm=>?_;have:=Zp.mp hm;have hl:(xs.toList.drop 1).length=xs.size - 1:=by rw[ZM,YH]
  rw[ag8 (by rw[hl];exact this),hl,ab7,Zq];congr 1
  lia
 rw[e];have hl:(xs.toList.drop 1).reverse.length=xs.size - 1:=by rw[ZQ,ZM,YH]
 rw[<-hl];generalize (xs.toList.drop 1).reverse=l;induction l with
 | nil=>rfl
 | cons a l ih=>
  rw[YS,List.range_succ_eq_map,ac9];show a::(List.filterMap (fun m=>(a::l)[m]?) ((List.range l.length).map Nat.succ))=a::l;rw[List.filterMap_map];congr 1
theorem iM{items:Array Value}(n1:1<=items.size)(ht:IsTup s.heap t items)(hs:s.heap.IsSliceOf sl .none vh vk)(ph:IsPart vh (some 0))(pk:IsPart vk (some (-1)))(hsz:items.size<=sizeLine)(h:Q (.ref s.heap.objs.size) {s with heap:=s.heap.push {cls:= .type "tuple",data:= .seq (items.toList.drop 1).reverse.toArray}}):wpAny (model prog w) A (getItem (.ref t) (.ref sl)) Q E s:=by
 obtain⟨os,Bw,GI,EZ⟩:=id hs;have JD:s.TypeIs (.ref sl) "slice":=⟨os,Bw,GI⟩
 have room:sizeOk (.seq (items.toList.drop 1).reverse.toArray):=by
  show(items.toList.drop 1).reverse.toArray.size<=sizeLine;rw[YG,ZQ,ZM,YH];lia
 unfold getItem;try with_reducible refine Zs ?_
 first | refine Yr (Yv ?_) | skip
 refine Yr (aj3 ht.typeIs (by decide) (Yr (ZH (name:=Str.ofString "__getitem__") ht.typeIs Zz (ZP Zz ht.typeIs ah7 ?_ (ai3 _ _)))));show wpAny _ _ (Builtin.Tuple.tupleItemsOf (.ref t) >>=fun _=>_) _ _ s;refine Yr (tupleItemsOf_ ht (Yr (wpAny_typeOf JD ?_)));rw[if_pos (by decide)];refine Yr (HP n1 hs ph pk ?_);show wpAny _ _ (if (((items.size:Int) - 1)==0 && (-1:Int)==1 && (items.size - 1)==items.size)=true then _ else _) _ _ s;rw[if_neg (by simp),Aj items n1];first
  | exact Yr (m:=Builtin.Tuple.tupleExact _) (Zc (Yv ⟨_,rfl,Yv h⟩) room)
  | exact Yr (m:=Builtin.Tuple.tupleExact _) (Zc (Yr (Yv (Yv ⟨_,rfl,Yv h⟩))) room)
  | exact Yr (Yr (m:=Builtin.Tuple.tupleExact _) (Zc (Yv (Yv ⟨_,rfl,Yv h⟩)) room))
  | exact Yr (Yr (m:=Builtin.Tuple.tupleExact _) (Zc (Yv ⟨_,rfl,Yv h⟩) room))
section
variable{X:Cx}{e:Expr}{te:TE}{pos p2:Pos}
def LC(te:TE)(th tk:TO):TE:=fun σ H Q=>te σ H fun x H1=>th σ H1 fun oh H2=>tk σ H2 fun o H3=>oh=some 0/\o=some (-1)/\ ∃a xs,x= .ref a/\H3 a=some (.tup xs)/\1<=xs.length/\ ∀p,H3 p=none->Q (.ref p) (upd H3 p (.tup (xs.drop 1).reverse))
theorem Ef(he:PE X e te)(hh:PO X (some hx) th)(hk:PO X (some k) tk):PE X (.Subscript e (.Slice none (some hx) (some k) p2) pos) (LC te th tk):=by
 intro pins s σ H Q I h;refine Subscript_ (aV (he pins s σ H _ I h) fun v s1 cj=>?_);obtain⟨x,H1,I1,r1,q1⟩:=cj;refine wpAny_Slice ?_;rw[evalPart_none];refine Yv (aV (hh pins s1 σ H1 _ I1 q1) fun vh s2 dM=>?_);obtain⟨oh,H2,I2,ph,q2⟩:=dM;refine aV (hk pins s2 σ H2 _ I2 q2) fun vk s3 iU=>?_;obtain⟨o,H3,I3,pk,q3⟩:=iU;obtain⟨rfl,rfl,a,xs,rfl,wB,l1,q⟩:=q3;cases r1;have I4:Inv X pins σ H3 {s3 with heap:=s3.heap.push {cls:= .type "slice",data:= .fields #[.none,vh,vk]}}:=I3.kept (t':=s3.toks) fun b ob q=>Yu _ q;obtain⟨ao,r,ht,hz⟩:=I4.tuple (dE.of wB);refine tail_any (ops:= [.ref a,.ref s3.heap.objs.size]) ht.typeIs PyProof.Rows.slot_tuple_getitem.lookup (iM (by rw[YG,<-r.length];exact l1) ht (Heap.IsSliceOf.new ..) ph pk (by rw[YG,<-r.length];exact hz) ?_) (by with_unfolding_all rfl);refine⟨.ref _,_,I4.laid (t':=s3.toks) (o:= .tup (xs.drop 1).reverse) (fun b ob q=>Yu _ q) (Yx _) ⟨by rw[ZQ,ZM];lia,_,(r.drop 1).rev,kT.new _ _⟩,rfl,q _ (I4.aT.fresh (Yx _))⟩
end
end L2
namespace LD
open PySem PySem.Spec L2 LB PyProof.Rows LW
section
variable{X:Cx}{e:Expr}{t:bz}{tA:gn}{pos p p2:Pos}
inductive Fx(Q:Dt->List Sl->Prop)(d:Dt)(o1 o2:Option Int)(δ:List Sl):Prop
 | mk (ds:List Dt) (h1:o1=some 0) (h2:o2=some (-1)) (h3:d= .tup ds) (h4:1<=ds.length) (h5:Q (.tup (ds.drop 1).reverse) δ)
def NM(t:bz)(th tk:KD):bz:=fun δ Q=>t δ fun d δ1=>th δ1 fun o1 δ2=>tk δ2 fun o2 δ3=>Fx Q d o1 o2 δ3
theorem JX(he:Ev X e t)(hh:Pv X (some hx) th)(hk:Pv X (some k) tk):Ev X (.Subscript e (.Slice none (some hx) (some k) p2) pos) (NM t th tk):=PE.imp (Ef he hh hk) fun σ H Q dM=>(by
 obtain⟨W,M,α,δ,Qd,E,q,k⟩:=dM;refine⟨W,M,α,δ,_,E,q,fun d δ1 H1 x q1 E1 c1 r1=>⟨W,M,α,δ1,_,E1,q1,fun o1 δ2 H2 q2 E2 c2=>⟨W,M,α,δ2,_,E2,q2,fun o2 δ3 H3 iU E3 c3=>?_⟩⟩⟩;obtain⟨ds,e1,e2,e,l1,q3⟩:=iU;subst e;obtain⟨a,xs,rfl,ha,n,rr⟩:=((r1.chg E1 c2).chg E2 c3).bE;refine⟨e1,e2,a,xs,rfl,ha,by rw[rr.1];exact l1,fun p hp=>?_⟩;have s:aC H3 (upd H3 p (.tup (xs.drop 1).reverse)):=aC.new hp;exact k _ _ _ _ q3 (E3.same s) (((c1.tr c2).tr c3).tr (da.of s)) (Rep.fZ af (E3.fresh hp) (((rr.drop 1).rev).same s)))
end
end LD
namespace cn
open PySem PySem.Spec L2 LB LD PyProof.Rows kg
noncomputable def mu(n o:Nat):Nat:=if o=0 then 0 else n+1 - o
noncomputable def cG(n:Nat)(w:Nat->Nat->Wo):Nat->Nat->Wo:=fun i o=>w (n+1 - i) (mu n o)
def Gb:DN:=fun ds Q=> ∃(n:Nat) (w:Nat->Nat->Wo),ds= [dw n w]/\n<=12/\Q (dw n (cG n w))
noncomputable def OB:Dt->Dt
 | .tup ds=> .tup (ds.take 1++(ds.drop 1).reverse)
 | d=>d
theorem Hx(i1:1<=i)(i2:i<=n):OB (cC n w (n+1 - i))=cC n (cG n w) i:=by
 show Dt.tup (((List.range (n+1)).map fun o=>aU (w (n+1 - i) o)).take 1++(((List.range (n+1)).map fun o=>aU (w (n+1 - i) o)).drop 1).reverse)=Dt.tup ((List.range (n+1)).map fun o=>aU (cG n w i o));congr 1
 refine ZN fun o=>?_;have ll:(((List.range (n+1)).map fun o=>aU (w (n+1 - i) o)).take 1).length=1:=by rw[Zu,Yt,Y5];lia
 have l2:(((List.range (n+1)).map fun o=>aU (w (n+1 - i) o)).drop 1).length=n:=by rw[ZM,Yt,Y5];lia
 by_cases c:o=0
 . subst c;rw[Y1 (by lia),aa1 (by decide),YC,YC,Zr (by lia)];rfl
 . rw[Y8 (by lia),ll];by_cases d:o < n+1
   . rw[ag8 (by lia),l2,ab7,YC,YC,Zr (by lia),Zr d];show some (aU (w (n+1 - i) (1+(n - 1 - (o - 1)))))=some (aU (w (n+1 - i) (mu n o)));unfold mu;rw[if_neg c,show 1+(n - 1 - (o - 1))=n+1 - o by lia]
   . rw[Zj (by rw[ZQ,l2];lia),Zj (by rw[Yt,Y5];lia)]
theorem Hy(n:Nat)(w:Nat->Nat->Wo):Dt.tup (((List.range' 1 n).map (cC n w)).reverse.map OB)=dw n (cG n w):=by
 unfold dw;congr 1
 refine ZN fun j=>?_;rw[YC,YC];by_cases c:j < n
 . rw[ag8 (by rw[Yt,YZ];exact c),Yt,YZ,YC,ZL (by lia),ZL c];show some (OB (cC n w (1+1*(n - 1 - j))))=some (cC n (cG n w) (1+1*j));rw[<-Hx (n:=n) (i:=1+1*j) (by lia) (by lia),show n+1 - (1+1*j)=1+1*(n - 1 - j) by lia]
 . rw[Zj (l:=((List.range' 1 n).map (cC n w)).reverse) (by rw[ZQ,Yt,YZ];lia),Zj (l:=List.range' 1 n) (by rw[YZ];lia)];rfl
noncomputable def nK(f:Nat)(w:Nat->Nat->Wo):Nat->Nat->Wo:=fun i o=>w (i+(f - 1)) (if o=0 then 0 else o+(f - 1))
def NX:DN:=fun ds Q=> ∃(n f l:Nat) (w:Nat->Nat->Wo),ds= [dw n w,.int (f:Int),.int (l:Int)]/\1<=f/\f<=l/\l<=n/\n<=12/\Q (dw (l+1 - f) (nK f w))
noncomputable def FN(f l:Nat):Dt->Dt
 | .tup ds=> .tup (ds.take 1++(ds.take (l+1)).drop f)
 | d=>d
theorem FK(f1:1<=f)(fl:f<=l)(ln:l<=n):FN f l (cC n w (i+(f - 1)))=cC (l+1 - f) (nK f w) i:=by
 show Dt.tup (((List.range (n+1)).map fun o=>aU (w (i+(f - 1)) o)).take 1++(((List.range (n+1)).map fun o=>aU (w (i+(f - 1)) o)).take (l+1)).drop f)=Dt.tup ((List.range (l+1 - f+1)).map fun o=>aU (nK f w i o));congr 1
 refine ZN fun o=>?_;have ll:(((List.range (n+1)).map fun o=>aU (w (i+(f - 1)) o)).take 1).length=1:=by rw[Zu,Yt,Y5];lia
 by_cases c:o=0
 . subst c;rw[Y1 (by lia),aa1 (by decide),YC,YC,Zr (by lia),Zr (by lia)];rfl
 . rw[Y8 (by lia),ll,ab7];by_cases d:o < l+1 - f+1
   . rw[aa1 (by lia),YC,YC,Zr (by lia),Zr d];show some (aU (w (i+(f - 1)) (f+(o - 1))))=some (aU (w (i+(f - 1)) (if o=0 then 0 else o+(f - 1))));rw[if_neg c,show f+(o - 1)=o+(f - 1) by lia]
   . rw[Zj (by rw[Zu];lia),Zj (by rw[Yt,Y5];lia)]
theorem FL(w:Nat->Nat->Wo)(f1:1<=f)(fl:f<=l)(ln:l<=n):Dt.tup (((((List.range' 1 n).map (cC n w)).take l).drop (f - 1)).map (FN f l))=dw (l+1 - f) (nK f w):=by
 unfold dw;congr 1
 refine ZN fun j=>?_;rw[YC,YC,ab7];by_cases c:j < l+1 - f
 . rw[aa1 (by lia),YC,ZL (by lia),ZL c];show some (FN f l (cC n w (1+1*(f - 1+j))))=some (cC (l+1 - f) (nK f w) (1+1*j));rw[<-FK f1 fl ln,show 1+1*(f - 1+j)=1+1*j+(f - 1) by lia]
 . rw[Zj (by rw[Zu];lia),Zj (by rw[YZ];lia)];rfl
noncomputable def Au(p:Nat × Nat):Dt:= .tup [xI p.1,xI p.2]
noncomputable def uz:Dt->Int
 | .tup [.int a,.int b]=>a*100+b
 | _=>0
theorem LU(p q:Nat × Nat):Lb 1 (Au p) (Au q):=by
 refine .tup (fun j d e hd he=>?_) fun j d e hd he=>?_
 . match j,hd,he with
   | 0,hd,he=>cases hd;cases he;exact .flat rfl rfl
   | 1,hd,he=>cases hd;cases he;exact .flat rfl rfl
   | j+2,hd,he=>cases hd
 . match j,hd,he with
   | 0,hd,he=>cases hd;cases he;exact .int
   | 1,hd,he=>cases hd;cases he;exact .int
   | j+2,hd,he=>cases hd
theorem MA(hp:p.2 < 100)(hq:q.2 < 100):KO 1 (Au p) (Au q)=decide (uz (Au p) < uz (Au q)):=by
 obtain⟨a,b⟩:=p;obtain⟨c,d⟩:=q;show(if ((a:Int)==(c:Int))=true then(if ((b:Int)==(d:Int))=true then _ else decide ((b:Int) < (d:Int))) else decide ((a:Int) < (c:Int)))=decide ((a:Int)*100+(b:Int) < (c:Int)*100+(d:Int));dsimp only at hp hq;by_cases h1:a=c
 . subst h1;rw[if_pos (by simp)];by_cases h2:b=d
   . subst h2;rw[if_pos (by simp),ZI (by lia)];rfl
   . rw[if_neg (by simp;lia)];exact ae5.mpr ⟨fun h=>by lia,fun h=>by lia⟩
 . rw[if_neg (by simp;lia)];exact ae5.mpr ⟨fun h=>by lia,fun h=>by lia⟩
theorem xU(eP:n<=12){ps:List (Nat × Nat)}(pm:ps.Perm (aW n))(pw:ps.Pairwise fun p q=>uz (Au p)<=uz (Au q)):ps=aW n:=by
 have nd:(aW n).Nodup:=(fQ n).imp fun h e=>by subst e;lia
 have Vw:ps.Nodup:=pm.nodup_iff.mpr nd;have Qs:ps.Pairwise fun p q:Nat × Nat=>p.1 < q.1\/(p.1=q.1/\p.2 < q.2):=by
  refine(List.Pairwise.and_mem.mp (pw.and Vw)).imp fun{p q} hh=>?_;obtain⟨hp,hq,h1,h2⟩:=hh;have p1:=aK.mp (pm.mem_iff.mp hp);have q1:=aK.mp (pm.mem_iff.mp hq);obtain⟨a,b⟩:=p;obtain⟨c,d⟩:=q;have h1:(a:Int)*100+(b:Int)<=(c:Int)*100+(d:Int):=h1;dsimp only at p1 q1 ⊢;by_cases e:a=c
  . subst e;by_cases e2:b=d
    . subst e2;exact absurd rfl h2
    . lia
  . lia
 refine dQ (R:=fun p q:Nat × Nat=>p.1 < q.1\/(p.1=q.1/\p.2 < q.2)) (fun a h=>by lia) (fun a b h1 h2=>by lia) Qs (fQ n) fun x=>pm.mem_iff
noncomputable def yc(n:Nat)(p:Nat × Nat):Nat × Nat:=(n+1 - p.2,n+1 - p.1)
theorem v8(n:Nat):((aW n).map (yc n)).Perm (aW n):=by
 have nd:(aW n).Nodup:=(fQ n).imp fun h e=>by subst e;lia
 refine(List.perm_ext_iff_of_nodup ?_ nd).mpr fun p=>⟨fun h=>?_,fun h=>?_⟩
 . refine ZT.mpr ((List.Pairwise.and_mem.mp nd).imp fun{p q} hh e=>?_);obtain⟨hp,hq,ne⟩:=hh;have p1:=aK.mp hp;have q1:=aK.mp hq;obtain⟨a,b⟩:=p;obtain⟨c,d⟩:=q;have e1:n+1 - b=n+1 - d:=ZA Prod.fst e;have e2:n+1 - a=n+1 - c:=ZA Prod.snd e;dsimp only at p1 q1;refine ne ?_;rw[show a=c by lia,show b=d by lia]
 . obtain⟨q,hq,rfl⟩:=YE.mp h;have q1:=aK.mp hq;refine aK.mpr ⟨?_,?_,?_⟩
   . show 1<=n+1 - q.2;lia
   . show n+1 - q.2 < n+1 - q.1;lia
   . show n+1 - q.1<=n;lia
 . have p1:=aK.mp h;refine YE.mpr ⟨yc n p,aK.mpr ⟨?_,?_,?_⟩,?_⟩
   . show 1<=n+1 - p.2;lia
   . show n+1 - p.2 < n+1 - p.1;lia
   . show n+1 - p.1<=n;lia
   . obtain⟨a,b⟩:=p;show(n+1 - (n+1 - a),n+1 - (n+1 - b))=(a,b)
     dsimp only at p1;rw[show n+1 - (n+1 - a)=a by lia,show n+1 - (n+1 - b)=b by lia]
theorem IU(hp:p∈aW n):fq (cG n w) (yc n p)= .tup [.int ((n:Int)+1 - (p.2:Int)),.int ((n:Int)+1 - (p.1:Int)),aU (ev w (Q p.1 p.2).lf),aU (ev w (Q p.1 p.2).lt),aU (ev w (Q p.1 p.2).rg),aU (ev w (Q p.1 p.2).rt)]:=by
 have p1:=aK.mp hp;obtain⟨a,b⟩:=p;dsimp only at p1;have e:=turn_val (w:=w) (w':=cG n w) (n:=n) (fun i o i1 i2 o1 o2=>by unfold cG mu;rw[if_neg (by lia)]) (b - a) (n+1 - b) (n+1 - a) (by lia) (by lia) (by lia) (by lia);rw[show n+1 - (n+1 - a)=a by lia,show n+1 - (n+1 - b)=b by lia] at e;unfold fq;show Dt.tup [xI (n+1 - b),xI (n+1 - a),aU (ev (cG n w) (Q (n+1 - b) (n+1 - a)).rg),aU (ev (cG n w) (Q (n+1 - b) (n+1 - a)).rt),aU (ev (cG n w) (Q (n+1 - b) (n+1 - a)).lf),aU (ev (cG n w) (Q (n+1 - b) (n+1 - a)).lt)]=_;rw[e.1,e.2.1,e.2.2.1,e.2.2.2];unfold xI;rw[show((n+1 - b:Nat):Int)=(n:Int)+1 - (b:Int) by lia,show((n+1 - a:Nat):Int)=(n:Int)+1 - (a:Int) by lia]
theorem uS(hr:bM k A):A.units+2+0 < cLine:=by have:=hr.un;lia
noncomputable def P4(n:Nat):Dt->Dt
 | .tup [.int a,.int b,c,d,e,f]=> .tup [.int ((n:Int)+1 - b),.int ((n:Int)+1 - a),e,f,c,d]
 | d=>d
noncomputable def hd2:Dt->Dt
 | .tup (a::b::_)=> .tup [a,b]
 | d=>d
theorem Ls(hp:p∈aW n):P4 n (fq w p)=fq (cG n w) (yc n p):=(IU hp).symm
def Ge:DN:=fun ds Q=> ∃(n:Nat) (w:Nat->Nat->Wo),ds= [.lst ((aW n).map (fq w)),.int (n:Int)]/\n<=12/\Q (.lst ((aW n).map (fq (cG n w))))
theorem Mq(p:Nat × Nat):LD.G8 (Au p):= .tup fun d hd=>by
 rcases YU.mp hd with rfl | hd
 . exact .int _
 . rcases YU.mp hd with rfl | hd
   . exact .int _
   . cases hd
section
variable{P:Program}{w:World}{K:PySem.W.Frag}{mg:Str->Option Value}{base:Heap}
theorem xW(F:ip K "_law_turned_table" "_law_turned_table" cu f fd)(T:Txt mg):bp P w K mg base eM 1 f fd ["_law_w"] (dN Gb):=by
 refine tO F l4 (fun ds Qd h=>?_) (fun bZ A outer s H E hr=>⟨_,(aJ (aP (jz T.tup (aa (Ov.ev (cm (N:= ["_law_row"]) (nt:=1) (js:= []) ⟨rfl,by decide+kernel,by decide,rfl,by decide+kernel,(by show∀x∈(_:List (Str × NameKind)),x.2=NameKind.free->(ae cu).names.lookup x.1=some .cell\/(ae cu).names.lookup x.1=some .free;decide+kernel)⟩ rfl (GA (JW (dv 0) (ck (wW ay)))) (fun _ _ _ _ _=>aE (i:=0) (show(["_law_row"]:List Str).Nodup by decide+kernel) rfl (by first | exact Or.inl rfl | exact Or.inr rfl)) ba aO (fun _ _ _ _ _=>cX) (fun _ _ _ _ _=>(j8 (iz (dv 0) iH (ck ay)) (JX (dv 0) (ck ay) (ck (wW ay))))))) ai)))),fun ds Qd h=>?_⟩)
 . obtain⟨n,w,rfl,_⟩:=h;rfl
 . obtain⟨n,w,rfl,eP,q⟩:=h;refine⟨_,rfl,_,rfl,_,rfl,rfl,_,rfl,_,rfl,by rw[ZQ,Yt,YZ];exact YT eP (by decide),fun _=>true,OB,fun d hd=>?_,?_⟩
   . obtain⟨i,hi,rfl⟩:=YE.mp (List.mem_reverse.mp hd);have rl:((List.range (n+1)).map fun o=>aU (w i o)).length=n+1:=by rw[Yt,Y5]
     have ec:LD.cutD ((List.range (n+1)).map fun o=>aU (w i o)) none (some 1)=((List.range (n+1)).map fun o=>aU (w i o)).take 1:=by
      unfold LD.cutD;rw[HT.mf,show((1:Int))=((1:Nat):Int) from rfl,HT.i5,List.drop_zero,ai2,rl,Nat.min_eq_left (by lia)]
     refine⟨⟨_,rfl,rfl⟩,rfl,fun _=>⟨_,rfl,_,rfl,_,rfl,_,rfl,_,rfl,_,rfl,_,rfl,_,rfl,rfl,rfl,by rw[rl];lia,_,_,rfl,rfl,?_,?_⟩⟩
     . rw[ec,Zu,ZQ,ZM,rl];exact YT (show _<=14 by lia) (by decide)
     . rw[ec];rfl
   . rw[Zx.mpr fun _ _=>rfl];refine⟨_,.inl rfl,?_⟩;rw[Hy];exact q
theorem p9(hL:("_law_turned_due":Str)∈bb)(F:Kw K "_law_turned_due" "_law_turned_due" dy f fd c Pt)(T:Txt mg):bp P w K mg base eM 1 f fd ["_law_rows","_law_many_here"] (dN Ge):=by
 refine RH F iZ (fun ds Qd h=>?_) (fun A outer s H E hr=>⟨_,(aq (Ae 2 iZ.nd (N:= ["_law_row","_law_many_here"]) (nt:=1) (js:= [1]) ⟨rfl,by decide+kernel,by decide,rfl,by decide+kernel,(by show∀x∈(_:List (Str × NameKind)),x.2=NameKind.free->(ae dy).names.lookup x.1=some .cell\/(ae dy).names.lookup x.1=some .free;decide+kernel)⟩ rfl (iK (dv 0)) (fun _ _ _ _ _=>aE (i:=0) (show(["_law_row","_law_many_here"]:List Str).Nodup by decide+kernel) rfl (by first | exact Or.inl rfl | exact Or.inr rfl)) ba aO (fun _ _ _ _ _=>cX) (fun _ _ _ _ _=>(j8 (j8 (bL (aa (eZ (bW (dv 1) ay) (eQ (dv 0) ay)) (aa (eZ (bW (dv 1) ay) (eQ (dv 0) ay)) ai))) (iz (dv 0) (ck ay) iH)) (iz (dv 0) (ck ay) (ck ay)))))
 (aJ (vL 2 (aP (yI (x:="_law_turned_due") (c:=c) (P:=Pt) (p:="_law_row") (caps:= []) (js:= []) (m:=0) (dv 2) ⟨rfl,rfl,rfl,by decide+kernel,rfl,rfl,(fun y hy=>nomatch hy),(by repeat (first | exact z0 | refine vG (by first | exact Or.inl rfl | exact Or.inr rfl) ?_ | refine vH (fun z=>nomatch z) ?_)),fun _ _ _ _ _ _=>rfl⟩ rfl hr (uS hr) hL F.tab F.hd rfl rfl rfl (fun _ _ _ _ _ _=>(iz (dv 0) iH (ck ay))) rfl T.HM))))),fun ds Qd h=>?_⟩)
 . obtain⟨n,w,rfl,_⟩:=h;rfl
 . obtain⟨n,w,rfl,eP,q⟩:=h;refine⟨_,rfl,_,rfl,by rw[Yt];exact small (YT (cM eP) (by decide)),fun _=>true,P4 n,fun d hd=>?_,?_⟩
   . obtain⟨p,hp,rfl⟩:=YE.mp hd;have p1:=aK.mp hp;refine⟨⟨_,rfl,rfl⟩,rfl,fun _=>⟨_,rfl,_,_,rfl,rfl,_,rfl,_,_,_,.inr rfl,rfl,aZ (j:=1) rfl,_,_,rfl,rfl,_,rfl,_,_,rfl,rfl,_,rfl,_,_,_,.inr rfl,rfl,aZ (j:=0) rfl,_,_,rfl,rfl,by show 2<=sizeLine;decide,_,rfl,_,rfl,_,rfl,_,_,rfl,rfl,by show 4<=sizeLine;decide,_,rfl,_,rfl,_,rfl,_,rfl,_,_,rfl,rfl,by show 6<=sizeLine;decide,rfl⟩⟩
   . rw[Zx.mpr fun _ _=>rfl,Y3];have ee:(aW n).map (P4 n ∘ fq w)=((aW n).map (yc n)).map (fq (cG n w)):=by
      rw[Y3];exact Y0 fun p hp=>Ls hp
     rw[ee];have OP: ∀d∈((aW n).map (yc n)).map (fq (cG n w)),∃p,p∈aW n/\d=fq (cG n w) p:=fun d hd=>by
      obtain⟨p,hp,rfl⟩:=YE.mp hd;exact⟨p,(v8 n).mem_iff.mp hp,rfl⟩
     refine⟨⟨_,rfl,rfl⟩,_,rfl,_,rfl,_,hd2,uz,rfl,by rw[Yt,Yt];exact YT (cM eP) (by decide),fun d hd=>?_,fun d hd=>?_,fun d hd e he=>?_,fun ms pm pw=>?_⟩
     . obtain⟨p,hp,rfl⟩:=OP d hd;exact⟨_,rfl,_,rfl,_,rfl,rfl⟩
     . obtain⟨p,hp,rfl⟩:=OP d hd;exact⟨Mq p,_,_,rfl⟩
     . obtain⟨p,hp,rfl⟩:=OP d hd;obtain⟨q',hq,rfl⟩:=OP e he;have p1:=aK.mp hp;have q1:=aK.mp hq;exact⟨LU p q',MA (by lia) (by lia)⟩
     . obtain⟨ps,pp,rfl⟩:=bD.mn pm rfl;have Vi:List.Pairwise (fun p q:Nat × Nat=>uz (Au p)<=uz (Au q)) ps:=List.Pairwise.of_map (fq (cG n w)) (fun a b h=>h) pw;have e2:=xU eP (pp.trans (v8 n)) Vi;rw[e2];exact q
end
theorem sY{ds:List Dt}(h1:a<=b)(h2:b<=ds.length):LD.cutD ds (some (a:Int)) (some (b:Int))=(ds.take b).drop a:=by
 unfold LD.cutD;rw[HT.i5,HT.i5,Nat.min_eq_left (show a<=ds.length by lia),Nat.min_eq_left h2,List.drop_take]
theorem FO{ds:List Dt}(h2:b<=ds.length):LD.cutD ds none (some (b:Int))=ds.take b:=by
 unfold LD.cutD;rw[HT.mf,HT.i5,List.drop_zero,ai2,Nat.min_eq_left h2]
def G3:DN:=fun ds Q=> ∃(n f l:Nat) (w:Nat->Nat->Wo),ds= [.lst ((aW n).map (fq w)),.int (f:Int),.int (l:Int)]/\1<=f/\f<=l/\l<=n/\n<=12/\Q (.lst ((aW (l+1 - f)).map (fq (nK f w))))
noncomputable def So(f l:Nat):Dt->Bool
 | .tup (.int a:: .int b::_)=>decide ((f:Int)<=a/\b<=(l:Int))
 | _=>false
noncomputable def Ur(f:Nat):Dt->Dt
 | .tup [.int a,.int b,c,d,e,g]=> .tup [.int (a - (f:Int)+1),.int (b - (f:Int)+1),c,d,e,g]
 | d=>d
noncomputable def QQ(f l:Nat)(p:Nat × Nat):Bool:=decide (f<=p.1/\p.2<=l)
theorem yM(w:Nat->Nat->Wo)(n f l:Nat):(((aW n).map (fq w)).filter (So f l)).map id=((aW n).filter (QQ f l)).map (fq w):=by
 rw[List.map_id,List.filter_map];congr 1
 refine List.filter_congr fun p _=>?_;show decide ((f:Int)<=(p.1:Int)/\(p.2:Int)<=(l:Int))=decide (f<=p.1/\p.2<=l);exact ae5.mpr ⟨fun h=>by lia,fun h=>by lia⟩
theorem Br(f1:1<=f)(fl:f<=l)(ln:l<=n):(aW n).filter (QQ f l)=(aW (l+1 - f)).map fun p=>(p.1+(f - 1),p.2+(f - 1)):=by
 refine dQ (R:=fun p q:Nat × Nat=>p.1 < q.1\/(p.1=q.1/\p.2 < q.2)) (fun a h=>by lia) (fun a b h1 h2=>by lia) ((fQ n).filter _) (ZT.mpr ((fQ _).imp fun{p q} h=>by dsimp only;lia)) fun x=>⟨fun h=>?_,fun h=>?_⟩
 . obtain⟨h1,h2⟩:=aa6.mp h;have m:=aK.mp h1;have h2:=Ze h2;refine YE.mpr ⟨(x.1 - (f - 1),x.2 - (f - 1)),aK.mpr ⟨?_,?_,?_⟩,?_⟩
   . show 1<=x.1 - (f - 1);lia
   . show x.1 - (f - 1) < x.2 - (f - 1);lia
   . show x.2 - (f - 1)<=l+1 - f;lia
   . obtain⟨a,b⟩:=x;dsimp only at m h2 ⊢;rw[show a - (f - 1)+(f - 1)=a by lia,show b - (f - 1)+(f - 1)=b by lia]
 . obtain⟨p,hp,rfl⟩:=YE.mp h;have m:=aK.mp hp;refine aa6.mpr ⟨aK.mpr ⟨?_,?_,?_⟩,Zf ⟨?_,?_⟩⟩
   . show 1<=p.1+(f - 1);lia
   . show p.1+(f - 1) < p.2+(f - 1);lia
   . show p.2+(f - 1)<=n;lia
   . show f<=p.1+(f - 1);lia
   . show p.2+(f - 1)<=l;lia
theorem Ki(w:Nat->Nat->Wo)(f1:1<=f)(fl:f<=l)(ln:l<=n):((aW n).filter (QQ f l)).map (Ur f ∘ fq w)=(aW (l+1 - f)).map (fq (nK f w)):=by
 rw[Br f1 fl ln,Y3];refine Y0 fun p hp=>?_;have m:=aK.mp hp;obtain⟨a,b⟩:=p;dsimp only at m;have e:=FJ (w:=w) (w':=nK f w) (s:=f - 1) (lo:=1) (hi:=l+1 - f) (fun i o i1 i2 o1 o2=>by unfold nK;rw[if_neg (by lia)]) (b - a) a b rfl (by lia) (by lia) (by lia);show Dt.tup [.int (((a+(f - 1):Nat):Int) - (f:Int)+1),.int (((b+(f - 1):Nat):Int) - (f:Int)+1),aU (ev w (Q (a+(f - 1)) (b+(f - 1))).rg),aU (ev w (Q (a+(f - 1)) (b+(f - 1))).rt),aU (ev w (Q (a+(f - 1)) (b+(f - 1))).lf),aU (ev w (Q (a+(f - 1)) (b+(f - 1))).lt)]=_;unfold fq xI;dsimp only;rw[e.1,e.2.1,e.2.2.1,e.2.2.2,show((a+(f - 1):Nat):Int) - (f:Int)+1=(a:Int) by lia,show((b+(f - 1):Nat):Int) - (f:Int)+1=(b:Int) by lia]
section
variable{P:Program}{w:World}{K:PySem.W.Frag}{mg:Str->Option Value}{base:Heap}
theorem IM(F:ip K "_law_cut" "_law_cut" rM f fd)(T:Txt mg):bp P w K mg base eM 1 f fd ["_law_w","_law_first","_law_last"] (dN NX):=by
 refine tO F HS (fun ds Qd h=>?_) (fun bZ A outer s H E hr=>⟨_,(aJ (aP (jz T.tup (aa (Ov.ev (cm (N:= ["_law_row","_law_first","_law_last"]) (nt:=1) (js:= [1,2]) ⟨rfl,by decide+kernel,by decide,rfl,by decide+kernel,(by show∀x∈(_:List (Str × NameKind)),x.2=NameKind.free->(ae rM).names.lookup x.1=some .cell\/(ae rM).names.lookup x.1=some .free;decide+kernel)⟩ rfl (GA (iz (dv 0) (ck (eZ (dv 1) ay)) (ck (dv 2)))) (fun _ _ _ _ _=>aE (i:=0) (show(["_law_row","_law_first","_law_last"]:List Str).Nodup by decide+kernel) rfl (by first | exact Or.inl rfl | exact Or.inr rfl)) ba aO (fun _ _ _ _ _=>cX) (fun _ _ _ _ _=>(j8 (iz (dv 0) iH (ck ay)) (iz (dv 0) (ck (dv 1)) (ck (bW (dv 2) ay))))))) ai)))),fun ds Qd h=>?_⟩)
 . obtain⟨n,f,l,w,rfl,_⟩:=h;rfl
 . obtain⟨n,f,l,w,rfl,f1,fl,ln,eP,q⟩:=h;have e0:LD.cutD ((List.range' 1 n).map (cC n w)) (some ((f:Int) - 1)) (some (l:Int))=(((List.range' 1 n).map (cC n w)).take l).drop (f - 1):=by
    rw[show(f:Int) - 1=((f - 1:Nat):Int) by lia];exact sY (by lia) (by rw[Yt,YZ];exact ln)
   refine⟨_,rfl,_,rfl,_,_,rfl,rfl,_,rfl,_,rfl,_,rfl,_,rfl,_,rfl,?_,fun _=>true,FN f l,fun d hd=>?_,?_⟩
   . rw[e0,ZM,Zu,Yt,YZ];exact YT (show _<=12 by lia) (by decide)
   . rw[e0] at hd;obtain⟨i,hi,rfl⟩:=YE.mp (List.mem_of_mem_take (List.mem_of_mem_drop hd));have rl:((List.range (n+1)).map fun o=>aU (w i o)).length=n+1:=by rw[Yt,Y5]
     have ea:LD.cutD ((List.range (n+1)).map fun o=>aU (w i o)) none (some 1)=((List.range (n+1)).map fun o=>aU (w i o)).take 1:=FO (b:=1) (by rw[rl];lia);have eb:LD.cutD ((List.range (n+1)).map fun o=>aU (w i o)) (some (f:Int)) (some ((l:Int)+1))=(((List.range (n+1)).map fun o=>aU (w i o)).take (l+1)).drop f:=sY (b:=l+1) (by lia) (by rw[rl];lia);refine⟨⟨_,rfl,rfl⟩,rfl,fun _=>⟨_,rfl,_,rfl,_,rfl,_,rfl,_,rfl,_,rfl,_,rfl,_,_,rfl,rfl,_,rfl,_,rfl,_,_,rfl,rfl,?_,?_⟩⟩
     . rw[ea,eb,Zu,ZM,Zu,rl];exact YT (show _<=20 by lia) (by decide)
     . rw[ea,eb];rfl
   . rw[Zx.mpr fun _ _=>rfl,e0];refine⟨_,.inl rfl,?_⟩;rw[FL w f1 fl ln];exact q
theorem x4(F:ip K "_law_cut_due" "_law_cut_due" en f fd)(T:Txt mg):bp P w K mg base eM 1 f fd ["_law_rows","_law_first","_law_last"] (dN G3):=by
 refine tO F oA (fun ds Qd h=>?_) (fun bZ A outer s H E hr=>⟨_,(aq (Ae 3 oA.nd (N:= ["_law_row","_law_first","_law_last"]) (nt:=1) (js:= [1,2]) ⟨rfl,by decide+kernel,by decide,rfl,by decide+kernel,(by show∀x∈(_:List (Str × NameKind)),x.2=NameKind.free->(ae en).names.lookup x.1=some .cell\/(ae en).names.lookup x.1=some .free;decide+kernel)⟩ rfl (iK (dv 0)) (fun _ _ _ _ _=>aE (i:=0) (show(["_law_row","_law_first","_law_last"]:List Str).Nodup by decide+kernel) rfl (by first | exact Or.inl rfl | exact Or.inr rfl)) ba aO (fun _ _ _ _ _=>GO (PW.pt (w_and (Lx (dv 1) (eQ (dv 0) ay)) (zG (Lx (eQ (dv 0) ay) (dv 2)))))) (fun _ _ _ _ _=>(dv 0)))
 (aJ (vL 3 (aP (Ov.ev (cm (N:= ["_law_row","_law_first"]) (nt:=1) (js:= [1]) ⟨rfl,by decide+kernel,by decide,rfl,by decide+kernel,(by show∀x∈(_:List (Str × NameKind)),x.2=NameKind.free->(ae en).names.lookup x.1=some .cell\/(ae en).names.lookup x.1=some .free;decide+kernel)⟩ rfl (iK (dv 3)) (fun _ _ _ _ _=>aE (i:=0) (show(["_law_row","_law_first"]:List Str).Nodup by decide+kernel) rfl (by first | exact Or.inl rfl | exact Or.inr rfl)) ba aO (fun _ _ _ _ _=>cX) (fun _ _ _ _ _=>(j8 (bL (aa (bW (eZ (eQ (dv 0) ay) (dv 1)) ay) (aa (bW (eZ (eQ (dv 0) ay) (dv 1)) ay) ai))) (iz (dv 0) (ck ay) iH))))))))),fun ds Qd h=>?_⟩)
 . obtain⟨n,f,l,w,rfl,_⟩:=h;rfl
 . obtain⟨n,f,l,w,rfl,f1,fl,ln,eP,q⟩:=h;refine⟨_,rfl,_,rfl,by rw[Yt];exact small (YT (cM eP) (by decide)),So f l,id,fun d hd=>?_,?_⟩
   . obtain⟨p,hp,rfl⟩:=YE.mp hd;refine⟨⟨_,rfl,rfl⟩,?_⟩;refine⟨_,rfl,_,rfl,_,_,_, .inr rfl,rfl,aZ (j:=0) rfl,_,_,rfl,rfl,_,rfl,?_⟩;have ec:So f l (fq w p)=decide ((f:Int)<=(p.1:Int)/\(p.2:Int)<=(l:Int)):=rfl;rw[ec];by_cases c:(f:Int)<=(p.1:Int)
     . rw[if_pos (Zf c)];refine⟨_,rfl,_,_,_,.inr rfl,rfl,aZ (j:=1) rfl,_,rfl,_,_,rfl,rfl,_,rfl,?_,fun _=>⟨_,rfl,rfl⟩⟩;exact ae5.mpr ⟨fun h=>⟨c,h⟩,fun h=>h.2⟩
     . rw[if_neg (by simpa using c)];exact⟨(ZI fun z=>c z.1).symm,fun z=>by cases z⟩
   . rw[yM w n f l];refine⟨⟨_,rfl,rfl⟩,_,rfl,_,rfl,_,rfl,?_,fun _=>true,Ur f,fun d hd=>?_,?_⟩
     . rw[Yt];exact small (YT (List.length_filter_le _ _) (YT (cM eP) (by decide)))
     . obtain⟨p,hp,rfl⟩:=YE.mp hd;exact⟨⟨_,rfl,rfl⟩,rfl,fun _=>⟨_,rfl,_,_,_,.inr rfl,rfl,aZ (j:=0) rfl,_,rfl,_,_,rfl,rfl,_,_,rfl,rfl,_,rfl,_,_,_,.inr rfl,rfl,aZ (j:=1) rfl,_,rfl,_,_,rfl,rfl,_,_,rfl,rfl,by show 2<=sizeLine;decide,_,rfl,_,rfl,_,rfl,_,_,rfl,rfl,by show 6<=sizeLine;decide,rfl⟩⟩
     . rw[Zx.mpr fun _ _=>rfl,Y3,Ki w f1 fl ln];exact q
end
end cn
namespace xn
open PySem PySem.Spec L2 PyProof.Rows
noncomputable def gR(aG ps:List (List Key × V)):List (List Key × V):=ps.foldl (fun m p=>putK m p.1 p.2) aG
theorem xA{A:Around}{refs:List V}{ps:List (List Key × V)}(hn:refs.length=ps.length)(hA:A.handled=none)(ML:A.in1.units < cLine):
  ∀(k i:Nat) (s:Shared) (H:Hp) (aG:List (List Key × V)),ps.length - i=k->i<=ps.length->Inv X pins σ H s->H a=some (.dT aG)->H l=some (.lst refs)->(∀(j:Nat) p,ps[j]?=some p-> ∃q b,refs[j]?=some (.ref q)/\H q=some (.tup [.ref b,p.2])/\H b=some (.tup (p.1.map kV)))->aG.length+(ps.length - i)<=sizeLine->
   s.heap.IsListIter it l i->cU X pins H it->(∀s',Inv X pins σ (upd H a (.dT (gR aG (ps.drop i)))) s'->R (.ok (.ret .none)) s')->codeAny (model X.prog X.w) A (.builtin "dict.update.loop" ⟨[.ref a,.ref it,rawInt (i:Int),.none],[]⟩) R s:=by
 intro k;induction k with
 | zero=>
  intro i s H aG hk hi I ha hl hp hsz st fo hR;have V7:i=ps.length:=by omega
  subst V7;obtain⟨ao,rv,p,hz⟩:=I.list (cY.of hl);refine ac2 g6 ?_;rw[aa4 cH _];show wpAny _ A.in1 (pyNext (.ref it) >>=_) _ _ s;obtain⟨f0,f1,f2,f3,f4,f5⟩:=id fo;have Dl:=rv.length;refine Yr (wpAny_pyNext_list_end hA st p.isList (by simp;omega) fun h' eb=>?_);have I1:Inv X pins σ H {s with heap:=h'}:=I.turned (t':=s.toks) (fun b o hb e=>eb b o hb e) f0 f1 f3 f4 f5;have e:upd H a (.dT (gR aG (ps.drop ps.length)))=H:=by
   rw[List.drop_length];funext b
   by_cases hb:b=a
   . subst hb;rw[af,ha];rfl
   . rw[ag hb]
  rw[e] at hR;exact Yr (Yv (Yv (hR _ I1)))
 | succ k ih=>
  intro i s H aG hk hi I ha hl hp hsz st fo hR;have df:i < ps.length:=by omega
  obtain⟨q,b,hq,VQ,Wq⟩:=hp i ps[i] (Ys df);obtain⟨ao,rv,p,hz⟩:=I.list (cY.of hl);obtain⟨u,hu,ru⟩:=rv.get hq;cases (show u=Value.ref q from ru);refine ac2 g6 ?_;rw[aa4 cH _];show wpAny _ A.in1 (pyNext (.ref it) >>=_) _ _ s;obtain⟨f0,f1,f2,f3,f4,f5⟩:=id fo;refine Yr (wpAny_pyNext_list_item st p.isList (x:= .ref q) (by simpa using hu) fun h' az sb=>?_);have I1:Inv X pins σ H {s with heap:=h'}:=I.turned (t':=s.toks) (fun b o hb e=>(sb.2 b hb).trans e) f0 f1 f3 f4 f5;obtain⟨_,de,r2,o,ho,hc,XQ,n,E8⟩:=(show a9 X.prog X.w H h' q (.tup [.ref b,ps[i].2]) from I1.aT q _ VQ)
  obtain⟨ku,vu,rfl,rk,Vf⟩:=vals2 r2;have hT:({s with heap:=h'}:Shared).TypeIs (.ref q) "tuple":=⟨o,ho,hc⟩
  have Vs:it≠a:=fun z=>by rw[z,ha] at f0;cases f0
  have Vr:l≠a:=fun z=>by rw[z,ha] at hl;cases hl
  have lp:(putK aG ps[i].1 ps[i].2).length<=aG.length+1:=by have:=cF aG ps[i].1 ps[i].2;omega
  refine Yr (Zs (Yr (wpAny_tryCatch ?_)));unfold Builtin.Dict.pairItems;refine Yr (wpAny_typeOf hT ?_);have key:wpAny (model X.prog X.w) A.in1 (holding [ku,vu] (dictSet a ku vu)) (fun _ s2=>wpAny (model X.prog X.w) A.in1 (again (.builtin "dict.update.loop" ⟨[.ref a,.ref it,rawInt ((i:Int)+1),.none],[]⟩)) (fun fin s'=>match fin with
   | .done f=>R (.ok f) s'
   | .again c'=>c'.quiet=true/\codeAny (model X.prog X.w) A c' R s') (fun e s'=>R (.error e) s') s2) (fun e s'=>R (.error e) s') {s with heap:=h'}:=by
   obtain⟨oI,VW,Wn,TR⟩:=id az;have Ip:Inv X ((it,oI)::pins) σ H {s with heap:=h'}:=I1.kZ fun p hp=>by
    rcases YU.mp hp with rfl | hp
    . exact⟨VW,f0,f1,f2,fun v z=>by rw[TR] at z;cases z⟩
    . exact I1.pin p (YR _ hp)
   refine Zs (oX ML Ip (kU.t ha Wq (by omega)) rk Vf fun s2 SN=>?_);have WC:s2.heap.get? it=some oI:=(SN.pin (it,oI) (YR _ (.head _))).1;have I2:Inv X pins σ (upd H a (.dT (putK aG ps[i].1 ps[i].2))) s2:=SN.kZ fun p hp=>SN.pin p (YR _ (YQ _ hp));refine Yv ⟨ad8 cH _,?_⟩;refine ih (i+1) _ _ (putK aG ps[i].1 ps[i].2) (by omega) (by omega) I2 af (by rw[ag Vr];exact hl) (fun j p hj=>?_) (by omega) ⟨oI,WC,Wn,TR⟩ ⟨by rw[ag Vs];exact f0,f1,f2,f3,f4,f5⟩ fun s' I'=>hR s' ?_
   . obtain⟨q2,b2,e1,e2,e3⟩:=hp j p hj;exact⟨q2,b2,e1,by rw[ag (fun z=>by rw[z,ha] at e2;cases e2)];exact e2,by rw[ag (fun z=>by rw[z,ha] at e3;cases e3)];exact e3⟩
   . have e : upd (upd H a (.dT (putK aG ps[i].1 ps[i].2))) a (.dT (gR (putK aG ps[i].1 ps[i].2) (ps.drop (i + 1)))) = upd H a (.dT (gR aG (ps.drop i))) := by
       rw[ae4 df];funext b
       by_cases hb:b=a
       . subst hb;rw[af,af];rfl
       . rw[ag hb,ag hb,ag hb]
     rw[e] at I';exact I'
  rw[if_pos (by decide)];show wpAny _ A.in1 (seqItems? (.ref q) >>=_) _ _ _;unfold seqItems?;refine Yr (Yr (wpAny_load ho ?_));rw[E8];exact Yv (Yv key)
def D6:List V->Hp->VK->Prop:=fun xs H Q=> ∃l refs ps,xs= [.ref l]/\H l=some (.lst refs)/\refs.length=ps.length/\(∀(j:Nat) (p:List Key × V),ps[j]?=some p-> ∃q b,refs[j]?=some (.ref q)/\H q=some (.tup [.ref b,p.2])/\H b=some (.tup (p.1.map kV)))/\ps.length<=sizeLine/\ ∀d,H d=none->Q (.ref d) (upd H d (.dT (gR [] ps)))
theorem tf{X:Cx}(hA:X.A.handled=none)(ML:X.A.in1.in1.units < cLine):dJ X (.type "dict") D6:=by
 intro pins s σ H xs us Q I rs h;obtain⟨l,refs,ps,rfl,hl,hn,hp,hsz,q⟩:=h;obtain⟨u,rfl,ru⟩:=vals1 rs;cases (show u=Value.ref l from ru);have hD:H s.heap.objs.size=none:=I.aT.fresh (Yx _);refine callType_codes (Q₁:=fun obj s₁=>obj= .ref s.heap.objs.size/\s₁={s with heap:=s.heap.push {cls:= .type "dict",data:= .dict #[]}}) kE (fY _) F.entry_dict_init (iA _ ⟨rfl,rfl⟩) fun obj s₁ h₁=>?_;obtain⟨rfl,rfl⟩:=h₁;have I0:Inv X pins σ (upd H s.heap.objs.size (.dT [])) {s with heap:=s.heap.push {cls:= .type "dict",data:= .dict #[]}}:=I.laid (a:=s.heap.objs.size) (o:= .dT []) (t':=s.toks) (fun _ _ q=>Yu _ q) (Yx _) (jy s.heap I.big);have nl:l≠s.heap.objs.size:=aj hl hD;have OU:(upd H s.heap.objs.size (.dT [])) l=some (.lst refs):=by rw[ag nl];exact hl
 have MT: ∀(j:Nat) (p:List Key × V),ps[j]?=some p-> ∃q b,refs[j]?=some (.ref q)/\(upd H s.heap.objs.size (.dT [])) q=some (.tup [.ref b,p.2])/\(upd H s.heap.objs.size (.dT [])) b=some (.tup (p.1.map kV)):=fun j p hj=>by
  obtain⟨q2,b2,e1,e2,e3⟩:=hp j p hj;exact⟨q2,b2,e1,by rw[ag (aj e2 hD)];exact e2,by rw[ag (aj e3 hD)];exact e3⟩
 have QY: ∀o:HO,upd (upd H s.heap.objs.size (.dT [])) s.heap.objs.size o=upd H s.heap.objs.size o:=fun o=>by
  funext b
  by_cases hb:b=s.heap.objs.size
  . subst hb;rw[af,af]
  . rw[ag hb,ag hb,ag hb]
 obtain⟨ao,rv,p,hz⟩:=I0.list (cY.of OU);obtain⟨oL,nL,hL,e1,e2,e3⟩:=id p;obtain⟨cL,dL,Yo,Xx⟩:=oL;simp only at e1 e2 e3;subst e1 e2 e3;have hS:(s.heap.push {cls:= .type "dict",data:= .dict #[]}).get? s.heap.objs.size=some {cls:= .type "dict",data:= .dict #[]}:=YI _ rfl;have hT:({s with heap:=s.heap.push {cls:= .type "dict",data:= .dict #[]}}:Shared).TypeIs (.ref s.heap.objs.size) "dict":=⟨_,hS,rfl⟩
 have V2:({s with heap:=s.heap.push {cls:= .type "dict",data:= .dict #[]}}:Shared).TypeIs (.ref l) "list":=p.isList.typeIs;have qq:=q _ hD;generalize Jp:s.heap.objs.size=D at*;generalize Q5:({s with heap:=s.heap.push {cls:= .type "dict",data:= .dict #[]}}:Shared)=s0 at*;have OZ:s0.heap.get? D=some {cls:= .type "dict",data:= .dict #[]}:=by rw[<-Q5];exact hS
 refine⟨hT,F.args_dict_init_2 _ _,?_⟩;unfold Builtin.«dict.__init__»;repeat (any_goals (first | assumption | (with_reducible refine yi hL hA fun h1 OC Tq=>?_) | ((with_reducible show wpAny _ _ (pyIter _) _ _ _);refine ac5 (p.keeps Tq).isList ?_) | wp_step))
 have I1:Inv X pins σ (upd H D (.dT [])) {s0 with heap:=h1,toks:=OC}:=I0.kept Tq;have I2:Inv X pins σ (upd H D (.dT [])) {s0 with heap:=h1.push {cls:= .type "list_iterator",data:= .fields #[.ref l,.int 0 0]},toks:=OC}:=I1.kept (t':=OC) fun b o e=>Yu _ e;refine⟨ad8 cH _,xA (A:=X.A.in1) hn hA ML ps.length 0 _ _ [] (by omega) (by omega) I2 af OU MT (by simpa using hsz) ⟨_,YI _ rfl,rfl,rfl⟩ (I1.jo (Yx _) (I1.aT.fresh (Yx _))) fun s' I'=>⟨rfl,.ref D,_,I',rfl,?_⟩⟩;rw[QY];exact qq
end xn
namespace LD
open PySem PySem.Spec L2 LB PyProof.Rows LW xn bD
noncomputable def Qt(p:(Int × Int) × Dt):Dt:= .tup [Iu p.1,p.2]
theorem Aw: ∀{ps:List ((Int × Int) × Dt)} {xs:List V},aA M H xs (ps.map Qt)-> ∃vs:List V,vs.length=ps.length/\xs.length=ps.length/\aA M H vs (ps.map (·.2))/\
  ∀(j:Nat) (p:List Key × V),((ps.map fun p=>kP p.1).zip vs)[j]?=some p-> ∃q b,xs[j]?=some (.ref q)/\H q=some (.tup [.ref b,p.2])/\H b=some (.tup (p.1.map kV))
 | [],xs,r=>⟨[],rfl,by rw[r.eV];rfl,aA.nil,fun j p h=>by simp at h⟩
 | p::ps,xs,r=>by
  obtain⟨v,ys,rfl,rv,r2⟩:=r.aQ;obtain⟨vs,l1,l2,r3,g⟩:=Aw r2;obtain⟨q,ws,rfl,hq,_,ry⟩:=(show Rep M H v (.tup [Iu p.1,p.2]) from rv).bE;obtain⟨y1,ws,rfl,q1,q2⟩:=ry.aQ;obtain⟨y2,rfl,q3⟩:=cK q2;obtain⟨b,zs,rfl,hb,_,rz⟩:=(show Rep M H y1 (.tup [.int p.1.1,.int p.1.2]) from q1).bE;obtain⟨z1,zs,rfl,k1,k2⟩:=rz.aQ;obtain⟨z2,rfl,k3⟩:=cK k2;cases k1.ofInt;cases k3.ofInt;refine⟨y2::vs,by rw[YS,YS,l1],by rw[YS,YS,l2],aA.cons q3 r3,fun j p' h=>?_⟩;cases j with
  | zero=>cases h;exact⟨q,b,rfl,hq,hb⟩
  | succ j=>obtain⟨q',b',z1,z2,z3⟩:=g j p' (by simpa using h);exact⟨q',b',by simpa using z1,z2,z3⟩
theorem mD: ∀{ps vs:List (List Key × V)},((vs++ps).map (·.1)).Nodup->gR vs ps=vs++ps
 | [],vs,_=>by rw[Zw];rfl
 | p::ps,vs,h=>by
  have e:gR vs (p::ps)=gR (putK vs p.1 p.2) ps:=rfl;have n:(vs.any fun kv=>decide (kv.1=p.1))=false:=by
   rw[List.any_eq_false];intro kv hk z;rw[Y6,YV] at h;exact(aa5.mp h).2.2 _ (af0 hk) _ YN (Ze z)
  have e2:putK vs p.1 p.2=vs++ [p]:=by unfold putK;rw[n];rfl
  rw[e,e2,mD (by rw[Zg];exact h),Zg];rfl
section
variable{X:Cx}{e:Expr}{tA:gn}{pos p:Pos}
inductive C7(ds:List Dt)(Q:Dt->Prop):Prop
 | mk (ps:List ((Int × Int) × Dt)) (h1:ds= [.lst (ps.map Qt)]) (h2:(ps.map (·.1)).Nodup) (h3:ps.length<=1000) (h4:Q (.jO (ps.map fun p=>kP p.1) (ps.map (·.2))))
theorem Jg{p q:Int × Int}(h:kP p=kP q):p=q:=by
 obtain⟨a,b⟩:=p;obtain⟨c,d⟩:=q;unfold kP at h;simp at h;rw[h.1,h.2]
theorem Cw(hA:X.A.handled=none)(ML:X.A.in1.in1.units < cLine)(hm:X.mg "dict"=none)(ha:Av X [e] tA)(hg:Gl X "dict":=by rfl)(he:starEach [e] X.env=(false,eval e X.env)::starEach [] X.env:=by rfl)(cN:(backTo pos (starEach [] X.env)).any (·.1)=false:=by rfl):
  Ev X (.Call (.Name "dict" p) [e] [] pos) (wZ C7 tA):=sW (tf hA ML) (fun M H xs ds Qd Q al r zz k=>(by
 obtain⟨ps,e,nd,l,q⟩:=zz;subst e;obtain⟨x,rfl,r1⟩:=cK r;obtain⟨a,zs,rfl,ha,n,rr⟩:=r1.dF;obtain⟨vs,l1,l2,rv,g⟩:=Aw rr;have lk:(ps.map fun p=>kP p.1).length=vs.length:=by rw[Yt,l1]
 have lz:((ps.map fun p=>kP p.1).zip vs).length=ps.length:=by rw[List.length_zip,Yt,l1,Nat.min_self]
 refine⟨a,zs,(ps.map fun p=>kP p.1).zip vs,rfl,ha,by rw[lz];exact l2,g,by rw[lz];exact YT l (by decide),fun D hD=>?_⟩;have f1:((ps.map fun p=>kP p.1).zip vs).map (·.1)=ps.map fun p=>kP p.1:=List.map_fst_zip (ag7 lk);have f2:((ps.map fun p=>kP p.1).zip vs).map (·.2)=vs:=List.map_snd_zip (ag7 lk.symm);have Vv:(((ps.map fun p=>kP p.1).zip vs).map (·.1)).Nodup:=by
  rw[f1];show List.Pairwise _ _;rw[ZT];have Tn:List.Pairwise _ (ps.map (·.1)):=nd;rw[ZT] at Tn;exact Tn.imp fun n z=>n (Jg z)
 rw[mD (vs:= []) (by rw[List.nil_append];exact Vv),List.nil_append];refine k _ _ _ q (aC.new hD) (.jO af (al.fresh hD) f1 (by rw[f2,l1,Yt]) fun i x d h1 h2=>?_);rw[f2] at h1;exact(rv.2 i x d h1 h2).same (aC.new hD))) hg hm u5 ha (by decide) (by decide) he cN
end
end LD
namespace LD
open PySem PySem.Spec L2 LB PyProof.Rows LW
theorem hV{Δ:eK}(Q:List Sl->Prop)(h: ∀Δ':eK,(∀δ',Q δ'->Δ'.nx δ')->(∀d δ',Δ.rt d δ'->Δ'.rt d δ')->T Δ' δ)(fin: ∀δ',Q δ'->R Δ δ'):NH T R Δ δ:=h _ fin fun _ _ z=>z
end LD
namespace cn
open PySem PySem.Spec L2 LB LD PyProof.Rows kg bD
theorem ud(hr:bM k A):A.in1.in1.units < cLine:=by
 have:=hr.un;show A.units+1+1 < cLine;lia
noncomputable def lV(n:Nat)(w:Nat->Nat->Wo)(t:Nat):Wo:=ad (w t 0) (ad (ev w (Q 1 t).lf) (ev w (Q t n).rg))
def Lr:DN:=fun ds R=> ∃(n:Nat) (w:Nat->Nat->Wo),ds= [dw n w,.lst ((aW n).map (fq w))]/\1<=n/\n<=12/\R (aU (bQ ((List.range' 1 n).map (lV n w))))
noncomputable def Te(w:Nat->Nat->Wo)(p:Nat × Nat):Dt:= .tup [aU (ev w (Q p.1 p.2).rg),aU (ev w (Q p.1 p.2).rt),aU (ev w (Q p.1 p.2).lf),aU (ev w (Q p.1 p.2).lt)]
noncomputable def S2:Dt->Dt
 | .tup (a::b::r)=> .tup [.tup [a,b],.tup r]
 | d=>d
noncomputable def Gd(w:Nat->Nat->Wo)(n:Nat):List ((Int × Int) × Dt):=(aW n).map fun p=>(kJ p,Te w p)
theorem Lp(w:Nat->Nat->Wo)(n:Nat):(aW n).map (S2 ∘ fq w)=(Gd w n).map Qt:=by
 unfold Gd;rw[Y3];rfl
noncomputable def JV(w:Nat->Nat->Wo)(n:Nat):Dt:= .jO ((aW n).map cZ.pk) ((aW n).map (Te w))
theorem Lq(w:Nat->Nat->Wo)(n:Nat):Dt.jO ((Gd w n).map fun p=>kP p.1) ((Gd w n).map (·.2))=JV w n:=by
 unfold Gd JV;rw[Y3,Y3];rfl
theorem HA(w:Nat->Nat->Wo)(n:Nat):((Gd w n).map (·.1)).Nodup:=by
 unfold Gd;rw[Y3];have nd:(aW n).Nodup:=(fQ n).imp fun h e=>by subst e;lia
 show List.Pairwise _ _;rw[ZT];refine List.Pairwise.imp (S:=fun p q=>kJ p≠kJ q) (fun{p q} (h:p≠q) z=>h ?_) nd;obtain⟨a,b⟩:=p;obtain⟨c,d⟩:=q;have z:((a:Int),(b:Int))=((c:Int),(d:Int)):=z;injection z with z1 z2
 rw[Int.ofNat_inj.mp z1,Int.ofNat_inj.mp z2]
def Sy(n:Nat)(w:Nat->Nat->Wo)(i:Nat)(δ:List Sl):Prop:= ∃s5 s6 s7 s8:Sl,δ= [.im (dw n w),.im (.lst ((aW n).map (fq w))),.im (xI n),.im (JV w n),.im (aU (bQ ((List.range' 1 i).map (lV n w)))),s5,s6,s7,s8]/\s5.dz=false/\s6.dz=false/\s7.dz=false/\s8.dz=false
section
variable{P:Program}{w:World}{K:PySem.W.Frag}{mg:Str->Option Value}{base:Heap}
theorem xX(F:ip K "_law_top_due" "_law_top_due" gM f fd)(T:Txt mg):bp P w K mg base eM 1 f fd ["_law_w","_law_rows"] (dN Lr):=by
 refine tO F cD (fun ds Qd h=>?_) (fun bZ A outer s H E hr=>⟨_,(aq (dY 2 cD.nd (fb T.len (aa (dv 0) ai)))
 (aq (Ad 3 4 rfl cD.nd (yu (Cw hr.hd (ud hr) T.O2 (aa (Ov.ev (cm (N:= ["_law_row"]) (nt:=1) (js:= []) ⟨rfl,by decide+kernel,by decide,rfl,by decide+kernel,(by show∀x∈(_:List (Str × NameKind)),x.2=NameKind.free->(ae gM).names.lookup x.1=some .cell\/(ae gM).names.lookup x.1=some .free;decide+kernel)⟩ rfl (iK (dv 1)) (fun _ _ _ _ _=>aE (i:=0) (show(["_law_row"]:List Str).Nodup by decide+kernel) rfl (by first | exact Or.inl rfl | exact Or.inr rfl)) ba aO (fun _ _ _ _ _=>cX) (fun _ _ _ _ _=>(bL (aa (iz (dv 0) iH (ck ay)) (aa (iz (dv 0) (ck ay) iH) ai)))))) ai)) (yu jA BE)))
 (aq (l7 rfl (gV T.rP (aa ay (aa (bW (dv 2) ay) ai))) (j5 5 cD.nd)
 (aq (dY 6 cD.nd (ig (Ly (dv 5) ay) (eQ (cT (cw hr) (dv 3) (bL (aa ay (aa (dv 5) ai)))) ay) ay))
 (aq (dY 7 cD.nd (ig (P5 (dv 5) (dv 2)) (eQ (cT (cw hr) (dv 3) (bL (aa (dv 5) (aa (dv 2) ai)))) ay) ay))
 (aJ (dZ (DP jA (bL (aa (dv 6) (aa (dv 7) (aa (eQ (eQ (dv 0) (eZ (dv 5) ay)) ay) ai)))))
 (aq (dY 8 cD.nd (bW (bW (dv 6) (dv 7)) (eQ (eQ (dv 0) (eZ (dv 5) ay)) ay)))
 (aJ (dY 4 cD.nd (ig (lX (dv 4)) (dv 8) (JZ rfl T.max (aa (dv 4) (aa (dv 8) ai)))))))
 bR)))) ad5)
 (aJ (aP (dv 4)))))),fun ds Qd h=>?_⟩)
 . obtain⟨n,w,rfl,_⟩:=h;rfl
 . obtain⟨n,w,rfl,n1,eP,q⟩:=h;have hl:((List.range' 1 n).map (cC n w)).length=n:=by rw[Yt,YZ]
   refine⟨_,rfl,_,.inr rfl,?_⟩;rw[hl];refine⟨⟨_,rfl,rfl⟩,?_⟩;dsimp only;refine hV (Sy n w 0) (fun Δ' uE _=>?_) (fun δ hP=>?_)
   . refine⟨_,rfl,_,rfl,by rw[Yt];exact small (YT (cM eP) (by decide)),fun _=>true,S2,fun d hd=>?_,?_⟩
     . obtain⟨p,hp,rfl⟩:=YE.mp hd;exact⟨⟨_,rfl,rfl⟩,rfl,fun _=>⟨_,rfl,_,rfl,_,rfl,_,rfl,_,rfl,_,rfl,by show 2<=sizeLine;decide,rfl⟩⟩
     . rw[Zx.mpr fun _ _=>rfl,Y3,Lp];refine⟨_,rfl,HA w n,by unfold Gd;rw[Yt];exact YT (cM eP) (by decide),?_⟩;rw[Lq];refine⟨_,_,rfl,⟨_,rfl,rfl⟩,⟨_,rfl,rfl⟩,uE _ ⟨.no,.no,.no,.no,rfl,rfl,rfl,rfl,rfl⟩⟩
   . subst_vars
     obtain⟨s5,s6,s7,s8,rfl,b5,b6,b7,b8⟩:=hP;refine⟨_,rfl,_,_,rfl,rfl,1,(n:Int)+1,rfl,⟨by decide,by decide,by lia,by lia⟩,?_⟩;rw[show((n:Int)+1 - 1).toNat=n by lia,Ia];refine fR (Sy n w) ⟨s5,s6,s7,s8,rfl,b5,b6,b7,b8⟩ (fun i d δ hi hP Δ' uE _=>?_) (fun δ hP=>?_)
     . obtain⟨s5,s6,s7,s8,rfl,b5,b6,b7,b8⟩:=hP;rw[YC] at hi;obtain⟨t,OQ,rfl⟩:=ab0.mp hi;have il:i < n:=by have:=(YB.mp OQ).1;simpa using this
       have el:t=i+1:=by
        rw[ZL il] at OQ;have:=Option.some.inj OQ;lia
       subst el;have gs:bQ ((List.range' 1 (i+1)).map (lV n w))=mx (bQ ((List.range' 1 i).map (lV n w))) (lV n w (i+1)):=by
        rw[List.range'_concat,Y6,show 1+1*i=i+1 by lia];exact BG _ _
       refine⟨⟨_,rfl,b5⟩,?_⟩;have hL: ∀j:Nat,1<=j->j<=n->(cC n w j)= .tup ((List.range (n+1)).map fun o=>aU (w j o)):=fun _ _ _=>rfl;dsimp only;refine hV (fun δ=>δ= [.im (dw n w),.im (.lst ((aW n).map (fq w))),.im (xI n),.im (JV w n),.im (aU (bQ ((List.range' 1 i).map (lV n w)))),.im (xI (i+1)),.im (aU (ev w (Q 1 (i+1)).lf)),s7,s8]) (fun Δ1 GH _=>?_) (fun δ hP=>?_)
       . by_cases c:((i+1:Nat):Int) > 1
         . have hp:((1,i+1):Nat × Nat)∈aW n:=aK.mpr ⟨Yx 1,by dsimp only;lia,by dsimp only;lia⟩;refine⟨_,rfl,_,_,rfl,rfl,_,rfl,uA (Zf c) ?_⟩;exact⟨_,rfl,_,rfl,by show 2<=sizeLine;decide,⟨_,_,cZ.pk (1,i+1),_,rfl,rfl,cZ.bI hp,_,_,_,.inr rfl,rfl,aZ (j:=2) rfl,⟨_,rfl,b6⟩,GH _ rfl⟩⟩
         . refine⟨_,rfl,_,_,rfl,rfl,_,rfl,uB (fun z=>c (Ze z)) ⟨⟨_,rfl,b6⟩,GH _ ?_⟩⟩;have i0:i=0:=by lia
           subst i0;rw[show ev w (Q 1 (0+1)).lf=some 0 by rw[bP];rfl];rfl
       subst hP;refine hV (fun δ=>δ= [.im (dw n w),.im (.lst ((aW n).map (fq w))),.im (xI n),.im (JV w n),.im (aU (bQ ((List.range' 1 i).map (lV n w)))),.im (xI (i+1)),.im (aU (ev w (Q 1 (i+1)).lf)),.im (aU (ev w (Q (i+1) n).rg)),s8]) (fun Δ1 GH _=>?_) (fun δ hP=>?_)
       . by_cases c:((i+1:Nat):Int) < (n:Int)
         . have hp:((i+1,n):Nat × Nat)∈aW n:=aK.mpr ⟨by dsimp only;lia,by dsimp only;lia,Yx n⟩;exact⟨_,rfl,_,rfl,_,_,rfl,rfl,_,rfl,uA (Zf c) ⟨_,rfl,_,rfl,_,rfl,by show 2<=sizeLine;decide,⟨_,_,cZ.pk (i+1,n),_,rfl,rfl,cZ.bI hp,_,_,_,.inr rfl,rfl,aZ (j:=0) rfl,⟨_,rfl,b7⟩,GH _ rfl⟩⟩⟩
         . refine⟨_,rfl,_,rfl,_,_,rfl,rfl,_,rfl,uB (fun z=>c (Ze z)) ⟨⟨_,rfl,b7⟩,GH _ ?_⟩⟩;have i0:n=i+1:=by lia
           subst i0;rw[show ev w (Q (i+1) (i+1)).rg=some 0 by rw[bP];rfl];rfl
       subst hP;have wi: ∀b:Bool,inD .aI [aU (ev w (Q 1 (i+1)).lf),aU (ev w (Q (i+1) n).rg),aU (w (i+1) 0)]=decide (none∈ [ev w (Q 1 (i+1)).lf,ev w (Q (i+1) n).rg,w (i+1) 0]):=fun _=>Ga [_,_,_];have wf:=vq [ev w (Q 1 (i+1)).lf,ev w (Q (i+1) n).rg,w (i+1) 0];have MR:kO ((List.range' 1 n).map (cC n w)) (((i+1:Nat):Int) - 1)=some (cC n w (i+1)):=by
        rw[show((i+1:Nat):Int) - 1=(i:Int) by lia];refine aZ ?_;rw[YC,OQ];rfl
       have h0:kO ((List.range (n+1)).map fun o=>aU (w (i+1) o)) 0=some (aU (w (i+1) 0)):=aZ (j:=0) (by rw[YC,Zr (by lia)];rfl);rw[show lV n w (i+1)=ad (w (i+1) 0) (ad (ev w (Q 1 (i+1)).lf) (ev w (Q (i+1) n).rg)) from rfl] at gs;have wi:=wi true;generalize ev w (Q 1 (i+1)).lf=a at*;generalize ev w (Q (i+1) n).rg=b at*;generalize w (i+1) 0=z at*;generalize bQ ((List.range' 1 i).map (lV n w))=g at*;have fin: ∀v:Wo,bQ ((List.range' 1 (i+1)).map (lV n w))=v-> ∀s8:Sl,s8.dz=false->Sy n w (i+1) [.im (dw n w),.im (.lst ((aW n).map (fq w))),.im (xI n),.im (JV w n),.im (aU v),.im (xI (i+1)),.im (aU a),.im (aU b),s8]:=fun v e s8 b8=>by
        subst e;exact⟨_,_,_,s8,rfl,rfl,rfl,rfl,b8⟩
       refine⟨_,rfl,_,rfl,_,rfl,_,rfl,_,_,rfl,rfl,_,_,_,.inr rfl,rfl,MR,_,_,_,.inr rfl,rfl,h0,by show 3<=sizeLine;decide,?_⟩;refine⟨_,.inr rfl,rfl,wf,_,rfl,?_⟩;have bare: ∀{A B:Prop},ad z (ad a b)=none->none∈ [a,b,z]->B->(if (if true=true then !inD Dt.aI [aU a,aU b,aU z] else inD Dt.aI [aU a,aU b,aU z])=true then A else B):=fun _ h2 h=>by
        rw[wi,Zf h2];exact uB (by decide) h
       have jU:ad z (ad a b)=none->Δ'.nx [.im (dw n w),.im (.lst ((aW n).map (fq w))),.im (xI n),.im (JV w n),.im (aU g),.im (xI (i+1)),.im (aU a),.im (aU b),s8]:=fun e=>uE _ (fin g (by rw[gs,e,lg]) s8 b8);cases a with
       | none=>exact bare (by cases b <;> cases z <;> rfl) (by simp) (jU (by cases b <;> cases z <;> rfl))
       | some a=>
       cases b with
       | none=>exact bare (by cases z <;> rfl) (by simp) (jU (by cases z <;> rfl))
       | some b=>
       cases z with
       | none=>exact bare rfl (by simp) (jU rfl)
       | some z=>
       rw[wi,ZI (by simp)];refine uA (by decide) ?_;refine⟨_,rfl,_,rfl,_,_,rfl,rfl,_,rfl,_,rfl,_,_,rfl,rfl,_,_,_,.inr rfl,rfl,MR,_,_,_,.inr rfl,rfl,h0,_,_,rfl,rfl,⟨_,rfl,b8⟩,?_⟩;have ez:a+b+z=z+(a+b):=by lia
       cases g with
       | none=>exact⟨_,rfl,true,rfl,dD ⟨_,rfl,⟨_,rfl,rfl⟩,uE _ (fin (some (a+b+z)) (by rw[gs,ez];rfl) _ rfl)⟩⟩
       | some g=>exact⟨_,rfl,false,rfl,bF ⟨_,rfl,_,rfl,_,_,rfl,⟨_,rfl,rfl⟩,uE _ (fin (some (max g (a+b+z))) (by rw[gs,ez];rfl) _ rfl)⟩⟩
     . obtain⟨s5,s6,s7,s8,rfl,b5,b6,b7,b8⟩:=hP;rw[Yt,YZ];exact⟨_,rfl,q⟩
end
end cn
namespace LD
open PySem PySem.Spec L2 LB PyProof.Rows LW
section
variable{X:Cx}
inductive FG(i:Nat)(δ:List Sl)(Q:Dt->List Sl->Prop):Prop
 | mk (ds:List Dt) (h1:δ[i]?=some (.ow ds)) (h2:Q .aI (δ.set i (.ow [])))
theorem Fs(i:Nat){xp apos eG:Pos}(ho:PE X (.Name x xp) (gG i))(jf:attributeBase (.Name x xp) "clear" X.env (eval (.Name x xp) X.env)=eval (.Name x xp) X.env:=by rfl)(je:(apos.endLine==eG.line)=true:=by rfl):
  Ev X (.Call (.Attribute (.Name x xp) "clear" apos) [] [] eG) (FG i):=
 PE.imp (AR aj1 PySem.F.slot_list_clear PySem.F.type_list_clear Bh ho jf je) fun σ H Q zz=>(by
  obtain⟨W,M,α,δ,Qd,E,⟨ds,hd,q⟩,k⟩:=zz;obtain⟨a,xs,h1,h2,h3,r3⟩:=E.ow hd;refine⟨_,h1,.inl ⟨rfl,_,cY.of h3⟩,a,xs,rfl,rfl,h3,?_⟩;obtain⟨E2,c2⟩:=k6 E hd h1 h2 aA.nil;exact k _ _ _ _ q E2 c2 .aI)
end
end LD
namespace cn
open PySem PySem.Spec L2 LB LD PyProof.Rows kg
def Sw(A:Dt->Prop)(d:Dt):Prop:= ∃es,d= .lst es/\(∀e∈es,A e)/\es.length<=100
theorem RK:eq2 (.str x) (.str x)=some true:=by
 show some (decide (x=x))=some true;rw[Zf rfl]
theorem N4(x:Wo):Dh (aU x):=by
 cases x with
 | none=>exact .aI
 | some v=>exact .int v
theorem BQ(x:Wo):tJ (aU x):=by
 cases x with
 | none=>exact .aI
 | some v=>exact .int v
theorem zY(w:Nat->Nat->Wo)(p:Nat × Nat){C:Dt->Prop}(c1: ∀n:Nat,C (xI n))(c2: ∀x,C (aU x)): ∃es,fq w p= .tup es/\es.length=6/\ ∀e∈es,C e:=⟨_,rfl,rfl,ZC.mpr ⟨c1 _,ZC.mpr ⟨c1 _,ZC.mpr ⟨c2 _,ZC.mpr ⟨c2 _,ZC.mpr ⟨c2 _,ZC.mpr ⟨c2 _,fun e he=>absurd he Yy⟩⟩⟩⟩⟩⟩⟩
theorem Ln(w:Nat->Nat->Wo)(p:Nat × Nat):Up Dh (fq w p):=by
 obtain⟨es,e,l,h⟩:=zY w p (C:=Dh) (fun n=> .int _) N4;exact .inr ⟨es,e,h,by lia⟩
theorem Nn(w:Nat->Nat->Wo)(p:Nat × Nat):tJ (fq w p):=by
 obtain⟨es,e,l,h⟩:=zY w p (C:=tJ) (fun n=> .int _) BQ;rw[e];exact .tup h
theorem JJ(n:Nat)(w:Nat->Nat->Wo):tJ (dw n w):= .tup fun d hd=>by
 obtain⟨i,_,rfl⟩:=YE.mp hd;refine .tup fun e he=>?_;obtain⟨o,_,rfl⟩:=YE.mp he;exact BQ _
theorem HN(h:pe n w):Sm w:=fun i o v e=>by have:=h.1 i o v e;lia
theorem vp(h: ∀i o v,w i o=some v->v.natAbs<=B): ∀(x:List Nat) (i:Nat) (v:Int),eO w i x=some v->v.natAbs<=x.length*B
 | [],i,v,e=>by cases e;exact Za _
 | o::x,i,v,e=>by
  rw[eO] at e;cases e1:w i o with
  | none=>rw[e1] at e;cases e
  | some a=>
   cases e2:eO w (i+1) x with
   | none=>rw[e1,e2] at e;cases e
   | some b=>
    rw[e1,e2] at e;cases e;have h1:=h i o a e1;have h2:=vp h x (i+1) b e2;rw[YS,Nat.add_mul,Nat.one_mul];lia
theorem jg{w:Nat->Nat->Wo}{B f m:Nat}(h: ∀i o v,w i o=some v->v.natAbs<=B)(hm:m<=12){L:List (List Nat)}(hl: ∀x∈L,x.length=m){v:Int}(e:bQ (L.map (eO w f))=some v):v.natAbs<=12*B:=by
 obtain⟨x,hx,ex⟩:=YE.mp (eX e);have:=vp h x f v ex;rw[hl x hx] at this;exact YT this (ah2 B hm)
theorem qI{w:Nat->Nat->Wo}(h: ∀i o v,w i o=some v->v.natAbs<=2000000000)(e: ∀v,x=some v->v.natAbs<=12*2000000000):Lv 0 200 (aU x):=by
 refine⟨?_,Yx _⟩;cases c:x with
 | none=>exact trivial
 | some v=>exact af6 (e v c) (by decide)
theorem My(eP:n<=12)(h: ∀i o v,w i o=some v->v.natAbs<=2000000000)(hp:p∈aW n):Lv 1 1215 (fq w p):=by
 have m:=aK.mp hp;have fo: ∀(f k on:Nat),k=p.2 - p.1-> ∀x∈Fo f k on,x.length=p.2 - p.1:=fun f k on e x hx=>by rw[<-e];exact(ux k).1 f on x hx
 have a1:Lv 0 200 (aU (ev w (Q p.1 p.2).rg)):=qI h fun v e=>jg h (show p.2 - p.1<=12 by lia) (fo _ _ _ rfl) (by rw[Hr w (by lia)] at e;exact e);have a2:Lv 0 200 (aU (ev w (Q p.1 p.2).rt)):=qI h fun v e=>jg h (show p.2 - p.1<=12 by lia) (fun x hx=>fo _ _ _ rfl x (aa6.mp hx).1) (by rw[Hq w (by lia)] at e;exact e);have a3:Lv 0 200 (aU (ev w (Q p.1 p.2).lf)):=qI h fun v e=>jg h (show p.2 - p.1<=12 by lia) (fo _ _ _ rfl) (by rw[Ht w (by lia)] at e;exact e);have a4:Lv 0 200 (aU (ev w (Q p.1 p.2).lt)):=qI h fun v e=>jg h (show p.2 - p.1<=12 by lia) (fun x hx=>fo _ _ _ rfl x (aa6.mp hx).1) (by rw[Hs w (by lia)] at e;exact e);have ax: ∀k:Nat,k<=12->Lv 0 200 (xI k):=fun k hk=>⟨af6 (show((k:Int)).natAbs<=12 by lia) (by decide),Yx _⟩
 refine .inr ⟨_,6,200,.inr rfl,Yx 6,by decide,?_⟩;exact ZC.mpr ⟨ax _ (by lia),ZC.mpr ⟨ax _ (by lia),ZC.mpr ⟨a1,ZC.mpr ⟨a2,ZC.mpr ⟨a3,ZC.mpr ⟨a4,fun e he=>absurd he Yy⟩⟩⟩⟩⟩⟩
theorem EG(eP:n<=12)(h: ∀i o v,w i o=some v->v.natAbs<=2000000000):Lv 9 121703 (.lst ((aW n).map (fq w))):=by
 have:Lv 2 121703 (.lst ((aW n).map (fq w))):= .inr ⟨_,100,1215,.inl rfl,by rw[Yt];exact cM eP,by decide,fun e he=>by
  obtain⟨p,hp,rfl⟩:=YE.mp he;exact My eP h hp⟩
 exact this.le (by decide)
inductive qR:Sl->Prop
 | no:qR .no
 | im (d:Dt):qR (.im d)
theorem qR.nb(h:qR s):s.dz=false:=by cases h <;> rfl
theorem qR.ok(h:qR s):s= .no\/(∃d,s= .im d)\/ ∃t,s= .bx t:=by
 cases h with
 | no=>exact .inl rfl
 | im d=>exact .inr (.inl ⟨d,rfl⟩)
inductive Pl:Sl->Prop
 | no:Pl .no
 | im (d:Dt):Pl (.im d)
 | ow (ds:List Dt):Pl (.ow ds)
theorem Pl.nb(h:Pl s):s.dz=false:=by cases h <;> rfl
inductive SI(i:Nat)(δ:List Sl):Prop
 | mk (t:Int) (s2 s3 s4 s5 s6 s7 s8 s9 ir:Sl) (e:δ= [.no,.bx t,s2,s3,s4,s5,s6,s7,s8,s9,ir]) (ht:t<=800*(i:Int)) (b2:qR s2) (b3:qR s3) (b4:qR s4) (b5:Pl s5) (b6:qR s6) (b7:qR s7) (b8:qR s8) (b9:qR s9) (xg:qR ir)
theorem we(b6:qR s6)(b7:qR s7)(b8:qR s8)(b9:qR s9)(xg:qR ir): ∀j s,j≠5-> [Sl.no,.bx t,.im d2,.im d3,.im d4,x5,s6,s7,s8,s9,ir][j]?=some s->s= .no\/(∃d,s= .im d)\/ ∃t,s= .bx t:=fun j s h e=>by
 match j with
 | 0=>cases e;exact .inl rfl
 | 1=>cases e;exact .inr (.inr ⟨_,rfl⟩)
 | 2=>cases e;exact .inr (.inl ⟨_,rfl⟩)
 | 3=>cases e;exact .inr (.inl ⟨_,rfl⟩)
 | 4=>cases e;exact .inr (.inl ⟨_,rfl⟩)
 | 5=>exact absurd rfl h
 | 6=>cases e;exact b6.ok
 | 7=>cases e;exact b7.ok
 | 8=>cases e;exact b8.ok
 | 9=>cases e;exact b9.ok
 | 10=>cases e;exact xg.ok
 | j+11=>simp at e
noncomputable def UY:Nat->Nat->Wo:=fun i o=>if i=1/\o=0 then some 3 else none
section
variable{P:Program}{wd:World}{K:PySem.W.Frag}{mg:Str->Option Value}{base:Heap}
theorem A6(F:ip K "_law_same" "_law_same" eh f fd)(T:Txt mg)(nu:ik P wd K mg base "_law_same" k ["_law_found","_law_due"] (dN (jV A0))):bp P wd K mg base eM (k+1) f fd ["_law_found","_law_due"] (dN (jV (Sw A0))):=by
 refine tO F pM (fun ds Qd h=>?_) (fun bZ A outer s H E hr=>⟨_,(aq (dZ (lX (dv 1))
 (aJ (aP (Cs (dv 0))))
 bR)
 (aq (dZ (PW.pt (w_or (dH (aX (T:="list") (by decide) T.gv (ah (dv 1) (ah (aH (v:= .ty "list") (by rfl) T.lst bB rfl) aF)))) (lN (dH (aX (T:="tuple") (by decide) T.gv (ah (dv 1) (ah (aH (v:= .ty "tuple") (by rfl) T.tup a8 rfl) aF)))))))
 (aq (dZ (PW.pt (w_or (tW (aX (T:="list") (by decide) T.gv (ah (dv 0) (ah (aH (v:= .ty "list") (by rfl) T.lst bB rfl) aF))) (aX (T:="list") (by decide) T.gv (ah (dv 1) (ah (aH (v:= .ty "list") (by rfl) T.lst bB rfl) aF)))) (lN (tW (aX (T:="tuple") (by decide) T.gv (ah (dv 0) (ah (aH (v:= .ty "tuple") (by rfl) T.tup a8 rfl) aF))) (aX (T:="tuple") (by decide) T.gv (ah (dv 1) (ah (aH (v:= .ty "tuple") (by rfl) T.tup a8 rfl) aF)))))))
 (aJ (aP uR))
 bR)
 (aJ (aP (eF (j7 (fb T.len (aa (dv 0) ai)) (fb T.len (aa (dv 1) ai))) (gm (Cy rfl T.all (aa (Ov.ev (cm (N:= ["_law_one","_law_other"]) (nt:=2) (js:= []) ⟨rfl,by decide+kernel,by decide,rfl,by decide+kernel,(by show∀x∈(_:List (Str × NameKind)),x.2=NameKind.free->(ae eh).names.lookup x.1=some .cell\/(ae eh).names.lookup x.1=some .free;decide+kernel)⟩ rfl (wy (aa (dv 0) (aa (dv 1) ai)) fun z=>pY (by rfl) T.zip z) (fun _ _ _ _ _=>et rfl (aN (aE (i:=0) (show(["_law_one","_law_other"]:List Str).Nodup by decide+kernel) rfl (by first | exact Or.inl rfl | exact Or.inr rfl)) (aN (aE (i:=1) (show(["_law_one","_law_other"]:List Str).Nodup by decide+kernel) rfl (by first | exact Or.inl rfl | exact Or.inr rfl)) cI))) dh bU (fun _ _ _ _ _=>cX) (fun _ _ _ _ _=>(cz nu (hr.mono (Yx _)) (aa (dv 0) (aa (dv 1) ai)))))) ai)))))))
 bR)
 (aq (dZ (dH (aX (T:="str") (by decide) T.gv (ah (dv 1) (ah (aH (v:= .ty "str") (by rfl) T.str dS rfl) aF))))
 (aJ (aP (eF (aX (T:="str") (by decide) T.gv (ah (dv 0) (ah (aH (v:= .ty "str") (by rfl) T.str dS rfl) aF))) (gm (j7 (dv 0) (dv 1))))))
 bR)
 (aq (dZ (dH (aX (T:="bool") (by decide) T.gv (ah (dv 1) (ah (aH (v:= .ty "bool") (by rfl) T.bool bJ rfl) aF))))
 (aJ (aP (eF (aX (T:="bool") (by decide) T.gv (ah (dv 0) (ah (aH (v:= .ty "bool") (by rfl) T.bool bJ rfl) aF))) (gm (j7 (dv 0) (dv 1))))))
 bR)
 (aJ (aP (eF (aX (T:="int") (by decide) T.gv (ah (dv 0) (ah (aH (v:= .ty "int") (by rfl) T.int j9 rfl) aF))) (eF (Cq (aX (T:="bool") (by decide) T.gv (ah (dv 0) (ah (aH (v:= .ty "bool") (by rfl) T.bool bJ rfl) aF)))) (gm (j7 (dv 0) (dv 1))))))))))),fun ds Qd h=>?_⟩)
 . obtain⟨d,rfl,_⟩:=h;rfl
 . obtain⟨d,rfl,⟨es,rfl,ax,l⟩,q⟩:=h;refine⟨_,rfl,_,rfl,bF ⟨_,rfl,_,rfl,_,rfl,dD ?_⟩⟩;refine⟨_,rfl,_,rfl,_,rfl,_,rfl,true,rfl,_,rfl,bF ⟨_,rfl,_,rfl,_,rfl,_,rfl,true,rfl,_,rfl,bF ?_⟩⟩;refine⟨_,rfl,_, .inl rfl,_,rfl,_, .inl rfl,true,(show some (decide _)=some true from ZA some (Zf rfl)),_,rfl,dD ?_⟩;have zl:(fh es es).length<=100:=by unfold fh;rw[List.zipWith_self,Yt];exact l
   refine⟨_,rfl,_,rfl,false,false,_,_,rfl,YT zl (by decide),fun _=>true,fun _=> .bl true,fun e he=>?_,?_⟩
   . obtain⟨x,hx,rfl⟩:=qV he;exact⟨_,_,rfl,⟨_,rfl,rfl⟩,⟨_,rfl,rfl⟩,rfl,fun _=>⟨_,rfl,_,rfl,_,rfl,ax x hx,rfl⟩⟩
   . rw[Zx.mpr fun _ _=>rfl];refine⟨List.replicate (fh es es).length true,?_,?_⟩
     . rw[List.map_const',List.map_replicate]
     . rw[show(List.replicate (fh es es).length true).all id=true from ab4.mpr fun x hx=>(List.mem_replicate.mp hx).2];exact q
theorem IL(F:ip K "law" "law" HW f fd)(T:Txt mg)(NB:ik P wd K mg base "_law_begin" 1 ["_law_script"] (pH K))(dq:ik P wd K mg base "_law_take" 1 ["_law_state","_law_many_here"] (t6 om))(Ku:ik P wd K mg base "_law_many" 2 ["_law_state","_law_few","_law_most"] (t6 Gw))(F3:ik P wd K mg base "_law_table" 3 ["_law_state","_law_many_here"] (t6 zN))(iQ:ik P wd K mg base "spans" 3 ["w"] (dN zX))(Og:ik P wd K mg base "_law_cut" 1 ["_law_w","_law_first","_law_last"] (dN NX))(C0:ik P wd K mg base "_law_cut_due" 1 ["_law_rows","_law_first","_law_last"] (dN G3))(nY:ik P wd K mg base "_law_turned_table" 1 ["_law_w"] (dN Gb))(tG:ik P wd K mg base "_law_turned_due" 1 ["_law_rows","_law_many_here"] (dN Ge))(vd:ik P wd K mg base "best_plain" 4 ["w"] (dN G5))(CZ:ik P wd K mg base "_law_top_due" 1 ["_law_w","_law_rows"] (dN Lr))(nu:ik P wd K mg base "_law_same" 1 ["_law_found","_law_due"] (dN (jV Dh)))(O9:ik P wd K mg base "_law_same" 3 ["_law_found","_law_due"] (dN (jV (Sw (Up Dh))))):
  bp P wd K mg base eM 5 f fd ["_law_script"] (rH K):=by
 refine MC F iq (by decide) (fun bZ A outer s H E hr=>⟨_,_,_,rfl,dB (i:=1) iq.nd rfl (Or.inl rfl) (mq NB (hr.mono (by decide)) rfl (ah (pv 0) aF)),(aq (l7 rfl (mO T.rP (aa ay ai)) (j5 2 iq.nd)
 (aq (dY 3 iq.nd (fH 1 Ku (hr.mono (by decide)) (pv 1) (aa ay (aa ay ai))))
 (aq (dY 4 iq.nd (fH 1 F3 (hr.mono (by decide)) (pv 1) (aa (dv 3) ai)))
 (aq (l6 5 iq.nd (Mp iQ (hr.mono (by decide)) (aa (dv 4) ai)))
 (aq (dY 6 iq.nd (bW ay (fH 1 dq (hr.mono (by decide)) (pv 1) (aa (dv 3) ai))))
 (aq (dY 7 iq.nd (bW (dv 6) (fH 1 dq (hr.mono (by decide)) (pv 1) (aa (eZ (bW (dv 3) ay) (dv 6)) ai))))
 (aq (dZ (zP (dH (lD 5 (cz O9 (hr.mono (by decide)) (aa (cz iQ (hr.mono (by decide)) (aa (cz Og (hr.mono (by decide)) (aa (dv 4) (aa (dv 6) (aa (dv 7) ai)))) ai)) (aa (cz C0 (hr.mono (by decide)) (aa (dv 5) (aa (dv 6) (aa (dv 7) ai)))) ai))))))
 (aJ (aP uR))
 bR)
 (aq (dZ (zP (dH (lD 5 (cz O9 (hr.mono (by decide)) (aa (cz iQ (hr.mono (by decide)) (aa (cz nY (hr.mono (by decide)) (aa (dv 4) ai)) ai)) (aa (cz tG (hr.mono (by decide)) (aa (dv 5) (aa (dv 3) ai))) ai))))))
 (aJ (aP uR))
 bR)
 (aq (Ad 8 9 rfl iq.nd (yu (cz vd (hr.mono (by decide)) (aa (dv 4) ai)) (yu (lD 5 (cz CZ (hr.mono (by decide)) (aa (dv 4) (aa (dv 5) ai)))) BE)))
 (aq (dZ (zP (dH (cz nu (hr.mono (by decide)) (aa (ig (lX (dv 8)) jA (eQ (dv 8) ay)) (aa (dv 9) ai)))))
 (aJ (aP uR))
 bR)
 (aq (dY 10 iq.nd (lD 5 (Cp hr T.S8 (aa (dv 5) ai))))
 (aq (jW (Fs 5 (pv 5)))
 (aJ (dZ (tW (Cp hr T.S8 (aa (cz iQ (hr.mono (by decide)) (aa (dv 4) ai)) ai)) (dv 10))
 (aJ (aP uR))
 bR))))))))))))) ad5)
 (aJ (aP (Cu hr.zJ (cz iQ (hr.mono (by decide)) (aa (bL (aa (bL (aa ay (aa jA ai))) ai)) ai)))))),?_⟩)
 refine⟨_,rfl,by decide,by decide,fR SI ⟨0,.no,.no,.no,.no,.no,.no,.no,.no,.no,rfl,by decide,.no,.no,.no,.no,.no,.no,.no,.no,.no⟩ (fun i d δ hi hP Δ' uE _=>?_) (fun δ hP=>?_)⟩
 . obtain⟨tt,s2,s3,s4,s5,s6,s7,s8,s9,ir,rfl,ht,b2,b3,b4,b5,b6,b7,b8,b9,xg⟩:=hP;have il:i < 3:=by have:=(YB.mp hi).1;simpa using this
   refine⟨⟨_,rfl,b2.nb⟩,?_⟩;refine⟨⟨_,rfl⟩,_,rfl,rfl,by lia,fun n n1 eP=>⟨⟨_,rfl,b3.nb⟩,?_⟩⟩;refine⟨⟨_,rfl⟩,_,rfl,_,rfl,n,rfl,n1,eP,by lia,fun w t1 XI ok=>⟨⟨_,rfl,b4.nb⟩,?_⟩⟩;refine⟨_,rfl,fun x hx=>?_,n,w,rfl,n1,eP,_,rfl,fun x hx=>?_,⟨_,rfl,b5.nb⟩,?_⟩
   . cases YX.mp hx;exact JJ n w
   . obtain⟨p,_,rfl⟩:=YE.mp hx;exact Nn w p
   dsimp only;refine hV (fun δ'=> ∃(a:Nat) (u:Int),u<=t1+1/\1<=a/\a<=n/\δ'= [.no,.bx u,.im d,.im (xI n),.im (dw n w),.ow ((aW n).map (fq w)),.im (xI a),s7,s8,s9,ir]) (fun Δ0 EV _=>?_) ?_
   . refine⟨⟨_,rfl⟩,_,rfl,_,rfl,_,rfl,by lia,by lia,by lia,fun r r0 r1=>⟨_,_,rfl,rfl,⟨_,rfl,b6.nb⟩,?_⟩⟩;obtain⟨r,rfl,wD⟩:=getNat (m:=n) r0 r1;refine EV _ ⟨1+r,t1+1,ZV _,by lia,by lia,?_⟩;rw[show(xI (1+r):Dt)= .int (1+(r:Int)) by show Dt.int _=Dt.int _;congr 1];rfl
   rintro δ ⟨a,u,hu,a1,an,rfl⟩
   refine hV (fun δ'=> ∃(b:Nat) (v:Int),v<=t1+2/\a<=b/\b<=n/\δ'= [.no,.bx v,.im d,.im (xI n),.im (dw n w),.ow ((aW n).map (fq w)),.im (xI a),.im (xI b),s8,s9,ir]) (fun Δ0 EV _=>?_) ?_
   . refine⟨_,rfl,⟨_,rfl⟩,_,rfl,_,_,rfl,rfl,_,rfl,_,_,rfl,rfl,_,rfl,_,rfl,by lia,by lia,by lia,fun r r0 r1=>⟨_,_,rfl,rfl,⟨_,rfl,b7.nb⟩,?_⟩⟩;obtain⟨r,rfl,wD⟩:=getNat (m:=n+1 - a) r0 (by lia);refine EV _ ⟨a+r,u+1,by lia,by lia,by lia,?_⟩;rw[show(xI (a+r):Dt)= .int ((a:Int)+(r:Int)) by show Dt.int _=Dt.int _;congr 1];rfl
   rintro δ ⟨b,v,hv,ab,bn,rfl⟩
   have Vl:=ok.1;have XW: ∀w:Nat->Nat->Wo,∀m,tJ (.lst ((aW m).map (fq w)))->True:=fun _ _ _=>trivial;have S0: ∀(w:Nat->Nat->Wo) (m:Nat),m<=12->Sw (Up Dh) (.lst ((aW m).map (fq w))):=fun w m hm=>⟨_,rfl,fun x hx=>by
    obtain⟨p,_,rfl⟩:=YE.mp hx;exact Ln w p,by rw[Yt];exact cM hm⟩
   refine⟨_,rfl,we (.im _) (.im _) b8 b9 xg,?_⟩;refine⟨_,rfl,_,rfl,_,rfl,n,a,b,w,rfl,a1,ab,bn,eP,b+1 - a,nK a w,rfl,by lia,by lia,?_⟩;refine⟨_,rfl,_,rfl,_,rfl,n,a,b,w,rfl,a1,ab,bn,eP,_,rfl,S0 _ _ (by lia),rfl,.bl _,_,rfl,bF ?_⟩;refine⟨_,rfl,we (.im _) (.im _) b8 b9 xg,?_⟩;refine⟨_,rfl,n,w,rfl,eP,n,cG n w,rfl,n1,eP,?_⟩;refine⟨_,rfl,_,rfl,n,w,rfl,eP,_,rfl,S0 _ _ eP,rfl,.bl _,_,rfl,bF ?_⟩;refine⟨_,rfl,n,w,rfl,n1,eP,HN ok,fun r B=>?_⟩;refine⟨_,rfl,we (.im _) (.im _) b8 b9 xg,?_⟩;refine⟨_,rfl,_,rfl,n,w,rfl,n1,eP,rfl,BQ _,_,_,rfl,⟨_,rfl,b8.nb⟩,⟨_,rfl,b9.nb⟩,?_⟩;have bt:aU (r.map (·.1))=aU (bQ ((List.range' 1 n).map (lV n w))):=by rw[CS B];rfl
   rw[<-bt];clear bt;dsimp only;refine hV (fun δ'=>δ'= [.no,.bx v,.im d,.im (xI n),.im (dw n w),.ow ((aW n).map (fq w)),.im (xI a),.im (xI b),.im (Tf r),.im (aU (r.map (·.1))),ir]) (fun Δ0 EV _=>?_) ?_
   . cases r with
     | none=>exact⟨_,rfl,true,rfl,dD ⟨_,rfl,_,rfl,.aI,_,rfl,bF (EV _ rfl)⟩⟩
     | some r=>exact⟨_,rfl,false,rfl,bF ⟨_,rfl,_,_,_,.inr rfl,rfl,aZ (j:=0) rfl,_,rfl,_,rfl,.int _,_,rfl,bF (EV _ rfl)⟩⟩
   rintro δ rfl
   have lv:=EG eP Vl;refine⟨_,rfl,we (.im _) (.im _) (.im _) (.im _) xg,_,rfl,_,_,rfl,lv,by decide,rfl,.str _,⟨_,rfl,xg.nb⟩,?_⟩;refine⟨_,rfl,?_⟩;refine⟨_,rfl,n,w,rfl,n1,eP,_,_,rfl,lv,by decide,_,rfl,true,RK,_,rfl,bF (uE _ ⟨v,_,_,_,_,_,_,_,_,_,rfl,by lia,.im _,.im _,.im _,.ow _,.im _,.im _,.im _,.im _,.im _⟩)⟩
 . obtain⟨tt,s2,s3,s4,s5,s6,s7,s8,s9,ir,rfl,ht,bs⟩:=hP;exact⟨by show 2<=sizeLine;decide,by show 1<=sizeLine;decide,1,UY,rfl,by decide,by decide,_,rfl,rfl⟩
end
end cn
section
namespace cn
open PySem L2 LB LD PyProof.Rows
structure bH(K:PySem.W.Frag)(x:Str)(st:Stmt)(ps:List Str)(f:Addr)(fd:FuncData):Prop where
 a:PySem.W.nsIn K mainGlobals x=some (some (.ref f))
 F:ip K x x st f fd
 b:Binds K fd ps []
theorem bh{K:PySem.W.Frag}{x:Str}{st:Stmt}{ps:List Str}{f:Addr}{oc:Value}{od an:Option Addr}{sl:Array (Option Value)}{kV dc pm cd ct:Value}(a:PySem.W.nsIn K mainGlobals x=some (some (.ref f)))(l:K.lookup f=some ⟨oc,od, .func (PySem.W.fnOf x x (fU st) (cc st) (ae st) .none kV dc pm an cd ct),sl⟩)(c:PySem.W.codeIn K cd x=true)(k:PySem.W.keepIn K (.ref f)=true)
  (h: ∀us:List Value,us.length=ps.length->bindArgs (PySem.W.fnOf x x (fU st) (cc st) (ae st) .none kV dc pm an cd ct) ⟨us,[]⟩=pure (ps.zip us)):bH K x st ps f (PySem.W.fnOf x x (fU st) (cc st) (ae st) .none kV dc pm an cd ct):=⟨a,JH l c k,.all h⟩
section
variable{P:Program}{w:World}{K:PySem.W.Frag}{mg:Str->Option Value}{base h:Heap}{x:Str}{st:Stmt}{ps:List Str}{f:Addr}{fd:FuncData}
theorem bH.has(D:bH K x st ps f fd)(X:K.In h)(G:h.Ns mainGlobals mg)(o:bp P w K mg base eM k f fd ps sp):ik P w K mg base x k ps sp:=⟨f,fd,ah5 X G D.a,D.F.kp,D.b,o⟩
end
theorem zO{K:PySem.W.Frag}(a:PySem.W.nsIn K mainGlobals x=some (some (.ref f)))(l:K.lookup f=some ⟨oc,od,.func fd,sl⟩)(e:fd.code= .ref c)(l2:K.lookup c=some ⟨XC,XA,.fields vs,HQ⟩)(h:(vs[11]?:Option Value)=some (.ref Pt)):PySem.W.tabIn K x=some (c,Pt):=by
 unfold PySem.W.tabIn;rw[a];simp only [l,e,l2,h]
theorem Lu{q:Program}{K:PySem.W.Frag}(hd:((recsOf q).find? fun e=>e.name==x).isSome=true)(h:PySem.W.tabIn K x=some (c,Pt)): ∃d c P,(recsOf q).find? (fun e=>e.name==x)=some d/\PySem.W.tabIn K x=some (c,P):=
 let ⟨d,hd⟩:=Option.isSome_iff_exists.mp hd
 ⟨d,c,Pt,hd,h⟩
theorem Np{K:PySem.W.Frag}{x:Str}{st:Stmt}(F:ip K x x st f fd)(e:fd.code= .ref c)(t:PySem.W.tabIn K x=some (c,Pt))(h:PySem.W.codeHdIn K c Pt=true):Kw K x x st f fd c Pt:=by
 obtain⟨oc,od,kV,doc,pm,an,bZ,ct,y9,rfl,lk,sJ⟩:=F.ex;have e:bZ= .ref c:=e;subst e;exact⟨⟨oc,od,kV,doc,pm,an,ct,y9,rfl,lk,sJ⟩,t,h⟩
theorem all_mk{l:PySem.W.OpenLaw}{K:PySem.W.Frag}(X:K.In h)(G:h.Ns mainGlobals mg)(We:mg "law"=some (.ref fa))(d1:bH K "together" jX ["worths"] f1 e1)(d2:bH K "greatest" fF ["worths"] f2 e2)(d3:bH K "worth_of" gK ["w","h"] f3 e3)(d4:bH K "ranked" i3 ["w"] f4 e4)(d5:bH K "units" ub ["base","many"] f5 e5)(d6:bH K "figures" mh ["number","base","many"] f6 e6)(d7:bH K "spans" l9 ["w"] f7 e7)(d8:bH K "best_plain" iE ["w"] f8 e8)(d9:bH K "fill" gN ["w","joined","chosen"] f9 e9)(Um:bH K "by_width" gO ["n"] Ya Yn)(Ul:bH K "over_all" gL ["w","joined","chosen"] X9 T7)(Uk:bH K "_law_begin" pR ["_law_script"] X8 Ym)(Uj:bH K "_law_take" pQ ["_law_state","_law_many_here"] X7 Yk)(K6:bH K "_law_same" eh ["_law_found","_law_due"] X6 Yj)(Ui:bH K "_law_many" uc ["_law_state","_law_few","_law_most"] X5 Yi)(Uh:bH K "_law_worth" pP ["_law_state","_law_way"] X4 Yh)(Ug:bH K "_law_table" i4 ["_law_state","_law_many_here"] X3 Yg)(Ue:bH K "_law_turned_table" cu ["_law_w"] X2 Yf)(Ud:bH K "_law_cut" rM ["_law_w","_law_first","_law_last"] X1 Ye)(Uc:bH K "_law_cut_due" en ["_law_rows","_law_first","_law_last"] X0 Yd)(Ub:bH K "_law_turned_due" dy ["_law_rows","_law_many_here"] XZ WR)(Ua:bH K "_law_top_due" gM ["_law_w","_law_rows"] XY Yc)(Si:bH K "law" HW ["_law_script"] XX WQ)(t1:WR.code= .ref cA)(t2:PySem.W.tabIn K "_law_turned_due"=some (cA,Pt))(t3:PySem.W.codeHdIn K cA Pt=true)(z1:PySem.W.nsIn K mainGlobals "isinstance"=some none)(z2:PySem.W.nsIn K mainGlobals "len"=some none)(z3:PySem.W.nsIn K mainGlobals "enumerate"=some none)(z4:PySem.W.nsIn K mainGlobals "tuple"=some none)(z5:PySem.W.nsIn K mainGlobals "int"=some none)(z6:PySem.W.nsIn K mainGlobals "bool"=some none)(z7:PySem.W.nsIn K mainGlobals "range"=some none)(z8:PySem.W.nsIn K mainGlobals "list"=some none)(z9:PySem.W.nsIn K mainGlobals "divmod"=some none)(UQ:PySem.W.nsIn K mainGlobals "repr"=some none)(UP:PySem.W.nsIn K mainGlobals "all"=some none)(UO:PySem.W.nsIn K mainGlobals "str"=some none)(UN:PySem.W.nsIn K mainGlobals "sum"=some none)(UM:PySem.W.nsIn K mainGlobals "zip"=some none)(UL:PySem.W.nsIn K mainGlobals "sorted"=some none)(UK:PySem.W.nsIn K mainGlobals "max"=some none)(UJ:PySem.W.nsIn K mainGlobals "dict"=some none):
  ∃fd:FuncData,(∀(s:Shared) (v:Value),BindsTo s fd ⟨[v],[]⟩ [("_law_script",v)])/\ ∀base:Heap,K.In base->base.Ns mainGlobals mg->bp l.prog w K mg base eM 5 fa fd ["_law_script"] (rH K):=by
 have e:=We.symm.trans (ah5 X G Si.a);cases e;have T:Txt mg:=⟨Zk X G z1,Zk X G z2,Zk X G z3,Zk X G z4,Zk X G z5,Zk X G z6,Zk X G z7,Zk X G z8,Zk X G z9,Zk X G UQ,Zk X G UP,Zk X G UO,Zk X G UN,Zk X G UM,Zk X G UL,Zk X G UK,Zk X G UJ⟩
 refine⟨WQ,?_,fun base XB GB=>?_⟩
 . obtain⟨oc,od,kV,doc,pm,an,bZ,ct,y9,rfl,lk,sJ⟩:=Si.F.ex;exact fun s v=> .of_eq rfl
 have FC:=Np Ub.F t1 t2 t3;have SE:=d1.has X G (P:=l.prog) (w:=w) (base:=base) (km d1.F T);have hJ:tI l.prog w K mg base f1 1 ["worths"] (dN Ts):=⟨_,d1.F.kp,d1.b,(km d1.F T).imp (vF ME)⟩
 have hC:tI l.prog w K mg base f2 1 ["worths"] (dN Uq):=⟨_,d2.F.kp,d2.b,(rY d2.F T).imp (vF NY)⟩
 have Xf:=Um.has X G (P:=l.prog) (w:=w) (base:=base) (um Um.F T);have pf:=d9.has X G (P:=l.prog) (w:=w) (base:=base) (Ew zE hJ hC d9.F T Xf);have Oe:=Ul.has X G (P:=l.prog) (w:=w) (base:=base) (uj zE hJ hC Ul.F T pf);have vc:=d5.has X G (P:=l.prog) (w:=w) (base:=base) (AZ d5.F T);have qS:=d4.has X G (P:=l.prog) (w:=w) (base:=base) (xZ d4.F T vc);have SF:=d6.has X G (P:=l.prog) (w:=w) (base:=base) (uk d6.F T);have nq:=d3.has X G (P:=l.prog) (w:=w) (base:=base) (ui d3.F T SE);have Oh:=d8.has X G (P:=l.prog) (w:=w) (base:=base) (Ey (ah5 X G d1.a) (ah5 X G d2.a) d8.F T Oe qS SF nq);have NB:=Uk.has X G (P:=l.prog) (w:=w) (base:=base) (A8 Uk.F T);have xm:=Uj.has X G (P:=l.prog) (w:=w) (base:=base) (A3 Uj.F T);have Of:=Ui.has X G (P:=l.prog) (w:=w) (base:=base) (Eu Ui.F T xm);have Ks:=Uh.has X G (P:=l.prog) (w:=w) (base:=base) (AY Uh.F T xm);have Kt:=Ug.has X G (P:=l.prog) (w:=w) (base:=base) (A4 Ug.F T xm Ks);have iQ:=d7.has X G (P:=l.prog) (w:=w) (base:=base) (A5 (ah5 X G d1.a) (ah5 X G d2.a) d7.F T pf);have Uw:=K6.has X G (P:=l.prog) (w:=w) (base:=base) (A7 K6.F T);have Xd:=K6.has X G (P:=l.prog) (w:=w) (base:=base) (xY K6.F T Uw);have O9:=K6.has X G (P:=l.prog) (w:=w) (base:=base) (A6 K6.F T Xd);have Xb:=Ue.has X G (P:=l.prog) (w:=w) (base:=base) (xW Ue.F T);have SG:=Ud.has X G (P:=l.prog) (w:=w) (base:=base) (IM Ud.F T);have Xe:=Uc.has X G (P:=l.prog) (w:=w) (base:=base) (x4 Uc.F T);have Xc:=Ub.has X G (P:=l.prog) (w:=w) (base:=base) (p9 (by decide) FC T);have SD:=Ua.has X G (P:=l.prog) (w:=w) (base:=base) (xX Ua.F T);exact IL Si.F T NB xm Of Kt iQ SG Xe Xb Xc Oh SD Uw O9
theorem walk{l:PySem.W.OpenLaw}{q:Program}{loose:List Str}{XP:(Str->Option Value)->Heap->Prop}{YP:World->Heap->Prop}{d:DefRec}{K:Params->PySem.W.Frag}(hn:l.most=some 63)(Nb:d.params.defaults= [])
  (hY: ∀(w:World) (h:Heap),YP w h->(K w.params).In h)
  (Nj: ∀w:World,PySem.W.noTabs (K w.params)=true) (Ni: ∀w:World,∃d c P,(recsOf q).find? (fun e=>e.name==("_law_turned_due":Str))=some d/\PySem.W.tabIn (K w.params) "_law_turned_due"=some (c,P))
  (F: ∀(w:World) (mg:Str->Option Value) (fa:Addr) (h:Heap),(K w.params).In h->h.Ns mainGlobals mg->mg d.name=some (.ref fa)->
   ∃fd:FuncData,(∀(s:Shared) (u:Value),BindsTo s fd ⟨[u],[]⟩ [("_law_script",u)])/\ ∀base:Heap,(K w.params).In base->base.Ns mainGlobals mg->bp l.prog w (K w.params) mg base eM 5 fa fd ["_law_script"] (rH (K w.params))):
  PySem.W.WalkO q loose XP YP l.row.toRowW d [] (fun f vs=>PySem.call f vs):=
 L2.DH (n:=63) (k:=5) (x:="_law_script") (CX:=fun _=>eM) (sp:=fun w=>rH (K w.params)) hn (by decide) Nb ⟨rfl,by decide,by decide,rfl⟩ hY F (fun _ _ a ns hl _ hS=>⟨a,ns,rfl,hS,hl,fun _=>rfl⟩) (fun _ _ _ _ _ z=>z) Nj (fun w x hx=>by rw[YX.mp hx];exact Ni w) fun w x hx y hy _ _ _ _ _=>by rw[YX.mp hx,YX.mp hy]
end cn
def cn.vw:PySem.Program:={PySem.Challenge.rw_hungwords_k16_spans_cut_and_turned.row.prog with main:={PySem.Challenge.rw_hungwords_k16_spans_cut_and_turned.row.prog.main with body:=([1,2,3,4,5,6,8,9,10,11,12,14,15,16,17,18,19,20,21,22,23,24,25,26]:List Nat).filterMap fun i=>PySem.Challenge.rw_hungwords_k16_spans_cut_and_turned.row.prog.main.body[i]?}}
open PySem PySem.W PyProof.Rows
local macro_rules
|`(tactic|o_law)=>`(tactic|refine holds_law (by kernel_rfl) fun said=>?_)
local macro_rules
|`(tactic|o_head $H)=>`(tactic|refine holds_open (q:=cn.vw) (loose:=[]) (Xt:=fun s=>xlAt cn.vw [] s && recOk (RowW.records (OpenRow.toRowW (OpenLaw.row PySem.Challenge.rw_hungwords_k16_spans_cut_and_turned))) s) (XP:=XL cn.vw []) (Yf:=Hook.obs $H) (Ya:=Hook.val $H) (YP:=Hook.says $H) (N:=1546) (by intro w;kernel_rfl) (Hook.of $H) (Hook.keeps $H) (fun s e=>xl_of s (Bool.and_eq_true_iff.mp e).1) XL.keeps (by rfl) (by rfl) (by rfl) (fun s e=>recFacts_of (Bool.and_eq_true_iff.mp e).2) (by rfl) (by first | assumption | decide+kernel) (by decide+kernel) ⟨rfl,rfl,rfl,rfl,rfl,by decide+kernel⟩ ?hw ?hc)
set_option maxRecDepth 100000 in
set_option maxHeartbeats 0 in
theorem PySem.Challenge.cw_hungwords_k16_spans_cut_and_turned_holds : PySem.Challenge.rw_hungwords_k16_spans_cut_and_turned.Holds := by
 w_on;o_law;k_head;(case hw=>w_witness2)
 k_fill
 refine cn.walk (l:=PySem.Challenge.rw_hungwords_k16_spans_cut_and_turned) rfl rfl (fun w h Y=>PySem.W.km_in_of Y) ?NT ?TB ?F
 case NT=>intro w;first | exact rfl | kernel_rfl
 case TB=>
  intro w;refine' cn.Lu ?hd (cn.zO ?a ?l ?e ?l2 ?h);all_goals try (first | k_is | exact rfl | kernel_rfl)
 case F=>
  intro w mg fa h KX G MW;refine' cn.all_mk KX G MW (cn.bh ?_ ?_ ?_ ?_ ?_) (cn.bh ?_ ?_ ?_ ?_ ?_) (cn.bh ?_ ?_ ?_ ?_ ?_) (cn.bh ?_ ?_ ?_ ?_ ?_) (cn.bh ?_ ?_ ?_ ?_ ?_) (cn.bh ?_ ?_ ?_ ?_ ?_) (cn.bh ?_ ?_ ?_ ?_ ?_) (cn.bh ?_ ?_ ?_ ?_ ?_) (cn.bh ?_ ?_ ?_ ?_ ?_) (cn.bh ?_ ?_ ?_ ?_ ?_) (cn.bh ?_ ?_ ?_ ?_ ?_) (cn.bh ?_ ?_ ?_ ?_ ?_) (cn.bh ?_ ?_ ?_ ?_ ?_) (cn.bh ?_ ?_ ?_ ?_ ?_) (cn.bh ?_ ?_ ?_ ?_ ?_) (cn.bh ?_ ?_ ?_ ?_ ?_) (cn.bh ?_ ?_ ?_ ?_ ?_) (cn.bh ?_ ?_ ?_ ?_ ?_) (cn.bh ?_ ?_ ?_ ?_ ?_) (cn.bh ?_ ?_ ?_ ?_ ?_) (cn.bh ?_ ?_ ?_ ?_ ?_) (cn.bh ?_ ?_ ?_ ?_ ?_) (cn.bh ?_ ?_ ?_ ?_ ?_) ?_ (cn.zO ?_ ?_ ?_ ?_ ?_) ?_ ?_ ?_ ?_ ?_ ?_ ?_ ?_ ?_ ?_ ?_ ?_ ?_ ?_ ?_ ?_ ?_ ?_;all_goals try (first | k_is | exact rfl | kernel_rfl | (intro us hl;first | (obtain⟨a,rfl⟩:=List.length_eq_one_iff.mp hl;rfl) | (match us,hl with | [_,_],_=>rfl) | (match us,hl with | [_,_,_],_=>rfl) | (match us,hl with | [_,_,_,_],_=>rfl)))
end
