import PyProof.Rows.All
import PyProof.Rows.SortShell
import KE.KSortTup
import Wide.All
import OpenK.AllK
import Wide.FinOn
import Lean
import PyProof.EqAt
import PyProof.EqKinds
import PyProof.TupleCall
import KE.KLam
import PyProof.ListRange
import PyProof.NeKinds
import PyProof.ZipIter
import PyProof.FactsAll.tuple_2
import PyProof.FactsAll.tuple_3
import PyProof.Rows.SortWalk
import PyProof.Rows.MinMaxN
import PyProof.Rows.TopTwo
import KE.KIsAll
import KE.KTryMore
import PyProof.ExcArgsOwn
import PyProof.NsDelKeeps
import KE.KRevIter
import PyProof.AttrMissHeap
import PyProof.ListNew
import PyProof.FactsAll.dict_1
import KE.KRevSl
import PyProof.Rows.IntBool
import PyProof.TupleOfSeq
import KE.KIntText
import PyProof.StrWalks
import PyProof.StrCalls2
import PyProof.StrBlock2
import PyProof.FString5
import PyProof.StrLawsTight
import PyProof.StrLawsChain
import PyProof.ListMulRoad
import KE.KMinKey
import PyProof.StationsW
import PyProof.Rows.Catch
import PyProof.ExcClass3
import PyProof.ExcInit
import PyProof.Ns1
import KE.KDictSum
import PyProof.SetKind
import PyProof.Rows.SetFrom
import PyProof.CollectIter
import PyProof.Rows.SortStr
import PyProof.DictCompW
import PyProof.PureStr
import PySem.Challenge.RW_hungwords_k18_first_plain_ones
set_option Elab.async false
set_option linter.all false
set_option maxRecDepth 100000
set_option maxHeartbeats 8000000
abbrev Zs:=@List.getElem?_eq_getElem
abbrev Zt:=@PySem.wpAny_bind
abbrev Zu:=@List.length_map
abbrev Zv:=@PySem.Heap.get?_push_of_some
abbrev Zw:=@List.getElem?_eq_some_iff
abbrev Zx:=@Nat.le_refl
abbrev Zy:=@List.getElem?_map
abbrev Zz:=@List.not_mem_nil
abbrev ZA:=@PyProof.Rows.wpS_bind
abbrev ZC:=@PyProof.Rows.wpS_pure
abbrev ZD:=@PySem.wpAny_pure
abbrev ZE:=@List.getElem?_set_ne
abbrev ZF:=@List.mem_cons_of_mem
abbrev ZG:=@List.length_cons
abbrev ZH:=@List.size_toArray
abbrev ZI:=@List.mem_cons_self
abbrev ZJ:=@Bool.false_ne_true
abbrev ZK:=@List.length_append
abbrev ZL:=@List.mem_map
abbrev ZM:=@List.mem_singleton
abbrev ZN:=@List.getElem?_set_self
abbrev ZO:=@beq_iff_eq
abbrev ZP:=@PySem.Heap.get?_push_size
abbrev ZQ:=@Array.length_toList
abbrev ZR:=@List.mem_cons
abbrev ZS:=@List.mem_append_right
abbrev ZT:=@List.map_cons
abbrev ZU:=@Nat.lt_of_lt_of_le
abbrev ZV:=@List.map_append
abbrev ZW:=@PySem.Heap.lt_size
abbrev ZX:=@List.getElem?_replicate
abbrev ZY:=@List.mem_of_getElem?
abbrev ZZ:=@Nat.le_trans
abbrev Z0:=@List.map_congr_left
abbrev Z1:=@List.length_range
abbrev Z2:=@List.length_range'
abbrev Z3:=@List.getElem?_append_left
abbrev Z4:=@List.length_set
abbrev Z6:=@PySem.wpAny_mono
abbrev Z7:=@Nat.zero_le
abbrev Z8:=@List.getElem?_append_right
abbrev Z9:=@decide_eq_true
abbrev aa0:=@List.mem_flatMap
abbrev aa1:=@List.append_assoc
abbrev aa2:=@Option.map_eq_some_iff
abbrev aa3:=@decide_eq_false
abbrev aa4:=@List.mem_range'_1
abbrev aa5:=@PySem.W.mg_none_of
abbrev aa6:=@Array.toList_append
abbrev aa7:=@List.mem_append
abbrev aa8:=@Nat.ne_of_lt
abbrev aa9:=@List.lookup_cons
abbrev ab0:=@PySem.mem_of_lookup
abbrev ab1:=@List.map_map
abbrev ab2:=@List.append_nil
abbrev ab3:=@List.mem_range
abbrev ab4:=@of_decide_eq_true
abbrev ab5:=@Nat.lt_irrefl
abbrev ab6:=@List.getElem?_eq_none
abbrev ab7:=@PyProof.Rows.wpS_forRange
abbrev ab8:=@PySem.PassesOwn.never
abbrev ab9:=@congrArg
abbrev ac0:=@List.length_take
abbrev ac1:=@Int.toNat_natCast
abbrev ac2:=@of_decide_eq_false
abbrev ac3:=@List.getElem?_range
abbrev ac4:=@PySem.Heap.size_push
abbrev ac5:=@Int.mul_le_mul_of_nonneg_right
abbrev ac6:=@List.filter_eq_self
abbrev ac7:=@List.drop_eq_getElem_cons
abbrev ac8:=@PySem.wpAny_loadPart'
abbrev ac9:=@List.take_length
abbrev ad0:=@Array.getElem?_toList
abbrev ad1:=@PySem.wpAny_newObj_type
abbrev ad2:=@List.ext_getElem?
abbrev ad3:=@PyProof.Rows.wpS_mono
abbrev ad4:=@PySem.wpAny_holding
abbrev ad5:=@Array.perm_iff_toList_perm
abbrev ad6:=@List.range'_append_1
abbrev ad7:=@List.getElem?_range'
abbrev ad8:=@List.eq_nil_iff_forall_not_mem
abbrev ad9:=@List.getElem_mem
abbrev ae0:=@Array.getElem?_eq_getElem
abbrev ae1:=@List.flatMap_cons
abbrev ae2:=@PySem.wpAny_standAt
abbrev ae3:=@List.take_append_drop
abbrev ae4:=@List.length_replicate
abbrev ae5:=@PySem.wpAny_field
abbrev ae6:=@Int.le_refl
abbrev ae7:=@PySem.W.kia_one
abbrev ae8:=@PySem.wpAny_pyIter_tuple
abbrev ae9:=@Nat.lt_of_le_of_lt
abbrev af0:=@List.ext_getElem
abbrev af1:=@List.mem_append_left
abbrev af2:=@PySem.Heap.get?_update_other
abbrev af3:=@List.take_add_one
abbrev af4:=@List.flatten_cons
abbrev af5:=@List.getElem_of_mem
abbrev af6:=@PySem.wpAny_rule
abbrev af7:=@List.nodup_cons
abbrev af8:=@List.pairwise_iff_getElem
abbrev af9:=@List.perm_append_comm
abbrev ag0:=@List.length_singleton
abbrev ag1:=@Nat.add_zero
abbrev ag2:=@Nat.lt_succ_self
abbrev ag3:=@List.length_drop
abbrev ag4:=@List.all_eq_true
abbrev ag5:=@PySem.wpAny_Call_Name_kw
abbrev ag6:=@PySem.sizeLine_eq
abbrev ag7:=@PySem.wpAny_seqItems
abbrev ag8:=@List.nodup_nil
abbrev ag9:=@List.getElem?_mapIdx
abbrev ah0:=@PySem.wpAny_callSpecial?_slot
abbrev ah1:=@PySem.wpAny_truthy_bool
abbrev ah2:=@Nat.lt_succ_of_lt
abbrev ah3:=@List.length_nil
abbrev ah4:=@PyProof.Rows.callWith_type1
abbrev ah5:=@beq_eq_false_iff_ne
abbrev ah6:=@PySem.Heap.SameBut.update
abbrev ah7:=@Int.le_of_lt
abbrev ah8:=@List.take_of_length_le
abbrev ah9:=@PyProof.Rows.wpS_modify
abbrev ai0:=@List.getD_eq_getElem?_getD
abbrev ai1:=@Nat.succ_le_succ
abbrev ai2:=@List.length_mapIdx
abbrev ai3:=@Array.size_extract
abbrev ai4:=@PyProof.Rows.slot_tuple_getitem
abbrev ai5:=@PySem.pushCells_keeps
abbrev ai6:=@Nat.lt_succ_of_le
abbrev ai7:=@List.nodup_append
abbrev ai8:=@List.flatMap_append
abbrev ai9:=@beq_self_eq_true
abbrev aj0:=@Bool.and_eq_true
abbrev aj1:=@Nat.ne_of_gt
abbrev aj2:=@PySem.wpAny_setField_rec
abbrev aj3:=@List.mem_filterMap
abbrev aj4:=@PySem.wpAny_passesOwn
abbrev aj5:=@PySem.Heap.get?_update_self
abbrev aj6:=@List.any_cons
abbrev aj7:=@PySem.F.slot_tuple_iterator_next
abbrev aj8:=@Array.getElem?_eq_some_iff
abbrev aj9:=@PySem.wpAny_pyIter_list
abbrev ak0:=@Array.toList_push
abbrev ak1:=@Int.add_mul
abbrev ak2:=@List.take_zero
abbrev ak3:=@PySem.wpAny_call_entry
abbrev ak4:=@Nat.le_add_right
abbrev ak5:=@PySem.F.plain_max_loop
abbrev ak6:=@Array.toList_inj
abbrev ak7:=@PySem.wpAny_comprehension_free
abbrev ak8:=@Option.map_some
abbrev ak9:=@List.find?_cons
abbrev al0:=@Bool.eq_iff_iff
abbrev al1:=@List.filter_append
abbrev al2:=@PySem.wpAny_letGo
abbrev al3:=@Nat.le_succ
abbrev al4:=@List.zipWith_cons_cons
abbrev al5:=@Nat.le_of_succ_le
abbrev al6:=@PyProof.Rows.wpS_get
abbrev al7:=@PySem.codeAny_mono
abbrev al8:=@Nat.sub_zero
abbrev al9:=@List.mem_flatten
abbrev am0:=@PySem.W.mg_of
abbrev am1:=@Int.one_mul
abbrev am2:=@List.filterMap_cons
abbrev am3:=@PyProof.Rows.get?_update_seq
abbrev am4:=@Nat.zero_add
abbrev am5:=@Int.emod_lt_of_pos
abbrev am6:=@Bool.false_eq_true
abbrev am7:=@PySem.F.args_tuple_add_2
abbrev am8:=@Int.not_lt
abbrev am9:=@PySem.F.plainAttrs_list
abbrev an0:=@PySem.F.entry_tuple_add
abbrev an1:=@Int.eq_ofNat_of_zero_le
abbrev an2:=@List.reverse_cons
abbrev an3:=@List.nodup_range'
abbrev an4:=@PySem.plainId_quiet
abbrev an5:=@List.all_cons
namespace fK
open PySem PyProof.Rows
noncomputable def eU:Bool->Keyed->Array Keyed->Nat->Nat->Nat->StateT SortSt Sem (Option Nat):=sortPriv% PySem.Builtin.gallop
noncomputable def m6:Array Keyed->Array Keyed->StateT SortSt Sem (Array Keyed):=sortPriv% PySem.Builtin.mergeLo
noncomputable def m8:Array Keyed->Array Keyed->StateT SortSt Sem (Array Keyed):=sortPriv% PySem.Builtin.mergeHi
noncomputable abbrev setG (st:SortSt) (g:Nat):SortSt:=SortSt.mk' (kindOf st) (arrOf st) (pendingOf st) g (failedOf st)
section
variable{prog:Program}{w:World}{A:Around}{E:Value->Shared->Prop}{s:Shared}
theorem aq{M:Model}{α:Type}{c:Prop} [Decidable c]{a b:StateT SortSt Sem α}{Q:α->SortSt->Prop}{st:SortSt}(h:c)(q:wpS M A E s a Q st):wpS M A E s (if c then a else b) Q st:=by rw[if_pos h];exact q
theorem au{M:Model}{α:Type}{c:Prop} [Decidable c]{a b:StateT SortSt Sem α}{Q:α->SortSt->Prop}{st:SortSt}(h: ¬c)(q:wpS M A E s b Q st):wpS M A E s (if c then a else b) Q st:=by rw[if_neg h];exact q
theorem aF{st:SortSt}{xs:Array Keyed}{i:Nat}(hi:i < xs.size)(h:Q xs[i] st):wpS (model prog w) A E s (elem' xs i) Q st:=by
 rw[elem'_eq,ae0 hi];exact ZC h
theorem vn(left:Bool)(key:Keyed)(arr:Array Keyed)(base n hint:Nat):eU left key arr base n hint=(do
 let beyond (i:Nat):StateT SortSt Sem (Option Bool):=do
  let x<-elem' arr (base+i)
  if left then lt' x key else return(<-lt' key x).map (!·)
 let mut lV:=0
 let mut zQ:=1
 let mut lo:=0
 let mut hi:=0
 let some right<-beyond hint | return none
 if right then
  let ng:=n - hint
  for _ in [0:n] do
   if zQ>=ng then break
   let some more<-beyond (hint+zQ) | return none
   if !more then break
   lV:=zQ
   zQ:=2*zQ+1
  lo:=hint+lV+1
  hi:=hint+min zQ ng
 else
  let ng:=hint+1
  for _ in [0:n] do
   if zQ>=ng then break
   let some found<-beyond (hint - zQ) | return none
   if found then break
   lV:=zQ
   zQ:=2*zQ+1
  lo:=hint+1 - min zQ ng
  hi:=hint - lV
 for _ in [0:n] do
  if lo>=hi then break
  let m:=lo+(hi - lo) / 2
  let some more<-beyond m | return none
  if more then lo:=m+1 else hi:=m
 return some hi):=rfl
noncomputable def cC:Nat->StateT SortSt Sem Unit:=sortPriv% PySem.Builtin.setMinGallop
theorem cm(g:Nat):cC g=modify fun s=>setG s g:=rfl
theorem tF(a b:Array Keyed):m6 a b=(do
 rule "list.sort.merge-lo"
 let total:=a.size+b.size
 let done (out:Array Keyed) (ia ib:Nat):=out++a.extract ia a.size++b.extract ib b.size
 let lX (out:Array Keyed) (ia ib:Nat):=out++b.extract ib b.size++a.extract ia a.size
 let mut out:Array Keyed:= #[<-elem' b 0]
 let mut ia:=0
 let mut ib:=1
 if ib==b.size then return done out ia ib
 if ia+1==a.size then return lX out ia ib
 let mut minGallop:=gallopOf (<-get)
 for _ in [0:total] do
  let mut dh:=0
  let mut df:=0
  for _ in [0:total] do
   let some OD<-lt' (<-elem' b ib) (<-elem' a ia) | return done out ia ib
   if OD then
    out:=out.push (<-elem' b ib);ib:=ib+1;df:=df+1;dh:=0
    if ib==b.size then return done out ia ib
    if df>=minGallop then break
   else
    out:=out.push (<-elem' a ia);ia:=ia+1;dh:=dh+1;df:=0
    if ia+1==a.size then return lX out ia ib
    if dh>=minGallop then break
  rule "list.sort.gallop"
  minGallop:=minGallop+1
  for _ in [0:total] do
   if minGallop > 1 then minGallop:=minGallop - 1
   cC minGallop
   let some k<-eU false (<-elem' b ib) a ia (a.size - ia) 0 | return done out ia ib
   dh:=k
   if k > 0 then
    out:=out++a.extract ia (ia+k);ia:=ia+k
    if ia+1==a.size then return lX out ia ib
    if ia==a.size then return done out ia ib
   out:=out.push (<-elem' b ib);ib:=ib+1
   if ib==b.size then return done out ia ib
   let some k<-eU true (<-elem' a ia) b ib (b.size - ib) 0 | return done out ia ib
   df:=k
   if k > 0 then
    out:=out++b.extract ib (ib+k);ib:=ib+k
    if ib==b.size then return done out ia ib
   out:=out.push (<-elem' a ia);ia:=ia+1
   if ia+1==a.size then return lX out ia ib
   if dh < 7 && df < 7 then break
  minGallop:=minGallop+1
  cC minGallop
 unsupported "internal:list.sort.merge-bound"):=rfl
theorem u6{a:Array Keyed}(h:i < a.size):a[i]∈a.toList:=by simp
end
theorem HS{β γ δ ε:Type}{A1 A2:Nat->Prop}{st:SortSt}{J:Nat->Option (Array Keyed) × β × γ × δ × ε->Prop}{G:Nat->Option (Array Keyed) × β × γ × δ × ε->SortSt->Prop}(h: ∀i a b c d g,A1 i->A2 i->J i (none,a,b,c,d)->G i (none,a,b,c,d) (setG st g)):
  ∀i c av,A1 i->A2 i->((∃g,av=setG st g)/\c.1=none/\J i c)->G i c av:=by
 rintro i ⟨r,a,b,c,d⟩ av h1 h2 ⟨⟨g,rfl⟩,hr,hJ⟩
 have hr:r=none:=hr;subst hr;exact h i a b c d g h1 h2 hJ
theorem HR{β γ δ ε ζ:Type}{A1 A2:Nat->Prop}{J:Nat->Option (Array Keyed) × β × γ × δ × ε × ζ->Prop}{G:Nat->Option (Array Keyed) × β × γ × δ × ε × ζ->SortSt->Prop}(h: ∀i a b c d e,A1 i->A2 i->J i (none,a,b,c,d,e)->G i (none,a,b,c,d,e) gA):
  ∀i c av,A1 i->A2 i->(av=gA/\c.1=none/\J i c)->G i c av:=by
 rintro i ⟨r,a,b,c,d,e⟩ av h1 h2 ⟨rfl,hr,hJ⟩
 have hr:r=none:=hr;subst hr;exact h i a b c d e h1 h2 hJ
theorem HQ{β γ δ ε ζ η:Type}{A1 A2:Nat->Prop}{st:SortSt}{J:Nat->Option (Array Keyed) × β × γ × δ × ε × ζ × η->Prop}{G:Nat->Option (Array Keyed) × β × γ × δ × ε × ζ × η->SortSt->Prop}(h: ∀i a b c d e f g,A1 i->A2 i->J i (none,a,b,c,d,e,f)->G i (none,a,b,c,d,e,f) (setG st g)):
  ∀i c av,A1 i->A2 i->((∃g,av=setG st g)/\c.1=none/\J i c)->G i c av:=by
 rintro i ⟨r,a,b,c,d,e,f⟩ av h1 h2 ⟨⟨g,rfl⟩,hr,hJ⟩
 have hr:r=none:=hr;subst hr;exact h i a b c d e f g h1 h2 hJ
theorem MH{β γ δ ε ζ:Type}{gA:SortSt}{K:Array Keyed->Prop}{J:Option (Array Keyed) × β × γ × δ × ε × ζ->Prop}{G:Option (Array Keyed) × β × γ × δ × ε × ζ->SortSt->Prop}(h1: ∀r a b c d e,K r->G (some r,a,b,c,d,e) gA)(h2: ∀a b c d e,J (none,a,b,c,d,e)->G (none,a,b,c,d,e) gA):
  ∀c av,(av=gA/\((∃r,c.1=some r/\K r)\/(c.1=none/\J c)))->G c av:=by
 rintro⟨r,a,b,c,d,e⟩ av ⟨rfl,⟨r',hr,k⟩ | ⟨hr,hJ⟩⟩
 . have hr:r=some r':=hr;subst hr;exact h1 _ _ _ _ _ _ k
 . have hr:r=none:=hr;subst hr;exact h2 _ _ _ _ _ hJ
theorem MG{β γ δ ε ζ η:Type}{st:SortSt}{K:Array Keyed->Prop}{J:Option (Array Keyed) × β × γ × δ × ε × ζ × η->Prop}{G:Option (Array Keyed) × β × γ × δ × ε × ζ × η->SortSt->Prop}(h1: ∀r a b c d e f g,K r->G (some r,a,b,c,d,e,f) (setG st g))(h2: ∀a b c d e f g,J (none,a,b,c,d,e,f)->G (none,a,b,c,d,e,f) (setG st g)):
  ∀c av,((∃g,av=setG st g)/\((∃r,c.1=some r/\K r)\/(c.1=none/\J c)))->G c av:=by
 rintro⟨r,a,b,c,d,e,f⟩ av ⟨⟨g,rfl⟩,⟨r',hr,k⟩ | ⟨hr,hJ⟩⟩
 . have hr:r=some r':=hr;subst hr;exact h1 _ _ _ _ _ _ _ _ k
 . have hr:r=none:=hr;subst hr;exact h2 _ _ _ _ _ _ _ hJ
theorem tG(a b:Array Keyed):m8 a b=(do
 rule "list.sort.merge-hi"
 let total:=a.size+b.size
 let done (out:Array Keyed) (na nb:Nat):=a.extract 0 na++b.extract 0 nb++out.reverse
 let jN (out:Array Keyed) (na nb:Nat):=b.extract 0 nb++a.extract 0 na++out.reverse
 let mut na:=a.size - 1
 let mut nb:=b.size
 let mut out:Array Keyed:= #[<-elem' a na]
 if na==0 then return done out na nb
 if nb==1 then return jN out na nb
 let mut minGallop:=gallopOf (<-get)
 for _ in [0:total] do
  let mut dh:=0
  let mut df:=0
  for _ in [0:total] do
   let some OH<-lt' (<-elem' b (nb - 1)) (<-elem' a (na - 1)) | return done out na nb
   if OH then
    na:=na - 1;out:=out.push (<-elem' a na);dh:=dh+1;df:=0
    if na==0 then return done out na nb
    if dh>=minGallop then break
   else
    nb:=nb - 1;out:=out.push (<-elem' b nb);df:=df+1;dh:=0
    if nb==1 then return jN out na nb
    if df>=minGallop then break
  rule "list.sort.gallop"
  minGallop:=minGallop+1
  for _ in [0:total] do
   if minGallop > 1 then minGallop:=minGallop - 1
   cC minGallop
   let some at_<-eU false (<-elem' b (nb - 1)) a 0 na (na - 1) | return done out na nb
   let k:=na - at_
   dh:=k
   if k > 0 then
    out:=out++(a.extract at_ na).reverse;na:=at_
    if na==0 then return done out na nb
   nb:=nb - 1;out:=out.push (<-elem' b nb)
   if nb==1 then return jN out na nb
   let some at_<-eU true (<-elem' a (na - 1)) b 0 nb (nb - 1) | return done out na nb
   let k:=nb - at_
   df:=k
   if k > 0 then
    out:=out++(b.extract at_ nb).reverse;nb:=at_
    if nb==1 then return jN out na nb
    if nb==0 then return done out na nb
   na:=na - 1;out:=out.push (<-elem' a na)
   if na==0 then return done out na nb
   if dh < 7 && df < 7 then break
  minGallop:=minGallop+1
  cC minGallop
 unsupported "internal:list.sort.merge-bound"):=rfl
section
variable{prog:Program}{w:World}{A:Around}{E:Value->Shared->Prop}{s:Shared}{a₀:Array Keyed}{p:Array (Nat × Nat × Nat)}
def Ch:Nat->List (Nat × Nat × Nat)->Nat->Prop
 | s,[],e=>s=e
 | s,x::r,e=>x.1=s/\1<=x.2.1/\Ch (x.1+x.2.1) r e
theorem Ch.le: ∀{s e:Nat} {l:List (Nat × Nat × Nat)},Ch s l e->s<=e
 | s,e,[],h=>Nat.le_of_eq h
 | s,e,x::r,h=>by have:=Ch.le h.2.2;have:=h.1;lia
theorem Ch.two: ∀{s e i:Nat} {l:List (Nat × Nat × Nat)} {x y:Nat × Nat × Nat},Ch s l e->l[i]?=some x->l[i+1]?=some y->1<=x.2.1/\x.1+x.2.1=y.1/\1<=y.2.1/\y.1+y.2.1<=e
 | s,e,i,[],x,y,h,h1,_=>by simp at h1
 | s,e,0,[z],x,y,h,h1,h2=>by simp at h2
 | s,e,0,z::z2::r,x,y,h,h1,h2=>by
  cases (show z=x by simpa using h1);cases (show z2=y by simpa using h2);exact⟨h.2.1,h.2.2.1.symm,h.2.2.2.1,Ch.le h.2.2.2.2⟩
 | s,e,i+1,z::r,x,y,h,h1,h2=>Ch.two h.2.2 (by simpa using h1) (by simpa using h2)
theorem tH(i:Nat):mergeAt' i=(do
 let s<-get
 let (some (sa,na,power),some (sb,nb,_)):=((pendingOf s)[i]?,(pendingOf s)[i+1]?) | unsupported "internal:list.sort.pending"
 set (setPending s (((pendingOf s).setIfInBounds i (sa,na+nb,power)).eraseIdxIfInBounds (i+1)))
 let some k<-eU false (<-elem' (arrOf s) sb) (arrOf s) sa na 0 | return false
 let (sa,na):=(sa+k,na - k)
 if na==0 then return true
 let some nb<-eU true (<-elem' (arrOf s) (sa+na - 1)) (arrOf s) sb nb (nb - 1) | return false
 if nb==0 then return true
 let x:=(arrOf s).extract sa sb
 let y:=(arrOf s).extract sb (sb+nb)
 let merged<-if na<=nb then m6 x y else m8 x y
 modify fun s=>setArr s (merged.toList.zipIdx.foldl (fun a (p,j)=>a.setIfInBounds (sa+j) p) (arrOf s))
 return(failedOf (<-get)).isNone):=rfl
theorem EH{σ:Type}{M:Model}{Q:PUnit->σ->Prop}{st av:σ}(h:Q ⟨⟩ av):wpS M A E s (set av:StateT σ Sem PUnit) Q st:=by
 unfold wpS;rw[StateT.run_set];exact ZD ⟨rfl,h⟩
end
theorem m5: ∀{f n r:Nat},1<=n->1<=minRun' f n r
 | 0,n,r,h=>by show 1<=n+r;omega
 | f+1,n,r,h=>by
  rw[minRun'_succ];by_cases c:n < 64
  . rw[if_pos c];omega
  . rw[if_neg c];exact m5 (by omega)
end fK
namespace eZ
open PySem PyProof.Rows fK
noncomputable def rk(R:Keyed->Int)(a:Array Keyed)(i:Nat):Int:=(a[i]?.map R).getD 0
def dZ(R:Keyed->Int)(a:Array Keyed):Prop:=a.toList.Pairwise fun x y=>R x<=R y
def Out(R:Keyed->Int)(a b m:Array Keyed):Prop:=m.toList.Perm (a.toList++b.toList)/\dZ R m
section
variable{R:Keyed->Int}
theorem bW{a:Array Keyed}(h:i < a.size):rk R a i=R a[i]:=by
 unfold rk;rw[ae0 h];rfl
theorem dZ.rk{a:Array Keyed}(h:dZ R a){i j:Nat}(cj:i<=j)(hj:j < a.size):rk R a i<=rk R a j:=by
 rw[bW (show i < a.size by lia),bW hj];by_cases c:i=j
 . subst c;exact ae6 _
 . exact af8.mp h i j (by simpa using (show i < a.size by lia)) (by simpa using hj) (by lia)
theorem fW{a:Array Keyed}:(a.extract i j).toList=(a.toList.drop i).take (j - i):=by
 rw[Array.toList_extract,List.extract_eq_drop_take]
theorem cT{a:Array Keyed}(h:x∈(a.extract i j).toList): ∃k,i<=k/\k < j/\k < a.size/\R x=eZ.rk R a k:=by
 obtain⟨k,hk,e⟩:=af5 h;have Er:k < (a.extract i j).size:=by rw[<-ZQ];exact hk
 have hs:(a.extract i j).size=min j a.size - i:=ai3;refine⟨i+k,by lia,by lia,by lia,?_⟩;rw[bW (show i+k < a.size by lia),<-e];congr 1
 rw[Array.getElem_toList,Array.getElem_extract]
theorem dZ.ex(h:dZ R a)(i j:Nat):dZ R (a.extract i j):=by
 unfold dZ;rw[fW];exact(List.Pairwise.sublist (List.drop_sublist _ _) h).sublist (List.take_sublist _ _)
theorem wL{a out:Array Keyed}(h:i < a.size):out.push a[i]=out++a.extract i (i+1):=by
 apply ak6.mp;rw[ak0,aa6,fW,show i+1 - i=1 by lia];congr 1
 have h':i < a.toList.length:=by simpa using h
 rw[ac7 h',List.take_succ_cons,ak2,Array.getElem_toList]
structure Lo(R:Keyed->Int)(a b out:Array Keyed)(ia ib:Nat):Prop where
 pm:(out.toList++(a.toList.drop ia++b.toList.drop ib)).Perm (a.toList++b.toList)
 so:dZ R out
 la: ∀x∈out.toList,∀j,ia<=j->j < a.size->R x<=rk R a j
 lb: ∀x∈out.toList,∀j,ib<=j->j < b.size->R x<=rk R b j
theorem dZ.app(h1:dZ R m)(h2:dZ R n)(h: ∀x∈m.toList,∀y∈n.toList,R x<=R y):dZ R (m++n):=by
 unfold dZ;rw[aa6];exact List.pairwise_append.mpr ⟨h1,h2,h⟩
theorem xD{a:Array Keyed}(h:i<=j):a.toList.drop i=(a.extract i j).toList++a.toList.drop j:=by
 rw[fW];conv=>lhs;rw[<-ae3 (j - i) (a.toList.drop i)]
 rw[List.drop_drop,show i+(j - i)=j by lia]
theorem Lo.jo{a b out:Array Keyed}{ia ib:Nat}(h:Lo R a b out ia ib)(sa:dZ R a)(sb:dZ R b){ia':Nat}(h1:ia<=ia')(hc:ia < ia'->ia'<=a.size->ib < b.size->rk R a (ia' - 1)<=rk R b ib)(h2:ia'<=a.size:=by lia):Lo R a b (out++a.extract ia ia') ia' ib:=by
 refine⟨?_,h.so.app (sa.ex _ _) fun x hx y hy=>?_,fun x hx j j1 j2=>?_,fun x hx j j1 j2=>?_⟩
 . rw[aa6];refine List.Perm.trans ?_ h.pm;rw[xD (a:=a) h1,aa1,aa1]
 . obtain⟨k,k1,k2,k3,e⟩:=cT (R:=R) hy;rw[e];exact h.la x hx k k1 k3
 . rw[aa6] at hx;rcases aa7.mp hx with z | z
   . exact h.la x z j (by lia) j2
   . obtain⟨k,k1,k2,k3,e⟩:=cT (R:=R) z;rw[e];exact sa.rk (by lia) j2
 . rw[aa6] at hx;rcases aa7.mp hx with z | z
   . exact h.lb x z j j1 j2
   . obtain⟨k,k1,k2,k3,e⟩:=cT (R:=R) z;rw[e];have q1:=sa.rk (show k<=ia' - 1 by lia) (by lia);have q2:=hc (by lia) h2 (by lia);have q3:=sb.rk j1 j2;lia
theorem Lo.gO{a b out:Array Keyed}{ia ib:Nat}(h:Lo R a b out ia ib)(sa:dZ R a)(sb:dZ R b){ib':Nat}(h1:ib<=ib')(hc:ib < ib'->ib'<=b.size->ia < a.size->rk R b (ib' - 1)<=rk R a ia)(h2:ib'<=b.size:=by lia):Lo R a b (out++b.extract ib ib') ia ib':=by
 refine⟨?_,h.so.app (sb.ex _ _) fun x hx y hy=>?_,fun x hx j j1 j2=>?_,fun x hx j j1 j2=>?_⟩
 . rw[aa6];refine List.Perm.trans ?_ h.pm;rw[xD (a:=b) h1,aa1];refine List.Perm.append_left _ ?_;rw[<-aa1,<-aa1];exact List.Perm.append_right _ af9
 . obtain⟨k,k1,k2,k3,e⟩:=cT (R:=R) hy;rw[e];exact h.lb x hx k k1 k3
 . rw[aa6] at hx;rcases aa7.mp hx with z | z
   . exact h.la x z j j1 j2
   . obtain⟨k,k1,k2,k3,e⟩:=cT (R:=R) z;rw[e];have q1:=sb.rk (show k<=ib' - 1 by lia) (by lia);have q2:=hc (by lia) h2 (by lia);have q3:=sa.rk j1 j2;lia
 . rw[aa6] at hx;rcases aa7.mp hx with z | z
   . exact h.lb x z j (by lia) j2
   . obtain⟨k,k1,k2,k3,e⟩:=cT (R:=R) z;rw[e];exact sb.rk (by lia) j2
theorem Lo.out{a b out:Array Keyed}{ia ib:Nat}(h:Lo R a b out ia ib)(h1:ia=a.size)(h2:ib=b.size):Out R a b out:=by
 refine⟨?_,h.so⟩;have:=h.pm;rw[h1,h2,List.drop_eq_nil_of_le (by simp),List.drop_eq_nil_of_le (by simp),ab2,ab2] at this;exact this
theorem Lo.done{a b out:Array Keyed}{ia ib:Nat}(h:Lo R a b out ia ib)(sa:dZ R a)(sb:dZ R b)(ha:ia<=a.size)(hb:ib<=b.size)(hh:ib=b.size\/ia=a.size):Out R a b (out++a.extract ia a.size++b.extract ib b.size):=
 ((h.jo sa sb ha (fun z1 _ z=>by lia) (Zx _)).gO sa sb hb (fun z1 _ z=>by lia) (Zx _)).out rfl rfl
theorem Lo.last{a b out:Array Keyed}{ia ib:Nat}(h:Lo R a b out ia ib)(sa:dZ R a)(sb:dZ R b)(ha:ia<=a.size)(hb:ib<=b.size)(hl:ib < b.size->rk R b (b.size - 1)<=rk R a ia):Out R a b (out++b.extract ib b.size++a.extract ia a.size):=
 ((h.gO sa sb hb (fun z1 _ z=>hl z1) (Zx _)).jo sa sb ha (fun z1 _ z=>by lia) (Zx _)).out rfl rfl
end
section
variable{prog:Program}{w:World}{A:Around}{E:Value->Shared->Prop}{s:Shared}{κ:SortKind}{R:Keyed->Int}{D:Keyed->Prop}
def oQ(prog:Program)(w:World)(A:Around)(E:Value->Shared->Prop)(s:Shared)(κ:SortKind)(R:Keyed->Int)(D:Keyed->Prop):Prop:= ∀(st:SortSt) (x y:Keyed) (Q:Option Bool->SortSt->Prop),kindOf st=κ->D x->D y->Q (some (decide (R x < R y))) st->wpS (model prog w) A E s (lt' x y) Q st
def Dk(D:Keyed->Prop)(a:Array Keyed):Prop:= ∀i (h:i < a.size),D a[i]
noncomputable def fO(R:Keyed->Int)(left:Bool)(r:Int)(a:Array Keyed)(i:Nat):Bool:=if left then decide (rk R a i < r) else !decide (r < rk R a i)
theorem uh(h:rk R a i<=rk R a j)(hb:fO R left r a j=true):fO R left r a i=true:=by
 unfold fO at hb ⊢;cases left
 . simp at hb ⊢;lia
 . simp at hb ⊢;lia
theorem DM(h:rk R a i<=rk R a j)(hb:fO R left r a i=false):fO R left r a j=false:=by
 cases e:fO R left r a j with
 | false=>rfl
 | true=>rw[uh h e] at hb;cases hb
theorem nN(h:fO R true r a i=true):rk R a i < r:=by unfold fO at h;simpa using h
theorem nO(h:fO R true r a i=false):r<=rk R a i:=by unfold fO at h;simpa using h
theorem vM(h:fO R false r a i=true):rk R a i<=r:=by unfold fO at h;simpa using h
theorem vN(h:fO R false r a i=false):r < rk R a i:=by unfold fO at h;simpa using h
theorem lL(L:oQ prog w A E s κ R D){st:SortSt}{left:Bool}{base i:Nat}(hk:kindOf st=κ)(hx:Dk D arr)(lq:D key)(hi:base+i < arr.size)(h:Q (some (fO R left (R key) arr (base+i))) st):
  wpS (model prog w) A E s (do
   let x<-elem' arr (base+i)
   if left then lt' x key else return(<-lt' key x).map (!·)) Q st:=by
 refine ZA (aF hi ?_);unfold fO at h;rw[bW hi] at h;cases left with
 | true=>rw[if_pos rfl] at h ⊢;exact L _ _ _ _ hk (hx _ hi) lq h
 | false=>
  rw[if_neg ZJ] at h ⊢;exact ZA (L _ _ _ _ hk lq (hx _ hi) (ZC h))
theorem eP(L:oQ prog w A E s κ R D){st:SortSt}{left:Bool}{base n hint:Nat}(hk:kindOf st=κ)(hx:Dk D arr)(lq:D key)(hb:base+n<=arr.size)(hh:hint < n)(hm: ∀i j,i<=j->j < n->rk R arr (base+i)<=rk R arr (base+j))(h: ∀k,k<=n->(∀i,i < k->fO R left (R key) arr (base+i)=true)->(∀i,k<=i->i < n->fO R left (R key) arr (base+i)=false)->Q (some k) st):wpS (model prog w) A E s (eU left key arr base n hint) Q st:=by
 have up: ∀j,j < n->fO R left (R key) arr (base+j)=true-> ∀i,i<=j->fO R left (R key) arr (base+i)=true:=fun j hj hb i hi=>uh (hm i j hi hj) hb;have dn: ∀i,fO R left (R key) arr (base+i)=false-> ∀j,i<=j->j < n->fO R left (R key) arr (base+j)=false:=fun i hb j hi hj=>DM (hm i j hi hj) hb;rw[vn];dsimp only;have tail: ∀lo hi:Nat,lo<=hi->hi<=n->(∀i,i < lo->fO R left (R key) arr (base+i)=true)->(∀i,hi<=i->i < n->fO R left (R key) arr (base+i)=false)->wpS (model prog w) A E s (do
   let mut lo:=lo
   let mut hi:=hi
   for _ in [0:n] do
    if lo>=hi then break
    let m:=lo+(hi - lo) / 2
    let some more<-(do
      let x<-elem' arr (base+m)
      if left then lt' x key else return(<-lt' key x).map (!·):StateT SortSt Sem (Option Bool)) | return none
    if more then lo:=m+1 else hi:=m
   return some hi) Q st:=by
  intro lo hi RU WW hP hN;dsimp only;refine ZA (ad3 (ab7 (I:=fun x c av=>av=st/\c.1=none/\c.2.1<=c.2.2/\c.2.2<=n/\c.2.2 - c.2.1<=n - x/\(∀i,i < c.2.1->fO R left (R key) arr (base+i)=true)/\ ∀i,c.2.2<=i->i < n->fO R left (R key) arr (base+i)=false)
   (Q:=fun c av=>av=st/\c.1=none/\c.2.1=c.2.2/\c.2.2<=n/\(∀i,i < c.2.1->fO R left (R key) arr (base+i)=true)/\ ∀i,c.2.2<=i->i < n->fO R left (R key) arr (base+i)=false) ?step ?fin ⟨rfl,rfl,RU,WW,by dsimp only;lia,hP,hN⟩) ?post)
  case post=>
   rintro⟨r,l,u⟩ av ⟨rfl,h1,h2,h3,h4,h5⟩
   dsimp only at h1 h2 h3 h4 h5 ⊢;subst h1;subst h2;exact ZC (h _ h3 h4 h5)
  case fin=>
   rintro⟨r,l,u⟩ av ⟨h0,h1,h2,h3,h4,h5,h6⟩
   dsimp only at h2 h4;exact⟨h0,h1,by dsimp only;lia,h3,h5,h6⟩
  case step=>
   rintro x ⟨r,l,u⟩ av _ Yv ⟨rfl,h1,h2,h3,h4,h5,h6⟩
   dsimp only at h1 h2 h3 h4 h5 h6 ⊢;subst h1;by_cases c:l>=u
   . rw[if_pos c];exact ZC ⟨rfl,rfl,by dsimp only;lia,h3,h5,h6⟩
   . rw[if_neg c];refine ZA (lL L hk hx lq (by lia) ?_);cases e:fO R left (R key) arr (base+(l+(u - l) / 2))
     . exact ZC ⟨rfl,rfl,by dsimp only;lia,by dsimp only;lia,by dsimp only;lia,h5,dn _ e⟩
     . exact ZC ⟨rfl,rfl,by dsimp only;lia,h3,by dsimp only;lia,fun i hi=>up _ (by lia) e i (by dsimp only at hi;lia),h6⟩
 refine ZA (lL L hk hx lq (by lia) ?_);cases right:fO R left (R key) arr (base+hint) with
 | true=>
  dsimp only;rw[if_pos rfl];refine ZA (ad3 (ab7 (I:=fun x c av=>av=st/\c.1=none/\hint+c.2.1 < n/\fO R left (R key) arr (base+(hint+c.2.1))=true/\c.2.1 < c.2.2/\x+1<=c.2.2)
   (Q:=fun c av=>av=st/\c.1=none/\hint+c.2.1 < n/\fO R left (R key) arr (base+(hint+c.2.1))=true/\c.2.1 < c.2.2/\(n - hint<=c.2.2\/hint+c.2.2 < n/\fO R left (R key) arr (base+(hint+c.2.2))=false)) ?step ?fin ⟨rfl,rfl,hh,by dsimp only;rw[ag1];exact right,by decide,by decide⟩) ?post)
  case post=>
   rintro⟨r,l,u⟩ av ⟨rfl,h1,h2,h3,h4,h5⟩
   dsimp only at h1 h2 h3 h4 h5 ⊢;subst h1;have q: ∀i,hint+min u (n - hint)<=i->i < n->fO R left (R key) arr (base+i)=false:=fun i hi hn=>by
    rcases h5 with z | z
    . lia
    . exact dn _ z.2 i (by lia) hn
   exact tail _ _ (by lia) (by lia) (fun i hi=>up _ h2 h3 i (by lia)) q
  case fin=>
   rintro⟨r,l,u⟩ av ⟨h0,h1,h2,h3,h4,h5⟩
   dsimp only at h5;exact⟨h0,h1,h2,h3,h4,.inl (by dsimp only;lia)⟩
  case step=>
   rintro x ⟨r,l,u⟩ av _ _ ⟨rfl,h1,h2,h3,h4,h5⟩
   dsimp only at h1 h2 h3 h4 h5 ⊢;subst h1;by_cases c:u>=n - hint
   . rw[if_pos c];exact ZC ⟨rfl,rfl,h2,h3,h4,.inl c⟩
   . rw[if_neg c];refine ZA (lL L hk hx lq (by lia) ?_);cases e:fO R left (R key) arr (base+(hint+u))
     . exact ZC ⟨rfl,rfl,h2,h3,h4,.inr ⟨by dsimp only;lia,e⟩⟩
     . exact ZC ⟨rfl,rfl,by dsimp only;lia,e,by dsimp only;lia,by dsimp only;lia⟩
 | false=>
  dsimp only;rw[if_neg ZJ];refine ZA (ad3 (ab7 (I:=fun x c av=>av=st/\c.1=none/\c.2.1<=hint/\fO R left (R key) arr (base+(hint - c.2.1))=false/\c.2.1 < c.2.2/\x+1<=c.2.2)
   (Q:=fun c av=>av=st/\c.1=none/\c.2.1<=hint/\fO R left (R key) arr (base+(hint - c.2.1))=false/\c.2.1 < c.2.2/\(hint+1<=c.2.2\/c.2.2<=hint/\fO R left (R key) arr (base+(hint - c.2.2))=true)) ?step ?fin ⟨rfl,rfl,Z7 _,by dsimp only;rw[al8];exact right,by decide,by decide⟩) ?post)
  case post=>
   rintro⟨r,l,u⟩ av ⟨rfl,h1,h2,h3,h4,h5⟩
   dsimp only at h1 h2 h3 h4 h5 ⊢;subst h1;have q: ∀i,i < hint+1 - min u (hint+1)->fO R left (R key) arr (base+i)=true:=fun i hi=>by
    rcases h5 with z | z
    . lia
    . exact up _ (by lia) z.2 i (by lia)
   exact tail _ _ (by lia) (by lia) q fun i hi hn=>dn _ h3 i hi hn
  case fin=>
   rintro⟨r,l,u⟩ av ⟨h0,h1,h2,h3,h4,h5⟩
   dsimp only at h5;exact⟨h0,h1,h2,h3,h4,.inl (by dsimp only;lia)⟩
  case step=>
   rintro x ⟨r,l,u⟩ av _ _ ⟨rfl,h1,h2,h3,h4,h5⟩
   dsimp only at h1 h2 h3 h4 h5 ⊢;subst h1;by_cases c:u>=hint+1
   . rw[if_pos c];exact ZC ⟨rfl,rfl,h2,h3,h4,.inl c⟩
   . rw[if_neg c];refine ZA (lL L hk hx lq (by lia) ?_);cases e:fO R left (R key) arr (base+(hint - u))
     . exact ZC ⟨rfl,rfl,by dsimp only;lia,e,by dsimp only;lia,by dsimp only;lia⟩
     . exact ZC ⟨rfl,rfl,h2,h3,h4,.inr ⟨by dsimp only;lia,e⟩⟩
end
theorem Lo.kL{a b out:Array Keyed}{ia ib:Nat}(h:Lo R a b out ia ib)(sa:dZ R a)(sb:dZ R b)(hi:ib < b.size)(hc:ia < a.size->rk R b ib<=rk R a ia):Lo R a b (out.push b[ib]) ia (ib+1):=by
 rw[wL hi];exact h.gO sa sb (by lia) (fun _ _ z=>by rw[Nat.add_sub_cancel];exact hc z) (by lia)
theorem Lo.gn{a b out:Array Keyed}{ia ib:Nat}(h:Lo R a b out ia ib)(sa:dZ R a)(sb:dZ R b)(hi:ia < a.size)(hc:ib < b.size->rk R a ia<=rk R b ib):Lo R a b (out.push a[ia]) (ia+1) ib:=by
 rw[wL hi];exact h.jo sa sb (by lia) (fun _ _ z=>by rw[Nat.add_sub_cancel];exact hc z) (by lia)
theorem Lo.start(sa:dZ R a)(sb:dZ R b)(b1:0 < b.size)(hc:0 < a.size->rk R b 0<=rk R a 0):Lo R a b #[b[0]] 0 1:=
 Lo.kL (out:= #[]) ⟨by simp,List.Pairwise.nil,fun x hx=>by simp at hx,fun x hx=>by simp at hx⟩ sa sb b1 hc
theorem sk{st:SortSt}(L:oQ prog w A E s κ R D)(hk:kindOf st=κ)(ha:Dk D a)(hb:Dk D b)(sa:dZ R a)(sb:dZ R b)(a1:1<=a.size)(b1:1<=b.size)(c0:rk R b 0<=rk R a 0)(cl:rk R b (b.size - 1)<=rk R a (a.size - 1))(h: ∀m g,Out R a b m->Q m (setG st g)):wpS (model prog w) A E s (m6 a b) Q st:=by
 rw[tF];dsimp only;refine ZA (wpS_lift (af6 ⟨rfl,?_⟩));refine ZA (aF (by lia) ?_);have ho:Lo R a b #[b[0]] 0 1:=Lo.start sa sb b1 fun _=>c0;by_cases c1:(1==b.size)=true
 . refine aq c1 ?_;exact ZC (h _ (gallopOf st) (ho.done sa sb (by lia) (by lia) (.inl (ZO.mp c1))))
 refine au c1 ?_;by_cases c2:(0+1==a.size)=true
 . refine aq c2 ?_;have HU:=ZO.mp c2;exact ZC (h _ (gallopOf st) (ho.last sa sb (by lia) (by lia) fun _=>by rw[show a.size - 1=0 by lia] at cl;exact cl))
 refine au c2 ?_;have c1:1≠b.size:=fun z=>c1 (ZO.mpr z);have c2:0+1≠a.size:=fun z=>c2 (ZO.mpr z);refine ZA (al6 ?_);refine ZA (ad3 (ab7 (I:=fun i c av=>(∃g,av=setG st g)/\c.1=none/\Lo R a b c.2.1 c.2.2.1 c.2.2.2.1/\c.2.2.1+1 < a.size/\c.2.2.2.1 < b.size/\1+i<=c.2.2.1+c.2.2.2.1)
  (Q:=fun c av=>(∃g,av=setG st g)/\ ∃r,c.1=some r/\Out R a b r) ?step ?fin ⟨⟨gallopOf st,rfl⟩,rfl,(by dsimp only;exact ho),by dsimp only;lia,by dsimp only;lia,by dsimp only;lia⟩) ?post)
 case post=>
  rintro⟨r,out,ia,ib,mg⟩ av ⟨⟨g,rfl⟩,r',h1,h2⟩
  dsimp only at h1 ⊢;subst h1;exact ZC (h _ _ h2)
 case fin=>
  rintro⟨r,out,ia,ib,mg⟩ av ⟨_,_,_,h1,h2,h3⟩
  dsimp only at h1 h2 h3;lia
 case step=>
  refine HS ?_;intro i out ia ib mg g _ hi hJ;have ho:Lo R a b out ia ib:=hJ.1;have h1:ia+1 < a.size:=hJ.2.1;have h2:ib < b.size:=hJ.2.2.1;have h3:1+i<=ia+ib:=hJ.2.2.2;clear hJ;dsimp only;refine ZA (ad3 (ab7 (I:=fun j c av=>av=setG st g/\c.1=none/\Lo R a b c.2.1 c.2.2.1 c.2.2.2.1/\c.2.2.1+1 < a.size/\c.2.2.2.1 < b.size/\1+i+min j 1<=c.2.2.1+c.2.2.2.1)
   (Q:=fun c av=>av=setG st g/\((∃r,c.1=some r/\Out R a b r)\/(c.1=none/\Lo R a b c.2.1 c.2.2.1 c.2.2.2.1/\c.2.2.1+1 < a.size/\c.2.2.2.1 < b.size/\1+(i+1)<=c.2.2.1+c.2.2.2.1))) ?istep ?ifin ⟨rfl,rfl,(by dsimp only;exact ho),(by dsimp only;exact h1),(by dsimp only;exact h2),by dsimp only;lia⟩) ?ipost)
  case ifin=>
   rintro⟨r,out,ia,ib,ac,bc⟩ av ⟨e,hr,ho,h1,h2,h3⟩
   dsimp only at hr ho h1 h2 h3;exact⟨e,.inr ⟨hr,ho,h1,h2,by dsimp only;lia⟩⟩
  case istep=>
   clear ho h1 h2 h3;refine HR ?_;intro j out ia ib ac bc _ hj hJ;have ho:Lo R a b out ia ib:=hJ.1;have h1:ia+1 < a.size:=hJ.2.1;have h2:ib < b.size:=hJ.2.2.1;have h3:1+i+min j 1<=ia+ib:=hJ.2.2.2;clear hJ;have vg:ia < a.size:=by lia
   dsimp only;refine ZA (aF h2 (ZA (aF vg (ZA (L _ _ _ _ hk (hb _ h2) (ha _ vg) ?_)))));rw[<-bW (R:=R) h2,<-bW (R:=R) vg];cases bw:decide (rk R b ib < rk R a ia) with
   | true=>
    have bw:=ab4 bw;have ny:=ho.kL sa sb h2 fun _=>ah7 bw;dsimp only;refine aq rfl ?_;refine ZA (aF h2 ?_);by_cases c3:(ib+1==b.size)=true
    . refine aq c3 ?_;exact ZC ⟨rfl,.inl ⟨_,rfl,ny.done sa sb (by lia) (by lia) (.inl (ZO.mp c3))⟩⟩
    refine au c3 ?_;have c3:ib+1≠b.size:=fun z=>c3 (ZO.mpr z);by_cases c4:bc+1>=mg
    . refine aq c4 ?_;exact ZC ⟨rfl,.inr ⟨rfl,by dsimp only;exact ny,by dsimp only;lia,by dsimp only;lia,by dsimp only;lia⟩⟩
    . refine au c4 ?_;exact ZC ⟨rfl,rfl,by dsimp only;exact ny,by dsimp only;lia,by dsimp only;lia,by dsimp only;lia⟩
   | false=>
    have bw:=ac2 bw;have uu:=ho.gn sa sb vg fun _=>am8.mp bw;dsimp only;refine au ZJ ?_;refine ZA (aF vg ?_);by_cases c3:(ia+1+1==a.size)=true
    . refine aq c3 ?_;have Vg:=ZO.mp c3;exact ZC ⟨rfl,.inl ⟨_,rfl,uu.last sa sb (by lia) (by lia) fun _=>by rw[show a.size - 1=ia+1 by lia] at cl;exact cl⟩⟩
    refine au c3 ?_;have c3:ia+1+1≠a.size:=fun z=>c3 (ZO.mpr z);by_cases c4:ac+1>=mg
    . refine aq c4 ?_;exact ZC ⟨rfl,.inr ⟨rfl,by dsimp only;exact uu,by dsimp only;lia,by dsimp only;lia,by dsimp only;lia⟩⟩
    . refine au c4 ?_;exact ZC ⟨rfl,rfl,by dsimp only;exact uu,by dsimp only;lia,by dsimp only;lia,by dsimp only;lia⟩
  case ipost=>
   clear ho h1 h2 h3;refine MH (fun r' out ia ib ac bc ho=>?_) (fun out ia ib ac bc hJ=>?_)
   . exact ZC ⟨⟨g,rfl⟩,_,rfl,ho⟩
   have ho:Lo R a b out ia ib:=hJ.1;have h1:ia+1 < a.size:=hJ.2.1;have h2:ib < b.size:=hJ.2.2.1;have h3:1+(i+1)<=ia+ib:=hJ.2.2.2;clear hJ;dsimp only;refine ZA (wpS_lift (af6 ⟨rfl,?_⟩));refine ZA (ad3 (ab7 (I:=fun j c av=>(∃g,av=setG st g)/\c.1=none/\Lo R a b c.2.1 c.2.2.1 c.2.2.2.1/\c.2.2.1+1 < a.size/\c.2.2.2.1 < b.size/\1+(i+1)<=c.2.2.1+c.2.2.2.1)
    (Q:=fun c av=>(∃g,av=setG st g)/\((∃r,c.1=some r/\Out R a b r)\/(c.1=none/\Lo R a b c.2.1 c.2.2.1 c.2.2.2.1/\c.2.2.1+1 < a.size/\c.2.2.2.1 < b.size/\1+(i+1)<=c.2.2.1+c.2.2.2.1))) ?gstep ?gfin ⟨⟨g,rfl⟩,rfl,(by dsimp only;exact ho),(by dsimp only;exact h1),(by dsimp only;exact h2),(by dsimp only;exact h3)⟩) ?gpost)
   case gfin=>
    rintro⟨r,out,ia,ib,mg,ac,bc⟩ av ⟨e,hr,ho,h1,h2,h3⟩
    exact⟨e,.inr ⟨hr,ho,h1,h2,h3⟩⟩
   case gpost=>
    refine MG (fun r' out ia ib mg ac bc g ho=>?_) (fun out ia ib mg ac bc g hJ=>?_)
    . exact ZC ⟨⟨g,rfl⟩,_,rfl,ho⟩
    . dsimp only;rw[cm];exact ZA (ah9 (ZC ⟨⟨_,rfl⟩,rfl,hJ⟩))
   case gstep=>
    clear ho h1 h2 h3 hi;refine HQ ?_;intro j out ia ib mg ac bc g _ hj hJ;have ho:Lo R a b out ia ib:=hJ.1;have h1:ia+1 < a.size:=hJ.2.1;have h2:ib < b.size:=hJ.2.2.1;have h3:1+(i+1)<=ia+ib:=hJ.2.2.2;clear hJ;dsimp only;refine have key:?P:=?pk;?main
    case main=>
     by_cases c0:mg > 1
     . refine aq c0 ?_;clear c0;generalize mg - 1=m;revert m
       exact key
     . refine au c0 ?_;clear c0;generalize mg=m;revert m
       exact key
    case pk=>
     intro m;rw[cm];refine ZA (ah9 ?_);refine ZA (aF h2 ?_);refine ZA (eP L hk ha (hb _ h2) (by lia) (by lia) (fun p q pq q2=>sa.rk (by lia) (by lia)) fun k WU kt kf=>?_);rw[<-bW (R:=R) h2] at kt kf;dsimp only;have Hq:0 < k->rk R a (ia+k - 1)<=rk R b ib:=fun z=>by have:=vM (kt (k - 1) (by lia));rw[show ia+(k - 1)=ia+k - 1 by lia] at this;exact this
     have JN:ia+k < a.size->rk R b ib<=rk R a (ia+k):=fun z=>ah7 (vN (kf k (Zx _) (by lia)));clear kt kf;by_cases c3:k > 0
     . refine aq c3 ?_;have uu:=ho.jo sa sb (ia':=ia+k) (by lia) (fun _ _ _=>Hq c3) (by lia);generalize out++a.extract ia (ia+k)=Q2 at uu;by_cases c4:(ia+k+1==a.size)=true
       . refine aq c4 ?_;have Vf:=ZO.mp c4;exact ZC ⟨⟨_,rfl⟩,.inl ⟨_,rfl,uu.last sa sb (by lia) (by lia) fun _=>by rw[show a.size - 1=ia+k by lia] at cl;exact cl⟩⟩
       refine au c4 ?_;have Vf:ia+k+1≠a.size:=fun z=>c4 (ZO.mpr z);clear c4;by_cases c9:(ia+k==a.size)=true
       . refine aq c9 ?_;exact ZC ⟨⟨_,rfl⟩,.inl ⟨_,rfl,uu.done sa sb (by lia) (by lia) (.inr (ZO.mp c9))⟩⟩
       refine au c9 ?_;have Zq:ia+k≠a.size:=fun z=>c9 (ZO.mpr z);clear c9;refine ZA (aF h2 ?_);have ny:=uu.kL sa sb h2 JN;by_cases c5:(ib+1==b.size)=true
       . refine aq c5 ?_;exact ZC ⟨⟨_,rfl⟩,.inl ⟨_,rfl,ny.done sa sb (by lia) (by lia) (.inl (ZO.mp c5))⟩⟩
       refine au c5 ?_;have c5:ib+1≠b.size:=fun z=>c5 (ZO.mpr z);have hK:ia+k < a.size:=by lia
       refine ZA (aF hK ?_);refine ZA (eP L hk hb (ha _ hK) (by lia) (by lia) (fun p q pq q2=>sb.rk (by lia) (by lia)) fun k2 Pq kt kf=>?_);rw[<-bW (R:=R) hK] at kt kf;dsimp only;have lt':0 < k2->rk R b (ib+1+k2 - 1)<=rk R a (ia+k):=fun z=>by have:=ah7 (nN (kt (k2 - 1) (by lia)));rw[show ib+1+(k2 - 1)=ib+1+k2 - 1 by lia] at this;exact this
       have zS:ib+1+k2 < b.size->rk R a (ia+k)<=rk R b (ib+1+k2):=fun z=>nO (kf k2 (Zx _) (by lia));clear kt kf;by_cases c6:k2 > 0
       . refine aq c6 ?_;have zd:=ny.gO sa sb (ib':=ib+1+k2) (by lia) (fun _ _ _=>lt' c6) (by lia);by_cases c7:(ib+1+k2==b.size)=true
         . refine aq c7 ?_;exact ZC ⟨⟨_,rfl⟩,.inl ⟨_,rfl,zd.done sa sb (by lia) (by lia) (.inl (ZO.mp c7))⟩⟩
         refine au c7 ?_;have DK:ib+1+k2≠b.size:=fun z=>c7 (ZO.mpr z);clear c7;refine ZA (aF hK ?_);have i7:=zd.gn sa sb hK zS;by_cases c7:(ia+k+1+1==a.size)=true
         . refine aq c7 ?_;have DK:=ZO.mp c7;exact ZC ⟨⟨_,rfl⟩,.inl ⟨_,rfl,i7.last sa sb (by lia) (by lia) fun _=>by rw[show a.size - 1=ia+k+1 by lia] at cl;exact cl⟩⟩
         refine au c7 ?_;have c7:ia+k+1+1≠a.size:=fun z=>c7 (ZO.mpr z);by_cases c8:(decide (k < 7) && decide (k2 < 7))=true
         . refine aq c8 ?_;exact ZC ⟨⟨_,rfl⟩,.inr ⟨rfl,by dsimp only;exact i7,by dsimp only;lia,by dsimp only;lia,by dsimp only;lia⟩⟩
         . refine au c8 ?_;exact ZC ⟨⟨_,rfl⟩,rfl,by dsimp only;exact i7,by dsimp only;lia,by dsimp only;lia,by dsimp only;lia⟩
       . refine au c6 ?_;have JS:k2=0:=by lia
         subst JS;refine ZA (aF hK ?_);have i7:=ny.gn sa sb hK zS;by_cases c7:(ia+k+1+1==a.size)=true
         . refine aq c7 ?_;have DK:=ZO.mp c7;exact ZC ⟨⟨_,rfl⟩,.inl ⟨_,rfl,i7.last sa sb (by lia) (by lia) fun _=>by rw[show a.size - 1=ia+k+1 by lia] at cl;exact cl⟩⟩
         refine au c7 ?_;have c7:ia+k+1+1≠a.size:=fun z=>c7 (ZO.mpr z);by_cases c8:(decide (k < 7) && decide (0 < 7))=true
         . refine aq c8 ?_;exact ZC ⟨⟨_,rfl⟩,.inr ⟨rfl,by dsimp only;exact i7,by dsimp only;lia,by dsimp only;lia,by dsimp only;lia⟩⟩
         . refine au c8 ?_;exact ZC ⟨⟨_,rfl⟩,rfl,by dsimp only;exact i7,by dsimp only;lia,by dsimp only;lia,by dsimp only;lia⟩
     . refine au c3 ?_;have k0:k=0:=by lia
       subst k0;rw[ag1] at JN;refine ZA (aF h2 ?_);have ny:=ho.kL sa sb h2 JN;by_cases c5:(ib+1==b.size)=true
       . refine aq c5 ?_;exact ZC ⟨⟨_,rfl⟩,.inl ⟨_,rfl,ny.done sa sb (by lia) (by lia) (.inl (ZO.mp c5))⟩⟩
       refine au c5 ?_;have c5:ib+1≠b.size:=fun z=>c5 (ZO.mpr z);have hK:ia < a.size:=by lia
       refine ZA (aF hK ?_);refine ZA (eP L hk hb (ha _ hK) (by lia) (by lia) (fun p q pq q2=>sb.rk (by lia) (by lia)) fun k2 Pq kt kf=>?_);rw[<-bW (R:=R) hK] at kt kf;dsimp only;have lt':0 < k2->rk R b (ib+1+k2 - 1)<=rk R a (ia):=fun z=>by have:=ah7 (nN (kt (k2 - 1) (by lia)));rw[show ib+1+(k2 - 1)=ib+1+k2 - 1 by lia] at this;exact this
       have zS:ib+1+k2 < b.size->rk R a (ia)<=rk R b (ib+1+k2):=fun z=>nO (kf k2 (Zx _) (by lia));clear kt kf;by_cases c6:k2 > 0
       . refine aq c6 ?_;have zd:=ny.gO sa sb (ib':=ib+1+k2) (by lia) (fun _ _ _=>lt' c6) (by lia);by_cases c7:(ib+1+k2==b.size)=true
         . refine aq c7 ?_;exact ZC ⟨⟨_,rfl⟩,.inl ⟨_,rfl,zd.done sa sb (by lia) (by lia) (.inl (ZO.mp c7))⟩⟩
         refine au c7 ?_;have DK:ib+1+k2≠b.size:=fun z=>c7 (ZO.mpr z);clear c7;refine ZA (aF hK ?_);have i7:=zd.gn sa sb hK zS;by_cases c7:(ia+1+1==a.size)=true
         . refine aq c7 ?_;have DK:=ZO.mp c7;exact ZC ⟨⟨_,rfl⟩,.inl ⟨_,rfl,i7.last sa sb (by lia) (by lia) fun _=>by rw[show a.size - 1=ia+1 by lia] at cl;exact cl⟩⟩
         refine au c7 ?_;have c7:ia+1+1≠a.size:=fun z=>c7 (ZO.mpr z);by_cases c8:(decide (0 < 7) && decide (k2 < 7))=true
         . refine aq c8 ?_;exact ZC ⟨⟨_,rfl⟩,.inr ⟨rfl,by dsimp only;exact i7,by dsimp only;lia,by dsimp only;lia,by dsimp only;lia⟩⟩
         . refine au c8 ?_;exact ZC ⟨⟨_,rfl⟩,rfl,by dsimp only;exact i7,by dsimp only;lia,by dsimp only;lia,by dsimp only;lia⟩
       . refine au c6 ?_;have JS:k2=0:=by lia
         subst JS;refine ZA (aF hK ?_);have i7:=ny.gn sa sb hK zS;by_cases c7:(ia+1+1==a.size)=true
         . refine aq c7 ?_;have DK:=ZO.mp c7;exact ZC ⟨⟨_,rfl⟩,.inl ⟨_,rfl,i7.last sa sb (by lia) (by lia) fun _=>by rw[show a.size - 1=ia+1 by lia] at cl;exact cl⟩⟩
         refine au c7 ?_;have c7:ia+1+1≠a.size:=fun z=>c7 (ZO.mpr z);by_cases c8:(decide (0 < 7) && decide (0 < 7))=true
         . refine aq c8 ?_;exact ZC ⟨⟨_,rfl⟩,.inr ⟨rfl,by dsimp only;exact i7,by dsimp only;lia,by dsimp only;lia,by dsimp only;lia⟩⟩
         . refine au c8 ?_;exact ZC ⟨⟨_,rfl⟩,rfl,by dsimp only;exact i7,by dsimp only;lia,by dsimp only;lia,by dsimp only;lia⟩
section
variable{R:Keyed->Int}
structure Hi(R:Keyed->Int)(a b out:Array Keyed)(na nb:Nat):Prop where
 pm:((a.toList.take na++b.toList.take nb)++out.reverse.toList).Perm (a.toList++b.toList)
 so:dZ R out.reverse
 la: ∀x∈out.reverse.toList,∀j,j < na->j < a.size->rk R a j<=R x
 lb: ∀x∈out.reverse.toList,∀j,j < nb->j < b.size->rk R b j<=R x
theorem cG{out x:Array Keyed}:(out++x.reverse).reverse=x++out.reverse:=by
 apply ak6.mp;simp
theorem wg{a:Array Keyed}(h:i<=j):a.toList.take j=a.toList.take i++(a.extract i j).toList:=by
 rw[fW];conv=>lhs;rw[show j=i+(j - i) by lia]
 rw[List.take_add]
theorem Hi.jo{a b out:Array Keyed}{na nb:Nat}(h:Hi R a b out na nb)(sa:dZ R a)(sb:dZ R b){na':Nat}(h1:na'<=na)(h2:na<=a.size)(h3:nb<=b.size)(hc:na' < na->0 < nb->rk R b (nb - 1)<=rk R a na'):Hi R a b (out++(a.extract na' na).reverse) na' nb:=by
 refine⟨?_,?_,fun x hx j j1 j2=>?_,fun x hx j j1 j2=>?_⟩
 . rw[cG,aa6];refine List.Perm.trans ?_ h.pm;rw[wg h1];refine List.Perm.trans (List.Perm.of_eq (aa1 _ _ _).symm) (List.Perm.append_right _ ?_);rw[aa1,aa1];exact List.Perm.append_left _ af9
 . rw[cG];exact(sa.ex _ _).app h.so fun x hx y hy=>by
    obtain⟨k,k1,k2,k3,e⟩:=cT (R:=R) hx;rw[e];exact h.la y hy k k2 k3
 . rw[cG,aa6] at hx;rcases aa7.mp hx with z | z
   . obtain⟨k,k1,k2,k3,e⟩:=cT (R:=R) z;rw[e];exact sa.rk (by lia) k3
   . exact h.la x z j (by lia) j2
 . rw[cG,aa6] at hx;rcases aa7.mp hx with z | z
   . obtain⟨k,k1,k2,k3,e⟩:=cT (R:=R) z;rw[e];have q1:=sa.rk k1 k3;have q2:=hc (by lia) (by lia);have q3:=sb.rk (show j<=nb - 1 by lia) (by lia);lia
   . exact h.lb x z j j1 j2
theorem Hi.gO{a b out:Array Keyed}{na nb:Nat}(h:Hi R a b out na nb)(sa:dZ R a)(sb:dZ R b){nb':Nat}(h1:nb'<=nb)(h2:nb<=b.size)(h3:na<=a.size)(hc:nb' < nb->0 < na->rk R a (na - 1)<=rk R b nb'):Hi R a b (out++(b.extract nb' nb).reverse) na nb':=by
 refine⟨?_,?_,fun x hx j j1 j2=>?_,fun x hx j j1 j2=>?_⟩
 . rw[cG,aa6];refine List.Perm.trans ?_ h.pm;rw[wg (a:=b) h1];simp only [aa1];exact List.Perm.refl _
 . rw[cG];exact(sb.ex _ _).app h.so fun x hx y hy=>by
    obtain⟨k,k1,k2,k3,e⟩:=cT (R:=R) hx;rw[e];exact h.lb y hy k k2 k3
 . rw[cG,aa6] at hx;rcases aa7.mp hx with z | z
   . obtain⟨k,k1,k2,k3,e⟩:=cT (R:=R) z;rw[e];have q1:=sb.rk k1 k3;have q2:=hc (by lia) (by lia);have q3:=sa.rk (show j<=na - 1 by lia) (by lia);lia
   . exact h.la x z j j1 j2
 . rw[cG,aa6] at hx;rcases aa7.mp hx with z | z
   . obtain⟨k,k1,k2,k3,e⟩:=cT (R:=R) z;rw[e];exact sb.rk (by lia) k3
   . exact h.lb x z j (by lia) j2
theorem Hi.out{a b out:Array Keyed}(h:Hi R a b out 0 0):Out R a b out.reverse:=by
 refine⟨?_,h.so⟩;have:=h.pm;rw[ak2,ak2,ab2,List.nil_append] at this;exact this
theorem Hi.done{a b out:Array Keyed}{na nb:Nat}(h:Hi R a b out na nb)(sa:dZ R a)(sb:dZ R b)(ha:na<=a.size)(hb:nb<=b.size)(hh:na=0\/nb=0):Out R a b (a.extract 0 na++b.extract 0 nb++out.reverse):=by
 have:=((h.gO sa sb (nb':=0) (Z7 _) hb ha fun z1 z2=>by lia).jo sa sb (na':=0) (Z7 _) ha (Z7 _) fun z1 z2=>by lia).out;rw[cG,cG,<-Array.append_assoc] at this;exact this
theorem Hi.first{a b out:Array Keyed}{na nb:Nat}(h:Hi R a b out na nb)(sa:dZ R a)(sb:dZ R b)(ha:na<=a.size)(hb:nb<=b.size)(hh:nb=1)(hc:rk R b 0<=rk R a 0):Out R a b (b.extract 0 nb++a.extract 0 na++out.reverse):=by
 have:=((h.jo sa sb (na':=0) (Z7 _) ha hb fun z1 z2=>by rw[hh];exact hc).gO sa sb (nb':=0) (Z7 _) hb (Z7 _) fun z1 z2=>by lia).out;rw[cG,cG,<-Array.append_assoc] at this;exact this
theorem wK{a out:Array Keyed}(h:i < a.size):out.push a[i]=out++(a.extract i (i+1)).reverse:=by
 apply ak6.mp;rw[ak0,aa6,Array.toList_reverse,fW,show i+1 - i=1 by lia];congr 1
 have h':i < a.toList.length:=by simpa using h
 rw[ac7 h',List.take_succ_cons,ak2,Array.getElem_toList];rfl
theorem Hi.gn{a b out:Array Keyed}{na nb:Nat}(h:Hi R a b out na nb)(sa:dZ R a)(sb:dZ R b)(h1:1<=na)(h2:na<=a.size)(h3:nb<=b.size)(hc:0 < nb->rk R b (nb - 1)<=rk R a (na - 1)):Hi R a b (out.push (a[na - 1]'(by lia))) (na - 1) nb:=by
 rw[wK (show na - 1 < a.size by lia),show na - 1+1=na by lia];exact h.jo sa sb (by lia) h2 h3 fun _ z=>hc z
theorem Hi.kL{a b out:Array Keyed}{na nb:Nat}(h:Hi R a b out na nb)(sa:dZ R a)(sb:dZ R b)(h1:1<=nb)(h2:nb<=b.size)(h3:na<=a.size)(hc:0 < na->rk R a (na - 1)<=rk R b (nb - 1)):Hi R a b (out.push (b[nb - 1]'(by lia))) na (nb - 1):=by
 rw[wK (show nb - 1 < b.size by lia),show nb - 1+1=nb by lia];exact h.gO sa sb (by lia) h2 h3 fun _ z=>hc z
theorem Hi.start(sa:dZ R a)(sb:dZ R b)(a1:1<=a.size)(hc:0 < b.size->rk R b (b.size - 1)<=rk R a (a.size - 1)):Hi R a b #[a[a.size - 1]'(by lia)] (a.size - 1) b.size:=
 Hi.gn (out:= #[]) (na:=a.size) ⟨by rw[<-ZQ,<-ZQ,ac9,ac9];simp,List.Pairwise.nil,fun x hx=>by simp at hx,fun x hx=>by simp at hx⟩ sa sb a1 (Zx _) (Zx _) hc
end
theorem sr{st:SortSt}(L:oQ prog w A E s κ R D)(hk:kindOf st=κ)(ha:Dk D a)(hb:Dk D b)(sa:dZ R a)(sb:dZ R b)(a1:1<=a.size)(b1:1<=b.size)(c0:rk R b 0<=rk R a 0)(cl:rk R b (b.size - 1)<=rk R a (a.size - 1))(h: ∀m g,Out R a b m->Q m (setG st g)):wpS (model prog w) A E s (m8 a b) Q st:=by
 rw[tG];dsimp only;refine ZA (wpS_lift (af6 ⟨rfl,?_⟩));refine ZA (aF (by lia) ?_);have ho:=Hi.start sa sb a1 fun _=>cl;by_cases c1:(a.size - 1==0)=true
 . refine aq c1 ?_;exact ZC (h _ (gallopOf st) (ho.done sa sb (by lia) (by lia) (.inl (ZO.mp c1))))
 refine au c1 ?_;by_cases c2:(b.size==1)=true
 . refine aq c2 ?_;exact ZC (h _ (gallopOf st) (ho.first sa sb (by lia) (by lia) (ZO.mp c2) c0))
 refine au c2 ?_;have Tg:a.size - 1≠0:=fun z=>c1 (ZO.mpr z);have HU:b.size≠1:=fun z=>c2 (ZO.mpr z);clear c1 c2;refine ZA (al6 ?_);refine ZA (ad3 (ab7 (I:=fun i c av=>(∃g,av=setG st g)/\c.1=none/\Hi R a b c.2.2.2.1 c.2.1 c.2.2.1/\1<=c.2.1/\c.2.1<=a.size/\2<=c.2.2.1/\c.2.2.1<=b.size/\1+i<=(a.size - c.2.1)+(b.size - c.2.2.1))
  (Q:=fun c av=>(∃g,av=setG st g)/\ ∃r,c.1=some r/\Out R a b r) ?step ?fin ⟨⟨gallopOf st,rfl⟩,rfl,(by dsimp only;exact ho),by dsimp only;lia,by dsimp only;lia,by dsimp only;lia,by dsimp only;lia,by dsimp only;lia⟩) ?post)
 case post=>
  rintro⟨r,na,nb,out,mg⟩ av ⟨⟨g,rfl⟩,r',h1,h2⟩
  dsimp only at h1 ⊢;subst h1;exact ZC (h _ _ h2)
 case fin=>
  rintro⟨r,na,nb,out,mg⟩ av ⟨_,_,ho,h1,h2,h3,h4,h5⟩
  dsimp only at h1 h2 h3 h4 h5;lia
 case step=>
  refine HS ?_;intro i na nb out mg g _ hi hJ;have ho:Hi R a b out na nb:=hJ.1;have h1:1<=na:=hJ.2.1;have h2:na<=a.size:=hJ.2.2.1;have h3:2<=nb:=hJ.2.2.2.1;have h4:nb<=b.size:=hJ.2.2.2.2.1;have h5:1+i<=(a.size - na)+(b.size - nb):=hJ.2.2.2.2.2;clear hJ;dsimp only;refine ZA (ad3 (ab7 (I:=fun j c av=>av=setG st g/\c.1=none/\Hi R a b c.2.2.2.1 c.2.1 c.2.2.1/\1<=c.2.1/\c.2.1<=a.size/\2<=c.2.2.1/\c.2.2.1<=b.size/\1+i+min j 1<=(a.size - c.2.1)+(b.size - c.2.2.1))
   (Q:=fun c av=>av=setG st g/\((∃r,c.1=some r/\Out R a b r)\/(c.1=none/\Hi R a b c.2.2.2.1 c.2.1 c.2.2.1/\1<=c.2.1/\c.2.1<=a.size/\2<=c.2.2.1/\c.2.2.1<=b.size/\1+(i+1)<=(a.size - c.2.1)+(b.size - c.2.2.1)))) ?istep ?ifin ⟨rfl,rfl,(by dsimp only;exact ho),(by dsimp only;exact h1),(by dsimp only;exact h2),(by dsimp only;exact h3),(by dsimp only;exact h4),by dsimp only;lia⟩) ?ipost)
  case ifin=>
   rintro⟨r,na,nb,out,ac,bc⟩ av ⟨e,hr,ho,h1,h2,h3,h4,h5⟩
   dsimp only at hr ho h1 h2 h3 h4 h5;exact⟨e,.inr ⟨hr,ho,h1,h2,h3,h4,by dsimp only;lia⟩⟩
  case istep=>
   clear ho h1 h2 h3 h4 h5;refine HR ?_;intro j na nb out ac bc _ hj hJ;have ho:Hi R a b out na nb:=hJ.1;have h1:1<=na:=hJ.2.1;have h2:na<=a.size:=hJ.2.2.1;have h3:2<=nb:=hJ.2.2.2.1;have h4:nb<=b.size:=hJ.2.2.2.2.1;have h5:1+i+min j 1<=(a.size - na)+(b.size - nb):=hJ.2.2.2.2.2;clear hJ;have vg:na - 1 < a.size:=by lia
   have xu:nb - 1 < b.size:=by lia
   dsimp only;refine ZA (aF xu (ZA (aF vg (ZA (L _ _ _ _ hk (hb _ xu) (ha _ vg) ?_)))));rw[<-bW (R:=R) xu,<-bW (R:=R) vg];cases aw:decide (rk R b (nb - 1) < rk R a (na - 1)) with
   | true=>
    have aw:=ab4 aw;have uu:=ho.gn sa sb h1 h2 h4 fun _=>ah7 aw;dsimp only;refine aq rfl ?_;refine ZA (aF vg ?_);by_cases c3:(na - 1==0)=true
    . refine aq c3 ?_;exact ZC ⟨rfl,.inl ⟨_,rfl,uu.done sa sb (by lia) (by lia) (.inl (ZO.mp c3))⟩⟩
    refine au c3 ?_;have Vg:na - 1≠0:=fun z=>c3 (ZO.mpr z);clear c3;by_cases c4:ac+1>=mg
    . refine aq c4 ?_;exact ZC ⟨rfl,.inr ⟨rfl,by dsimp only;exact uu,by dsimp only;lia,by dsimp only;lia,by dsimp only;lia,by dsimp only;lia,by dsimp only;lia⟩⟩
    . refine au c4 ?_;exact ZC ⟨rfl,rfl,by dsimp only;exact uu,by dsimp only;lia,by dsimp only;lia,by dsimp only;lia,by dsimp only;lia,by dsimp only;lia⟩
   | false=>
    have aw:=ac2 aw;have ny:=ho.kL sa sb (by lia) h4 h2 fun _=>am8.mp aw;dsimp only;refine au ZJ ?_;refine ZA (aF xu ?_);by_cases c3:(nb - 1==1)=true
    . refine aq c3 ?_;exact ZC ⟨rfl,.inl ⟨_,rfl,ny.first sa sb (by lia) (by lia) (ZO.mp c3) c0⟩⟩
    refine au c3 ?_;have Vg:nb - 1≠1:=fun z=>c3 (ZO.mpr z);clear c3;by_cases c4:bc+1>=mg
    . refine aq c4 ?_;exact ZC ⟨rfl,.inr ⟨rfl,by dsimp only;exact ny,by dsimp only;lia,by dsimp only;lia,by dsimp only;lia,by dsimp only;lia,by dsimp only;lia⟩⟩
    . refine au c4 ?_;exact ZC ⟨rfl,rfl,by dsimp only;exact ny,by dsimp only;lia,by dsimp only;lia,by dsimp only;lia,by dsimp only;lia,by dsimp only;lia⟩
  case ipost=>
   clear ho h1 h2 h3 h4 h5;refine MH (fun r' na nb out ac bc ho=>?_) (fun na nb out ac bc hJ=>?_)
   . exact ZC ⟨⟨g,rfl⟩,_,rfl,ho⟩
   have ho:Hi R a b out na nb:=hJ.1;have h1:1<=na:=hJ.2.1;have h2:na<=a.size:=hJ.2.2.1;have h3:2<=nb:=hJ.2.2.2.1;have h4:nb<=b.size:=hJ.2.2.2.2.1;have h5:1+(i+1)<=(a.size - na)+(b.size - nb):=hJ.2.2.2.2.2;clear hJ;dsimp only;refine ZA (wpS_lift (af6 ⟨rfl,?_⟩));refine ZA (ad3 (ab7 (I:=fun j c av=>(∃g,av=setG st g)/\c.1=none/\Hi R a b c.2.2.2.1 c.2.1 c.2.2.1/\1<=c.2.1/\c.2.1<=a.size/\2<=c.2.2.1/\c.2.2.1<=b.size/\1+(i+1)<=(a.size - c.2.1)+(b.size - c.2.2.1))
    (Q:=fun c av=>(∃g,av=setG st g)/\((∃r,c.1=some r/\Out R a b r)\/(c.1=none/\Hi R a b c.2.2.2.1 c.2.1 c.2.2.1/\1<=c.2.1/\c.2.1<=a.size/\2<=c.2.2.1/\c.2.2.1<=b.size/\1+(i+1)<=(a.size - c.2.1)+(b.size - c.2.2.1)))) ?gstep ?gfin ⟨⟨g,rfl⟩,rfl,(by dsimp only;exact ho),(by dsimp only;exact h1),(by dsimp only;exact h2),(by dsimp only;exact h3),(by dsimp only;exact h4),(by dsimp only;exact h5)⟩) ?gpost)
   case gfin=>
    rintro⟨r,na,nb,out,mg,ac,bc⟩ av ⟨e,hr,ho,h1,h2,h3,h4,h5⟩
    exact⟨e,.inr ⟨hr,ho,h1,h2,h3,h4,h5⟩⟩
   case gpost=>
    refine MG (fun r' na nb out mg ac bc g ho=>?_) (fun na nb out mg ac bc g hJ=>?_)
    . exact ZC ⟨⟨g,rfl⟩,_,rfl,ho⟩
    . dsimp only;rw[cm];exact ZA (ah9 (ZC ⟨⟨_,rfl⟩,rfl,hJ⟩))
   case gstep=>
    clear ho h1 h2 h3 h4 h5 hi;refine HQ ?_;intro j na nb out mg ac bc g _ hj hJ;have ho:Hi R a b out na nb:=hJ.1;have h1:1<=na:=hJ.2.1;have h2:na<=a.size:=hJ.2.2.1;have h3:2<=nb:=hJ.2.2.2.1;have h4:nb<=b.size:=hJ.2.2.2.2.1;have h5:1+(i+1)<=(a.size - na)+(b.size - nb):=hJ.2.2.2.2.2;clear hJ;dsimp only;refine have key:?P:=?pk;?main
    case main=>
     by_cases c0:mg > 1
     . refine aq c0 ?_;clear c0;generalize mg - 1=m;revert m
       exact key
     . refine au c0 ?_;clear c0;generalize mg=m;revert m
       exact key
    case pk=>
     intro m;have xu:nb - 1 < b.size:=by lia
     rw[cm];refine ZA (ah9 ?_);refine ZA (aF xu ?_);refine ZA (eP L hk ha (hb _ xu) (by lia) (by lia) (fun p q pq q2=>sa.rk (by lia) (by lia)) fun k WU kt kf=>?_);rw[<-bW (R:=R) xu] at kt kf;simp only [am4] at kt kf;dsimp only;have Hq:0 < k->rk R a (k - 1)<=rk R b (nb - 1):=fun z=>vM (kt (k - 1) (by lia));have JN:k < na->rk R b (nb - 1)<=rk R a k:=fun z=>ah7 (vN (kf k (Zx _) (by lia)));clear kt kf;by_cases c3:na - k > 0
     . refine aq c3 ?_;have uu:=ho.jo sa sb (na':=k) (by lia) h2 h4 (fun z _=>JN z);generalize out++(a.extract k na).reverse=Q2 at uu;by_cases c4:(k==0)=true
       . refine aq c4 ?_;exact ZC ⟨⟨_,rfl⟩,.inl ⟨_,rfl,uu.done sa sb (by lia) (by lia) (.inl (ZO.mp c4))⟩⟩
       refine au c4 ?_;have Vf:k≠0:=fun z=>c4 (ZO.mpr z);clear c4;refine ZA (aF xu ?_);have ny:=uu.kL sa sb (by lia) h4 (by lia) Hq;by_cases c5:(nb - 1==1)=true
       . refine aq c5 ?_;exact ZC ⟨⟨_,rfl⟩,.inl ⟨_,rfl,ny.first sa sb (by lia) (by lia) (ZO.mp c5) c0⟩⟩
       refine au c5 ?_;have LN:nb - 1≠1:=fun z=>c5 (ZO.mpr z);clear c5;have hK:k - 1 < a.size:=by lia
       refine ZA (aF hK ?_);refine ZA (eP L hk hb (ha _ hK) (by lia) (by lia) (fun p q pq q2=>sb.rk (by lia) (by lia)) fun k2 Pq lt lf=>?_);rw[<-bW (R:=R) hK] at lt lf;simp only [am4] at lt lf;dsimp only;have lt':0 < k2->rk R b (k2 - 1)<=rk R a (k - 1):=fun z=>ah7 (nN (lt (k2 - 1) (by lia)));have zS:k2 < nb - 1->rk R a (k - 1)<=rk R b k2:=fun z=>nO (lf k2 (Zx _) (by lia));clear lt lf;by_cases c6:nb - 1 - k2 > 0
       . refine aq c6 ?_;have zd:=ny.gO sa sb (nb':=k2) (by lia) (by lia) (by lia) (fun z _=>zS z);by_cases c7:(k2==1)=true
         . refine aq c7 ?_;exact ZC ⟨⟨_,rfl⟩,.inl ⟨_,rfl,zd.first sa sb (by lia) (by lia) (ZO.mp c7) c0⟩⟩
         refine au c7 ?_;have DK:k2≠1:=fun z=>c7 (ZO.mpr z);clear c7;by_cases c8:(k2==0)=true
         . refine aq c8 ?_;exact ZC ⟨⟨_,rfl⟩,.inl ⟨_,rfl,zd.done sa sb (by lia) (by lia) (.inr (ZO.mp c8))⟩⟩
         refine au c8 ?_;have XD:k2≠0:=fun z=>c8 (ZO.mpr z);clear c8;refine ZA (aF hK ?_);have i7:=zd.gn sa sb (by lia) (by lia) (by lia) lt';by_cases c7:(k - 1==0)=true
         . refine aq c7 ?_;exact ZC ⟨⟨_,rfl⟩,.inl ⟨_,rfl,i7.done sa sb (by lia) (by lia) (.inl (ZO.mp c7))⟩⟩
         refine au c7 ?_;have DK:k - 1≠0:=fun z=>c7 (ZO.mpr z);clear c7;by_cases c8:(decide (na - k < 7) && decide (nb - 1 - k2 < 7))=true
         . refine aq c8 ?_;exact ZC ⟨⟨_,rfl⟩,.inr ⟨rfl,by dsimp only;exact i7,by dsimp only;lia,by dsimp only;lia,by dsimp only;lia,by dsimp only;lia,by dsimp only;lia⟩⟩
         . refine au c8 ?_;exact ZC ⟨⟨_,rfl⟩,rfl,by dsimp only;exact i7,by dsimp only;lia,by dsimp only;lia,by dsimp only;lia,by dsimp only;lia,by dsimp only;lia⟩
       . refine au c6 ?_;have JS:k2=nb - 1:=by lia
         refine ZA (aF hK ?_);have i7:=ny.gn sa sb (by lia) (by lia) (by lia) (fun z=>by rw[<-JS] at z ⊢;exact lt' z);by_cases c7:(k - 1==0)=true
         . refine aq c7 ?_;exact ZC ⟨⟨_,rfl⟩,.inl ⟨_,rfl,i7.done sa sb (by lia) (by lia) (.inl (ZO.mp c7))⟩⟩
         refine au c7 ?_;have DK:k - 1≠0:=fun z=>c7 (ZO.mpr z);clear c7;by_cases c8:(decide (na - k < 7) && decide (nb - 1 - k2 < 7))=true
         . refine aq c8 ?_;exact ZC ⟨⟨_,rfl⟩,.inr ⟨rfl,by dsimp only;exact i7,by dsimp only;lia,by dsimp only;lia,by dsimp only;lia,by dsimp only;lia,by dsimp only;lia⟩⟩
         . refine au c8 ?_;exact ZC ⟨⟨_,rfl⟩,rfl,by dsimp only;exact i7,by dsimp only;lia,by dsimp only;lia,by dsimp only;lia,by dsimp only;lia,by dsimp only;lia⟩
     . refine au c3 ?_;have k0:k=na:=by lia
       rw[k0] at Hq;refine ZA (aF xu ?_);have ny:=ho.kL sa sb (by lia) h4 (by lia) Hq;by_cases c5:(nb - 1==1)=true
       . refine aq c5 ?_;exact ZC ⟨⟨_,rfl⟩,.inl ⟨_,rfl,ny.first sa sb (by lia) (by lia) (ZO.mp c5) c0⟩⟩
       refine au c5 ?_;have LN:nb - 1≠1:=fun z=>c5 (ZO.mpr z);clear c5;have hK:na - 1 < a.size:=by lia
       refine ZA (aF hK ?_);refine ZA (eP L hk hb (ha _ hK) (by lia) (by lia) (fun p q pq q2=>sb.rk (by lia) (by lia)) fun k2 Pq lt lf=>?_);rw[<-bW (R:=R) hK] at lt lf;simp only [am4] at lt lf;dsimp only;have lt':0 < k2->rk R b (k2 - 1)<=rk R a (na - 1):=fun z=>ah7 (nN (lt (k2 - 1) (by lia)));have zS:k2 < nb - 1->rk R a (na - 1)<=rk R b k2:=fun z=>nO (lf k2 (Zx _) (by lia));clear lt lf;by_cases c6:nb - 1 - k2 > 0
       . refine aq c6 ?_;have zd:=ny.gO sa sb (nb':=k2) (by lia) (by lia) (by lia) (fun z _=>zS z);by_cases c7:(k2==1)=true
         . refine aq c7 ?_;exact ZC ⟨⟨_,rfl⟩,.inl ⟨_,rfl,zd.first sa sb (by lia) (by lia) (ZO.mp c7) c0⟩⟩
         refine au c7 ?_;have DK:k2≠1:=fun z=>c7 (ZO.mpr z);clear c7;by_cases c8:(k2==0)=true
         . refine aq c8 ?_;exact ZC ⟨⟨_,rfl⟩,.inl ⟨_,rfl,zd.done sa sb (by lia) (by lia) (.inr (ZO.mp c8))⟩⟩
         refine au c8 ?_;have XD:k2≠0:=fun z=>c8 (ZO.mpr z);clear c8;refine ZA (aF hK ?_);have i7:=zd.gn sa sb (by lia) (by lia) (by lia) lt';by_cases c7:(na - 1==0)=true
         . refine aq c7 ?_;exact ZC ⟨⟨_,rfl⟩,.inl ⟨_,rfl,i7.done sa sb (by lia) (by lia) (.inl (ZO.mp c7))⟩⟩
         refine au c7 ?_;have DK:na - 1≠0:=fun z=>c7 (ZO.mpr z);clear c7;by_cases c8:(decide (na - k < 7) && decide (nb - 1 - k2 < 7))=true
         . refine aq c8 ?_;exact ZC ⟨⟨_,rfl⟩,.inr ⟨rfl,by dsimp only;exact i7,by dsimp only;lia,by dsimp only;lia,by dsimp only;lia,by dsimp only;lia,by dsimp only;lia⟩⟩
         . refine au c8 ?_;exact ZC ⟨⟨_,rfl⟩,rfl,by dsimp only;exact i7,by dsimp only;lia,by dsimp only;lia,by dsimp only;lia,by dsimp only;lia,by dsimp only;lia⟩
       . refine au c6 ?_;have JS:k2=nb - 1:=by lia
         refine ZA (aF hK ?_);have i7:=ny.gn sa sb (by lia) (by lia) (by lia) (fun z=>by rw[<-JS] at z ⊢;exact lt' z);by_cases c7:(na - 1==0)=true
         . refine aq c7 ?_;exact ZC ⟨⟨_,rfl⟩,.inl ⟨_,rfl,i7.done sa sb (by lia) (by lia) (.inl (ZO.mp c7))⟩⟩
         refine au c7 ?_;have DK:na - 1≠0:=fun z=>c7 (ZO.mpr z);clear c7;by_cases c8:(decide (na - k < 7) && decide (nb - 1 - k2 < 7))=true
         . refine aq c8 ?_;exact ZC ⟨⟨_,rfl⟩,.inr ⟨rfl,by dsimp only;exact i7,by dsimp only;lia,by dsimp only;lia,by dsimp only;lia,by dsimp only;lia,by dsimp only;lia⟩⟩
         . refine au c8 ?_;exact ZC ⟨⟨_,rfl⟩,rfl,by dsimp only;exact i7,by dsimp only;lia,by dsimp only;lia,by dsimp only;lia,by dsimp only;lia,by dsimp only;lia⟩
section
variable{R:Keyed->Int}
theorem kK(h:a[i]?=b[j]?):rk R a i=rk R b j:=by unfold rk;rw[h]
theorem mS{a:Array Keyed}(hj:j<=a.size)(k:Nat):rk R (mirror a i j ((j - i) / 2)) k=if i<=k/\k < j then rk R a (i+j - 1 - k) else rk R a k:=by
 have e:=getElem?_mirror_all (i:=i) (j:=j) (xs:=a) hj k;by_cases c:i<=k/\k < j
 . rw[if_pos c] at e ⊢;exact kK e
 . rw[if_neg c] at e ⊢;exact kK e
theorem Jc{a:Array Keyed}(ha:i < a.size)(hd:d<=i)(k:Nat):rk R (bubble a i d) k=if k=i - d then rk R a i else if i - d < k/\k<=i then rk R a (k - 1) else rk R a k:=by
 have e:=getElem?_bubble (xs:=a) (src:=i) ha d hd k;by_cases c:k=i - d
 . rw[if_pos c] at e ⊢;exact kK e
 . rw[if_neg c] at e ⊢;by_cases c2:i - d < k/\k<=i
   . rw[if_pos c2] at e ⊢;exact kK e
   . rw[if_neg c2] at e ⊢;exact kK e
def bo(R:Keyed->Int)(a:Array Keyed)(i j:Nat):Prop:= ∀x y,i<=x->x<=y->y < j->rk R a x<=rk R a y
theorem bo.more{lo n:Nat}(h:bo R a lo (lo+n))(n1:1<=n)(hl:rk R a (lo+n - 1)<=rk R a (lo+n)):bo R a lo (lo+(n+1)):=fun x y h1 h2 h3=>by
 by_cases c:y < lo+n
 . exact h x y h1 h2 c
 . have:y=lo+n:=by lia
   subst this;by_cases d:x=lo+n
   . rw[d];exact ae6 _
   . exact Int.le_trans (h x (lo+n - 1) h1 (by lia) (by lia)) hl
theorem bo.one{lo:Nat}:bo R a lo (lo+1):=fun x y h1 h2 h3=>by rw[show x=y by lia];exact ae6 _
structure Dx(R:Keyed->Int)(a:Array Keyed)(lo n q:Nat):Prop where
 ds: ∀i j,lo<=i->i<=j->j < lo+n->rk R a j<=rk R a i
 q1:q+1<=n
 eq: ∀i,lo+n - (q+1)<=i->i < lo+n->rk R a i=rk R a (lo+n - 1)
theorem Dx.turn{lo n q:Nat}(h:Dx R a lo n q)(hn:lo+n<=a.size):rk R (mirror a (lo+n - (q+1)) (lo+n) ((lo+n - (lo+n - (q+1))) / 2)) i=rk R a i:=by
 rw[mS hn];have:=h.q1;split
 . rename_i c;rw[h.eq _ (by lia) (by lia),h.eq i c.1 c.2]
 . rfl
theorem Dx.turned{lo n q:Nat}(h:Dx R a lo n q)(hn:lo+n<=a.size):Dx R (mirror a (lo+n - (q+1)) (lo+n) ((lo+n - (lo+n - (q+1))) / 2)) lo n q:=
 ⟨fun i j x y z=>by rw[h.turn hn,h.turn hn];exact h.ds i j x y z,h.q1,fun i x y=>by rw[h.turn hn,h.turn hn];exact h.eq i x y⟩
theorem Dx.more{lo n q:Nat}(h:Dx R a lo n q)(hl:rk R a (lo+n) < rk R a (lo+n - 1)):Dx R a lo (n+1) 0:=by
 have:=h.q1;refine⟨fun i j x y z=>?_,by lia,fun i x y=>by rw[show i=lo+(n+1) - 1 by lia]⟩;by_cases hj:j < lo+n
 . exact h.ds i j x y hj
 . have:j=lo+n:=by lia
   subst this;by_cases hi:i=lo+n
   . subst hi;exact ae6 _
   . exact Int.le_trans (ah7 hl) (h.ds i (lo+n - 1) x (by lia) (by lia))
theorem Dx.alike{lo n q:Nat}(h:Dx R a lo n q)(hl:rk R a (lo+n)=rk R a (lo+n - 1)):Dx R a lo (n+1) (q+1):=by
 have q1:=h.q1;refine⟨fun i j x y z=>?_,by lia,fun i x y=>?_⟩
 . by_cases hj:j < lo+n
   . exact h.ds i j x y hj
   . have:j=lo+n:=by lia
     subst this;by_cases hi:i=lo+n
     . subst hi;exact ae6 _
     . rw[hl];exact h.ds i (lo+n - 1) x (by lia) (by lia)
 . rw[show lo+(n+1) - 1=lo+n by lia];by_cases hi:i=lo+n
   . rw[hi]
   . rw[hl];exact h.eq i (by lia) (by lia)
theorem Dx.up{lo n q:Nat}(h:Dx R a lo n q)(hn:lo+n<=a.size):bo R (mirror a lo (lo+n) ((lo+n - lo) / 2)) lo (lo+n):=fun x y h1 h2 h3=>by
 rw[mS hn,mS hn,if_pos ⟨by lia,by lia⟩,if_pos ⟨by lia,by lia⟩];exact h.ds _ _ (by lia) (by lia) (by lia)
end
structure Wx(κ:SortKind)(a₀ ar:Array Keyed)(lo:Nat)(p:Array (Nat × Nat × Nat))(st:SortSt):Prop where
 pm:(arrOf st).Perm a₀
 kind:kindOf st=κ
 failed:failedOf st=none
 pend:pendingOf st=p
 keep: ∀i,i < lo->(arrOf st)[i]?=ar[i]?
section
variable{prog:Program}{w:World}{A:Around}{E:Value->Shared->Prop}{s:Shared}{κ:SortKind}{R:Keyed->Int}{D:Keyed->Prop}{a₀ ar:Array Keyed}{p:Array (Nat × Nat × Nat)}{lo:Nat}
theorem Wx.size{st:SortSt}(h:Wx κ a₀ ar lo p st):(arrOf st).size=a₀.size:=h.pm.size_eq
theorem Wx.dk{st:SortSt}(h:Wx κ a₀ ar lo p st)(hD: ∀x∈a₀.toList,D x):Dk D (arrOf st):=fun i hi=>hD _ ((ad5.mp h.pm).mem_iff.mp (u6 hi))
theorem Wx.lt{st:SortSt}(h:Wx κ a₀ ar lo p st)(L:oQ prog w A E s κ R D)(hD: ∀x∈a₀.toList,D x){i j:Nat}(hi:i < a₀.size)(hj:j < a₀.size)(q:Q (some (decide (rk R (arrOf st) i < rk R (arrOf st) j))) st):wpS (model prog w) A E s (ltAt' i j) Q st:=by
 have og:i < (arrOf st).size:=by rw[h.size];exact hi
 have J8:j < (arrOf st).size:=by rw[h.size];exact hj
 rw[ltAt'_eq];refine ZA (al6 ?_);rw[bW og,bW J8] at q;exact ZA (aF og (ZA (aF J8 (L _ _ _ _ h.kind (h.dk hD _ og) (h.dk hD _ J8) q))))
theorem Wx.rev{st:SortSt}(h:Wx κ a₀ ar lo p st){i j:Nat}(hi:lo<=i)(hj:j<=a₀.size)(q: ∀av,Wx κ a₀ ar lo p av->arrOf av=mirror (arrOf st) i j ((j - i) / 2)->Q () av):wpS (model prog w) A E s (reverseSlice' i j) Q st:=by
 rw[reverseSlice'_eq];refine ah9 (q _ ⟨(mirror_perm _ _ _ _).trans h.pm,h.kind,h.failed,h.pend,fun k hk=>?_⟩ rfl);show(mirror (arrOf st) i j ((j - i) / 2))[k]?=_;rw[getElem?_mirror_all (by rw[h.size];exact hj),if_neg (by lia)];exact h.keep k hk
theorem Wx.We{st:SortSt}(h:Wx κ a₀ ar lo p st){i j:Nat}(hj:lo<=j)(cj:j<=i)(hi:i < a₀.size)(q: ∀av,Wx κ a₀ ar lo p av->arrOf av=bubble (arrOf st) i (i - j)->Q () av):wpS (model prog w) A E s (moveDown' i j) Q st:=by
 rw[moveDown'_eq];refine ah9 (q _ ⟨(bubble_perm _ _ _).trans h.pm,h.kind,h.failed,h.pend,fun k hk=>?_⟩ rfl);show(bubble (arrOf st) i (i - j))[k]?=_;rw[getElem?_bubble (by rw[h.size];exact hi) _ (by lia),if_neg (by lia),if_neg (by lia)];exact h.keep k hk
theorem An(L:oQ prog w A E s κ R D)(hD: ∀x∈a₀.toList,D x){st:SortSt}{eA:Nat}(hn:lo+eA<=a₀.size)(h1:1<=eA)(hW:Wx κ a₀ ar lo p st)(h: ∀m av,Wx κ a₀ ar lo p av->1<=m->m<=eA->bo R (arrOf av) lo (lo+m)->Q (some m) av):wpS (model prog w) A E s (countRun' lo eA) Q st:=by
 rw[countRun'_eq];dsimp only;refine ZA (ad3 (ab7 (I:=fun i c av=>av=st/\c.1=none/\c.2=i/\bo R (arrOf st) lo (lo+i)) (Q:=fun c av=>av=st/\c.1=none/\1<=c.2/\c.2<=eA/\bo R (arrOf st) lo (lo+c.2)/\(c.2 < eA->rk R (arrOf st) (lo+c.2) < rk R (arrOf st) (lo+c.2 - 1))) ?_ ?_ ⟨rfl,rfl,rfl,bo.one⟩) ?_)
 . rintro x ⟨r,n⟩ av Ly Lx ⟨rfl,e1,e2,e3⟩
   dsimp only at e1 e2 e3 ⊢;subst e1;subst e2;refine ZA (hW.lt L hD (by lia) (by lia) ?_);cases bw:decide (rk R (arrOf av) (lo+n) < rk R (arrOf av) (lo+n - 1)) with
   | true=>exact ZC ⟨rfl,rfl,by dsimp only;lia,by dsimp only;lia,by dsimp only;exact e3,fun _=>by dsimp only;exact ab4 bw⟩
   | false=>exact ZC ⟨rfl,rfl,rfl,e3.more (by lia) (am8.mp (ac2 bw))⟩
 . rintro⟨r,n⟩ av ⟨f0,f1,f2,f3⟩
   dsimp only at f1 f2 f3;rw[<-f2] at f3;have f2:n=eA:=by lia
   subst f2;exact⟨f0,f1,by dsimp only;lia,Zx _,f3,fun z=>absurd z (ab5 _)⟩
 . rintro⟨r,n⟩ av ⟨rfl,e1,e2,e3,sg,M8⟩
   dsimp only at e1 e2 e3 sg M8 ⊢;subst e1;dsimp only;by_cases c1:(n==eA)=true
   . rw[if_pos c1];exact ZC (h _ _ hW e2 e3 sg)
   rw[if_neg c1];have Tg:n≠eA:=fun z=>c1 (ZO.mpr z);clear c1;have M8:=M8 (by lia);have sz:=hW.size;by_cases c2:n > 1
   . rw[if_pos c2];refine ZA (hW.lt L hD (by lia) (by lia) ?_);cases bw:decide (rk R (arrOf av) lo < rk R (arrOf av) (lo+n - 1)) with
     | true=>exact ZC (h _ _ hW e2 e3 sg)
     | false=>
      have bw:=ac2 bw;dsimp only;rw[if_neg ZJ];refine ZA (hW.rev (by lia) (by lia) fun sO w1 ea=>?_);refine ZA (wpS_lift (af6 ⟨rfl,?_⟩));have al: ∀i,lo<=i->i < lo+n->rk R (arrOf av) i=rk R (arrOf av) (lo+n - 1):=fun i i1 i2=>by
       have:=sg lo i (by lia) i1 i2;have:=sg i (lo+n - 1) i1 (by lia) (by lia);lia
      have OG: ∀i,lo<=i->i < lo+n->rk R (arrOf sO) i=rk R (arrOf av) (lo+n - 1):=fun i i1 i2=>by
       rw[ea,mS (by lia),if_pos ⟨i1,i2⟩];exact al _ (by lia) (by lia)
      have XI:rk R (arrOf sO) (lo+n)=rk R (arrOf av) (lo+n):=by rw[ea,mS (by lia),if_neg (by lia)]
      have SF:Dx R (arrOf sO) lo (n+1) 0:=Dx.more (q:=n - 1) ⟨fun i j x y z=>by rw[OG i x (by lia),OG j (by lia) z];exact ae6 _,by lia,fun i x y=>by rw[OG i (by lia) y,OG (lo+n - 1) (by lia) (by lia)]⟩ (by rw[XI,OG (lo+n - 1) (by lia) (by lia)];exact M8);refine ZA (ad3 (ab7 (I:=fun i c av=>Wx κ a₀ ar lo p av/\c.1=none/\c.2.1=i/\Dx R (arrOf av) lo c.2.1 c.2.2) (Q:=fun c av=>Wx κ a₀ ar lo p av/\c.1=none/\c.2.1<=eA/\Dx R (arrOf av) lo c.2.1 c.2.2) ?_ ?_ ⟨w1,rfl,rfl,(by dsimp only;exact SF)⟩) ?_)
      . rintro x ⟨r,m,q⟩ av Ly Lx ⟨w',e1,e2,dx⟩
        dsimp only at e1 e2 dx ⊢;subst e1;subst e2;have q1:=dx.q1;have sz:=w'.size;refine ZA (w'.lt L hD (by lia) (by lia) ?_);cases bw:decide (rk R (arrOf av) (lo+m) < rk R (arrOf av) (lo+m - 1)) with
        | true=>
         have bw:=ab4 bw;dsimp only;rw[if_pos rfl];by_cases c:q > 0
         . rw[if_pos c];exact ZA (w'.rev (by lia) (by lia) fun gG w2 ea=>ZC ⟨w2,rfl,rfl,by dsimp only;rw[ea];exact(dx.turned (by lia)).more (by rw[dx.turn (by lia),dx.turn (by lia)];exact bw)⟩)
         . rw[if_neg c];exact ZC ⟨w',rfl,rfl,by dsimp only;exact dx.more bw⟩
        | false=>
         have bw:=ac2 bw;dsimp only;rw[if_neg ZJ];refine ZA (w'.lt L hD (by lia) (by lia) ?_);cases Th:decide (rk R (arrOf av) (lo+m - 1) < rk R (arrOf av) (lo+m)) with
         | true=>exact ZC ⟨w',rfl,by dsimp only;lia,by dsimp only;exact dx⟩
         | false=>exact ZC ⟨w',rfl,rfl,by dsimp only;exact dx.alike (by have:=ac2 Th;lia)⟩
      . rintro⟨r,m,q⟩ av ⟨w',e1,e2,dx⟩
        dsimp only at e2;exact⟨w',e1,by dsimp only;lia,dx⟩
      . rintro⟨r,m,q⟩ av ⟨w2,e1,e3,dx⟩
        dsimp only at e1 e3 dx ⊢;subst e1;have q1:=dx.q1;have sz:=w2.size;by_cases c:q > 0
        . rw[if_pos c];refine ZA (w2.rev (by lia) (by lia) fun gG w3 ea=>?_);have N0:=dx.turned (by lia);rw[<-ea] at N0;have IL:=w3.size;refine ZA (w3.rev (by lia) (by lia) fun fN w4 Kw=>?_);have sg:=N0.up (by lia);rw[<-Kw] at sg;refine ZA (ad3 (ab7 (I:=fun i c av=>av=fN/\c.1=none/\c.2=i/\bo R (arrOf fN) lo (lo+i)) (Q:=fun c av=>av=fN/\c.1=none/\1<=c.2/\c.2<=eA/\bo R (arrOf fN) lo (lo+c.2)/\(c.2 < eA->rk R (arrOf fN) (lo+c.2) < rk R (arrOf fN) (lo+c.2 - 1))) ?_ ?_ ⟨rfl,rfl,rfl,sg⟩) ?_)
          . rintro x ⟨r,n⟩ av Ly Lx ⟨rfl,e1,e2,e3⟩
            dsimp only at e1 e2 e3 ⊢;subst e1;subst e2;refine ZA (w4.lt L hD (by lia) (by lia) ?_);cases bw:decide (rk R (arrOf av) (lo+n) < rk R (arrOf av) (lo+n - 1)) with
            | true=>exact ZC ⟨rfl,rfl,by dsimp only;lia,by dsimp only;lia,by dsimp only;exact e3,fun _=>by dsimp only;exact ab4 bw⟩
            | false=>exact ZC ⟨rfl,rfl,rfl,e3.more (by lia) (am8.mp (ac2 bw))⟩
          . rintro⟨r,n⟩ av ⟨f0,f1,f2,f3⟩
            dsimp only at f1 f2 f3;rw[<-f2] at f3;have f2:n=eA:=by lia
            subst f2;exact⟨f0,f1,by dsimp only;lia,Zx _,f3,fun z=>absurd z (ab5 _)⟩
          . rintro⟨r,n⟩ av ⟨rfl,e1,e2,e3,e4,e5⟩
            dsimp only at e1 e2 e3 e4 ⊢;subst e1;exact ZC (h _ _ w4 e2 e3 e4)
        . rw[if_neg c];refine ZA (w2.rev (by lia) (by lia) fun fN w4 Kw=>?_);have sg:=dx.up (by lia);rw[<-Kw] at sg;refine ZA (ad3 (ab7 (I:=fun i c av=>av=fN/\c.1=none/\c.2=i/\bo R (arrOf fN) lo (lo+i)) (Q:=fun c av=>av=fN/\c.1=none/\1<=c.2/\c.2<=eA/\bo R (arrOf fN) lo (lo+c.2)/\(c.2 < eA->rk R (arrOf fN) (lo+c.2) < rk R (arrOf fN) (lo+c.2 - 1))) ?_ ?_ ⟨rfl,rfl,rfl,sg⟩) ?_)
          . rintro x ⟨r,n⟩ av Ly Lx ⟨rfl,e1,e2,e3⟩
            dsimp only at e1 e2 e3 ⊢;subst e1;subst e2;refine ZA (w4.lt L hD (by lia) (by lia) ?_);cases bw:decide (rk R (arrOf av) (lo+n) < rk R (arrOf av) (lo+n - 1)) with
            | true=>exact ZC ⟨rfl,rfl,by dsimp only;lia,by dsimp only;lia,by dsimp only;exact e3,fun _=>by dsimp only;exact ab4 bw⟩
            | false=>exact ZC ⟨rfl,rfl,rfl,e3.more (by lia) (am8.mp (ac2 bw))⟩
          . rintro⟨r,n⟩ av ⟨f0,f1,f2,f3⟩
            dsimp only at f1 f2 f3;rw[<-f2] at f3;have f2:n=eA:=by lia
            subst f2;exact⟨f0,f1,by dsimp only;lia,Zx _,f3,fun z=>absurd z (ab5 _)⟩
          . rintro⟨r,n⟩ av ⟨rfl,e1,e2,e3,e4,e5⟩
            dsimp only at e1 e2 e3 e4 ⊢;subst e1;exact ZC (h _ _ w4 e2 e3 e4)
   . rw[if_neg c2];refine ZA (wpS_lift (af6 ⟨rfl,?_⟩));have n1:n=1:=by lia
     subst n1;have SF:Dx R (arrOf av) lo (1+1) 0:=Dx.more (q:=0) ⟨fun i j x y z=>by rw[show i=j by lia];exact ae6 _,by lia,fun i x y=>by rw[show i=lo+1 - 1 by lia]⟩ M8;refine ZA (ad3 (ab7 (I:=fun i c av=>Wx κ a₀ ar lo p av/\c.1=none/\c.2.1=i/\Dx R (arrOf av) lo c.2.1 c.2.2) (Q:=fun c av=>Wx κ a₀ ar lo p av/\c.1=none/\c.2.1<=eA/\Dx R (arrOf av) lo c.2.1 c.2.2) ?_ ?_ ⟨hW,rfl,rfl,(by dsimp only;exact SF)⟩) ?_)
     . rintro x ⟨r,m,q⟩ av Ly Lx ⟨w',e1,e2,dx⟩
       dsimp only at e1 e2 dx ⊢;subst e1;subst e2;have q1:=dx.q1;have sz:=w'.size;refine ZA (w'.lt L hD (by lia) (by lia) ?_);cases bw:decide (rk R (arrOf av) (lo+m) < rk R (arrOf av) (lo+m - 1)) with
       | true=>
        have bw:=ab4 bw;dsimp only;rw[if_pos rfl];by_cases c:q > 0
        . rw[if_pos c];exact ZA (w'.rev (by lia) (by lia) fun gG w2 ea=>ZC ⟨w2,rfl,rfl,by dsimp only;rw[ea];exact(dx.turned (by lia)).more (by rw[dx.turn (by lia),dx.turn (by lia)];exact bw)⟩)
        . rw[if_neg c];exact ZC ⟨w',rfl,rfl,by dsimp only;exact dx.more bw⟩
       | false=>
        have bw:=ac2 bw;dsimp only;rw[if_neg ZJ];refine ZA (w'.lt L hD (by lia) (by lia) ?_);cases Th:decide (rk R (arrOf av) (lo+m - 1) < rk R (arrOf av) (lo+m)) with
        | true=>exact ZC ⟨w',rfl,by dsimp only;lia,by dsimp only;exact dx⟩
        | false=>exact ZC ⟨w',rfl,rfl,by dsimp only;exact dx.alike (by have:=ac2 Th;lia)⟩
     . rintro⟨r,m,q⟩ av ⟨w',e1,e2,dx⟩
       dsimp only at e2;exact⟨w',e1,by dsimp only;lia,dx⟩
     . rintro⟨r,m,q⟩ av ⟨w2,e1,e3,dx⟩
       dsimp only at e1 e3 dx ⊢;subst e1;have q1:=dx.q1;have sz:=w2.size;by_cases c:q > 0
       . rw[if_pos c];refine ZA (w2.rev (by lia) (by lia) fun gG w3 ea=>?_);have N0:=dx.turned (by lia);rw[<-ea] at N0;have IL:=w3.size;refine ZA (w3.rev (by lia) (by lia) fun fN w4 Kw=>?_);have sg:=N0.up (by lia);rw[<-Kw] at sg;refine ZA (ad3 (ab7 (I:=fun i c av=>av=fN/\c.1=none/\c.2=i/\bo R (arrOf fN) lo (lo+i)) (Q:=fun c av=>av=fN/\c.1=none/\1<=c.2/\c.2<=eA/\bo R (arrOf fN) lo (lo+c.2)/\(c.2 < eA->rk R (arrOf fN) (lo+c.2) < rk R (arrOf fN) (lo+c.2 - 1))) ?_ ?_ ⟨rfl,rfl,rfl,sg⟩) ?_)
         . rintro x ⟨r,n⟩ av Ly Lx ⟨rfl,e1,e2,e3⟩
           dsimp only at e1 e2 e3 ⊢;subst e1;subst e2;refine ZA (w4.lt L hD (by lia) (by lia) ?_);cases bw:decide (rk R (arrOf av) (lo+n) < rk R (arrOf av) (lo+n - 1)) with
           | true=>exact ZC ⟨rfl,rfl,by dsimp only;lia,by dsimp only;lia,by dsimp only;exact e3,fun _=>by dsimp only;exact ab4 bw⟩
           | false=>exact ZC ⟨rfl,rfl,rfl,e3.more (by lia) (am8.mp (ac2 bw))⟩
         . rintro⟨r,n⟩ av ⟨f0,f1,f2,f3⟩
           dsimp only at f1 f2 f3;rw[<-f2] at f3;have f2:n=eA:=by lia
           subst f2;exact⟨f0,f1,by dsimp only;lia,Zx _,f3,fun z=>absurd z (ab5 _)⟩
         . rintro⟨r,n⟩ av ⟨rfl,e1,e2,e3,e4,e5⟩
           dsimp only at e1 e2 e3 e4 ⊢;subst e1;exact ZC (h _ _ w4 e2 e3 e4)
       . rw[if_neg c];refine ZA (w2.rev (by lia) (by lia) fun fN w4 Kw=>?_);have sg:=dx.up (by lia);rw[<-Kw] at sg;refine ZA (ad3 (ab7 (I:=fun i c av=>av=fN/\c.1=none/\c.2=i/\bo R (arrOf fN) lo (lo+i)) (Q:=fun c av=>av=fN/\c.1=none/\1<=c.2/\c.2<=eA/\bo R (arrOf fN) lo (lo+c.2)/\(c.2 < eA->rk R (arrOf fN) (lo+c.2) < rk R (arrOf fN) (lo+c.2 - 1))) ?_ ?_ ⟨rfl,rfl,rfl,sg⟩) ?_)
         . rintro x ⟨r,n⟩ av Ly Lx ⟨rfl,e1,e2,e3⟩
           dsimp only at e1 e2 e3 ⊢;subst e1;subst e2;refine ZA (w4.lt L hD (by lia) (by lia) ?_);cases bw:decide (rk R (arrOf av) (lo+n) < rk R (arrOf av) (lo+n - 1)) with
           | true=>exact ZC ⟨rfl,rfl,by dsimp only;lia,by dsimp only;lia,by dsimp only;exact e3,fun _=>by dsimp only;exact ab4 bw⟩
           | false=>exact ZC ⟨rfl,rfl,rfl,e3.more (by lia) (am8.mp (ac2 bw))⟩
         . rintro⟨r,n⟩ av ⟨f0,f1,f2,f3⟩
           dsimp only at f1 f2 f3;rw[<-f2] at f3;have f2:n=eA:=by lia
           subst f2;exact⟨f0,f1,by dsimp only;lia,Zx _,f3,fun z=>absurd z (ab5 _)⟩
         . rintro⟨r,n⟩ av ⟨rfl,e1,e2,e3,e4,e5⟩
           dsimp only at e1 e2 e3 e4 ⊢;subst e1;exact ZC (h _ _ w4 e2 e3 e4)
theorem Ao(L:oQ prog w A E s κ R D)(hD: ∀x∈a₀.toList,D x){st:SortSt}{n ok:Nat}{Q:Bool->SortSt->Prop}(hn:lo+n<=a₀.size)(o1:1<=ok)(o2:ok<=n)(hW:Wx κ a₀ ar lo p st)(sg:bo R (arrOf st) lo (lo+ok))
  (h: ∀av,Wx κ a₀ ar lo p av->bo R (arrOf av) lo (lo+n)->Q true av):wpS (model prog w) A E s (binarySort' lo n ok) Q st:=by
 rw[binarySort'_eq];refine ZA (ad3 (ab7 (I:=fun k c av=>c=(none,())/\Wx κ a₀ ar lo p av/\bo R (arrOf av) lo (lo+k)) (Q:=fun c av=>c=(none,())/\Wx κ a₀ ar lo p av/\bo R (arrOf av) lo (lo+n)) ?step ?fin ⟨rfl,hW,by rw[Nat.max_eq_left o1];exact sg⟩) ?post)
 case fin=>
  rintro c av ⟨e,w',s'⟩
  exact⟨e,w',by rw[show max (max ok 1) n=n by lia] at s';exact s'⟩
 case post=>
  rintro c av ⟨rfl,w',s'⟩
  exact ZC (h av w' s')
 case step=>
  rintro k c av YG YE ⟨rfl,w',s'⟩
  have sz:=w'.size;have k1:1<=k:=by lia
  refine ZA (ad3 (ab7 (I:=fun x c qd=>qd=av/\c.1=none/\c.2.1<=c.2.2/\c.2.2<=k/\(c.2.2 - c.2.1)+x<=k/\(∀i,i < c.2.1->rk R (arrOf av) (lo+i)<=rk R (arrOf av) (lo+k))/\(∀i,c.2.2<=i->i < k->rk R (arrOf av) (lo+k)<=rk R (arrOf av) (lo+i)))
   (Q:=fun c qd=>qd=av/\c.1=none/\c.2.1<=k/\(∀i,i < c.2.1->rk R (arrOf av) (lo+i)<=rk R (arrOf av) (lo+k))/\(∀i,c.2.1<=i->i < k->rk R (arrOf av) (lo+k)<=rk R (arrOf av) (lo+i))) ?istep ?ifin ⟨rfl,rfl,by dsimp only;lia,by dsimp only;lia,by dsimp only;lia,fun i hi=>by dsimp only at hi;lia,fun i h1 h2=>by dsimp only at h1;lia⟩) ?ipost)
  case ifin=>
   rintro⟨r,l,u⟩ qd ⟨e,e1,e2,e3,e4,e5,e6⟩
   dsimp only at e1 e2 e3 e4 e5 e6;have:l=u:=by lia
   subst this;exact⟨e,e1,e3,e5,e6⟩
  case istep=>
   rintro x ⟨r,l,u⟩ qd _ Yx ⟨rfl,h1,h2,h3,h4,h5,h6⟩
   dsimp only at h1 h2 h3 h4 h5 h6 ⊢;subst h1;by_cases Ka:l>=u
   . rw[if_pos Ka];have:l=u:=by lia
     subst this;exact ZC ⟨rfl,rfl,h3,h5,h6⟩
   . rw[if_neg Ka];refine ZA (w'.lt L hD (by lia) (by lia) ?_);cases bw:decide (rk R (arrOf qd) (lo+k) < rk R (arrOf qd) (lo+(l+u) / 2)) with
     | true=>
      have bw:=ab4 bw;exact ZC ⟨rfl,rfl,by dsimp only;lia,by dsimp only;lia,by dsimp only;lia,h5,fun i i1 i2=>by
       dsimp only at i1;have:=s' (lo+(l+u) / 2) (lo+i) (by lia) (by lia) (by lia);lia⟩
     | false=>
      have bw:=ac2 bw;exact ZC ⟨rfl,rfl,by dsimp only;lia,by dsimp only;lia,by dsimp only;lia,fun i i1=>by
       dsimp only at i1;have:=s' (lo+i) (lo+(l+u) / 2) (by lia) (by lia) (by lia);lia,h6⟩
  case ipost=>
   rintro⟨r,l,u⟩ qd ⟨rfl,h1,h2,h5,h6⟩
   dsimp only at h1 h2 h5 h6 ⊢;subst h1;refine ZA (w'.We (i:=lo+k) (j:=lo+l) (by lia) (by lia) (by lia) fun gG w2 ea=>ZC ⟨rfl,w2,?_⟩);intro x y x1 x2 x3;have bu:=fun z=>Jc (R:=R) (a:=arrOf qd) (i:=lo+k) (d:=lo+k - (lo+l)) (by lia) (by lia) z;rw[ea,bu x,bu y];have e0:lo+k - (lo+k - (lo+l))=lo+l:=by lia
   rw[e0];by_cases a1:x=lo+l
   . rw[if_pos a1];by_cases b1:y=lo+l
     . rw[if_pos b1];exact ae6 _
     . rw[if_neg b1,if_pos ⟨by lia,by lia⟩];have:=h6 (y - 1 - lo) (by lia) (by lia);rw[show lo+(y - 1 - lo)=y - 1 by lia] at this;exact this
   . rw[if_neg a1];by_cases a2:lo+l < x/\x<=lo+k
     . rw[if_pos a2,if_neg (by lia),if_pos ⟨by lia,by lia⟩];exact s' _ _ (by lia) (by lia) (by lia)
     . rw[if_neg a2];by_cases b1:y=lo+l
       . rw[if_pos b1];have:=h5 (x - lo) (by lia);rw[show lo+(x - lo)=x by lia] at this;exact this
       . rw[if_neg b1];by_cases b2:lo+l < y/\y<=lo+k
         . rw[if_pos b2];exact s' _ _ (by lia) (by lia) (by lia)
         . rw[if_neg b2];exact s' _ _ (by lia) (by lia) (by lia)
end
section
variable{R:Keyed->Int}
theorem Bg: ∀{L:List Keyed} {n:Nat} {xs:Array Keyed} (k:Nat),sa+n+L.length<=xs.size->((L.zipIdx n).foldl (fun a (p,j)=>a.setIfInBounds (sa+j) p) xs)[k]?=if sa+n<=k/\k < sa+n+L.length then L[k - sa - n]? else xs[k]?
 | [],n,xs,k,_=>by
  rw[if_neg (by rw[ah3];lia)];rfl
 | x::L,n,xs,k,h=>by
  rw[ZG] at h ⊢;rw[List.zipIdx_cons,List.foldl_cons];rw[Bg (sa:=sa) (L:=L) (n:=n+1) k (by simp;lia)];by_cases c:sa+n<=k/\k < sa+n+(L.length+1)
  . rw[if_pos c];by_cases d:k=sa+n
    . rw[if_neg (by lia),Array.getElem?_setIfInBounds,if_pos d.symm,if_pos (by lia),show k - sa - n=0 by lia];rfl
    . rw[if_pos (by lia),show k - sa - n=(k - sa - (n+1))+1 by lia,List.getElem?_cons_succ]
  . rw[if_neg c,if_neg (by lia),Array.getElem?_setIfInBounds,if_neg (by lia)]
theorem sY: ∀{l:List (Keyed × Nat)} {xs:Array Keyed},(l.foldl (fun a (p,j)=>a.setIfInBounds (sa+j) p) xs).size=xs.size
 | [],xs=>rfl
 | (x,j)::l,xs=>by
  rw[List.foldl_cons,sY];simp
structure PV(a m a':Array Keyed)(sa e:Nat):Prop where
 at_: ∀k,a'[k]?=if sa<=k/\k < e then m[k - sa]? else a[k]?
 sz:a'.size=a.size
theorem Jj{a m:Array Keyed}(h:sa+m.size<=a.size):PV a m (m.toList.zipIdx.foldl (fun a (p,j)=>a.setIfInBounds (sa+j) p) a) sa (sa+m.size):=by
 refine⟨fun k=>?_,sY⟩;have:=Bg (sa:=sa) (L:=m.toList) (n:=0) (xs:=a) k (by rw[ZQ];exact h);rw[ZQ,ag1,al8,ad0] at this;exact this
theorem PV.list(h:PV a m a' sa e)(he:e=sa+m.size)(hs:e<=a.size):a'.toList=a.toList.take sa++(m.toList++a.toList.drop e):=by
 apply ad2;intro k;rw[ad0,h.at_ k];have l1:(a.toList.take sa).length=sa:=by rw[ac0,ZQ];lia
 by_cases c:k < sa
 . rw[if_neg (by lia),Z3 (by lia),List.getElem?_take_of_lt c,ad0]
 . rw[Z8 (by lia),l1];by_cases d:k < e
   . rw[if_pos (by lia),Z3 (by rw[ZQ];lia),ad0]
   . rw[if_neg (by lia),Z8 (by rw[ZQ];lia),ZQ,List.getElem?_drop,ad0];congr 1
     lia
def gw(R:Keyed->Int)(a:Array Keyed):Nat->List (Nat × Nat × Nat)->Nat->Prop
 | s,[],e=>s=e
 | s,x::r,e=>x.1=s/\1<=x.2.1/\bo R a x.1 (x.1+x.2.1)/\gw R a (x.1+x.2.1) r e
theorem gw.ch: ∀{s e:Nat} {l:List (Nat × Nat × Nat)},gw R a s l e->Ch s l e
 | s,e,[],h=>h
 | s,e,x::r,h=>⟨h.1,h.2.1,gw.ch h.2.2.2⟩
theorem gw.same: ∀{s e:Nat} {l:List (Nat × Nat × Nat)},gw R a s l e->(∀j,s<=j->j < e->rk R a' j=rk R a j)->gw R a' s l e
 | s,e,[],h,_=>h
 | s,e,x::r,h,hr=>by
  have le:=h.2.2.2.ch.le;have hs:=h.1;refine⟨h.1,h.2.1,fun y z y1 y2 y3=>?_,gw.same h.2.2.2 fun j j1 j2=>hr j (by lia) j2⟩;rw[hr y (by lia) (by lia),hr z (by lia) (by lia)];exact h.2.2.1 y z y1 y2 y3
theorem gw.lb: ∀{s e i:Nat} {l:List (Nat × Nat × Nat)} {x:Nat × Nat × Nat},gw R a s l e->l[i]?=some x->s<=x.1/\bo R a x.1 (x.1+x.2.1)
 | s,e,i,[],x,_,h=>by simp at h
 | s,e,0,z::r,x,h,h1=>by
  cases (show z=x by simpa using h1);exact⟨Nat.le_of_eq h.1.symm,h.2.2.1⟩
 | s,e,i+1,z::r,x,h,h1=>by
  have:=gw.lb h.2.2.2 (show r[i]?=some x by simpa using h1);exact⟨by have:=this.1;have:=h.1;lia,this.2⟩
theorem gw.merge: ∀{s e i:Nat} {l:List (Nat × Nat × Nat)} {x y:Nat × Nat × Nat},gw R a s l e->l[i]?=some x->l[i+1]?=some y->bo R a' x.1 (x.1+(x.2.1+y.2.1))->(∀j,(j < x.1\/x.1+(x.2.1+y.2.1)<=j)->rk R a' j=rk R a j)->gw R a' s ((l.set i (x.1,x.2.1+y.2.1,v)).eraseIdx (i+1)) e
 | s,e,i,[],x,y,h,h1,_,_,_=>by simp at h1
 | s,e,0,[z],x,y,h,h1,h2,_,_=>by simp at h2
 | s,e,0,z::z2::r,x,y,h,h1,h2,sg,hr=>by
  cases (show z=x by simpa using h1);cases (show z2=y by simpa using h2);show z.1=s/\1<=z.2.1+z2.2.1/\bo R a' z.1 (z.1+(z.2.1+z2.2.1))/\gw R a' (z.1+(z.2.1+z2.2.1)) r e;refine⟨h.1,by have:=h.2.1;lia,sg,?_⟩;have:=h.2.2.2.2.2.2;rw[h.2.2.2.1] at this;rw[<-Nat.add_assoc];exact this.same fun j j1 _=>hr j (.inr (by lia))
 | s,e,i+1,z::r,x,y,h,h1,h2,sg,hr=>by
  have lb:=gw.lb h.2.2.2 (show r[i]?=some x by simpa using h1);refine⟨h.1,h.2.1,fun p q p1 p2 p3=>?_,gw.merge h.2.2.2 (by simpa using h1) (by simpa using h2) sg hr⟩;rw[hr p (.inl (by lia)),hr q (.inl (by lia))];exact h.2.2.1 p q p1 p2 p3
theorem gw.push(hn:1<=n): ∀{s e:Nat} {l:List (Nat × Nat × Nat)},gw R a s l e->bo R a e (e+n)->gw R a s (l++ [(e,n,q)]) (e+n)
 | s,e,[],h,sg=>⟨h.symm,hn,sg,rfl⟩
 | s,e,x::r,h,sg=>⟨h.1,h.2.1,h.2.2.1,gw.push hn h.2.2.2 sg⟩
theorem gw.mod(hf: ∀x,(f x).1=x.1/\(f x).2.1=x.2.1): ∀{s e k:Nat} {l:List (Nat × Nat × Nat)},gw R a s l e->gw R a s (l.modify k f) e
 | s,e,k,[],h=>by simpa using h
 | s,e,0,x::r,h=>by
  show(f x).1=s/\1<=(f x).2.1/\bo R a (f x).1 ((f x).1+(f x).2.1)/\gw R a ((f x).1+(f x).2.1) r e;rw[(hf x).1,(hf x).2];exact h
 | s,e,k+1,x::r,h=>⟨h.1,h.2.1,h.2.2.1,gw.mod hf h.2.2.2⟩
theorem gw.len: ∀{s e:Nat} {l:List (Nat × Nat × Nat)},gw R a s l e->s+l.length<=e
 | s,e,[],h=>by rw[ah3];exact Nat.le_of_eq h
 | s,e,x::r,h=>by
  have:=gw.len h.2.2.2;have:=h.1;have:=h.2.1;rw[ZG];lia
theorem bo.Ej(h:bo R a i j)(hj:j<=a.size):dZ R (a.extract i j):=by
 unfold dZ;rw[af8];intro x y hx hy Yu;have sz:(a.extract i j).size=j - i:=by rw[ai3];lia
 have zT:x < j - i:=by rw[<-sz,<-ZQ];exact hx
 have Lw:y < j - i:=by rw[<-sz,<-ZQ];exact hy
 have:=h (i+x) (i+y) (by lia) (by lia) (by lia);rw[bW (by lia),bW (by lia)] at this;simpa using this
theorem wD{a:Array Keyed}(hj:j<=a.size)(hx:x < j - i):rk R (a.extract i j) x=rk R a (i+x):=by
 have sz:(a.extract i j).size=j - i:=by rw[ai3];lia
 rw[bW (by lia),bW (by lia),Array.getElem_extract]
theorem u5{a m a':Array Keyed}(h1:sa<=j5)(h2:j5 < sb)(h3:sb < e')(h4:e'<=e)(h5:e<=a.size)(s1:bo R a sa sb)(s2:bo R a sb e)(o:Out R (a.extract j5 sb) (a.extract sb e') m)(P:PV a m a' j5 e')(k1:sa < j5->rk R a (j5 - 1)<=rk R a sb)(k2:e' < e->rk R a (sb - 1)<=rk R a e'):bo R a' sa e/\a'.toList.Perm a.toList/\ ∀j,(j < j5\/e'<=j)->rk R a' j=rk R a j:=by
 have ms:m.size=e' - j5:=by
  have:=o.1.length_eq;rw[ZK,ZQ,ZQ,ZQ,ai3,ai3] at this;lia
 have out: ∀j,(j < j5\/e'<=j)->rk R a' j=rk R a j:=fun j hj=>kK (by rw[P.at_ j,if_neg (by lia)]);have ins: ∀j,j5<=j->j < e'->rk R a' j=rk R m (j - j5):=fun j j1 j2=>kK (by rw[P.at_ j,if_pos ⟨j1,j2⟩]);have mem: ∀j,j5<=j->j < e'-> ∃k,j5<=k/\k < e'/\rk R a' j=rk R a k:=fun j j1 j2=>by
  rw[ins j j1 j2,bW (by lia)];have hm:=o.1.mem_iff.mp (u6 (a:=m) (i:=j - j5) (by lia));rcases aa7.mp hm with z | z
  . obtain⟨k,p1,p2,p3,e⟩:=cT (R:=R) z;exact⟨k,p1,by lia,e⟩
  . obtain⟨k,p1,p2,p3,e⟩:=cT (R:=R) z;exact⟨k,by lia,p2,e⟩
 have lo: ∀x k,sa<=x->x < j5->j5<=k->k < e'->rk R a x<=rk R a k:=fun x k x1 x2 p1 p2=>by
  have a1:=s1 x (j5 - 1) x1 (by lia) (by lia);by_cases c:k < sb
  . exact s1 x k x1 (by lia) c
  . have:=k1 (by lia);have:=s2 sb k (Zx _) (by lia) (by lia);lia
 have hi: ∀y k,e'<=y->y < e->j5<=k->k < e'->rk R a k<=rk R a y:=fun y k y1 y2 p1 p2=>by
  by_cases c:k < sb
  . have b1:=s1 k (sb - 1) (by lia) (by lia) (by lia);have b2:=k2 (by lia);have b3:=s2 e' y (by lia) y1 y2;lia
  . exact s2 k y (by lia) (by lia) y2
 refine⟨fun x y x1 x2 x3=>?_,?_,out⟩
 . by_cases cx:x < j5
   . rw[out x (.inl cx)];by_cases cy:y < j5
     . rw[out y (.inl cy)];exact s1 x y x1 x2 (by lia)
     . by_cases Tc:y < e'
       . obtain⟨k,p1,p2,e⟩:=mem y (by lia) Tc;rw[e];exact lo x k x1 cx p1 p2
       . rw[out y (.inr (by lia))];have q1:=lo x (sb - 1) x1 cx (by lia) (by lia);have q2:=hi y (sb - 1) (by lia) x3 (by lia) (by lia);lia
   . by_cases Vd:x < e'
     . by_cases Tc:y < e'
       . rw[ins x (by lia) Vd,ins y (by lia) Tc];exact o.2.rk (by lia) (by lia)
       . obtain⟨k,p1,p2,e⟩:=mem x (by lia) Vd;rw[e,out y (.inr (by lia))];exact hi y k (by lia) x3 p1 p2
     . rw[out x (.inr (by lia)),out y (.inr (by lia))];exact s2 x y (by lia) x2 x3
 . rw[P.list (by lia) (by lia)];have e1:a.toList.take j5++((a.extract j5 sb).toList++(a.extract sb e').toList++a.toList.drop e')=a.toList:=by
    rw[fW,fW];have d1:a.toList.drop sb=(a.toList.drop sb).take (e' - sb)++a.toList.drop e':=by
     conv=>lhs;rw[<-ae3 (e' - sb) (a.toList.drop sb)]
     rw[List.drop_drop,show sb+(e' - sb)=e' by lia]
    have d2:a.toList.drop j5=(a.toList.drop j5).take (sb - j5)++a.toList.drop sb:=by
     conv=>lhs;rw[<-ae3 (sb - j5) (a.toList.drop j5)]
     rw[List.drop_drop,show j5+(sb - j5)=sb by lia]
    rw[aa1,<-d1,<-d2,ae3]
   conv=>rhs;rw[<-e1]
   exact List.Perm.append_left _ (List.Perm.append_right _ o.1)
theorem bo.join(s1:bo R a sa sb)(s2:bo R a sb e)(h1:sa < sb)(hl:rk R a (sb - 1)<=rk R a sb):bo R a sa e:=fun x y x1 x2 x3=>by
 by_cases cx:x < sb
 . by_cases cy:y < sb
   . exact s1 x y x1 x2 cy
   . have q1:=s1 x (sb - 1) x1 (by lia) (by lia);have q2:=s2 sb y (Zx _) (by lia) x3;lia
 . exact s2 x y (by lia) x2 x3
end
structure Px(κ:SortKind)(R:Keyed->Int)(a₀:Array Keyed)(lo:Nat)(p:Array (Nat × Nat × Nat))(st:SortSt):Prop where
 pm:(arrOf st).Perm a₀
 kind:kindOf st=κ
 failed:failedOf st=none
 pend:pendingOf st=p
 ch:gw R (arrOf st) 0 p.toList lo
section
variable{prog:Program}{w:World}{A:Around}{E:Value->Shared->Prop}{s:Shared}{κ:SortKind}{R:Keyed->Int}{D:Keyed->Prop}{a₀:Array Keyed}{p:Array (Nat × Nat × Nat)}{lo:Nat}
theorem iR(L:oQ prog w A E s κ R D)(hD: ∀x∈a₀.toList,D x){st:SortSt}{i:Nat}{Q:Bool->SortSt->Prop}(hW:Px κ R a₀ lo p st)(RU:lo<=a₀.size)(hi:i+1 < p.size)
  (h: ∀p' av,Px κ R a₀ lo p' av->p'.size+1=p.size->(∀j,lo<=j->rk R (arrOf av) j=rk R (arrOf st) j)->Q true av):wpS (model prog w) A E s (mergeAt' i) Q st:=by
 rw[tH];refine ZA (al6 ?_);obtain⟨⟨sa,na,pw⟩,hx⟩: ∃x,p[i]?=some x:=⟨p[i],ae0 (by lia)⟩
 obtain⟨⟨sb,nb,V4⟩,hy⟩: ∃x,p[i+1]?=some x:=⟨p[i+1],ae0 (by lia)⟩
 have zT:p.toList[i]?=some (sa,na,pw):=by rw[ad0];exact hx
 have Lw:p.toList[i+1]?=some (sb,nb,V4):=by rw[ad0];exact hy
 have t2:=hW.ch.ch.two zT Lw;have IQ:=(hW.ch.lb zT).2;have Ms:=(hW.ch.lb Lw).2;have hM:=fun(a':Array Keyed)=>hW.ch.merge (a':=a') (v:=pw) zT Lw;dsimp only at t2 IQ Ms hM;obtain⟨n1,e1,n2,e2⟩:=t2;rw[hW.pend,hx,hy];dsimp only;have LC:((p.setIfInBounds i (sa,na+nb,pw)).eraseIdxIfInBounds (i+1)).toList=(p.toList.set i (sa,na+nb,pw)).eraseIdx (i+1):=by
  rw[Array.toList_eraseIdxIfInBounds,Array.toList_setIfInBounds]
 have RM:((p.setIfInBounds i (sa,na+nb,pw)).eraseIdxIfInBounds (i+1)).size+1=p.size:=by
  rw[<-ZQ,LC,List.length_eraseIdx_of_lt (by rw[Z4,ZQ];exact hi),Z4,ZQ];lia
 rw[<-LC] at hM;generalize (p.setIfInBounds i (sa,na+nb,pw)).eraseIdxIfInBounds (i+1)=p1 at hM RM ⊢;clear LC;have sz:(arrOf st).size=a₀.size:=hW.pm.size_eq;have dk:Dk D (arrOf st):=fun i hi=>hD _ ((ad5.mp hW.pm).mem_iff.mp (u6 hi));have Lz:sb < (arrOf st).size:=by lia
 refine ZA (EH ?_);refine ZA (aF Lz ?_);refine ZA (eP L hW.kind dk (dk _ Lz) (by lia) (by lia) (fun x y x1 x2=>IQ _ _ (by lia) (by lia) (by lia)) fun k hk kt kf=>?_);rw[<-bW (R:=R) Lz] at kt kf;dsimp only;have Hq:0 < k->rk R (arrOf st) (sa+k - 1)<=rk R (arrOf st) sb:=fun z=>by have:=vM (kt (k - 1) (by lia));rw[show sa+(k - 1)=sa+k - 1 by lia] at this;exact this
 have JN:k < na->rk R (arrOf st) sb<=rk R (arrOf st) (sa+k):=fun z=>ah7 (vN (kf k (Zx _) z));clear kt kf;have whole:rk R (arrOf st) (sb - 1)<=rk R (arrOf st) sb->Q true (setPending st p1):=fun z=>by
  refine h p1 _ ⟨hW.pm,hW.kind,hW.failed,rfl,?_⟩ RM fun _ _=>rfl;refine hM (arrOf st) ?_ fun j _=>rfl;rw[show sa+(na+nb)=sb+nb by lia];rw[e1] at IQ;exact IQ.join Ms (by lia) z
 by_cases c1:(na - k==0)=true
 . rw[if_pos c1];have Tg:=ZO.mp c1;refine ZC (whole ?_);have:=Hq (by lia);rw[show sa+k - 1=sb - 1 by lia] at this;exact this
 rw[if_neg c1];have Tg:na - k≠0:=fun z=>c1 (ZO.mpr z);clear c1;have RI:sa+k+(na - k) - 1 < (arrOf st).size:=by lia
 refine ZA (aF RI ?_);refine ZA (eP L hW.kind dk (dk _ RI) (by lia) (by lia) (fun x y x1 x2=>Ms _ _ (by lia) (by lia) (by lia)) fun k2 Pq lt lf=>?_);rw[<-bW (R:=R) RI,show sa+k+(na - k) - 1=sb - 1 by lia] at lt lf;dsimp only;have lt':0 < k2->rk R (arrOf st) (sb+k2 - 1)<=rk R (arrOf st) (sb - 1):=fun z=>by have:=ah7 (nN (lt (k2 - 1) (by lia)));rw[show sb+(k2 - 1)=sb+k2 - 1 by lia] at this;exact this
 have zS:k2 < nb->rk R (arrOf st) (sb - 1)<=rk R (arrOf st) (sb+k2):=fun z=>nO (lf k2 (Zx _) z);clear lt lf;by_cases c2:(k2==0)=true
 . rw[if_pos c2];have HU:=ZO.mp c2;refine ZC (whole ?_);have:=zS (by lia);rw[HU,ag1] at this;exact this
 rw[if_neg c2];have HU:k2≠0:=fun z=>c2 (ZO.mpr z);clear c2;have sx:((arrOf st).extract (sa+k) sb).size=na - k:=by rw[ai3];lia
 have sy:((arrOf st).extract sb (sb+k2)).size=k2:=by rw[ai3];lia
 have T8:bo R (arrOf st) (sa+k) sb:=fun x y x1 x2 x3=>IQ x y (by lia) x2 (by lia);have T7:bo R (arrOf st) sb (sb+k2):=fun x y x1 x2 x3=>Ms x y x1 x2 (by lia);have PL: ∀i j,Dk D ((arrOf st).extract i j):=fun i j l hl=>by
  rw[Array.getElem_extract];exact dk _ _
 have fin: ∀(m:Array Keyed) (g:Nat),Out R ((arrOf st).extract (sa+k) sb) ((arrOf st).extract sb (sb+k2)) m->wpS (model prog w) A E s (do
   modify fun s=>setArr s (m.toList.zipIdx.foldl (fun a (p,j)=>a.setIfInBounds (sa+k+j) p) (arrOf s))
   return(failedOf (<-get)).isNone) Q (setG (setPending st p1) g):=fun m g o=>by
  have ms:m.size=na - k+k2:=by
   have:=o.1.length_eq;rw[ZK,ZQ,ZQ,ZQ,sx,sy] at this;exact this
  have pt:=Jj (a:=arrOf st) (m:=m) (sa:=sa+k) (by lia);rw[show sa+k+m.size=sb+k2 by lia] at pt;rw[e1] at IQ;obtain⟨q1,q2,q3⟩:=u5 (sa:=sa) (e:=sb+nb) (by lia) (by lia) (by lia) (by lia) (by lia) IQ Ms o pt (fun z=>Hq (by lia)) (fun z=>zS (by lia));refine ZA (ah9 (ZA (al6 ?_)));have hf:(failedOf st).isNone=true:=by rw[hW.failed];rfl
  show wpS _ _ _ _ (pure (failedOf st).isNone) Q _;rw[hf];refine ZC (h p1 _ ⟨(ad5.mpr q2).trans hW.pm,hW.kind,hW.failed,rfl,?_⟩ RM fun j hj=>q3 j (by lia));refine hM _ ?_ fun j hj=>q3 j (by lia);rw[show sa+(na+nb)=sb+nb by lia];exact q1
 have c0:rk R ((arrOf st).extract sb (sb+k2)) 0<=rk R ((arrOf st).extract (sa+k) sb) 0:=by
  rw[wD (by lia) (by lia),wD (by lia) (by lia),ag1,ag1];exact JN (by lia)
 have cl:rk R ((arrOf st).extract sb (sb+k2)) (((arrOf st).extract sb (sb+k2)).size - 1)<=rk R ((arrOf st).extract (sa+k) sb) (((arrOf st).extract (sa+k) sb).size - 1):=by
  rw[sx,sy,wD (by lia) (by lia),wD (by lia) (by lia),show sb+(k2 - 1)=sb+k2 - 1 by lia,show sa+k+(na - k - 1)=sb - 1 by lia];exact lt' (by lia)
 by_cases c3:na - k<=k2
 . rw[if_pos c3];exact ZA (sk L hW.kind (PL _ _) (PL _ _) (T8.Ej (by lia)) (T7.Ej (by lia)) (by lia) (by lia) c0 cl fun m g o=>fin m g o)
 . rw[if_neg c3];exact ZA (sr L hW.kind (PL _ _) (PL _ _) (T8.Ej (by lia)) (T7.Ej (by lia)) (by lia) (by lia) c0 cl fun m g o=>fin m g o)
end
theorem Px.wx{p:Array (Nat × Nat × Nat)}{lo:Nat}{st:SortSt}(h:Px κ R a₀ lo p st):Wx κ a₀ (arrOf st) lo p st:=⟨h.pm,h.kind,h.failed,h.pend,fun _ _=>rfl⟩
theorem Px.back{p:Array (Nat × Nat × Nat)}{lo:Nat}{st av:SortSt}(h:Px κ R a₀ lo p st)(w':Wx κ a₀ (arrOf st) lo p av):Px κ R a₀ lo p av:=⟨w'.pm,w'.kind,w'.failed,w'.pend,h.ch.same fun j _ j2=>kK (w'.keep j j2)⟩
theorem yk(L:oQ prog w A E s κ R D)(hD: ∀x∈a₀.toList,D x){st:SortSt}(hW:Px κ R a₀ 0 #[] st)(h1:1<=a₀.size)(h: ∀av,(arrOf av).Perm a₀->failedOf av=none->bo R (arrOf av) 0 a₀.size->Q () av):wpS (model prog w) A E s sortRuns' Q st:=by
 rw[sortRuns'_eq];refine ZA (al6 ?_);dsimp only;rw[hW.pm.size_eq];have mr:1<=minRun' a₀.size a₀.size 0:=m5 h1;generalize minRun' a₀.size a₀.size 0=Pl at mr ⊢;refine ZA (ad3 (ab7 (I:=fun x (c:Option Unit × Nat) av=>c.1=none/\c.2<=a₀.size/\min x a₀.size<=c.2/\ ∃p,Px κ R a₀ c.2 p av)
  (Q:=fun(c:Option Unit × Nat) av=>c.1=none/\c.2=a₀.size/\ ∃p,Px κ R a₀ c.2 p av) ?step ?fin0 ⟨rfl,Z7 _,by dsimp only;lia,#[],hW⟩) ?post)
 case fin0=>
  rintro⟨r,lo⟩ av ⟨e1,e2,e3,p,hp⟩
  dsimp only at e1 e2 e3 hp;exact⟨e1,by dsimp only;lia,p,hp⟩
 case post=>
  rintro⟨r,lo⟩ av ⟨e1,e2,p,zh⟩
  dsimp only at e1 e2 zh ⊢;subst e1;subst e2;dsimp only;have pl:=zh.ch.len;rw[ZQ] at pl;refine ZA (ad3 (ab7 (I:=fun x c av=>c.1=none/\ ∃p,Px κ R a₀ a₀.size p av/\p.size+x<=a₀.size)
   (Q:=fun c av=>c.1=none/\ ∃p,Px κ R a₀ a₀.size p av/\p.size<=1) ?fstep ?ffin ⟨rfl,p,zh,by lia⟩) ?fpost)
  case ffin=>
   rintro⟨r,u⟩ av ⟨e1,p,hp,hs⟩
   exact⟨e1,p,hp,by rw[show max 0 a₀.size=a₀.size by lia] at hs;lia⟩
  case fpost=>
   rintro⟨r,u⟩ av ⟨e1,p,hp,hs⟩
   dsimp only at e1 ⊢;subst e1;refine ZC (h _ hp.pm hp.failed ?_);have ch:=hp.ch;have hl:p.toList.length<=1:=by rw[ZQ];exact hs
   match hq:p.toList,hl,ch with
   | [],_,ch=>have:0=a₀.size:=ch;lia
   | [x],_,ch=>
    obtain⟨a1,a2,a3,a4⟩:=ch;have a4:x.1+x.2.1=a₀.size:=a4;rw[a4,a1] at a3;exact a3
   | _::_::_,hl,_=>simp at hl
  case fstep=>
   clear zh pl;rintro x ⟨r,u⟩ av _ hx ⟨e1,p,zh,hs⟩
   dsimp only at e1 ⊢;subst e1;refine ZA (al6 ?_);rw[zh.pend];by_cases c:p.size<=1
   . rw[if_pos c];exact ZC ⟨rfl,p,zh,c⟩
   rw[if_neg c];have mg: ∀i,i+1 < p.size->wpS (model prog w) A E s (mergeAt' i) (fun b av=>b=true/\ ∃p',Px κ R a₀ a₀.size p' av/\p'.size+1=p.size) av:=fun i hi=>iR L hD zh (Zx _) hi fun p' gG a b _=>⟨rfl,p',a,b⟩
   have hi: ∀(b:Bool),(if b=true then p.size - 2 - 1 else p.size - 2)+1 < p.size:=fun b=>by cases b <;> simp <;> omega
   refine ZA (ad3 (mg _ (hi _)) ?_);rintro b gG ⟨rfl,p2,w2,k2⟩
   exact ZC ⟨rfl,p2,w2,by lia⟩
 case step=>
  rintro x ⟨r,lo⟩ av _ hx ⟨e1,e2,e3,p,zh⟩
  dsimp only at e1 e2 e3 zh ⊢;subst e1;by_cases c:lo>=a₀.size
  . rw[if_pos c];exact ZC ⟨rfl,by dsimp only;lia,p,zh⟩
  rw[if_neg c];refine ZA (An L hD (by lia) (by lia) zh.wx fun m sO w1 m1 m2 sg=>?_);have Sd:=zh.back w1;clear w1;dsimp only;by_cases c2:m < Pl
  . rw[if_pos c2];refine ZA (wpS_lift (af6 ⟨rfl,?_⟩));refine ZA (Ao L hD (by lia) m1 (by lia) Sd.wx sg fun gG w2 Ls=>?_);have vh:=Sd.back w2;have n1:1<=min (a₀.size - lo) Pl:=by lia
    have n2:lo+min (a₀.size - lo) Pl<=a₀.size:=by lia
    simp only [Bool.not_true,am6,if_false];generalize min (a₀.size - lo) Pl=n at n1 n2 Ls ⊢;refine ZA (al6 ?_);rw[vh.pend];cases hb:p.back? with
    | none=>
     dsimp only;refine ZA (ah9 (ZC ⟨rfl,by dsimp only;lia,by dsimp only;lia,_,vh.pm,vh.kind,vh.failed,rfl,?_⟩));show gw R (arrOf gG) 0 ((pendingOf _).push _).toList _;rw[vh.pend,ak0];exact vh.ch.push n1 Ls
    | some t=>
     obtain⟨s1,V8,q1⟩:=t;dsimp only;refine ZA (ad3 (ab7 (I:=fun x c av=>c.1=none/\ ∃p,Px κ R a₀ lo p av/\bo R (arrOf av) lo (lo+n)) (Q:=fun c av=>c.1=none/\ ∃p,Px κ R a₀ lo p av/\bo R (arrOf av) lo (lo+n)) ?_ (fun _ _ h=>h) ⟨rfl,p,vh,Ls⟩) ?_)
     . rintro x ⟨r,u⟩ fN _ _ ⟨e1,p2,w2,s2⟩
       dsimp only at e1 ⊢;subst e1;refine ZA (al6 ?_);rw[w2.pend];by_cases c:p2.size > 1
       . rw[if_pos c,ae0 (show p2.size - 2 < p2.size by lia)];generalize p2[p2.size - 2]=t;obtain⟨t1,t2,MS⟩:=t;dsimp only;split
         . exact ZC ⟨rfl,p2,w2,s2⟩
         . refine ZA (iR L hD w2 e2 (by lia) fun p3 VX w3 k3 kr=>?_);exact ZC ⟨rfl,p3,w3,fun a b a1 a2 a3=>by rw[kr a a1,kr b (by lia)];exact s2 a b a1 a2 a3⟩
       . rw[if_neg c];exact ZC ⟨rfl,p2,w2,s2⟩
     . rintro⟨r,u⟩ fN ⟨e1,p2,w2,s2⟩
       dsimp only at e1 ⊢;subst e1;refine ZA (ah9 (ZA (ah9 (ZC ⟨rfl,by dsimp only;lia,by dsimp only;lia,_,w2.pm,w2.kind,w2.failed,rfl,?_⟩))));show gw R (arrOf fN) 0 (((pendingOf fN).modify ((pendingOf fN).size - 1) _).push _).toList _;rw[w2.pend,ak0,Array.toList_modify];refine gw.push (e:=lo) n1 (gw.mod ?_ w2.ch) s2;exact fun _=>⟨rfl,rfl⟩
  . rw[if_neg c2];have vh:=Sd;have Ls:=sg;have n1:=m1;refine ZA (al6 ?_);rw[vh.pend];cases hb:p.back? with
    | none=>
     dsimp only;refine ZA (ah9 (ZC ⟨rfl,by dsimp only;lia,by dsimp only;lia,_,vh.pm,vh.kind,vh.failed,rfl,?_⟩));show gw R (arrOf sO) 0 ((pendingOf _).push _).toList _;rw[vh.pend,ak0];exact vh.ch.push n1 Ls
    | some t=>
     obtain⟨s1,V8,q1⟩:=t;dsimp only;refine ZA (ad3 (ab7 (I:=fun x c av=>c.1=none/\ ∃p,Px κ R a₀ lo p av/\bo R (arrOf av) lo (lo+m)) (Q:=fun c av=>c.1=none/\ ∃p,Px κ R a₀ lo p av/\bo R (arrOf av) lo (lo+m)) ?_ (fun _ _ h=>h) ⟨rfl,p,vh,Ls⟩) ?_)
     . rintro x ⟨r,u⟩ fN _ _ ⟨e1,p2,w2,s2⟩
       dsimp only at e1 ⊢;subst e1;refine ZA (al6 ?_);rw[w2.pend];by_cases c:p2.size > 1
       . rw[if_pos c,ae0 (show p2.size - 2 < p2.size by lia)];generalize p2[p2.size - 2]=t;obtain⟨t1,t2,MS⟩:=t;dsimp only;split
         . exact ZC ⟨rfl,p2,w2,s2⟩
         . refine ZA (iR L hD w2 e2 (by lia) fun p3 VX w3 k3 kr=>?_);exact ZC ⟨rfl,p3,w3,fun a b a1 a2 a3=>by rw[kr a a1,kr b (by lia)];exact s2 a b a1 a2 a3⟩
       . rw[if_neg c];exact ZC ⟨rfl,p2,w2,s2⟩
     . rintro⟨r,u⟩ fN ⟨e1,p2,w2,s2⟩
       dsimp only at e1 ⊢;subst e1;refine ZA (ah9 (ZA (ah9 (ZC ⟨rfl,by dsimp only;lia,by dsimp only;lia,_,w2.pm,w2.kind,w2.failed,rfl,?_⟩))));show gw R (arrOf fN) 0 (((pendingOf fN).modify ((pendingOf fN).size - 1) _).push _).toList _;rw[w2.pend,ak0,Array.toList_modify];refine gw.push (e:=lo) n1 (gw.mod ?_ w2.ch) s2;exact fun _=>⟨rfl,rfl⟩
end eZ
namespace fL
open PySem PySem.W PyProof.Rows
variable{N:Nat}{K:Nat->Int}{s:Shared}{cmp:Nat->Nat->(Bool->Shared->Prop)->Shared->Prop}
def Vs(N:Nat)(K:Nat->Int)(cmp:Nat->Nat->(Bool->Shared->Prop)->Shared->Prop)(s:Shared):Prop:= ∀i j,i < N->j < N-> ∀C:Bool->Shared->Prop,C (decide (K i < K j)) s->cmp i j C s
structure Pm(N:Nat)(p:Array Nat):Prop where
 pm:p.Perm (List.range N).toArray
theorem Pm.sz(h:Pm N p):p.size=N:=by rw[h.pm.size_eq];simp
noncomputable def kp(K:Nat->Int)(p:Array Nat)(i:Nat):Int:=K (p.getD i 0)
def P1(K:Nat->Int)(p:Array Nat)(n:Nat):Prop:= ∀i j,i<=j->j < n->kp K p i<=kp K p j
end fL
namespace L2
open PySem PySem.Spec PyProof.Rows
abbrev Key:=Sum Int Str
noncomputable def pd:Key->Value->Bool
 | .inl k,v=>Value.isInt k v
 | .inr x,v=>Value.isStrOf x v
noncomputable def Ro(w:World):Key->Int
 | .inl k=>hashInt k
 | .inr x=>hashStr w x
theorem bp: ∀{k:Key} {v:Value},pd k v=true->(∃i t,k=Sum.inl i/\v=Value.int i t)\/(∃x t,k=Sum.inr x/\v=Value.str x t)
 | .inl i,v,h=>by
  obtain⟨t,e⟩:=Value.isInt_shape (k:=i) (v:=v) h;exact .inl ⟨i,t,rfl,e⟩
 | .inr x,v,h=>by
  obtain⟨t,e⟩:=Value.isStrOf_shape (x:=x) (v:=v) h;exact .inr ⟨x,t,rfl,e⟩
theorem y9(i:Int)(t:Tok):pd (.inl i) (.int i t)=true:=by simp [pd,Value.isInt]
theorem y8(x:Str)(t:Tok):pd (.inr x) (.str x t)=true:=by simp [pd,Value.isStrOf]
theorem JR(a b:Int):decide ((Sum.inl a:Key)=Sum.inl b)=(a==b):=by
 by_cases e:a=b
 . subst e;simp
 . have h: ¬(Sum.inl a:Key)=Sum.inl b:=fun q=>e (Sum.inl.inj q);rw[aa3 h];exact(ah5.mpr e).symm
theorem JO(a b:Str):decide ((Sum.inr a:Key)=Sum.inr b)=decide (a=b):=by
 by_cases e:a=b
 . subst e;simp
 . have h: ¬(Sum.inr a:Key)=Sum.inr b:=fun q=>e (Sum.inr.inj q);rw[aa3 h,aa3 e]
theorem JQ(a:Int)(b:Str):decide ((Sum.inl a:Key)=Sum.inr b)=false:=aa3 (fun q=>nomatch q)
theorem JP(a:Str)(b:Int):decide ((Sum.inr a:Key)=Sum.inl b)=false:=aa3 (fun q=>nomatch q)
noncomputable def aV(prog:Program)(w:World):PySem.KeyKind prog w Key where
 is:=pd
 hash:=Ro w
 inj:=fun v a b ha hb=>by
  rcases bp ha with ⟨i,t,rfl,rfl⟩ | ⟨x,t,rfl,rfl⟩
  . rcases bp hb with ⟨j,u,rfl,e⟩ | ⟨y,u,rfl,e⟩
    . injection e with e1 _;rw[e1]
    . exact nomatch e
  . rcases bp hb with ⟨j,u,rfl,e⟩ | ⟨y,u,rfl,e⟩
    . exact nomatch e
    . injection e with e1 _;rw[e1]
 byValue:=fun k v h=>by
  rcases bp h with ⟨i,t,rfl,rfl⟩ | ⟨x,t,rfl,rfl⟩ <;> rfl
 pyHash:=fun hv h=>by
  rcases bp hv with ⟨i,t,rfl,rfl⟩ | ⟨x,t,rfl,rfl⟩
  . exact wpAny_pyHash_int h
  . exact wpAny_pyHash_str h
 eqBool:=fun hu hv h=>by
  rcases bp hu with ⟨i,t,rfl,rfl⟩ | ⟨x,t,rfl,rfl⟩
  . rcases bp hv with ⟨j,u,rfl,rfl⟩ | ⟨y,u,rfl,rfl⟩
    . rw[JR] at h;exact wpAny_eqBool_int h
    . rw[JQ] at h;exact SeqAt.EqAt.int_str i t y u _ _ _ _ h
  . rcases bp hv with ⟨j,u,rfl,rfl⟩ | ⟨y,u,rfl,rfl⟩
    . rw[JP] at h;exact SeqAt.EqAt.str_int x t j u _ _ _ _ h
    . rw[JO] at h;exact wpAny_eqBool_str h
 «strs» :=fun k x t v h=>by
  rcases bp h with ⟨i,u,rfl,e⟩ | ⟨y,u,rfl,e⟩
  . exact nomatch e
  . injection e with e1 _
    subst e1;cases v <;> rfl
theorem tE(prog:Program)(w:World)(i:Int)(t:Tok):(aV prog w).is (.inl i) (.int i t)=true:=y9 i t
theorem tD(prog:Program)(w:World)(x:Str)(t:Tok):(aV prog w).is (.inr x) (.str x t)=true:=y8 x t
inductive V where
 | aD | bl (b:Bool) | int (i:Int) | str (x:Str) | xX (b:Array UInt8) | zV (b:UInt64) | ref (a:Addr) | ty (n:String)
 deriving DecidableEq
def RelV:V->Value->Prop
 | .aD,u=>u=Value.none
 | .bl b,u=>u=Value.bool b
 | .int i,u=> ∃t,u=Value.int i t
 | .str x,u=> ∃t,u=Value.str x t
 | .xX b,u=> ∃t,u=Value.bytes b t
 | .zV b,u=> ∃t,u=Value.float b t
 | .ref a,u=>u=Value.ref a
 | .ty n,u=>u=Value.type n
abbrev Vals:List V->List Value->Prop:=Paired RelV
theorem Vals.length(r:Vals xs us):xs.length=us.length:=Paired.length r
theorem Vals.get: ∀{xs:List V} {us:List Value} {i:Nat} {x:V},Vals xs us->xs[i]?=some x-> ∃u,us[i]?=some u/\RelV x u
 | _,_,_,_,.nil,e=>by simp at e
 | _,_,0,_,.cons r _,e=>by simp at e;subst e;exact⟨_,rfl,r⟩
 | _,_,i+1,x,.cons _ t,e=>by
  obtain⟨u,h1,h2⟩:=Vals.get (i:=i) (x:=x) t (by simpa using e);exact⟨u,by simpa using h1,h2⟩
theorem Vals.set(r:RelV x u): ∀{xs:List V} {us:List Value} (i:Nat),Vals xs us->Vals (xs.set i x) (us.set i u)
 | _,_,_,.nil=> .nil
 | _,_,0,.cons _ t=> .cons r t
 | _,_,i+1,.cons q t=> .cons q (Vals.set r i t)
theorem Vals.append: ∀{xs ys:List V} {us ws:List Value},Vals xs us->Vals ys ws->Vals (xs++ys) (us++ws)
 | _,_,_,_,.nil,s=>s
 | _,_,_,_,.cons r t,s=> .cons r (Vals.append t s)
theorem Vals.take: ∀{xs:List V} {us:List Value} (n:Nat),Vals xs us->Vals (xs.take n) (us.take n)
 | _,_,0,_=> .nil
 | _,_,_+1,.nil=> .nil
 | _,_,n+1,.cons r t=> .cons r (Vals.take n t)
theorem Vals.drop: ∀{xs:List V} {us:List Value} (n:Nat),Vals xs us->Vals (xs.drop n) (us.drop n)
 | _,_,0,r=>r
 | _,_,_+1,.nil=> .nil
 | _,_,n+1,.cons _ t=>Vals.drop n t
def nV:Option V->Option Value->Prop
 | some v,some u=>RelV v u
 | none,none=>True
 | _,_=>False
def KV{κ:Type}:List (κ × V)->List (κ × Value)->Prop:=Paired fun(p:κ × V) (q:κ × Value)=>p.1=q.1/\RelV p.2 q.2
noncomputable def kV:Key->V
 | .inl i=> .int i
 | .inr x=> .str x
def oS(h:Heap)(a:Addr)(items:Array Value):Prop:= ∃o,h.get? a=some o/\o.cls= .type "tuple"/\o.dict=none/\ ∃n,o.data= .seq items n
theorem oS.tup{h:Heap}{a:Addr}{items:Array Value}(x:oS h a items):IsTup h a items:=let ⟨o,e,c,_,d⟩:=x;⟨o,e,c,d⟩
theorem oS.lt(x:oS h a items):a < h.objs.size:=let ⟨_,e,_⟩:=x;ZW e
theorem oS.new(h:Heap)(items:Array Value):oS (h.push {cls:= .type "tuple",data:= .seq items}) h.objs.size items:=⟨_,ZP _ rfl,rfl,rfl,_,rfl⟩
inductive HO where
  | lst (xs:List V)
  | tup (xs:List V)
  | dK (aK:List (Key × V)) | dT (aK:List (List Key × V))
  | set (S:Int->Bool) (n:Nat)
  | ins (C dx:Addr) (fs:List (Str × V))
  | own (x:Addr)
  | xd (fs:List (Str × V))
  | met (f x:Addr)
  | qx (lo hi:Int)
  | lZ (o:Obj) (u:HO)
  | uE (ps:Array Value)
  | ext (φ:Heap->Prop)
abbrev Hp:=Addr->Option HO
noncomputable def upd(H:Hp)(a:Addr)(o:HO):Hp:=fun b=>if b=a then some o else H b
theorem ag:upd H a o a=some o:=by unfold upd;rw[if_pos rfl]
theorem ah(h:b≠a):upd H a o b=H b:=by unfold upd;rw[if_neg h]
theorem wY{H:Hp}(h:H a=some o)(h':H b=some u)(d:o≠u):a≠b:=by
 intro e;subst e;rw[h] at h';exact d (Option.some.inj h')
theorem ai{H:Hp}(h:H a=some o)(h':H b=none):a≠b:=by
 intro e;subst e;rw[h] at h';cases h'
noncomputable def bb:List Str:= ["_law_due"]
noncomputable def hV(x:Str):Str:=(x++(".<locals>.":Str))++("<lambda>":Str)
def pV(H:Hp)(ps es:Array Value):Prop:=TriplesOk es.toList/\ ∀pos cv,codeAmong pos es.toList=some cv->
 ∃c oc vs q t t',cv= .ref c/\H c=some (.lZ oc (.own c))/\oc.data= .fields vs/\vs[1]?=some (.str q t)/\ps[0]?=some (.str q t')
def iu(K:PySem.W.Frag)(H:Hp):Prop:= ∀x∈bb,∀c P,PySem.W.tabIn K x=some (c,P)-> ∃ps,H P=some (.uE ps)/\ps[0]?=some (.str (hV x) 0)
section
variable (P:Program) (w:World)
def a0(H:Hp)(h:Heap)(a:Addr):HO->Prop
 | .lst xs=>xs.length<=sizeLine/\ ∃(ao:List Value) (n:Nat),Vals xs ao/\h.get? a=some {cls:= .type "list",data:= .seq ao.toArray n}
 | .tup xs=>xs.length<=sizeLine/\ ∃ao:List Value,Vals xs ao/\oS h a ao.toArray
 | .dK aK=>aK.length<=sizeLine/\(a==sysModules)=false/\ ∃vs,KV aK vs/\h.DictOf (aV P w) a vs
 | .dT aK=>aK.length<=sizeLine/\(a==sysModules)=false/\ ∃xs:List (List Key × Addr × Value),
   Paired (fun(p:List Key × V) (q:List Key × Addr × Value)=>p.1=q.1/\H q.2.1=some (.tup (p.1.map kV))/\RelV p.2 q.2.2) aK xs/\
   ∃o es ep,h.get? a=some o/\o.ExactDict/\o.data= .dict es ep/\es.toList=xs.map (entryOfKey (tupleKind (aV P w)))/\(xs.map (·.1)).Nodup
 | .set S n=>h.SetOf (intKind P w) a S n
 | .ins C dx fs=>H dx=some (.own a)/\fs.length<=1000/\dx≠a/\h.get? a=some (PySem.W.instObj C dx)/\
   ∃mA,h.Ns1 dx mA/\(∀f,nV (fs.lookup f) (mA f))/\PySem.Within mA (fs.map (·.1))
 | .own _=> ∃o,h.get? a=some o
 | .xd fs=> ∃mA,h.Ns1 a mA/\ ∀f,nV (fs.lookup f) (mA f)
 | .qx lo hi=> ∃t u v,h.get? a=some {cls:= .type "range",data:= .fields #[.int lo t,.int hi u,.int 1 v]}
 | .lZ o u=>h.get? a=some o/\a0 H h a u
 | .uE ps=> ∃es,h.get? a=some (PySem.W.tabObj es)/\pV H ps es
 | .met f x=>h.get? a=some (PySem.W.methodObj (.ref f) (.ref x))
 | .ext φ=>φ h/\(∃o,h.get? a=some o)/\ ∀h1 h2:Heap,φ h1->(∀o,h1.get? a=some o->h2.get? a=some o)->φ h2
def gI(H:Hp)(h:Heap):Prop:= ∀a o,H a=some o->a0 P w H h a o
end
theorem a0.lt(x:a0 P w H h a o):a < h.objs.size:=by
 cases o with
 | lst xs=>obtain⟨_,_,_,_,e⟩:=x;exact ZW e
 | tup xs=>obtain⟨_,_,_,p⟩:=x;exact p.lt
 | dK aK=>obtain⟨_,_,_,_,o,_,_,e,_⟩:=x;exact ZW e
 | dT aK=>obtain⟨_,_,_,_,o,_,_,e,_⟩:=x;exact ZW e
 | set S n=>obtain⟨o,_,_,_,e,_⟩:=x;exact ZW e
 | ins C dx fs=>obtain⟨_,_,_,e,_⟩:=x;exact ZW e
 | own y=>obtain⟨_,e⟩:=x;exact ZW e
 | xd fs=>obtain⟨_,⟨_,_,_,e,_⟩,_⟩:=x;exact ZW e
 | qx lo hi=>obtain⟨_,_,_,e⟩:=x;exact ZW e
 | lZ ob u=>obtain⟨e,_⟩:=x;exact ZW e
 | uE ps=>obtain⟨_,e,_⟩:=x;exact ZW e
 | met f y=>exact ZW (show h.get? a=some _ from x)
 | ext φ=>obtain⟨_,⟨_,e⟩,_⟩:=x;exact ZW e
theorem Paired.JD: ∀{l₁:List α} {l₂:List β},Paired F l₁ l₂->(∀a b,F a b->G a b)->Paired G l₁ l₂
 | _,_,.nil,_=> .nil
 | _,_,.cons r t,f=> .cons (f _ _ r) (Paired.JD t f)
theorem a0.qc(x:a0 P w H h a o)(k: ∀b u,(b=a\/H b=some (.own a))->h.get? b=some u->h'.get? b=some u)
  (ho: ∀b,H b=some (.own a)->H' b=some (.own a)) (ht: ∀b xs,H b=some (.tup xs)->H' b=some (.tup xs)) (hz: ∀b o u,H b=some (.lZ o u)->H' b=some (.lZ o u):=by first | exact fun _ _ _ q=>q | exact fun _ _ _ q=>by rw[ah (ai q (by assumption))];exact q):a0 P w H' h' a o:=by
 induction o with
 | lst xs=>obtain⟨z,ao,n,r,e⟩:=x;exact⟨z,ao,n,r,k _ _ (.inl rfl) e⟩
 | tup xs=>obtain⟨z,ao,r,ob,e,c⟩:=x;exact⟨z,ao,r,ob,k _ _ (.inl rfl) e,c⟩
 | dK aK=>obtain⟨z,y,vs,r,ob,es,ep,e,c⟩:=x;exact⟨z,y,vs,r,ob,es,ep,k _ _ (.inl rfl) e,c⟩
 | dT aK=>
  obtain⟨z,y,xs,r,ob,es,ep,e,c⟩:=x;exact⟨z,y,xs,Paired.JD r fun p q z=>⟨z.1,ht _ _ z.2.1,z.2.2⟩,ob,es,ep,k _ _ (.inl rfl) e,c⟩
 | set S n=>obtain⟨ob,es,ep,t,e,c⟩:=x;exact⟨ob,es,ep,t,k _ _ (.inl rfl) e,c⟩
 | ins C dx fs=>
  obtain⟨d,z,ne,e,mA,⟨od,es,ep,e2,c⟩,r⟩:=x;exact⟨ho _ d,z,ne,k _ _ (.inl rfl) e,mA,⟨od,es,ep,k _ _ (.inr d) e2,c⟩,r⟩
 | own y=>obtain⟨ob,e⟩:=x;exact⟨ob,k _ _ (.inl rfl) e⟩
 | xd fs=>obtain⟨mA,⟨od,es,ep,e,c⟩,r⟩:=x;exact⟨mA,⟨od,es,ep,k _ _ (.inl rfl) e,c⟩,r⟩
 | qx lo hi=>obtain⟨t,u,v,e⟩:=x;exact⟨t,u,v,k _ _ (.inl rfl) e⟩
 | lZ ob u ih=>obtain⟨e,q⟩:=x;exact⟨k _ _ (.inl rfl) e,ih q⟩
 | uE ps=>
  obtain⟨es,e,tk,q⟩:=x;refine⟨es,k a _ (.inl rfl) e,tk,fun pos cv z=>?_⟩;obtain⟨c,oc,vs,q',t,t',e1,e2,e3⟩:=q pos cv z;exact⟨c,oc,vs,q',t,t',e1,hz _ _ _ e2,e3⟩
 | met f y=>
  have e:h.get? a=some (PySem.W.methodObj (.ref f) (.ref y)):=x;show h'.get? a=some (PySem.W.methodObj (.ref f) (.ref y));exact k a _ (.inl rfl) e
 | ext φ=>obtain⟨p,⟨o,e⟩,st⟩:=x;exact⟨st _ _ p fun o q=>k _ _ (.inl rfl) q,⟨o,k _ _ (.inl rfl) e⟩,st⟩
theorem gI.lt(x:gI P w H h)(e:H a=some o):a < h.objs.size:=(x a o e).lt
theorem gI.fresh(x:gI P w H h)(e:h.objs.size<=a):H a=none:=by
 cases q:H a with
 | none=>rfl
 | some u=>exact absurd (ZU (x.lt q) e) (ab5 _)
theorem gI.kept(x:gI P w H h)(k: ∀b u,h.get? b=some u->h'.get? b=some u):gI P w H h':=fun a o e=>
 (x a o e).qc (fun b u _ q=>k b u q) (fun _ q=>q) fun _ _ q=>q
theorem gI.laid(x:gI P w H h)(k: ∀b u,h.get? b=some u->h'.get? b=some u)(hp:h.objs.size<=a)(new:a0 P w (upd H a o) h' a o):gI P w (upd H a o) h':=fun b u e=>by
 have hn:=x.fresh hp;by_cases hb:b=a
 . subst hb;rw[ag] at e;cases e;exact new
 . rw[ah hb] at e;exact(x b u e).qc (fun c v _ q=>k c v q) (fun c q=>by rw[ah (ai q hn)];exact q) fun c xs q=>by rw[ah (ai q hn)];exact q
def Rd(H:Hp)(a:Addr)(u:HO):Prop:=H a=some u\/ ∃o,H a=some (.lZ o u)
theorem Rd.ok(r:Rd H a u)(x:gI P w H h):a0 P w H h a u:=by
 rcases r with r | ⟨o,r⟩
 . exact x a u r
 . obtain⟨_,q⟩:=x a _ r;exact q
def OX:Option HO->Prop
 | some (.lst _)=>True
 | some (.dK _)=>True
 | some (.dT _)=>True
 | some (.set _ _)=>True
 | some (.ins _ _ _)=>True
 | some (.ext _)=>True
 | _=>False
theorem gI.write(ok:gI P w H h)(mu:OX (H x))(he:e=x\/H e=some (.own x))(k: ∀b u,b≠e->h.get? b=some u->h'.get? b=some u)(LH: ∃u,h'.get? e=some u)
  (new:a0 P w (upd H x o') h' x o'):gI P w (upd H x o') h':=fun b u q=>by
 have MW: ∀c y,H c=some (.own y)->c≠x:=fun c y r z=>by subst z;rw[r] at mu;exact mu
 have Q6: ∀c xs,H c=some (.tup xs)->c≠x:=fun c xs r z=>by subst z;rw[r] at mu;exact mu
 have Rc: ∀c o u,H c=some (.lZ o u)->c≠x:=fun c o u r z=>by subst z;rw[r] at mu;exact mu
 by_cases hb:b=x
 . subst hb;rw[ag] at q;cases q;exact new
 . rw[ah hb] at q;by_cases Ke:b=e
   . have q' : H b = some (.own x) := by
       rcases he with z | z
       . exact absurd (Ke.trans z) hb
       . rw[Ke];exact z
     rw[q] at q';cases q';obtain⟨v,hv⟩:=LH;exact⟨v,by rw[Ke];exact hv⟩
   . refine(ok b u q).qc (fun c v hc r=>k c v ?_ r) (fun c r=>by rw[ah (MW c b r)];exact r) (fun c xs r=>by rw[ah (Q6 c xs r)];exact r) fun c o u r=>by rw[ah (Rc c o u r)];exact r
     rcases hc with rfl | hc
     . exact Ke
     . rintro rfl
       rcases he with z | z
       . exact MW c b hc z
       . rw[hc] at z;cases z;exact hb rfl
structure Un(fs ex:List Addr)(H H':Hp)(h h':Heap):Prop where
 keep: ∀b o,h.get? b=some o->H b=none->b∉fs->b∉ex->h'.get? b=some o
 slot: ∀b o,h.get? b=some o->H b=none->b∈fs->b∉ex-> ∃sl,h'.get? b=some {o with slots:=sl}
 free: ∀b o,h.get? b=some o->H b=none->b∉ex->H' b=none
 there: ∀b o,h.get? b=some o->b∉ex-> ∃o',h'.get? b=some o'
 sG: ∀b xs,H b=some (.tup xs)->H' b=some (.tup xs)
 oF: ∀b o u,H b=some (.lZ o u)->H' b=some (.lZ o u)
 oo: ∀b ps,H b=some (.uE ps)-> ∃more,H' b=some (.uE (ps++more))
section
variable{fs YH ex Y5:List Addr}{H H1 H2:Hp}{h h1 h2 h':Heap}{a x e:Addr}{o:HO}
theorem Un.any(u:Un fs ex H H1 h h1)(q:h.get? b=some ob)(n:H b=none)(hx:b∉ex): ∃sl,h1.get? b=some {ob with slots:=sl}:=by
 by_cases hb:b∈fs
 . exact u.slot b ob q n hb hx
 . exact⟨ob.slots,u.keep b ob q n hb hx⟩
theorem Un.kept(k: ∀b u,h.get? b=some u->h'.get? b=some u):Un fs ex H H h h':=
 ⟨fun b ob q _ _ _=>k b ob q,fun b ob q _ _ _=>⟨ob.slots,k b ob q⟩,fun _ _ _ n _=>n,fun b ob q _=>⟨ob,k b ob q⟩,fun _ _ q=>q,fun _ _ _ q=>q,fun _ ps q=>⟨#[],by rw[q];simp⟩⟩
theorem Un.refl:Un fs ex H H h h:=Un.kept fun _ _ q=>q
theorem Un.laid(k: ∀b u,h.get? b=some u->h'.get? b=some u)(hp:h.objs.size<=a)(hn:H a=none):Un fs ex H (upd H a o) h h' where
 keep:=fun b u q _ _ _=>k b u q
 slot:=fun b u q _ _ _=>⟨u.slots,k b u q⟩
 free:=fun b u q n _=>by rw[ah (aa8 (ZU (ZW q) hp))];exact n
 there:=fun b u q _=>⟨u,k b u q⟩
 sG:=fun b xs q=>by rw[ah (ai q hn)];exact q
 oF:=fun b u xs q=>by rw[ah (ai q hn)];exact q
 oo:=fun b ps q=>⟨#[],by rw[ah (ai q hn),q];simp⟩
theorem Un.write(mu:OX (H x))(he:e=x\/H e=some (.own x))(k: ∀b u,b≠e->h.get? b=some u->h'.get? b=some u)(LH: ∃u,h'.get? e=some u):Un fs ex H (upd H x o) h h':=by
 have hx: ∀b,H b=none->b≠x:=fun b n z=>by subst z;rw[n] at mu;exact mu
 have hb: ∀b,H b=none->b≠e:=fun b n z=>by
  subst z;rcases he with r | r
  . exact hx b n r
  . rw[n] at r;cases r
 have hm: ∀b u,H b=some u-> ¬OX (some u)->b≠x:=fun b u q nm z=>by subst z;rw[q] at mu;exact nm mu
 refine⟨fun b u q n _ _=>k b u (hb b n) q,fun b u q n _ _=>⟨u.slots,k b u (hb b n) q⟩,fun b u q n _=>by rw[ah (hx b n)];exact n,fun b u q _=>?_,
  fun b xs q=>by rw[ah (hm b _ q fun z=>z)];exact q,fun b u xs q=>by rw[ah (hm b _ q fun z=>z)];exact q,fun b ps q=>⟨#[],by rw[ah (hm b _ q fun z=>z),q];simp⟩⟩
 by_cases Ke:b=e
 . subst Ke;exact LH
 . exact⟨u,k b u Ke q⟩
end
noncomputable def yw(h:Heap)(H:Hp):List Addr:=(List.range h.objs.size).filter fun a=>(H a).isSome
noncomputable def qS(h:Heap)(H:Hp):Heap:=PySem.W.hideAll h (yw h H)
theorem ze(h:Heap)(H:Hp):(qS h H).objs.size=h.objs.size:=PySem.W.hideAll_size _ _
theorem Cr{h:Heap}(e:h.get? b=some o)(n:H b=none):(qS h H).get? b=some o:=
 PySem.W.hideAll_get _ e fun hm=>by
  have q:(H b).isSome=true:=(List.mem_filter.mp hm).2;rw[n] at q;simp at q
theorem FP(e:(qS h H).get? b=some o):h.get? b=some o/\H b=none:=by
 have e':h.get? b=some o:=PySem.W.of_hideAll (yw h H) e;refine⟨e',?_⟩;cases q:H b with
 | none=>rfl
 | some x=>
  have hm:b∈yw h H:=List.mem_filter.mpr ⟨ab3.mpr (ZW e'),by simp [q]⟩;have z:(qS h H).get? b=none:=PySem.W.hideAll_none (yw h H) hm;rw[z] at e;cases e
structure Mod(K:PySem.W.Frag)(mg:Str->Option Value)(base:Heap):Prop where
 Pn:K.In base
 glob:base.Ns mainGlobals mg
 blt: ∃mb,base.Ns builtinsNs mb/\ ∀x:Str,x≠"__name__"->mb x=bootBuiltins x
 nolimit:base.NoLimit
 bm: ∃bm ob,mg "__builtins__"=some (.ref bm)/\bm≠builtinsNs/\base.get? bm=some ob/\ob.cls= .type "module"/\ob.dict=some builtinsNs/\ob.data= .plain
structure Cx where
 prog:Program
 w:World
 K:PySem.W.Frag
 mg:Str->Option Value
 base:Heap
 A:Around
 N:List Str
 s₀:Shared
 H₀:Hp
 env:Env
 outer:List Env
 stack:List Env
 ex:List Addr
 fn:Str->Bool
 calm:Bool
 pn:List (Addr × Obj)
 xe:Value->Shared->Prop
noncomputable def kR(l:List Env):List Addr:=l.filterMap (·.frame)
noncomputable abbrev Cx.fs (X:Cx):List Addr:=kR X.outer
def PR(sc:Scope)(x:Str):Prop:=sc.names.lookup x=some .local\/sc.names.lookup x=some .cell\/sc.names.lookup x=some .free
def Loc(sc:Scope)(x:Str):Prop:=sc.names.lookup x=some .local\/sc.names.lookup x=some .cell
def Look(env:Env)(h:Heap)(m:Str->Option Value)(x:Str)(u:Value):Prop:=
 (env.kindOf x=some .local/\m x=some u)\/((env.kindOf x=some .cell\/env.kindOf x=some .free)/\ ∃c,env.cells.lookup x=some c/\h.IsCell c (some u))
structure Cx.Ok(X:Cx):Prop where
 mod:Mod X.K X.mg X.base
 kind:X.env.scope.kind= .function
 glob:X.env.globals=mainGlobals
 blt:X.env.builtins=builtinsNs
 above:X.s₀.heap.objs.size<=X.env.locals
 inj: ∀x y c,X.env.cells.lookup x=some c->X.env.cells.lookup y=some c->x=y
 has: ∀x,(X.env.kindOf x=some .cell\/X.env.kindOf x=some .free)-> ∃c,X.env.cells.lookup x=some c
 OB: ∀x c,X.fn x=true->X.env.cells.lookup x=some c->X.s₀.heap.objs.size<=c
 hd:X.calm=true->X.A.handled=none
 frames:X.A.frames=some X.stack
 Pd:X.stack=X.outer\/(X.stack=X.env::X.outer/\X.env.frame=some X.env.locals)
 HE: ∀b∈X.ex,b≠X.env.locals/\ ∀x c,X.env.cells.lookup x=some c->c≠b
 bs: ∀b o,X.base.get? b=some o->X.s₀.heap.get? b=some o/\X.H₀ b=none
 GR:X.base.objs.size<=X.s₀.heap.objs.size
 BY: ∀b o,X.base.get? b=some o->b∉X.ex
 vw: ∀b∈X.ex,b∉X.fs
 nD:X.s₀.heap.FunFrames X.base X.outer
 LJ: ∀b∈X.fs,X.H₀ b=none
 tab:iu X.K X.H₀
structure Inv(X:Cx)(pins:List (Addr × Obj))(σ:List (Option V))(H:Hp)(s:Shared):Prop where
 ok:X.Ok
 os:s.os=X.s₀.os
 bare:AllBare s.gens
 base:Un X.fs X.ex X.H₀ H X.s₀.heap s.heap
 loc: ∃m,s.heap.Ns X.env.locals m/\ ∀(i:Nat) (x:Str) (v:V),X.N[i]?=some x->σ[i]?=some (some v)->PR X.env.scope x-> ∃u,RelV v u/\Look X.env s.heap m x u
 cell: ∀x c,X.env.cells.lookup x=some c-> ∃v,s.heap.IsCell c v
 free:H X.env.locals=none
 gq: ∀x c,X.env.cells.lookup x=some c->H c=none
 pin: ∀p∈X.pn++pins,s.heap.get? p.1=some p.2/\H p.1=none/\p.1≠X.env.locals/\p.1∉X.fs/\ ∀v,p.2.data≠ .cell v
 aT:gI X.prog X.w H s.heap
 len:σ.length=X.N.length
section
variable{X:Cx}{pins:List (Addr × Obj)}{σ:List (Option V)}{H H':Hp}{s:Shared}{h':Heap}
theorem Cx.Ok.Q9(ok:X.Ok)(e:X.base.get? b=some o):b∉X.fs:=fun hb=>by
 have:=(ok.nD.mem hb).1;rw[e] at this;cases this
theorem Inv.bs(I:Inv X pins σ H s): ∀b o,X.base.get? b=some o->s.heap.get? b=some o/\H b=none:=fun b o e=>
 ⟨I.base.keep b o (I.ok.bs b o e).1 (I.ok.bs b o e).2 (I.ok.Q9 e) (I.ok.BY b o e),I.base.free b o (I.ok.bs b o e).1 (I.ok.bs b o e).2 (I.ok.BY b o e)⟩
theorem Inv.bk(I:Inv X pins σ H s): ∀b o,X.base.get? b=some o->s.heap.get? b=some o:=fun b o e=>(I.bs b o e).1
theorem iu.on{K:PySem.W.Frag}(T:iu K H)(u:Un fs ex H H' h h'):iu K H':=fun x hx c P e=>by
 obtain⟨ps,e1,e2⟩:=T x hx c P e;obtain⟨more,e3⟩:=u.oo P ps e1;refine⟨_,e3,?_⟩;have hl:0 < ps.size:=(aj8.mp e2).1;rw[Array.getElem?_append_left hl];exact e2
theorem Inv.tab(I:Inv X pins σ H s):iu X.K H:=I.ok.tab.on I.base
theorem Inv.mod(I:Inv X pins σ H s):Mod X.K X.mg X.base:=I.ok.mod
theorem Inv.pf(I:Inv X pins σ H s):X.K.In s.heap:=I.ok.mod.Pn.keeps I.bk
theorem Inv.nolimit(I:Inv X pins σ H s):s.heap.NoLimit:=I.ok.mod.nolimit.keeps I.bk
theorem Inv.lt(I:Inv X pins σ H s):X.env.locals < s.heap.objs.size:=let ⟨_,hn,_⟩:=I.loc;hn.lt
theorem Inv.sz(I:Inv X pins σ H s):X.s₀.heap.objs.size<=s.heap.objs.size:=ZZ I.ok.above (Nat.le_of_lt I.lt)
theorem Inv.MX(I:Inv X pins σ H s)(h:s.heap.objs.size<=a):a∉X.fs:=fun hb=>by
 obtain⟨_,o,ho,_⟩:=I.ok.nD.mem hb;exact absurd (ZU (ZW ho) (ZZ I.sz h)) (ab5 _)
theorem Inv.K2(I:Inv X pins σ H s): ∀x c,X.env.cells.lookup x=some c->c≠X.env.locals:=fun x c e z=>by
 obtain⟨v,o,ho,hd⟩:=I.cell x c e;obtain⟨m,⟨o',es,ep,J6,Cu,_⟩,_⟩:=I.loc;rw[z,J6] at ho;cases ho;rw[Cu] at hd;cases hd
theorem Inv.nD(I:Inv X pins σ H s):s.heap.FunFrames X.base X.outer:=by
 have all: ∀(l:List Env),(∀b∈kR l,b∈X.fs)->X.s₀.heap.FunFrames X.base l->s.heap.FunFrames X.base l:=by
  intro l;induction l with
  | nil=>intro _ _;trivial
  | cons env r ih=>
   intro hs hl;obtain⟨hk,⟨L,o,hf,hn,ho,hd⟩,hr⟩:=hl;have hL:L∈X.fs:=hs L (by unfold kR;rw[am2,hf];exact ZI);obtain⟨sl,e⟩:=I.base.slot L o ho (I.ok.LJ L hL) hL fun z=>I.ok.vw L z hL;exact⟨hk,⟨L,_,hf,hn,e,hd⟩,ih (fun b hb=>hs b (by unfold kR;rw[am2,hf];exact ZF _ hb)) hr⟩
 exact all X.outer (fun _ hb=>hb) I.ok.nD
theorem Inv.stack(I:Inv X pins σ H s):s.heap.FunFrames X.base X.stack:=by
 rcases I.ok.Pd with e | ⟨e,hf⟩
 . rw[e];exact I.nD
 . rw[e];obtain⟨m,hn,_⟩:=I.loc;refine .cons (by rw[I.ok.kind];decide) hf hn ?_ I.nD;exact Heap.get?_none_of_le (ZZ I.ok.GR I.ok.above)
theorem Inv.p8(I:Inv X pins σ H s): ∀b∈kR X.stack,b∈X.env.locals::X.fs:=fun b hb=>by
 rcases I.ok.Pd with e | ⟨e,hf⟩
 . rw[e] at hb;exact ZF _ hb
 . rw[e] at hb;unfold kR at hb;rw[am2,hf] at hb;exact hb
theorem Inv.p9(I:Inv X pins σ H s): ∀b∈kR X.stack,H b=none:=fun b hb=>by
 rcases ZR.mp (I.p8 b hb) with e | hb
 . rw[e];exact I.free
 . obtain⟨_,o,ho,_⟩:=I.ok.nD.mem hb;exact I.base.free b o ho (I.ok.LJ b hb) fun z=>I.ok.vw b z hb
theorem Inv.step{g':Array GenState}{t':Nat}{d':Drawn}{ch:List Addr}(I:Inv X pins σ H s)
  (Et: ∀b∈ch,(b∈X.ex\/X.s₀.heap.objs.size<=b)/\b≠X.env.locals/\(∀x c,X.env.cells.lookup x=some c->c≠b)/\ ∀p∈X.pn++pins,p.1≠b)
  (keep: ∀b o,b≠X.env.locals->b∉X.fs->b∉ch->s.heap.get? b=some o->H b=none->h'.get? b=some o)
  (slot: ∀b o,b≠X.env.locals->b∈X.fs->b∉ch->s.heap.get? b=some o->H b=none-> ∃sl,h'.get? b=some {o with slots:=sl}) (free: ∀b o,b∉ch->s.heap.get? b=some o->H b=none->H' b=none)
  (there: ∀b o,b∉ch->s.heap.get? b=some o-> ∃o',h'.get? b=some o')
  (sG: ∀b xs,H b=some (.tup xs)->H' b=some (.tup xs)) (oF: ∀b o u,H b=some (.lZ o u)->H' b=some (.lZ o u)) (oo: ∀b ps,H b=some (.uE ps)-> ∃more,H' b=some (.uE (ps++more)))
  (ns: ∀m,s.heap.Ns X.env.locals m->h'.Ns X.env.locals m) (aT:gI X.prog X.w H' h') (hg:AllBare g'):
  Inv X pins σ H' {s with heap:=h',gens:=g',drawn:=d',toks:=t'}:=by
 have Uk: ∀b o,X.s₀.heap.get? b=some o->b≠X.env.locals:=fun b o e=>aa8 (ZU (ZW e) I.ok.above);have Pk: ∀b o,X.s₀.heap.get? b=some o->b∉X.ex->b∉ch:=fun b o e hx hb=>by
  rcases(Et b hb).1 with z | z
  . exact hx z
  . exact absurd (ZU (ZW e) z) (ab5 _)
 have cellK: ∀x c,X.env.cells.lookup x=some c-> ∀v,s.heap.IsCell c v->h'.IsCell c v:=fun x c e v ck=>(by obtain⟨o,ho,hd⟩:=ck;exact(by
  have M5:c∉ch:=fun z=>(Et c z).2.2.1 x c e rfl;by_cases hc:c∈X.fs
  . obtain⟨sl,q⟩:=slot c o (I.K2 x c e) hc M5 ho (I.gq x c e);exact⟨_,q,hd⟩
  . exact⟨o,keep c o (I.K2 x c e) hc M5 ho (I.gq x c e),hd⟩))
 refine⟨I.ok,I.os,hg,⟨fun b o e n hb hx=>?_,fun b o e n hb hx=>?_,fun b o e n hx=>?_,fun b o e hx=>?_,fun b xs e=>sG b xs (I.base.sG b xs e),fun b o xs e=>oF b o xs (I.base.oF b o xs e),fun b ps e=>?_⟩,?_,fun x c e=>?_,?_,fun x c e=>?_,fun p hp=>?_,aT,I.len⟩
 . exact keep b o (Uk b o e) hb (Pk b o e hx) (I.base.keep b o e n hb hx) (I.base.free b o e n hx)
 . obtain⟨sl,e1⟩:=I.base.slot b o e n hb hx;obtain⟨V0,e2⟩:=slot b _ (Uk b o e) hb (Pk b o e hx) e1 (I.base.free b o e n hx);exact⟨V0,e2⟩
 . obtain⟨o',e1⟩:=I.base.there b o e hx;exact free b o' (Pk b o e hx) e1 (I.base.free b o e n hx)
 . obtain⟨o',e1⟩:=I.base.there b o e hx;exact there b o' (Pk b o e hx) e1
 . obtain⟨m1,e1⟩:=I.base.oo b ps e;obtain⟨m2,e2⟩:=oo b _ e1;exact⟨m1++m2,by rw[e2,Array.append_assoc]⟩
 . obtain⟨m,hn,hl⟩:=I.loc;refine⟨m,ns m hn,fun i x v e1 e2 e3=>?_⟩;obtain⟨u,r,l⟩:=hl i x v e1 e2 e3;refine⟨u,r,?_⟩;rcases l with l | ⟨k,c,e,z⟩
   . exact .inl l
   . exact .inr ⟨k,c,e,cellK x c e _ z⟩
 . obtain⟨v,z⟩:=I.cell x c e;exact⟨v,cellK x c e v z⟩
 . obtain⟨m,⟨o,_,_,ho,_⟩,_⟩:=I.loc;exact free _ o (fun z=>(Et _ z).2.1 rfl) ho I.free
 . obtain⟨v,o,ho,hd⟩:=I.cell x c e;exact free c o (fun z=>(Et c z).2.2.1 x c e rfl) ho (I.gq x c e)
 . obtain⟨e,n,ne,nf,d⟩:=I.pin p hp;have M5:p.1∉ch:=fun z=>(Et p.1 z).2.2.2 p hp rfl;exact⟨keep p.1 p.2 ne nf M5 e n,free p.1 p.2 M5 e n,ne,nf,d⟩
theorem Inv.un(I:Inv X pins σ H s)(u:Un X.fs [] H H' s.heap h')(aT:gI X.prog X.w H' h'):Inv X pins σ H' {s with heap:=h',toks:=t'}:=by
 obtain⟨m,⟨o,es,ep,ho,r⟩,_⟩:=id I.loc;obtain⟨sl,hL⟩:=u.any ho I.free (by simp);exact I.step (g':=s.gens) (d':=s.drawn) (ch:= []) (fun _ z=>nomatch z) (fun b o _ hb _ e n=>u.keep b o e n hb (by simp)) (fun b o _ hb _ e n=>u.slot b o e n hb (by simp)) (fun b o _ e n=>u.free b o e n (by simp)) (fun b o _ e=>u.there b o e (by simp)) u.sG u.oF u.oo (fun m' hm=>by
  obtain⟨o',HF,SD,J6,r'⟩:=hm;rw[ho] at J6;cases J6;exact⟨_,HF,SD,hL,r'⟩) aT I.bare
theorem Inv.call(I:Inv X pins σ H s)(u:Un (kR X.stack) ch H H' s.heap h')(aT:gI X.prog X.w H' h')(hg:AllBare g')(Et: ∀b∈ch,(b∈X.ex\/X.s₀.heap.objs.size<=b)/\b≠X.env.locals/\(∀x c,X.env.cells.lookup x=some c->c≠b)/\ ∀p∈X.pn++pins,p.1≠b):
  Inv X pins σ H' {s with heap:=h',gens:=g',drawn:=d',toks:=t'}:=by
 obtain⟨m,⟨o,es,ep,ho,r⟩,_⟩:=id I.loc;obtain⟨sl,hL⟩:=u.any ho I.free fun z=>(Et _ z).2.1 rfl;exact I.step (ch:=ch) Et (fun b o hL hb hc e n=>u.keep b o e n (fun z=>(ZR.mp (I.p8 b z)).elim hL hb) hc) (fun b o _ _ hc e n=>u.any e n hc) (fun b o hc e n=>u.free b o e n hc) (fun b o hc e=>u.there b o e hc) u.sG u.oF u.oo (fun m' hm=>by
  obtain⟨o',HF,SD,J6,r'⟩:=hm;rw[ho] at J6;cases J6;exact⟨_,HF,SD,hL,r'⟩) aT hg
theorem Inv.turned(I:Inv X pins σ H s)(k: ∀b o,b≠it->s.heap.get? b=some o->h'.get? b=some o)(hn:H it=none)(hL:it≠X.env.locals)(h1:it∈X.ex\/X.s₀.heap.objs.size<=it)(h2: ∀x c,X.env.cells.lookup x=some c->c≠it)(h3: ∀p∈X.pn++pins,p.1≠it):Inv X pins σ H {s with heap:=h',toks:=t'}:=by
 have Uj: ∀b u,H b=some u->b≠it:=fun b u e z=>by rw[z,hn] at e;cases e
 refine I.step (g':=s.gens) (d':=s.drawn) (ch:= [it]) (fun b hb=>?_) (fun b o _ _ hc e _=>k b o (fun z=>hc (by simp [z])) e) (fun b o _ _ hc e _=>⟨o.slots,k b o (fun z=>hc (by simp [z])) e⟩) (fun _ _ _ _ n=>n)
  (fun b o hc e=>⟨o,k b o (fun z=>hc (by simp [z])) e⟩) (fun _ _ e=>e) (fun _ _ _ e=>e) (fun b ps e=>⟨#[],by rw[e];simp⟩) (fun m hm=>?_) (fun b u e=>?_) I.bare
 . have e:b=it:=by simpa using hb
   subst e;exact⟨h1,hL,h2,h3⟩
 . obtain⟨o,es,ep,ho,r⟩:=hm;exact⟨o,es,ep,k _ o (Ne.symm hL) ho,r⟩
 . refine(I.aT b u e).qc (fun c v hc q=>k c v ?_ q) (fun _ q=>q) fun _ _ q=>q;rcases hc with z | z
   . rw[z];exact Uj b u e
   . exact Uj c _ z
theorem Inv.tok(I:Inv X pins σ H s)(t:Nat):Inv X pins σ H {s with toks:=t}:=I.un (h':=s.heap) (t':=t) Un.refl I.aT
theorem Inv.kept(I:Inv X pins σ H s)(k: ∀b u,s.heap.get? b=some u->h'.get? b=some u):Inv X pins σ H {s with heap:=h',toks:=t'}:=I.un (Un.kept k) (I.aT.kept k)
theorem Inv.laid(I:Inv X pins σ H s)(k: ∀b u,s.heap.get? b=some u->h'.get? b=some u)(hp:s.heap.objs.size<=a)(new:a0 X.prog X.w (upd H a o) h' a o):
  Inv X pins σ (upd H a o) {s with heap:=h',toks:=t'}:=I.un (Un.laid k hp (I.aT.fresh hp)) (I.aT.laid k hp new)
theorem Inv.write(I:Inv X pins σ H s)(mu:OX (H x))(he:e=x\/H e=some (.own x))(k: ∀b u,b≠e->s.heap.get? b=some u->h'.get? b=some u)(LH: ∃u,h'.get? e=some u)(new:a0 X.prog X.w (upd H x o) h' x o):Inv X pins σ (upd H x o) {s with heap:=h',toks:=t'}:=I.un (Un.write mu he k LH) (I.aT.write mu he k LH new)
theorem Inv.weak{σ':List (Option V)}(I:Inv X pins σ H s)(hl:σ'.length=σ.length)(w: ∀(i:Nat) v,σ'[i]?=some (some v)->σ[i]?=some (some v)):Inv X pins σ' H s:=
 ⟨I.ok,I.os,I.bare,I.base,let ⟨m,hn,F8⟩:=I.loc;⟨m,hn,fun i x v e1 e2 e3=>F8 i x v e1 (w i v e2) e3⟩,I.cell,I.free,I.gq,I.pin,I.aT,hl.trans I.len⟩
theorem Inv.wU(I:Inv X pins σ H s)(h: ∀p∈MI,s.heap.get? p.1=some p.2/\H p.1=none/\p.1≠X.env.locals/\p.1∉X.fs/\ ∀v,p.2.data≠ .cell v):Inv X MI σ H s:=
 ⟨I.ok,I.os,I.bare,I.base,I.loc,I.cell,I.free,I.gq,fun p hp=>(aa7.mp hp).elim (fun z=>I.pin p (af1 _ z)) (h p),I.aT,I.len⟩
theorem tu{N:List Str}(hN:N.Nodup){i j:Nat}(a:N[i]?=some x)(b:N[j]?=some x):i=j:=by
 obtain⟨h1,e1⟩:=Zw.mp a;obtain⟨h2,e2⟩:=Zw.mp b;exact(List.getElem_inj hN).mp (e1.trans e2.symm)
theorem o4(I:Inv X pins σ H s)(hN:X.N.Nodup)(hi:X.N[i]?=some x)(hx:Loc X.env.scope x)(r:RelV v u)(h: ∀s',Inv X pins (σ.set i (some v)) H s'->(∃a,Heap.SameBut a s.heap s'.heap/\(a=X.env.locals\/X.env.cells.lookup x=some a))->Q () s')(hf:X.fn x=true\/X.env.scope.names.lookup x=some .local:=by first | exact .inl rfl | exact .inr rfl | assumption):wpAny M A (storeName X.env x u) Q E s:=by
 obtain⟨m,hn,hl⟩:=id I.loc;have R8:(X.env.scope.kind== .class || (X.env.scope.kind== .module && X.env.locals !=X.env.globals))=false:=by rw[I.ok.kind];rfl
 have NC:i < σ.length:=by rw[I.len];exact(Zw.mp hi).1
 have K2:=I.K2;have tracked: ∀{a:Addr} {h':Heap},(∃o,s.heap.get? a=some o/\H a=none)->Heap.SameBut a s.heap h'->gI X.prog X.w H h':=fun{a h'} ha hs b ob e=>by
  obtain⟨_,_,iN⟩:=ha;refine(I.aT b ob e).qc (fun c w' hc q=>(hs.2 c ?_).trans q) (fun _ q=>q) fun _ _ q=>q;rintro rfl
  rcases hc with rfl | hc
  . rw[iN] at e;cases e
  . rw[iN] at hc;cases hc
 rcases hx with hk | hk
 . refine wpAny_storeName_local hk hn (fun h' WL hs=>?_) R8;obtain⟨oL,_,_,WI,_⟩:=id hn;refine h _ ⟨I.ok,I.os,I.bare,⟨fun b o e n hb hx=>?_,fun b o e n hb hx=>?_,I.base.free,fun b o e hx=>?_,I.base.sG,I.base.oF,I.base.oo⟩,⟨_,WL,fun j y v' e1 e2 e3=>?_⟩,fun y c e=>?_,I.free,I.gq,fun p hp=>?_,tracked ⟨oL,WI,I.free⟩ hs,by simpa using I.len⟩ ⟨_,hs, .inl rfl⟩
   . exact(hs.2 b (aa8 (ZU (ZW e) I.ok.above))).trans (I.base.keep b o e n hb hx)
   . obtain⟨sl,e1⟩:=I.base.slot b o e n hb hx;exact⟨sl,(hs.2 b (aa8 (ZU (ZW e) I.ok.above))).trans e1⟩
   . obtain⟨o',e1⟩:=I.base.there b o e hx;exact⟨o',(hs.2 b (aa8 (ZU (ZW e) I.ok.above))).trans e1⟩
   . by_cases hj:j=i
     . subst hj;rw[hi] at e1;cases e1;rw[ZN NC] at e2;cases e2;exact⟨u,r,.inl ⟨hk,by simp⟩⟩
     . rw[ZE (Ne.symm hj)] at e2;obtain⟨u',r',q⟩:=hl j y v' e1 e2 e3;refine⟨u',r',?_⟩;rcases q with ⟨k,e⟩ | ⟨k,c,e,z⟩
       . refine .inl ⟨k,?_⟩;have:y≠x:=fun e=>hj (tu hN e1 (e▸hi));simp [this,e]
       . exact .inr ⟨k,c,e,z.sameBut hs (K2 y c e)⟩
   . obtain⟨w',z⟩:=I.cell y c e;exact⟨w',z.sameBut hs (K2 y c e)⟩
   . obtain⟨e,n,ne,nf,d⟩:=I.pin p hp;exact⟨(hs.2 p.1 ne).trans e,n,ne,nf,d⟩
 . have F9 : X.fn x = true := by
     rcases hf with z | z
     . exact z
     . rw[z] at hk;cases hk
   obtain⟨c,hc⟩:=I.ok.has x (.inl hk);obtain⟨w',z⟩:=I.cell x c hc;refine wpAny_storeName_cell I.ok.kind hk hc z (fun h' Ew hs=>?_);obtain⟨oc,Nr,RS⟩:=id z;refine h {s with heap:=h'} ⟨I.ok,I.os,I.bare,⟨fun b o e n hb hx=>?_,fun b o e n hb hx=>?_,I.base.free,fun b o e hx=>?_,I.base.sG,I.base.oF,I.base.oo⟩,⟨m,hn.sameBut hs (Ne.symm (K2 x c hc)),fun j y v' e1 e2 e3=>?_⟩,fun y c' e=>?_,I.free,I.gq,fun p hp=>?_,tracked ⟨oc,Nr,I.gq x c hc⟩ hs,by simpa using I.len⟩ ⟨c,hs,.inr hc⟩
   . exact(hs.2 b (aa8 (ZU (ZW e) (I.ok.OB x c F9 hc)))).trans (I.base.keep b o e n hb hx)
   . obtain⟨sl,e1⟩:=I.base.slot b o e n hb hx;exact⟨sl,(hs.2 b (aa8 (ZU (ZW e) (I.ok.OB x c F9 hc)))).trans e1⟩
   . obtain⟨o',e1⟩:=I.base.there b o e hx;exact⟨o',(hs.2 b (aa8 (ZU (ZW e) (I.ok.OB x c F9 hc)))).trans e1⟩
   . by_cases hj:j=i
     . subst hj;rw[hi] at e1;cases e1;rw[ZN NC] at e2;cases e2;exact⟨u,r,.inr ⟨.inl hk,c,hc,Ew⟩⟩
     . rw[ZE (Ne.symm hj)] at e2;obtain⟨u',r',q⟩:=hl j y v' e1 e2 e3;refine⟨u',r',?_⟩;rcases q with q | ⟨k,c',e,z'⟩
       . exact .inl q
       . refine .inr ⟨k,c',e,z'.sameBut hs ?_⟩;rintro rfl
         exact hj (tu hN e1 (I.ok.inj _ _ _ e hc▸hi))
   . by_cases UE:c'=c
     . subst UE;exact⟨_,Ew⟩
     . obtain⟨w2,z2⟩:=I.cell y c' e;exact⟨w2,z2.sameBut hs UE⟩
   . obtain⟨e,n,ne,nf,d⟩:=I.pin p hp;refine⟨(hs.2 p.1 ?_).trans e,n,ne,nf,d⟩;intro q;rw[q,Nr] at e;have q':oc=p.2:=Option.some.inj e;exact d w' (by rw[<-q'];exact RS)
theorem jv(I:Inv X pins σ H s)(hN:X.N.Nodup)(hi:X.N[i]?=some x)(hx:Loc X.env.scope x)(r:RelV v u)(h: ∀s',Inv X pins (σ.set i (some v)) H s'->Q () s')(hf:X.fn x=true\/X.env.scope.names.lookup x=some .local:=by first | exact .inl rfl | exact .inr rfl | assumption):wpAny M A (storeName X.env x u) Q E s:=
 o4 I hN hi hx r (fun s' I' _=>h s' I') hf
theorem Inv.xW{s':Shared}(I:Inv X pins σ H s)(ho:s'.os=s.os)(u:Un (kR X.stack) ch H H' s.heap s'.heap)(aT:gI X.prog X.w H' s'.heap)(hg:AllBare s'.gens)(Et: ∀b∈ch,(b∈X.ex\/X.s₀.heap.objs.size<=b)/\b≠X.env.locals/\(∀x c,X.env.cells.lookup x=some c->c≠b)/\ ∀p∈X.pn++pins,p.1≠b):Inv X pins σ H' s':=by
 obtain⟨h',g',d',t',o'⟩:=s';have e:o'=s.os:=ho;subst e;exact I.call (g':=g') (t':=t') (d':=d') u aT hg Et
end
abbrev XK:=Value->Option Addr->Hp->Prop
abbrev St:=List (Option V)
abbrev VK:=V->Hp->Prop
abbrev TE:=St->Hp->VK->Prop
abbrev TT:=St->Hp->(Bool->Hp->Prop)->Prop
abbrev TA:=St->Hp->(List V->Hp->Prop)->Prop
structure Ends where
 nx:St->Hp->Prop
 rt:VK
 bk:St->Hp->Prop:=fun _ _=>False
 ct:St->Hp->Prop:=fun _ _=>False
abbrev TS:=Ends->St->Hp->Prop
inductive EP(X:Cx)(pins:List (Addr × Obj))(σ:St)(Q:VK)(u:Value)(s':Shared):Prop
 | mk (v:V) (H':Hp) (h1:Inv X pins σ H' s') (h2:RelV v u) (h3:Q v H')
inductive TP(X:Cx)(pins:List (Addr × Obj))(σ:St)(Q:Bool->Hp->Prop)(b:Bool)(s':Shared):Prop
 | mk (H':Hp) (h1:Inv X pins σ H' s') (h2:Q b H')
inductive AP(X:Cx)(pins:List (Addr × Obj))(σ:St)(Q:List V->Hp->Prop)(us:List Value)(s':Shared):Prop
 | mk (vs:List V) (H':Hp) (h1:Inv X pins σ H' s') (h2:Vals vs us) (h3:Q vs H')
inductive ON(X:Cx)(pins:List (Addr × Obj))(P:St->Hp->Prop)(s':Shared):Prop
 | mk (σ':St) (H':Hp) (h1:Inv X pins σ' H' s') (h2:P σ' H')
inductive XO(X:Cx)(pins:List (Addr × Obj))(P:VK)(u:Value)(s':Shared):Prop
 | mk (v:V) (σ':St) (H':Hp) (h1:Inv X pins σ' H' s') (h2:RelV v u) (h3:P v H')
def SP(X:Cx)(pins:List (Addr × Obj))(D:Ends)(f:Flow)(s':Shared):Prop:=
 match f with
 | .next=>ON X pins D.nx s'
 | .brk=>ON X pins D.bk s'
 | .cont=>ON X pins D.ct s'
 | .ret u=>XO X pins D.rt u s'
def PE(X:Cx)(e:Expr)(t:TE):Prop:=
 ∀(pins:List (Addr × Obj)) (s:Shared) (σ:St) (H:Hp) (Q:VK),Inv X pins σ H s->t σ H Q->wpAny (model X.prog X.w) X.A (eval e X.env) (EP X pins σ Q) X.xe s
def PT(X:Cx)(e:Expr)(t:TT):Prop:=
 ∀(pins:List (Addr × Obj)) (s:Shared) (σ:St) (H:Hp) (Q:Bool->Hp->Prop),Inv X pins σ H s->t σ H Q->wpAny (model X.prog X.w) X.A (isTrue e X.env (eval e X.env)) (TP X pins σ Q) X.xe s
def PW(X:Cx)(e:Expr)(t:TT):Prop:=
 ∀(whole:Sem Value) (pins:List (Addr × Obj)) (s:Shared) (σ:St) (H:Hp) (Q:Bool->Hp->Prop),Inv X pins σ H s->t σ H Q->wpAny (model X.prog X.w) X.A (isTrue e X.env whole) (TP X pins σ Q) X.xe s
theorem PW.pt(h:PW X e t):PT X e t:=h _
def PA(X:Cx)(es:List Expr)(t:TA):Prop:=
 ∀(pos:Pos) (pins:List (Addr × Obj)) (s:Shared) (σ:St) (H:Hp) (Q:List V->Hp->Prop),Inv X pins σ H s->t σ H Q->wpAny (model X.prog X.w) X.A (spliced (backTo pos (starEach es X.env))) (AP X pins σ Q) X.xe s
def PS(X:Cx)(st:Stmt)(t:TS):Prop:=
 ∀(pins:List (Addr × Obj)) (s:Shared) (σ:St) (H:Hp) (D:Ends),Inv X pins σ H s->t D σ H->wpAny (model X.prog X.w) X.A (exec st X.env) (SP X pins D) X.xe s
def pW(X:Cx)(st:List Stmt)(t:TS):Prop:=
 ∀(pins:List (Addr × Obj)) (s:Shared) (σ:St) (H:Hp) (D:Ends),Inv X pins σ H s->t D σ H->wpAny (model X.prog X.w) X.A (execs st X.env) (SP X pins D) X.xe s
theorem aU(h:wpAny M A t Q E s)(hQ: ∀a s,Q a s->Q' a s):wpAny M A t Q' E s:=Z6 h hQ fun _ _ x=>x
section
variable{X:Cx}
def gy(i:Nat):TE:=fun σ H Q=> ∃v,σ[i]?=some (some v)/\Q v H
def tC(v:V):TE:=fun _ H Q=>Q v H
theorem Bw(hN:X.N[i]?=some x)(hv:PR X.env.scope x)(hd:(x==("__debug__":Str))=false:=by decide)(tR:(x==("__classdict__":Str))=false:=by decide):PE X (.Name x pos) (gy i):=by
 intro pins s σ H Q I h;obtain⟨v,e,h⟩:=h;obtain⟨m,hn,hl⟩:=I.loc;obtain⟨u,r,l⟩:=hl i x v hN e hv;have fin:EP X pins σ Q u s:=⟨v,H,I,r,h⟩
 rcases l with ⟨hk,hm⟩ | ⟨hk,c,hc,kQ⟩
 . exact wpAny_Name (wpAny_loadName_local I.ok.kind hk hn hm fin) hd
 . rcases hk with hk | hk
   . exact wpAny_Name (wpAny_loadName_cell I.ok.kind hk hc kQ fin) hd
   . exact wpAny_Name (wpAny_loadName_free I.ok.kind hk hc kQ fin tR) hd
theorem bX{i j pos}:PE X (.Constant (.int i) j pos) (tC (.int i)):=fun _ _ _ H _ I h=>wpAny_Constant_int ⟨.int i,H,I.tok _,⟨_,rfl⟩,h⟩
theorem MK{b j pos}:PE X (.Constant (.bool b) j pos) (tC (.bl b)):=fun _ _ _ H _ I h=>Constant_bool ⟨.bl b,H,I,rfl,h⟩
theorem By{j pos}:PE X (.Constant .none j pos) (tC .aD):=fun _ _ _ H _ I h=>Constant_none ⟨.aD,H,I,rfl,h⟩
theorem iX{x j pos}:PE X (.Constant (.str x) j pos) (tC (.str x)):=fun _ _ _ H _ I h=>Calls.Constant_str ⟨.str x,H,I.tok _,⟨_,rfl⟩,h⟩
def Gl(X:Cx)(x:Str):Prop:=X.env.kindOf x=some .globalImplicit
theorem qL(I:Inv X pins σ H s)(hg:Gl X x)(hm:X.mg x=some u)(h:Q u s)(hd:(x==("__debug__":Str))=false:=by decide):wpAny (model X.prog X.w) X.A (eval (.Name x pos) X.env) Q E s:=
 Calls.Name_function_global I.ok.kind hg (Calls.loadGlobal_global (by rw[I.ok.glob];exact I.mod.glob.keeps I.bk) hm h) hd
theorem eC(I:Inv X pins σ H s)(hg:Gl X x)(hm:X.mg x=none)(hv:bootBuiltins x=some u)(h:Q u s)(hn:x≠"__name__":=by decide)(hd:(x==("__debug__":Str))=false:=by decide):wpAny (model X.prog X.w) X.A (eval (.Name x pos) X.env) Q E s:=by
 obtain⟨mb,h1,h2⟩:=I.mod.blt;exact Calls.Name_function_global I.ok.kind hg (Calls.loadGlobal_builtin (by rw[I.ok.glob];exact I.mod.glob.keeps I.bk) hm (by rw[I.ok.blt];exact h1.keeps I.bk) ((h2 x hn).trans hv) h) hd
theorem Fq(hg:Gl X x)(hm:X.mg x=some u)(r:RelV v u)(hd:(x==("__debug__":Str))=false:=by decide):PE X (.Name x pos) (tC v):=
 fun _ _ _ H _ I h=>qL I hg hm ⟨v,H,I,r,h⟩ hd
theorem aJ(hg:Gl X x)(hm:X.mg x=none)(hv:bootBuiltins x=some u)(r:RelV v u)(hn:x≠"__name__":=by decide)(hd:(x==("__debug__":Str))=false:=by decide):PE X (.Name x pos) (tC v):=
 fun _ _ _ H _ I h=>eC I hg hm hv ⟨v,H,I,r,h⟩ hn hd
variable{a b:Expr}{ta tb:TE}{pos:Pos}
def PC(X:Cx)(op:CmpOp)(a b:Expr)(t:TE):Prop:=
 ∀(pins:List (Addr × Obj)) (s:Shared) (σ:St) (H:Hp) (Q:VK),Inv X pins σ H s->t σ H Q->
  wpAny (model X.prog X.w) X.A (eval a X.env) (fun v s₁=>wpAny (model X.prog X.w) X.A (eval b X.env) (fun u s₂=>wpAny (model X.prog X.w) X.A (compareOp op v u) (EP X pins σ Q) X.xe s₂) X.xe s₁) X.xe s
theorem tx(b:Expr)(h:op≠ .In)(h2:op≠ .NotIn):behindInMarks op b=false:=by
 have e1:(op==CmpOp.In)=false:=by cases op <;> first | rfl | exact absurd rfl h
 have e2:(op==CmpOp.NotIn)=false:=by cases op <;> first | rfl | exact absurd rfl h2
 cases b <;> simp [behindInMarks,e1,e2]
def Mj(ta:TE):TE:=fun σ H Q=>ta σ H fun x H1=>Q (.bl (decide (x= .aD))) H1
def G6(ta:TE):TE:=fun σ H Q=>ta σ H fun x H1=>Q (.bl (!decide (x= .aD))) H1
theorem RelV.tq(r:RelV x v):(v==Value.none)=decide (x= .aD):=by
 cases x with
 | aD=>cases r;rfl
 | bl _=>cases r;rfl
 | int _=>obtain⟨t,rfl⟩:=r;rfl
 | str _=>obtain⟨t,rfl⟩:=r;rfl
 | xX _=>obtain⟨t,rfl⟩:=r;rfl
 | zV _=>obtain⟨t,rfl⟩:=r;rfl
 | ref _=>cases r;rfl
 | ty _=>cases r;rfl
theorem BF{j pos'}(ha:PE X a ta):PC X .Is a (.Constant .none j pos') (Mj ta):=by
 intro pins s σ H Q I h;refine aU (ha pins s σ H _ I h) fun v s1 iP=>?_;obtain⟨x,H1,I1,r1,q1⟩:=iP;exact Constant_none (is_none_gen ⟨.bl _,H1,I1,by rw[r1.tq];rfl,q1⟩)
theorem Fw{j pos'}(ha:PE X a ta):PC X .IsNot a (.Constant .none j pos') (G6 ta):=by
 intro pins s σ H Q I h;refine aU (ha pins s σ H _ I h) fun v s1 kZ=>?_;obtain⟨x,H1,I1,r1,q1⟩:=kZ;exact Constant_none (isnot_none_gen ⟨.bl _,H1,I1,by rw[r1.tq];rfl,q1⟩)
def tB(t:TE):TT:=fun σ H Q=>t σ H fun x H1=> ∃c,x= .bl c/\Q c H1
theorem Jt(h:PC X op a b t)(h1:behindInMarks op b=false:=by first | exact tx _ (by decide) (by decide) | rfl):PE X (.Compare a [op] [b] pos) t:=fun pins s σ H Q I hw=>wpAny_Compare1 (h pins s σ H Q I hw) h1
theorem Bi(h:PC X op a b t)(h1:behindInMarks op b=false:=by first | exact tx _ (by decide) (by decide) | rfl):PT X (.Compare a [op] [b] pos) (tB t):=by
 intro pins s σ H Q I hw;refine wpAny_isTrue_Compare1 (aU (h pins s σ H _ I hw) fun v s1 h1=>aU h1 fun u s2 h2=>aU h2 fun c s3 j7=>?_) h1;obtain⟨x,H1,I1,r1,q1⟩:=j7;obtain⟨d,rfl,q⟩:=q1;cases r1;exact ah1 ⟨H1,I1,q⟩
theorem Jk(h:PE X e t)(he: ∀whole,isTrue e X.env whole=(do let v<-whole;standAt e.pos;holding [v] (truthy v)):=by intro _;rfl):PT X e (tB t):=by
 intro pins s σ H Q I hw;refine isTrue_plain (aU (h pins s σ H _ I hw) fun v s1 oi=>?_) (he _);obtain⟨x,H1,I1,r1,q1⟩:=oi;obtain⟨d,rfl,q⟩:=q1;cases r1;exact ah1 ⟨H1,I1,q⟩
variable{tA Pc:TT}{rest:List Expr}
def QS(t u:TT):TT:=fun σ H Q=>t σ H fun c H1=>if c=true then u σ H1 Q else Q false H1
def VS(t u:TT):TT:=fun σ H Q=>t σ H fun c H1=>if c=true then Q true H1 else u σ H1 Q
def QM(t:TT):TT:=fun σ H Q=>t σ H fun c H1=>Q (!c) H1
theorem pw_and1(ha:PT X a tA):PW X (.BoolOp .And [a] pos) tA:=by
 intro wh pins s σ H Q I h;refine isTrue_and (aU (ha pins s σ H Q I h) fun c s1 e=>?_);cases c with
 | true=>exact isTrue_and_nil e
 | false=>exact e
theorem pw_or1(ha:PT X a tA):PW X (.BoolOp .Or [a] pos) tA:=by
 intro wh pins s σ H Q I h;refine isTrue_or (aU (ha pins s σ H Q I h) fun c s1 e=>?_);cases c with
 | false=>exact isTrue_or_nil e
 | true=>exact e
theorem pw_and(ha:PT X a tA)(hb:PW X (.BoolOp .And (b::rest) pos) Pc):PW X (.BoolOp .And (a::b::rest) pos) (QS tA Pc):=by
 intro wh pins s σ H Q I h;refine isTrue_and (aU (ha pins s σ H _ I h) fun c s1 pX=>?_);obtain⟨H1,I1,q1⟩:=pX;cases c with
 | true=>exact hb wh pins s1 σ H1 Q I1 q1
 | false=>exact⟨H1,I1,q1⟩
theorem pw_or(ha:PT X a tA)(hb:PW X (.BoolOp .Or (b::rest) pos) Pc):PW X (.BoolOp .Or (a::b::rest) pos) (VS tA Pc):=by
 intro wh pins s σ H Q I h;refine isTrue_or (aU (ha pins s σ H _ I h) fun c s1 oh=>?_);obtain⟨H1,I1,q1⟩:=oh;cases c with
 | true=>exact⟨H1,I1,q1⟩
 | false=>exact hb wh pins s1 σ H1 Q I1 q1
theorem Jl(ha:PT X a tA):PT X (.UnaryOp .Not a pos) (QM tA):=by
 intro pins s σ H Q I h;refine isTrue_not (Z6 (ha pins s σ H (fun c H1=>Q (!c) H1) I h) (fun c s' z=>?_) fun _ _ z=>z);obtain⟨H',I',q⟩:=z;exact⟨H',I',q⟩
def Mm(ta tb:TE):TE:=fun σ H Q=>ta σ H fun x H1=> ∃c,x= .bl c/\if c=true then tb σ H1 Q else Q (.bl false) H1
def Mg(ta:TE):TE:=fun σ H Q=>ta σ H fun x H1=> ∃c,x= .bl c/\Q (.bl (!c)) H1
theorem Jr{op}(h:PE X a t):PE X (.BoolOp op [a] pos) t:=fun pins s σ H Q I hw=>BoolOp_one (h pins s σ H Q I hw)
theorem Jv(ha:PE X a ta)(hb:PE X (.BoolOp .And (b::rest) pos) tb):PE X (.BoolOp .And (a::b::rest) pos) (Mm ta tb):=by
 intro pins s σ H Q I h;refine BoolOp_and (aU (ha pins s σ H _ I h) fun v s1 iQ=>?_);obtain⟨x,H1,I1,r1,q1⟩:=iQ;obtain⟨c,rfl,q1⟩:=q1;cases r1;refine ah1 ?_;cases c with
 | true=>exact hb pins s1 σ H1 Q I1 q1
 | false=>exact⟨.bl false,H1,I1,rfl,q1⟩
theorem Js(ha:PE X a ta):PE X (.UnaryOp .Not a pos) (Mg ta):=by
 intro pins s σ H Q I h;refine UnaryOp_ (aU (ha pins s σ H _ I h) fun v s1 pY=>?_);obtain⟨x,H1,I1,r1,q1⟩:=pY;obtain⟨c,rfl,q1⟩:=q1;cases r1;exact not_of (ah1 ⟨.bl (!c),H1,I1,rfl,q1⟩)
def VT(t:TT)(ta tb:TE):TE:=fun σ H Q=>t σ H fun c H1=>if c=true then ta σ H1 Q else tb σ H1 Q
theorem BA(hc:PT X c tA)(ha:PE X a ta)(hb:PE X b tb):PE X (.IfExp c a b pos) (VT tA ta tb):=by
 intro pins s σ H Q I h;refine wpAny_IfExp (aU (hc pins s σ H _ I h) fun d s1 j9=>?_);obtain⟨H1,I1,q1⟩:=j9;cases d with
 | true=>exact ha pins s1 σ H1 Q I1 q1
 | false=>exact hb pins s1 σ H1 Q I1 q1
end
def cY(K:PySem.W.Frag)(H:Hp)(a:Addr)(xs:List V):Prop:=
 Rd H a (.lst xs)\/
  ∃(o:Obj) (ao:Array Value) (n:Nat),K.lookup a=some o/\o.cls= .type "list"/\o.dict=none/\o.data= .seq ao n/\ao.size<=sizeLine/\Vals xs ao.toList
def dG(K:PySem.W.Frag)(H:Hp)(a:Addr)(xs:List V):Prop:=
 Rd H a (.tup xs)\/
  ∃(o:Obj) (ao:Array Value) (n:Nat),K.lookup a=some o/\o.cls= .type "tuple"/\o.data= .seq ao n/\ao.size<=sizeLine/\Vals xs ao.toList
noncomputable def To:Value->Option V
 | .none=>some .aD
 | .bool b=>some (.bl b)
 | .int i _=>some (.int i)
 | .str x _=>some (.str x)
 | .bytes b _=>some (.xX b)
 | .float b _=>some (.zV b)
 | .ref a=>some (.ref a)
 | .type n=>some (.ty n)
 | _=>none
theorem RelV.abs(r:RelV x u):To u=some x:=by
 cases x with
 | aD=>cases r;rfl
 | bl _=>cases r;rfl
 | int _=>obtain⟨t,rfl⟩:=r;rfl
 | str _=>obtain⟨t,rfl⟩:=r;rfl
 | xX _=>obtain⟨t,rfl⟩:=r;rfl
 | zV _=>obtain⟨t,rfl⟩:=r;rfl
 | ref _=>cases r;rfl
 | ty _=>cases r;rfl
theorem RelV.inj(r:RelV x u)(q:RelV y u):x=y:=Option.some.inj (r.abs.symm.trans q.abs)
theorem Vals.inj: ∀{xs ys:List V} {us:List Value},Vals xs us->Vals ys us->xs=ys
 | _,_,_,.nil,.nil=>rfl
 | _,_,_,.cons r t,.cons r' t'=>by rw[r.inj r',Vals.inj t t']
theorem cY.of{K:PySem.W.Frag}(h:H a=some (.lst xs)):cY K H a xs:= .inl (.inl h)
theorem dG.of{K:PySem.W.Frag}(h:H a=some (.tup xs)):dG K H a xs:= .inl (.inl h)
theorem Inv.list(I:Inv X pins σ H s)(h:cY X.K H a xs): ∃ao:List Value,Vals xs ao/\PlainL s.heap a ao.toArray/\xs.length<=sizeLine:=by
 rcases h with h | ⟨o,ao,n,hk,hc,hd,hs,hz,r⟩
 . obtain⟨z,ao,n,r,e⟩:=h.ok I.aT;exact⟨ao,r,⟨_,n,e,rfl,rfl,rfl⟩,z⟩
 . refine⟨ao.toList,r,⟨o,n,I.pf a o hk,hc,hd,by simpa using hs⟩,?_⟩;have e:=r.length;simp only [ZQ] at e;lia
theorem Inv.tuple(I:Inv X pins σ H s)(h:dG X.K H a xs): ∃ao:List Value,Vals xs ao/\IsTup s.heap a ao.toArray/\xs.length<=sizeLine:=by
 rcases h with h | ⟨o,ao,n,hk,hc,hs,hz,r⟩
 . obtain⟨z,ao,r,p⟩:=h.ok I.aT;exact⟨ao,r,p.tup,z⟩
 . refine⟨ao.toList,r,⟨o,I.pf a o hk,hc,n,by simpa using hs⟩,?_⟩;have e:=r.length;simp only [ZQ] at e;lia
theorem Inv.Ca(I:Inv X pins σ H s)(h:cY X.K H a xs)(h':cY X.K H a ys):xs=ys:=by
 obtain⟨ao,r,⟨o,n,e,_,_,d⟩,_⟩:=I.list h;obtain⟨its',r',⟨o',n',e',_,_,d'⟩,_⟩:=I.list h';rw[e] at e';cases e';rw[d] at d';injection d' with d1 _
 have:ao=its':=by simpa using ab9 Array.toList d1
 subst this;exact r.inj r'
theorem Inv.oX(I:Inv X pins σ H s)(h:dG X.K H a xs)(h':dG X.K H a ys):xs=ys:=by
 obtain⟨ao,r,⟨o,e,_,n,d⟩,_⟩:=I.tuple h;obtain⟨its',r',⟨o',e',_,n',d'⟩,_⟩:=I.tuple h';rw[e] at e';cases e';rw[d] at d';injection d' with d1 _
 have:ao=its':=by simpa using ab9 Array.toList d1
 subst this;exact r.inj r'
noncomputable abbrev Cx.oj (X:Cx) (E:Value->Shared->Prop):Cx:={X with xe:=E}
noncomputable abbrev Cx.BW (X:Cx):Cx:=X.oj fun _ _=>False
theorem Cx.Ok.oj{X:Cx}(ok:X.Ok)(E:Value->Shared->Prop):(X.oj E).Ok:=
 ⟨ok.mod,ok.kind,ok.glob,ok.blt,ok.above,ok.inj,ok.has,ok.OB,ok.hd,ok.frames,ok.Pd,ok.HE,ok.bs,ok.GR,ok.BY,ok.vw,ok.nD,ok.LJ,ok.tab⟩
theorem Cx.Ok.gM{X:Cx}(ok:(X.oj E).Ok):X.Ok:=
 ⟨ok.mod,ok.kind,ok.glob,ok.blt,ok.above,ok.inj,ok.has,ok.OB,ok.hd,ok.frames,ok.Pd,ok.HE,ok.bs,ok.GR,ok.BY,ok.vw,ok.nD,ok.LJ,ok.tab⟩
theorem Inv.oj(I:Inv X pins σ H s)(E:Value->Shared->Prop):Inv (X.oj E) pins σ H s:=⟨I.ok.oj E,I.os,I.bare,I.base,I.loc,I.cell,I.free,I.gq,I.pin,I.aT,I.len⟩
theorem Inv.gM(I:Inv (X.oj E) pins σ H s):Inv X pins σ H s:=⟨I.ok.gM,I.os,I.bare,I.base,I.loc,I.cell,I.free,I.gq,I.pin,I.aT,I.len⟩
theorem SP.gM(h:SP (X.oj E) pins D f s'):SP X pins D f s':=by
 cases f with
 | next=>obtain⟨σ',H',I,q⟩:=h;exact⟨σ',H',I.gM,q⟩
 | brk=>obtain⟨σ',H',I,q⟩:=h;exact⟨σ',H',I.gM,q⟩
 | cont=>obtain⟨σ',H',I,q⟩:=h;exact⟨σ',H',I.gM,q⟩
 | ret u=>obtain⟨v,σ',H',I,r,q⟩:=h;exact⟨v,σ',H',I.gM,r,q⟩
theorem pW.BW{st:List Stmt}(h:pW X.BW st t):pW X st t:=fun pins s σ H D I hw=>
 Z6 (h pins s σ H D (I.oj _) hw) (fun _ _ q=>q.gM) fun _ _ z=>False.elim z
section
variable{X:Cx}{st:Stmt}{rest:List Stmt}{t u:TS}{e:Expr}{te:TE}{pos:Pos}
def Mh:TS:=fun D σ H=>D.nx σ H
def QJ(t u:TS):TS:=fun D σ H=>t {D with nx:=u D} σ H
theorem qz:pW X [] Mh:=fun _ _ σ H _ I h=>wpAny_execs_nil ⟨σ,H,I,h⟩
theorem bM(h1:PS X st t)(h2:pW X rest u):pW X (st::rest) (QJ t u):=by
 intro pins s σ H D I h;refine wpAny_execs_cons (aU (h1 pins s σ H {D with nx:=u D} I h) fun f s1 q=>?_);cases f with
 | next=>
  obtain⟨σ',H',I',q⟩:=q;exact h2 pins s1 σ' H' D I' q
 | ret v=>exact q
 | brk=>exact q
 | cont=>exact q
theorem jA(h1:PS X st t):pW X [st] t:=by
 intro pins s σ H D I h;refine wpAny_execs_cons (aU (h1 pins s σ H D I h) fun f s1 q=>?_);cases f with
 | next=>exact wpAny_execs_nil q
 | ret v=>exact q
 | brk=>exact q
 | cont=>exact q
theorem Inv.quiet(I:Inv X pins σ H s):interactive X.env=false:=by simp [interactive,I.ok.kind]
def Mk(te:TE):TS:=fun D σ H=>te σ H fun _ H1=>D.nx σ H1
theorem Fj(he:PE X e te)(hs:swapsWith e none pos.line X.env=pure false:=by rfl):PS X (.Expr e pos) (Mk te):=by
 intro pins s σ H D I h;exact wpAny_Expr_any (aU (he pins s σ H _ I h) fun v s1 Ij=>(by obtain⟨x,H1,I1,r1,q1⟩:=Ij;exact(⟨σ,H1,I1,q1⟩))) I.quiet hs
def QK(te:TE):TS:=fun D σ H=>te σ H D.rt
theorem qA(he:PE X e te):PS X (.Return (some e) pos) (QK te):=by
 intro pins s σ H D I h;exact wpAny_Return_some (aU (he pins s σ H _ I h) fun v s1 Af=>(by obtain⟨x,H1,I1,r1,q1⟩:=Af;exact(⟨x,σ,H1,I1,r1,q1⟩)))
def QO(c:TT)(t u:TS):TS:=fun D σ H=>c σ H fun b H1=>if b=true then t D σ H1 else u D σ H1
theorem Bl(hc:PT X c tc)(ha:pW X a t)(hb:pW X b u):PS X (.If c a b pos) (QO tc t u):=by
 intro pins s σ H D I h;refine wpAny_If (aU (hc pins s σ H _ I h) fun d s1 Ae=>?_);obtain⟨H1,I1,q1⟩:=Ae;cases d with
 | true=>exact ha pins s1 σ H1 D I1 q1
 | false=>exact hb pins s1 σ H1 D I1 q1
end
abbrev TG:=V->St->Hp->(St->Hp->Prop)->Prop
abbrev K9:=List V->St->Hp->(St->Hp->Prop)->Prop
def PG(X:Cx)(target:Expr)(t:TG):Prop:=
 ∀(pins:List (Addr × Obj)) (s:Shared) (σ:St) (H:Hp) (v:V) (u:Value) (Q:St->Hp->Prop),Inv X pins σ H s->RelV v u->t v σ H Q->
  wpAny (model X.prog X.w) X.A (assign target X.env u) (fun _ s'=>ON X pins Q s') X.xe s
def PZ(X:Cx)(ts:List Expr)(t:K9):Prop:=
 ∀(pins:List (Addr × Obj)) (s:Shared) (σ:St) (H:Hp) (vs:List V) (us:List Value) (Q:St->Hp->Prop),Inv X pins σ H s->Vals vs us->t vs σ H Q->
  wpAny (model X.prog X.w) X.A (assignInOrder ((assignEach ts X.env).map (·.2)) us) (fun _ s'=>ON X pins Q s') X.xe s
abbrev OM:=V->V->V->Hp->(Hp->Prop)->Prop
def OO(X:Cx)(t:OM):Prop:=
 ∀(pins:List (Addr × Obj)) (s:Shared) (σ:St) (H:Hp) (o i v:V) (ov iv u:Value) (Q:Hp->Prop),Inv X pins σ H s->RelV o ov->RelV i iv->RelV v u->t o i v H Q->
  wpAny (model X.prog X.w) X.A (setItem ov iv u) (fun _ s'=> ∃H',Inv X pins σ H' s'/\Q H') X.xe s
section
variable{X:Cx}{pos:Pos}
def cB(i:Nat):TG:=fun v σ H Q=>Q (σ.set i (some v)) H
theorem aE(hN:X.N.Nodup)(hi:X.N[i]?=some x)(hx:Loc X.env.scope x)(hf:X.fn x=true\/X.env.scope.names.lookup x=some .local:=by first | exact .inl rfl | exact .inr rfl | assumption):PG X (.Name x pos) (cB i):=by
 intro pins s σ H v u Q I r h;exact wpAny_assign_Name (jv I hN hi hx r (fun s' I'=>⟨_,H,I',h⟩) hf)
def vp:K9:=fun vs σ H Q=>vs= []/\Q σ H
def eV(t:TG)(u:K9):K9:=fun vs σ H Q=> ∃v r,vs=v::r/\t v σ H fun σ' H'=>u r σ' H' Q
theorem bR:PZ X [] vp:=by
 intro pins s σ H vs us Q I r h;obtain⟨e,h⟩:=h;subst e;cases r;exact assignInOrder_nil ⟨σ,H,I,h⟩
theorem aI(h1:PG X e t)(h2:PZ X es u)(hs:(assignEach (e::es) X.env).map (·.2)=assign e X.env::(assignEach es X.env).map (·.2):=by rfl):PZ X (e::es) (eV t u):=by
 intro pins s σ H vs us Q I r h;obtain⟨v,vr,e1,h⟩:=h;subst e1;cases r with
 | cons r rr=>
  rw[hs];refine assignInOrder_cons (aU (h1 pins s σ H _ _ _ I r h) fun _ s1 uy=>?_);obtain⟨σ1,H1,I1,q1⟩:=uy;exact h2 pins s1 σ1 H1 _ _ Q I1 rr q1
def zj(K:PySem.W.Frag)(n:Nat)(t:K9):TG:=fun v σ H Q=> ∃a xs,v= .ref a/\dG K H a xs/\xs.length=n/\t xs σ H Q
theorem cM(hc:X.calm=true)(h:PZ X es t)(hn:(assignEach es X.env).length=n:=by rfl)(qR:(assignEach es X.env).findIdx? (·.1)=none:=by rfl):PG X (.Tuple es k pos) (zj X.K n t):=by
 intro pins s σ H v u Q I r hw;obtain⟨a,xs,e1,hq,hl,hw⟩:=hw;subst e1;cases r;obtain⟨ao,rv,ht,hz⟩:=I.tuple hq;refine assign_Tuple_tuple (I.ok.hd hc) ht (by simp [hn,<-hl,rv.length]) qR fun h' hx=>?_;have I1:Inv X pins σ H {s with heap:=h'}:=I.kept (t':=s.toks) fun b o e=>hx b o (aa8 (ZW e)) e;exact h pins _ σ H xs _ Q I1 (by simpa using rv) hw
def Ss(to ti:TE)(t:OM):TG:=fun v σ H Q=>to σ H fun o H1=>ti σ H1 fun i H2=>t o i v H2 fun H3=>Q σ H3
theorem Bu (ho : PE X o to) (hi : PE X i ti) (hs : OO X t) (ha : ∀ v, assign (.Subscript o i pos) X.env v = (do
   let ov<-holding [v] (eval o X.env)
   let iv<-holding [v,ov] (eval i X.env)
   standAt pos
   holding [v,ov,iv] (setItem ov iv v)
   release [v,ov,iv] []):=by intro _;rfl):PG X (.Subscript o i pos) (Ss to ti t):=by
 intro pins s σ H v u Q I r h;rw[ha];refine Zt (ad4 (aU (ho pins s σ H _ I h) fun ov s1 ux=>?_));obtain⟨x,H1,I1,r1,q1⟩:=ux;refine Zt (ad4 (aU (hi pins s1 σ H1 _ I1 q1) fun iv s2 Ad=>?_));obtain⟨y,H2,I2,r2,q2⟩:=Ad;refine Zt (ae2 (Zt (ad4 (aU (hs pins s2 σ H2 x y v ov iv u _ I2 r1 r2 r q2) fun _ s3 Ii=>?_))));obtain⟨H3,I3,q3⟩:=Ii;exact wpAny_release ⟨σ,H3,I3,q3⟩
def AM(te:TE)(g:TG):TS:=fun D σ H=>te σ H fun x H1=>g x σ H1 D.nx
theorem qB(he:PE X e te)(hg:PG X tg g)(hs:swapsWithSole [tg] e pos.line X.env=pure false:=by rfl)(hw:swappedStores [tg] e X.env=pure none:=by rfl)(h1:(assignEach [tg] X.env).map (·.2)= [assign tg X.env]:=by rfl):PS X (.Assign [tg] e pos) (AM te g):=by
 intro pins s σ H D I h;refine wpAny_Assign_stores (aU (he pins s σ H _ I h) fun v s1 Ih=>?_) hs hw;obtain⟨x,H1,I1,r1,q1⟩:=Ih;rw[h1];exact aU (hg pins s1 σ H1 x v _ I1 r1 q1) fun _ s2 q=>q
theorem dJ(hN:X.N.Nodup)(hi:X.N[i]?=some x)(hx:Loc X.env.scope x)(he:PE X e te)(hs:swapsWith e (some (.Name x pos')) pos.line X.env=pure false:=by rfl)(hf:X.fn x=true\/X.env.scope.names.lookup x=some .local:=by first | exact .inl rfl | exact .inr rfl | assumption):
  PS X (.Assign [.Name x pos'] e pos) (AM te (cB i)):=by
 intro pins s σ H D I h;refine wpAny_Assign_Name (aU (he pins s σ H _ I h) fun v s1 Ig=>?_) hs;obtain⟨y,H1,I1,r1,q1⟩:=Ig;exact jv I1 hN hi hx r1 (fun s2 I2=>⟨_,H1,I2,q1⟩) hf
def QL(i j:Nat)(ta:TA):TS:=fun D σ H=>ta σ H fun vs H1=> ∃v w,vs= [v,w]/\D.nx ((σ.set i (some v)).set j (some w)) H1
theorem Jm{kt k2 Bj}(hc:X.calm=true)(hN:X.N.Nodup)(hi:X.N[i]?=some x)(hj:X.N[j]?=some y)(cj:i≠j)(hx:X.env.scope.names.lookup x=some .local)(hy:X.env.scope.names.lookup y=some .local)(ha:PA X [a,b] ta)(hw:swappedStores [.Tuple [.Name x px, .Name y py] kt pt] (.Tuple [a,b] k2 Bj) X.env=pure (some [x,y]))(hs:swapsWithSole [.Tuple [.Name x px, .Name y py] kt pt] (.Tuple [a,b] k2 Bj) pos.line X.env=pure false:=by rfl):
  PS X (.Assign [.Tuple [.Name x px,.Name y py] kt pt] (.Tuple [a,b] k2 Bj) pos) (QL i j ta):=by
 intro pins s σ H D I h;rw[exec_Assign_arm];refine Zt (ae2 ?_);rw[hs];refine Zt (ZD ?_);rw[if_neg (by decide)];refine Zt (Tuple_ (aU (ha _ pins s σ H _ I h) fun us s1 Ac=>?_));obtain⟨vs,H1,I1,r1,q1⟩:=Ac;obtain⟨v,w,e1,q1⟩:=q1;subst e1;obtain⟨u1,u2,rfl,rv,A9⟩: ∃u1 u2,us= [u1,u2]/\RelV v u1/\RelV w u2:=by
  cases r1 with
  | cons p q=>
   cases q with
   | cons p' q'=>
    cases q';exact⟨_,_,rfl,p,p'⟩
 refine ad1 ?_ (by show 2<=sizeLine;decide);have I2:Inv X pins σ H1 {s1 with heap:=s1.heap.push {cls:= .type "tuple",data:= .seq [u1,u2].toArray}}:=I1.kept (t':=s1.toks) fun b o e=>Zv _ e;rw[hw];refine Zt (ZD ?_);show wpAny (model X.prog X.w) X.A (do rule "assign.swapped-stores";let items<-unpackItems (.ref s1.heap.objs.size) 2 none;assignInOrder [fun v=>bindName X.env y v,fun v=>bindName X.env x v] items.reverse;pure Flow.next) _ _ _;refine Zt (af6 (Zt (unpackItems_tuple (items:= #[u1,u2]) (I.ok.hd hc) (IsTup.new s1.heap _) fun h' zT=>?_)));have I3:=I2.kept (h':=h') (t':=s1.toks) fun b o e=>zT b o (aa8 (ZW e)) e;show wpAny _ _ (assignInOrder [fun v=>bindName X.env y v,fun v=>bindName X.env x v] [u2,u1] >>=fun _=>pure Flow.next) _ _ _;refine Zt (assignInOrder_cons (wpAny_bindName (jv I3 hN hj (.inl hy) A9 (fun s2 I4=>?_) (.inr hy))));refine assignInOrder_cons (wpAny_bindName (jv I4 hN hi (.inl hx) rv (fun s3 I5=>assignInOrder_nil (ZD ?_)) (.inr hx)));rw[List.set_comm _ _ (Ne.symm cj)] at I5;exact⟨_,H1,I5,q1⟩
end
section
variable{X:Cx}{pos:Pos}
def II(c:TT)(tb:TS):TS:=fun D σ H=> ∃W:Nat->St->Hp->Prop,(∃m,W m σ H)/\ ∀m σ H,W m σ H->
 c σ H fun b H1=>if b=true then∃N:St->Hp->Prop,(∀σ' H',N σ' H'-> ∃m',m' < m/\W m' σ' H')/\tb {D with nx:=N,ct:=N,bk:=D.nx} σ H1 else D.nx σ H1
theorem Bk(hp:PassesOwn (model X.prog X.w) X.A X.env X.xe)(hc:PT X c tc)(hb:pW X body tb):PS X (.While c body [] pos) (II tc tb):=by
 intro pins s σ H D I h;obtain⟨W,⟨m0,w0⟩,turn⟩:=h;refine wpAny_While (codeAny_whileLoop (fun n s'=> ∃σ' H',Inv X pins σ' H' s'/\W n σ' H') ?_ m0 ⟨σ,H,I,w0⟩);rintro n s1 ⟨σ1,H1,I1,w1⟩
 refine aj4 hp (aU (hc pins s1 σ1 H1 _ I1 (turn n σ1 H1 w1)) fun b s2 Qx=>?_);obtain⟨H2,I2,q2⟩:=Qx;cases b with
 | true=>
  obtain⟨N,hN,q2⟩:=q2;rw[if_pos rfl];refine aj4 hp (aU (hb pins s2 σ1 H2 _ I2 q2) fun f s3 q3=>?_);cases f with
  | next=>
   obtain⟨σ3,H3,I3,n3⟩:=q3;obtain⟨m',hm,w3⟩:=hN σ3 H3 n3;exact⟨m',hm,σ3,H3,I3,w3⟩
  | cont=>
   obtain⟨σ3,H3,I3,n3⟩:=q3;obtain⟨m',hm,w3⟩:=hN σ3 H3 n3;exact⟨m',hm,σ3,H3,I3,w3⟩
  | brk=>exact q3
  | ret v=>exact q3
 | false=>
  rw[if_neg ZJ];exact wpAny_execs_nil ⟨σ1,H2,I2,q2⟩
end
structure It where
 go:Nat->Hp->Prop
 se:Nat->Hp->V->Hp->Prop
 stop:Nat->Hp->Prop
def cV(X:Cx)(pins:List (Addr × Obj))(H:Hp)(b:Addr):Prop:=
 H b=none/\b≠X.env.locals/\b∉X.fs/\(b∈X.ex\/X.s₀.heap.objs.size<=b)/\(∀x c,X.env.cells.lookup x=some c->c≠b)/\ ∀p∈X.pn++pins,p.1≠b
theorem Inv.gE(I:Inv X pins σ H s)(hb:s.heap.objs.size<=b)(hn:H' b=none):cV X pins H' b:=by
 refine⟨hn,aj1 (ZU I.lt hb),I.MX hb,.inr (ZZ I.sz hb),fun x c e z=>?_,fun p hp z=>?_⟩
 . obtain⟨v,q⟩:=I.cell x c e;exact absurd (ZU q.lt (by rw[z];exact hb)) (ab5 _)
 . exact absurd (ZU (ZW (I.pin p hp).1) (by rw[z];exact hb)) (ab5 _)
structure Turn(P:Program)(w:World)(K:PySem.W.Frag)(tg:Expr)(J:It)(fp:List Addr)(it:Addr)(tn:Nat->Heap->Prop):Prop where
 mem:it∈fp
 obj: ∀i h,tn i h-> ∀b∈fp,∃o,h.get? b=some o/\ ∀v,o.data≠ .cell v
 keep: ∀i h h',tn i h->(∀b∈fp,∀o,h.get? b=some o->h'.get? b=some o)->tn i h'
 item: ∀(X:Cx),X.prog=P->X.w=w->X.K=K->X.calm=true-> ∀(i:Nat) (pins:List (Addr × Obj)) (s:Shared) (σ:St) (H:Hp) (E:Value->Shared->Prop),Inv X pins σ H s->(∀b∈fp,cV X pins H b)->tn i s.heap->J.go i H->
  wpAny (model P w) X.A (pyNext (.ref it)) (fun r s1=> ∃u,r=some u/\
   wpAny (model P w) X.A (letOwnedTupleGo tg (.ref it) u) (fun _ s2=> ∃x H',Inv X pins σ H' s2/\RelV x u/\J.se i H x H'/\tn (i+1) s2.heap/\ ∀b∈fp,H' b=none) E s1) E s
 done: ∀(X:Cx),X.prog=P->X.w=w->X.K=K->X.calm=true-> ∀(i:Nat) (pins:List (Addr × Obj)) (s:Shared) (σ:St) (H:Hp) (E:Value->Shared->Prop),Inv X pins σ H s->(∀b∈fp,cV X pins H b)->tn i s.heap->J.stop i H->
  wpAny (model P w) X.A (pyNext (.ref it)) (fun r s1=>r=none/\Inv X pins σ H s1) E s
 self: ∀(A:Around) (i:Nat) (s:Shared) (Q:Value->Shared->Prop) (E:Value->Shared->Prop),tn i s.heap->Q (.ref it) s->wpAny (model P w) A (pyIter (.ref it)) Q E s
abbrev TI:=St->Hp->(It->Hp->Prop)->Prop
def PY(X:Cx)(pins:List (Addr × Obj))(σ:St)(tg:Expr)(R:It->Hp->Prop)(Lu:Value)(s2:Shared):Prop:=
 ∃(it:Addr) (fp:List Addr) (tn:Nat->Heap->Prop) (J:It) (H':Hp),Lu= .ref it/\Inv X pins σ H' s2/\Turn X.prog X.w X.K tg J fp it tn/\tn 0 s2.heap/\(∀b∈fp,cV X pins H' b)/\R J H'
def PI(X:Cx)(tg iter:Expr)(wi:TI):Prop:=
 ∀(pins:List (Addr × Obj)) (s:Shared) (σ:St) (H:Hp) (R:It->Hp->Prop),Inv X pins σ H s->wi σ H R->
  wpAny (model X.prog X.w) X.A (eval iter X.env) (fun v s1=>wpAny (model X.prog X.w) X.A (pyIter v) (PY X pins σ tg R) X.xe s1) X.xe s
theorem Cy{s:Shared}(ho:s.heap.get? it=some o)(hc:o.cls= .type n)(hd:o.data= .fields vs)(hn: ["enumerate","zip","dict_itemiterator","dict_reverseitemiterator","odict_iterator","itertools.zip_longest","itertools.pairwise"].contains n=false)(hQ:Q () s):wpAny M A (letOwnedTupleGo tg (.ref it) u) Q E s:=by
 unfold letOwnedTupleGo;cases tg <;> first
  | exact ZD hQ
  | (cases u <;> first
    | exact ZD hQ
    | (refine Zt (wpAny_load ho ?_)
       rw[hc,hd];show wpAny M A (if (["enumerate","zip","dict_itemiterator","dict_reverseitemiterator","odict_iterator","itertools.zip_longest","itertools.pairwise"].contains n && vs[0]?==some (rawInt _))=true then _ else _) Q E s;rw[if_neg (by intro h;rw[hn,Bool.false_and] at h;cases h)];exact ZD hQ))
noncomputable def TQ(K:PySem.W.Frag)(a:Addr):It:=
 ⟨fun i H=> ∃xs x,cY K H a xs/\xs[i]?=some x,fun i H x H'=>H'=H/\ ∀xs,cY K H a xs->xs[i]?=some x,fun i H=> ∃xs,cY K H a xs/\xs.length<=i⟩
noncomputable def TN(K:PySem.W.Frag)(a:Addr):It:=
 ⟨fun i H=> ∃xs x,dG K H a xs/\xs[i]?=some x,fun i H x H'=>H'=H/\ ∀xs,dG K H a xs->xs[i]?=some x,fun i H=> ∃xs,dG K H a xs/\xs.length<=i⟩
noncomputable def OZ(lo:Int)(n:Nat):It:=⟨fun i _=>i < n,fun i H x H'=>H'=H/\x= .int (lo+i),fun i _=>n<=i⟩
theorem yu{P:Program}{w:World}{K:PySem.W.Frag}{tg:Expr}(a it:Addr):Turn P w K tg (TQ K a) [it] it (fun i h=>h.IsListIter it a i) where
 mem:=by simp
 obj:=fun i h st b hb=>by
  have e:b=it:=by simpa using hb
  subst e;obtain⟨o,e,c,d⟩:=st;exact⟨o,e,fun v z=>by rw[d] at z;cases z⟩
 keep:=fun i h h' st k=>st.at fun o e=>k it (by simp) o e
 item:=by
  intro X hP hw hK hc i pins s σ H E I hf st hg;subst hP hw hK;obtain⟨xs,x,hq,hx⟩:=hg;obtain⟨ao,rv,p,hz⟩:=I.list hq;obtain⟨u,hu,ru⟩:=rv.get hx;obtain⟨f0,f1,f2,f3,f4,f5⟩:=hf it (by simp);refine wpAny_pyNext_list_item st p.isList (x:=u) (by simpa using hu) fun h' av sb=>?_;have I1:Inv X pins σ H {s with heap:=h'}:=I.turned (t':=s.toks) (fun b o hb e=>(sb.2 b hb).trans e) f0 f1 f3 f4 f5;obtain⟨o,e,c,d⟩:=id av;exact⟨u,rfl,Cy (s:={s with heap:=h'}) e c d (by decide) ⟨x,H,I1,ru,⟨rfl,fun ys hy=>by rw[I.Ca hy hq];exact hx⟩,av,fun b hb=>(hf b hb).1⟩⟩
 done:=by
  intro X hP hw hK hc i pins s σ H E I hf st hg;subst hP hw hK;obtain⟨xs,hq,hx⟩:=hg;obtain⟨ao,rv,p,hz⟩:=I.list hq;obtain⟨f0,f1,f2,f3,f4,f5⟩:=hf it (by simp);have hl:=rv.length;exact wpAny_pyNext_list_end (I.ok.hd hc) st p.isList (by simp;lia) fun h' eb=>⟨rfl,I.turned (t':=s.toks) (fun b o hb e=>eb b o hb e) f0 f1 f3 f4 f5⟩
 self:=fun _ _ _ _ _ st h=>wpAny_pyIter_listiter st h
theorem uB{P:Program}{w:World}{K:PySem.W.Frag}{tg:Expr}(a it:Addr):Turn P w K tg (TN K a) [it] it (fun i h=>h.IsTupleIter it a i) where
 mem:=by simp
 obj:=fun i h st b hb=>by
  have e:b=it:=by simpa using hb
  subst e;obtain⟨o,e,c,d⟩:=st;exact⟨o,e,fun v z=>by rw[d] at z;cases z⟩
 keep:=fun i h h' st k=>st.at fun o e=>k it (by simp) o e
 item:=by
  intro X hP hw hK hc i pins s σ H E I hf st hg;subst hP hw hK;obtain⟨xs,x,hq,hx⟩:=hg;obtain⟨ao,rv,p,hz⟩:=I.tuple hq;obtain⟨u,hu,ru⟩:=rv.get hx;obtain⟨f0,f1,f2,f3,f4,f5⟩:=hf it (by simp);refine wpAny_pyNext_tuple_item st (show s.heap.IsTuple a ao.toArray from p) (x:=u) (by simpa using hu) fun h' av sb=>?_;have I1:Inv X pins σ H {s with heap:=h'}:=I.turned (t':=s.toks) (fun b o hb e=>(sb.2 b hb).trans e) f0 f1 f3 f4 f5;obtain⟨o,e,c,d⟩:=id av;exact⟨u,rfl,Cy (s:={s with heap:=h'}) e c d (by decide) ⟨x,H,I1,ru,⟨rfl,fun ys hy=>by rw[I.oX hy hq];exact hx⟩,av,fun b hb=>(hf b hb).1⟩⟩
 done:=by
  intro X hP hw hK hc i pins s σ H E I hf st hg;subst hP hw hK;obtain⟨xs,hq,hx⟩:=hg;obtain⟨ao,rv,p,hz⟩:=I.tuple hq;obtain⟨f0,f1,f2,f3,f4,f5⟩:=hf it (by simp);have hl:=rv.length;exact wpAny_pyNext_tuple_end (I.ok.hd hc) st (show s.heap.IsTuple a ao.toArray from p) (by simp;lia) fun h' eb=>⟨rfl,I.turned (t':=s.toks) (fun b o hb e=>eb b o hb e) f0 f1 f3 f4 f5⟩
 self:=fun _ _ _ _ _ st h=>wpAny_pyIter_tupleiter st h
theorem uC{P:Program}{w:World}{K:PySem.W.Frag}{tg:Expr}(it:Addr)(lo:Int)(n:Nat):Turn P w K tg (OZ lo n) [it] it (fun i h=>IsRangeIter h it (lo+(i:Nat)*1) ((n:Int) - (i:Nat)) 1) where
 mem:=by simp
 obj:=fun i h st b hb=>by
  have e:b=it:=by simpa using hb
  subst e;exact⟨_,st,fun v z=>by
   have z':Data.fields _=Data.cell v:=z;cases z'⟩
 keep:=fun i h h' st k=>k it (by simp) _ st
 item:=by
  intro X hP hw hK hc i pins s σ H E I hf st hg;subst hP hw hK;obtain⟨f0,f1,f2,f3,f4,f5⟩:=hf it (by simp);have W:=Walks.range (prog:=X.prog) (w:=X.w) (I.ok.hd hc) it lo 1 n;refine W.item i s _ _ hg st fun v h' tk hv av kk=>?_;obtain⟨t,rfl⟩:=hv;have I1:Inv X pins σ H {s with heap:=h',toks:=tk}:=I.turned (fun b o hb e=>kk b o (by simpa using hb) e) f0 f1 f3 f4 f5;refine⟨_,rfl,Cy (s:={s with heap:=h',toks:=tk}) (n:="range_iterator") av rfl rfl (by decide) ⟨.int (lo+i),H,I1,⟨t,?_⟩,⟨rfl,rfl⟩,av,fun b hb=>(hf b hb).1⟩⟩;rw[Int.mul_one]
 done:=by
  intro X hP hw hK hc i pins s σ H E I hf st hg;subst hP hw hK;obtain⟨f0,f1,f2,f3,f4,f5⟩:=hf it (by simp);exact wpAny_pyNext_range_end (I.ok.hd hc) st (by have:n<=i:=hg;lia) fun h' eb=>⟨rfl,I.turned (t':=s.toks) (fun b o hb e=>eb b o hb e) f0 f1 f3 f4 f5⟩
 self:=fun _ _ _ _ _ st h=>wpAny_pyIter_rangeiter st h
section
variable{X:Cx}{tg:Expr}
def Ni(K:PySem.W.Frag)(tl:TE):TI:=fun σ H R=>tl σ H fun x H1=> ∃a,x= .ref a/\(∃xs,cY K H1 a xs)/\R (TQ K a) H1
def Rx(K:PySem.W.Frag)(tl:TE):TI:=fun σ H R=>tl σ H fun x H1=> ∃a,x= .ref a/\(∃xs,dG K H1 a xs)/\R (TN K a) H1
theorem Fn(hl:PE X l tl):PI X tg l (Ni X.K tl):=by
 intro pins s σ H R I h;refine aU (hl pins s σ H _ I h) fun v s1 Qw=>?_;obtain⟨x,H1,I1,r1,q1⟩:=Qw;obtain⟨a,e,⟨xs,hq⟩,q⟩:=q1;subst e;cases r1;obtain⟨ao,rv,p,hz⟩:=I1.list hq;refine aj9 p.isList ?_;refine⟨s1.heap.objs.size,[s1.heap.objs.size],_,_,H1,rfl,I1.kept (t':=s1.toks) fun b o e=>Zv _ e,yu a _,⟨_,ZP _ rfl,rfl,rfl⟩,fun b hb=>?_,q⟩;have e:b=s1.heap.objs.size:=by simpa using hb
 subst e;exact I1.gE (Zx _) (I1.aT.fresh (Zx _))
theorem Jp(hl:PE X l tl):PI X tg l (Rx X.K tl):=by
 intro pins s σ H R I h;refine aU (hl pins s σ H _ I h) fun v s1 Qv=>?_;obtain⟨x,H1,I1,r1,q1⟩:=Qv;obtain⟨a,e,⟨xs,hq⟩,q⟩:=q1;subst e;cases r1;obtain⟨ao,rv,p,hz⟩:=I1.tuple hq;refine ae8 (show s1.heap.IsTuple a ao.toArray from p) ?_;refine⟨s1.heap.objs.size,[s1.heap.objs.size],_,_,H1,rfl,I1.kept (t':=s1.toks) fun b o e=>Zv _ e,uB a _,⟨_,ZP _ rfl,rfl,rfl⟩,fun b hb=>?_,q⟩;have e:b=s1.heap.objs.size:=by simpa using hb
 subst e;exact I1.gE (Zx _) (I1.aT.fresh (Zx _))
theorem sW{lo hi:Int}(I:Inv X pins σ H s)(h1: -(2^62)<=lo)(h2:lo < 2^62)(h3: -(2^62)<=hi)(h4:hi < 2^62)(q:R (OZ lo (hi - lo).toNat) H):wpAny (model X.prog X.w) X.A (pyIter (.ref s.heap.objs.size)) (PY X pins σ tg R) E {s with heap:=s.heap.push {cls:= .type "range",data:= .fields #[.int lo t,.int hi u,.int 1 v]},toks:=tk}:=by
 refine wpAny_pyIter_range (IsRange.new ..) (small_one h1 h2 h3 h4) ?_;have I1:Inv X pins σ H {s with heap:=s.heap.push {cls:= .type "range",data:= .fields #[.int lo t,.int hi u,.int 1 v]},toks:=tk}:=I.kept fun b o e=>Zv _ e;refine⟨(s.heap.push {cls:= .type "range",data:= .fields #[.int lo t,.int hi u,.int 1 v]}).objs.size,[(s.heap.push {cls:= .type "range",data:= .fields #[.int lo t,.int hi u,.int 1 v]}).objs.size],_,_,H,rfl,
  I1.kept (t':=tk) fun b o e=>Zv _ e,uC _ lo (hi - lo).toNat,?_,fun b hb=>?_,q⟩
 . have e1:lo+((0:Nat):Int)*1=lo:=by simp
   have e2:(((hi - lo).toNat:Nat):Int) - ((0:Nat):Int)=Builtin.Range.rangeSize lo hi 1:=by rw[rangeSize_one];split <;> lia
   show IsRangeIter _ _ (lo+((0:Nat):Int)*1) ((((hi - lo).toNat:Nat):Int) - ((0:Nat):Int)) 1;rw[e1,e2];exact ZP _ rfl
 . have e:b=(s.heap.push {cls:= .type "range",data:= .fields #[.int lo t, .int hi u, .int 1 v]}).objs.size:=by simpa using hb
   subst e;exact I1.gE (Zx _) (I1.aT.fresh (Zx _))
def Nh(ta:TA):TI:=fun σ H R=>ta σ H fun vs H1=> ∃j:Int,vs= [.int j]/\ -(2^62)<=j/\j < 2^62/\R (OZ 0 j.toNat) H1
def Ng(ta:TA):TI:=fun σ H R=>ta σ H fun vs H1=> ∃i j:Int,vs= [.int i,.int j]/\(-(2^62)<=i/\i < 2^62/\ -(2^62)<=j/\j < 2^62)/\R (OZ i (j - i).toNat) H1
theorem yK(hg:Gl X "range")(hm:X.mg "range"=none)(ha:PA X [a] ta)(hs:starEach [a] X.env= [(false,eval a X.env)]:=by rfl):PI X tg (.Call (.Name "range" p) [a] [] pos) (Nh ta):=by
 intro pins s σ H R I h;refine Call_ (eC I hg hm boot_range (ah4 (aU (ha pos pins s σ H _ I h) fun us s1 Qu=>?_) hs rfl));obtain⟨vs,H1,I1,r1,q1⟩:=Qu;obtain⟨j,e,q1,q2,q⟩:=q1;subst e;cases r1 with
 | cons r rr=>
  cases rr;obtain⟨t,rfl⟩:=r;exact call_range_1 (sW I1 (by lia) (by lia) q1 q2 (by simpa using q))
theorem yJ(hg:Gl X "range")(hm:X.mg "range"=none)(ha:PA X [a,b] ta)(hs:starEach [a,b] X.env= [(false,eval a X.env),(false,eval b X.env)]:=by rfl)(jf:starEach [b] X.env= [(false,eval b X.env)]:=by rfl):
  PI X tg (.Call (.Name "range" p) [a,b] [] pos) (Ng ta):=by
 intro pins s σ H R I h;refine Call_ (eC I hg hm boot_range (ah4 (aU (ha pos pins s σ H _ I h) fun us s1 Qt=>?_) (by rw[hs,jf]) (by rw[jf];rfl)));obtain⟨vs,H1,I1,r1,q1⟩:=Qt;obtain⟨i,j,e,⟨q1,q2,q3,q4⟩,q⟩:=q1;subst e;cases r1 with
 | cons r rr=>
  cases rr with
  | cons r' rr=>
   cases rr;obtain⟨t,rfl⟩:=r;obtain⟨t',rfl⟩:=r';exact call_range_2 (sW I1 q1 q2 q3 q4 q)
def QP(wi:TI)(g:TG)(tb:TS):TS:=fun D σ H=>wi σ H fun J H1=> ∃W:Nat->Nat->St->Hp->Prop,(∃m,W 0 m σ H1)/\ ∀i m σ H,W i m σ H->
 (J.stop i H/\D.nx σ H)\/(J.go i H/\ ∃N:St->Hp->Prop,(∀σ' H',N σ' H'-> ∃m',m' < m/\W (i+1) m' σ' H')/\ ∀x H',J.se i H x H'->g x σ H' fun σ2 H2=>tb {D with nx:=N,ct:=N,bk:=D.nx} σ2 H2)
noncomputable def iW(fp:List Addr)(h:Heap):List (Addr × Obj):=fp.filterMap fun b=>(h.get? b).map fun o=>(b,o)
theorem bA{h:Heap}(hb:b∈fp)(e:h.get? b=some o):(b,o)∈iW fp h:=aj3.mpr ⟨b,hb,by rw[e];rfl⟩
theorem yR(hp:p∈iW fp h):p.1∈fp/\h.get? p.1=some p.2:=by
 obtain⟨b,hb,e⟩:=aj3.mp hp;cases q:h.get? b with
 | none=>rw[q] at e;cases e
 | some o=>
  rw[q] at e;have e':(b,o)=p:=Option.some.inj e;subst e';exact⟨hb,q⟩
theorem Inv.pinned(I:Inv X pins σ H s)(hf: ∀b∈fp,cV X pins H b)(ho: ∀b∈fp,∃o,s.heap.get? b=some o/\ ∀v,o.data≠ .cell v):Inv X (pins++iW fp s.heap) σ H s:=
 I.wU fun p hp=>(aa7.mp hp).elim (fun z=>I.pin p (ZS _ z)) fun z=>by
  obtain⟨hb,e⟩:=yR z;obtain⟨f0,f1,f2,_⟩:=hf p.1 hb;obtain⟨o,e',d⟩:=ho p.1 hb;rw[e] at e';cases e';exact⟨e,f0,f1,f2,d⟩
theorem Inv.eh(I:Inv X (pins++pl) σ H s):Inv X pins σ H s:=I.wU fun p hp=>I.pin p (ZS _ (af1 _ hp))
theorem Jn(hp:PassesOwn (model X.prog X.w) X.A X.env X.xe)(hc:X.calm=true)(hi:PI X tg iter wi)(hg:PG X tg g)(hb:pW X body tb)(hs: ∀x,foldedSetIterable iter X.env x=pure x:=by intro _;rfl):PS X (.For tg iter body [] pos) (QP wi g tb):=by
 intro pins s σ H D I h;refine wpAny_For (aU (hi pins s σ H _ I h) fun v s1 h1=>aU h1 fun Lu s2 h2=>?_) hs;obtain⟨it,fp,tn,J,H2,e,I2,T,gG,f2,W,⟨m0,w0⟩,turn⟩:=h2;subst e;have uJ: ∀{H':Hp},(∀b∈fp,H' b=none)-> ∀b∈fp,cV X pins H' b:=fun hn b hb=>⟨hn b hb,(f2 b hb).2⟩
 refine codeAny_forLoop_any (fun n s'=> ∃i σ' H',Inv X pins σ' H' s'/\tn i s'.heap/\(∀b∈fp,H' b=none)/\W i n σ' H') ?_ m0 ⟨0,σ,H2,I2,gG,fun b hb=>(f2 b hb).1,w0⟩;rintro n s3 ⟨i,σ3,H3,I3,fN,UL,w3⟩
 rcases turn i n σ3 H3 w3 with ⟨stop,qn⟩ | ⟨go,N,hN,step⟩
 . refine aj4 hp (aU (T.done X rfl rfl rfl hc i pins s3 σ3 H3 X.xe I3 (uJ UL) fN stop) fun r s4 Qr=>?_);obtain⟨hr,I4⟩:=Qr;subst hr;exact wpAny_execs_nil ⟨σ3,H3,I4,qn⟩
 . refine aj4 hp (aU (T.item X rfl rfl rfl hc i pins s3 σ3 H3 X.xe I3 (uJ UL) fN go) fun r s4 Qq=>?_);obtain⟨u,hr,h4⟩:=Qq;subst hr;refine aj4 hp (aU h4 fun _ s5 Qp=>?_);obtain⟨x,H5,I5,r5,y5,uL,zm⟩:=Qp;have X2:=I5.pinned (uJ zm) (T.obj _ _ uL);refine aj4 hp (aU (hg _ s5 σ3 H5 x u _ X2 r5 (step x H5 y5)) fun _ s6 Qo=>?_);obtain⟨σ6,H6,I6,q6⟩:=Qo;refine aj4 hp (aU (hb _ s6 σ6 H6 _ I6 q6) fun f s7 q7=>?_);have again: ∀{σ7:St} {H7:Hp},Inv X (pins++iW fp s5.heap) σ7 H7 s7->N σ7 H7-> ∃m,m < n/\ ∃i σ' H',Inv X pins σ' H' s7/\tn i s7.heap/\(∀b∈fp,H' b=none)/\W i m σ' H':=fun{σ7 H7} I7 n7=>by
    obtain⟨m',hm,w7⟩:=hN σ7 H7 n7;refine⟨m',hm,i+1,σ7,H7,I7.eh,T.keep _ _ _ uL fun b hb o e=>(I7.pin (b,o) (ZS _ (ZS _ (bA hb e)))).1,fun b hb=>?_,w7⟩;obtain⟨o,e,d⟩:=T.obj _ _ uL b hb;exact(I7.pin (b,o) (ZS _ (ZS _ (bA hb e)))).2.1
   cases f with
   | next=>obtain⟨σ7,H7,I7,n7⟩:=q7;exact again I7 n7
   | cont=>obtain⟨σ7,H7,I7,n7⟩:=q7;exact again I7 n7
   | brk=>obtain⟨σ7,H7,I7,q7⟩:=q7;exact⟨σ7,H7,I7.eh,q7⟩
   | ret v=>obtain⟨x7,σ7,H7,I7,r7,q7⟩:=q7;exact⟨x7,σ7,H7,I7.eh,r7,q7⟩
end
abbrev R2:=V->V->Hp->VK->Prop
def mi(X:Cx)(f:Value->Value->Sem Value)(r:R2):Prop:=
 ∀(pins:List (Addr × Obj)) (s:Shared) (σ:St) (H:Hp) (x y:V) (v u:Value) (Q:VK),Inv X pins σ H s->RelV x v->RelV y u->r x y H Q->
  wpAny (model X.prog X.w) X.A (f v u) (EP X pins σ Q) X.xe s
def Tp(X:Cx)(f:Value->Sem Value)(r:V->Hp->VK->Prop):Prop:=
 ∀(pins:List (Addr × Obj)) (s:Shared) (σ:St) (H:Hp) (x:V) (v:Value) (Q:VK),Inv X pins σ H s->RelV x v->r x H Q->
  wpAny (model X.prog X.w) X.A (f v) (EP X pins σ Q) X.xe s
def fM(X:Cx)(f:Value)(r:List V->Hp->VK->Prop):Prop:=
 ∀(pins:List (Addr × Obj)) (s:Shared) (σ:St) (H:Hp) (xs:List V) (us:List Value) (Q:VK),Inv X pins σ H s->Vals xs us->r xs H Q->
  wpAny (model X.prog X.w) X.A (call f us) (EP X pins σ Q) X.xe s
def Tq(X:Cx)(r:V->Hp->(Bool->Hp->Prop)->Prop):Prop:=
 ∀(pins:List (Addr × Obj)) (s:Shared) (σ:St) (H:Hp) (x:V) (v:Value) (Q:Bool->Hp->Prop),Inv X pins σ H s->RelV x v->r x H Q->
  wpAny (model X.prog X.w) X.A (truthy v) (TP X pins σ Q) X.xe s
def Mf(r:R2)(ta tb:TE):TE:=fun σ H Q=>ta σ H fun x H1=>tb σ H1 fun y H2=>r x y H2 Q
def VQ(r:V->Hp->VK->Prop)(ta:TE):TE:=fun σ H Q=>ta σ H fun x H1=>r x H1 Q
def rI(C:Int->Int->Prop)(g:Int->Int->V):R2:=fun x y H Q=> ∃i j,x= .int i/\y= .int j/\C i j/\Q (g i j) H
def Hc(g:Int->Int->V):R2:=fun x y H Q=> ∃i j,x= .int i/\y= .int j/\Q (g i j) H
def rU(g:Int->V):V->Hp->VK->Prop:=fun x H Q=> ∃i,x= .int i/\Q (g i) H
section
variable{X:Cx}{a b c:Expr}{ta tb tc:TE}{pos:Pos}
theorem K5(ha:PE X a ta)(hb:PE X b tb){pins:List (Addr × Obj)}{s:Shared}{σ:St}{H:Hp}{R:V->V->Hp->Prop}(I:Inv X pins σ H s)
  (h:ta σ H fun x H1=>tb σ H1 fun y H2=>R x y H2) {Q:Value->Shared->Prop} {f:Value->Value->Sem Value}
  (hf: ∀v u s2 x y H2,Inv X pins σ H2 s2->RelV x v->RelV y u->R x y H2->wpAny (model X.prog X.w) X.A (f v u) Q X.xe s2):
  wpAny (model X.prog X.w) X.A (eval a X.env) (fun v s₁=>wpAny (model X.prog X.w) X.A (eval b X.env) (fun u s₂=>wpAny (model X.prog X.w) X.A (f v u) Q X.xe s₂) X.xe s₁) X.xe s:=by
 refine aU (ha pins s σ H _ I h) fun v s1 Qn=>?_;obtain⟨x,H1,I1,r1,q1⟩:=Qn;refine aU (hb pins s1 σ H1 _ I1 q1) fun u s2 Qm=>?_;obtain⟨y,H2,I2,r2,q2⟩:=Qm;exact hf v u s2 x y H2 I2 r1 r2 q2
theorem cN(ho:mi X (binaryOp op) r)(ha:PE X a ta)(hb:PE X b tb):PE X (.BinOp a op b pos) (Mf r ta tb):=by
 intro pins s σ H Q I h;exact wpAny_BinOp (K5 ha hb I h fun v u s2 x y H2 I2 rx ry q=>ho pins s2 σ H2 x y v u Q I2 rx ry q)
theorem MJ(ho:Tp X (unaryOp op) r)(ha:PE X a ta):PE X (.UnaryOp op a pos) (VQ r ta):=by
 intro pins s σ H Q I h;exact UnaryOp_ (aU (ha pins s σ H _ I h) fun v s1 Ql=>(by obtain⟨x,H1,I1,r1,q1⟩:=Ql;exact(ho pins s1 σ H1 x v Q I1 r1 q1)))
theorem Ph{C:Int->Int->Prop}{g:Int->Int->Int}(rule: ∀(i j:Int) (t u:Tok) (s:Shared) (Q:Value->Shared->Prop) (E:Value->Shared->Prop),C i j->Q (.int (g i j) s.toks) {s with toks:=s.toks+1}->wpAny (model X.prog X.w) X.A (f (.int i t) (.int j u)) Q E s):
  mi X f (rI C fun i j=> .int (g i j)):=by
 intro pins s σ H x y v u Q I rx ry h;obtain⟨i,j,rfl,rfl,hc,q⟩:=h;obtain⟨t,rfl⟩:=rx;obtain⟨t',rfl⟩:=ry;exact rule i j t t' s _ _ hc ⟨.int (g i j),H,I.tok _,⟨_,rfl⟩,q⟩
theorem MP{g:Int->Int->Int}(rule: ∀(i j:Int) (t u:Tok) (s:Shared) (Q:Value->Shared->Prop) (E:Value->Shared->Prop),Q (.int (g i j) s.toks) {s with toks:=s.toks+1}->wpAny (model X.prog X.w) X.A (f (.int i t) (.int j u)) Q E s):
  mi X f (Hc fun i j=> .int (g i j)):=by
 intro pins s σ H x y v u Q I rx ry h;obtain⟨i,j,rfl,rfl,q⟩:=h;obtain⟨t,rfl⟩:=rx;obtain⟨t',rfl⟩:=ry;exact rule i j t t' s _ _ ⟨.int (g i j),H,I.tok _,⟨_,rfl⟩,q⟩
theorem Jz{g:Int->Int->Bool}(rule: ∀(i j:Int) (t u:Tok) (s:Shared) (Q:Value->Shared->Prop) (E:Value->Shared->Prop),Q (.bool (g i j)) s->wpAny (model X.prog X.w) X.A (f (.int i t) (.int j u)) Q E s):
  mi X f (Hc fun i j=> .bl (g i j)):=by
 intro pins s σ H x y v u Q I rx ry h;obtain⟨i,j,rfl,rfl,q⟩:=h;obtain⟨t,rfl⟩:=rx;obtain⟨t',rfl⟩:=ry;exact rule i j t t' s _ _ ⟨.bl (g i j),H,I,rfl,q⟩
def TY(i j:Int):Prop:=0 < j/\j < 1073741824
def Ln(i j:Int):Prop:=0<=j/\j<=1000000/\i.natAbs < 2^64
def zM(i j:Int):Prop:=(-(2^64) < i/\i < 2^64)\/(-(2^64) < j/\j < 2^64)
theorem zM.ok(h:zM i j):IntMulOk i j:=by
 rcases h with ⟨h1,h2⟩ | ⟨h1,h2⟩
 . exact .of_left (intBits_le_64 h1 h2)
 . exact .of_right (intBits_le_64 h1 h2)
theorem mX:mi X (binaryOp .Add) (Hc fun i j=> .int (i+j)):=MP fun _ _ _ _ _ _ _ q=>add_int q
theorem Jw:mi X (binaryOp .Sub) (Hc fun i j=> .int (i - j)):=MP fun _ _ _ _ _ _ _ q=>sub_int q
theorem i0:mi X (binaryOp .Mult) (rI zM fun i j=> .int (i*j)):=Ph fun _ _ _ _ _ _ _ hc q=>mul_int q hc.ok
theorem Fy:mi X (binaryOp .FloorDiv) (rI TY fun i j=> .int (i / j)):=Ph fun i j _ _ _ _ _ hc q=>by
 have h1:(0:Int) < j:=hc.1;have h2:j < 1073741824:=hc.2;exact floordiv_int (by lia) (by rw[Int.fdiv_eq_ediv_of_nonneg i (by lia)];exact q) (.inl (PyProof.noPylong_small (by lia)))
theorem kj:mi X (binaryOp .Mod) (rI (fun _ j=>0 < j) fun i j=> .int (i % j)):=Ph fun i j _ _ _ _ _ hc q=>by
 have h1:(0:Int) < j:=hc;exact mod_int' (by lia) (by rw[Int.fmod_eq_emod_of_nonneg i (by lia)];exact q)
theorem Jx:mi X (binaryOp .Pow) (rI Ln fun i j=> .int (i^j.toNat)):=Ph fun _ _ _ _ _ _ _ hc q=>pow_int_small hc.1 hc.2.1 hc.2.2 q
theorem VM{g:Int->Int}(rule: ∀(i:Int) (t:Tok) (s:Shared) (Q:Value->Shared->Prop) (E:Value->Shared->Prop),Q (.int (g i) s.toks) {s with toks:=s.toks+1}->wpAny (model X.prog X.w) X.A (f (.int i t)) Q E s):
  Tp X f (rU fun i=> .int (g i)):=by
 intro pins s σ H x v Q I rx h;obtain⟨i,rfl,q⟩:=h;obtain⟨t,rfl⟩:=rx;exact rule i t s _ _ ⟨.int (g i),H,I.tok _,⟨_,rfl⟩,q⟩
theorem Iw:Tp X (unaryOp .USub) (rU fun i=> .int (-i)):=VM fun _ _ _ _ _ q=>neg_int q
end
noncomputable def E8:V->V->Bool
 | .aD,.aD=>true | .aD,.int _=>true | .int _,.aD=>true | .aD,.bl _=>true | .bl _,.aD=>true | .aD,.str _=>true | .str _,.aD=>true
 | .int _,.int _=>true | .bl _,.bl _=>true | .str _,.str _=>true | .xX _,.xX _=>true
 | .int _,.str _=>true | .str _,.int _=>true | .bl _,.str _=>true | .str _,.bl _=>true
 | _,_=>false
def Uh:R2:=fun x y H Q=>E8 x y=true/\Q (.bl (decide (x=y))) H
def Ud:R2:=fun x y H Q=>E8 x y=true/\Q (.bl (!decide (x=y))) H
theorem xH:decide (V.int i=V.int j)=(i==j):=by
 rw[al0];simp
theorem C2:decide (V.bl i=V.bl j)=(i==j):=by
 rw[al0];simp
theorem xG:decide (V.str i=V.str j)=(i==j):=by
 rw[al0];simp
theorem xJ:decide (V.xX i=V.xX j)=(i.toList==j.toList):=by
 rw[al0];cases i;cases j;simp
section
variable{X:Cx}{a b c:Expr}{ta tb tc:TE}{pos:Pos}
theorem aS(I:Inv X pins σ H s)(q:Q (.bl k) H)(e:k=k'):EP X pins σ Q (.bool k') s:=by
 subst e;exact⟨.bl k,H,I,rfl,q⟩
theorem Hh:mi X (compareOp .Eq) Uh:=by
 intro pins s σ H x y v u Q I rx ry h;obtain⟨hs,q⟩:=h;cases x with
 | aD=>
  cases rx;cases y with
  | aD=>cases ry;exact PySem.EqNone.eq_none_none (aS I q rfl)
  | bl j=>cases ry;exact PySem.EqNone.eq_none_bool (aS I q rfl)
  | int j=>obtain⟨t',rfl⟩:=ry;exact PySem.EqNone.eq_none_int (aS I q rfl)
  | str j=>obtain⟨t',rfl⟩:=ry;exact PySem.EqNone.eq_none_str (aS I q rfl)
  | _=>exact absurd (show false=true from hs) ZJ
 | bl i=>
  cases rx;cases y with
  | aD=>cases ry;exact PySem.EqNone.eq_bool_none (aS I q rfl)
  | bl j=>cases ry;exact eq_bool (aS I q C2)
  | str j=>obtain⟨t',rfl⟩:=ry;exact PySem.EqMixed.eq_bool_str (aS I q rfl)
  | _=>exact absurd (show false=true from hs) ZJ
 | int i=>
  obtain⟨t,rfl⟩:=rx;cases y with
  | aD=>cases ry;exact PySem.EqNone.eq_int_none (aS I q rfl)
  | int j=>obtain⟨t',rfl⟩:=ry;exact eq_int (aS I q xH)
  | str j=>obtain⟨t',rfl⟩:=ry;exact PySem.EqMixed.eq_int_str (aS I q rfl)
  | _=>exact absurd (show false=true from hs) ZJ
 | str i=>
  obtain⟨t,rfl⟩:=rx;cases y with
  | aD=>cases ry;exact PySem.EqNone.eq_str_none (aS I q rfl)
  | bl j=>cases ry;exact PySem.EqMixed.eq_str_bool (aS I q rfl)
  | int j=>obtain⟨t',rfl⟩:=ry;exact PySem.EqMixed.eq_str_int (aS I q rfl)
  | str j=>obtain⟨t',rfl⟩:=ry;exact eq_str (aS I q xG)
  | _=>exact absurd (show false=true from hs) ZJ
 | xX i=>
  obtain⟨t,rfl⟩:=rx;cases y with
  | xX j=>obtain⟨t',rfl⟩:=ry;exact PySem.W.eq_bytes (aS I q xJ)
  | _=>exact absurd (show false=true from hs) ZJ
 | _=>exact absurd (show false=true from hs) ZJ
theorem ML:mi X (compareOp .NotEq) Ud:=by
 intro pins s σ H x y v u Q I rx ry h;obtain⟨hs,q⟩:=h;cases x with
 | aD=>
  cases rx;cases y with
  | aD=>cases ry;exact PySem.EqNone.ne_none_none (aS I q rfl)
  | bl j=>cases ry;exact PySem.EqNone.ne_none_bool (aS I q rfl)
  | int j=>obtain⟨t',rfl⟩:=ry;exact PySem.EqNone.ne_none_int (aS I q rfl)
  | str j=>obtain⟨t',rfl⟩:=ry;exact PySem.EqNone.ne_none_str (aS I q rfl)
  | _=>exact absurd (show false=true from hs) ZJ
 | bl i=>
  cases rx;cases y with
  | aD=>cases ry;exact PySem.EqNone.ne_bool_none (aS I q rfl)
  | bl j=>cases ry;exact ne_bool (aS I q (ab9 not C2))
  | str j=>obtain⟨t',rfl⟩:=ry;exact PySem.EqMixed.ne_bool_str (aS I q rfl)
  | _=>exact absurd (show false=true from hs) ZJ
 | int i=>
  obtain⟨t,rfl⟩:=rx;cases y with
  | aD=>cases ry;exact PySem.EqNone.ne_int_none (aS I q rfl)
  | int j=>obtain⟨t',rfl⟩:=ry;exact ne_int (aS I q (ab9 not xH))
  | str j=>obtain⟨t',rfl⟩:=ry;exact PySem.EqMixed.ne_int_str (aS I q rfl)
  | _=>exact absurd (show false=true from hs) ZJ
 | str i=>
  obtain⟨t,rfl⟩:=rx;cases y with
  | aD=>cases ry;exact PySem.EqNone.ne_str_none (aS I q rfl)
  | bl j=>cases ry;exact PySem.EqMixed.ne_str_bool (aS I q rfl)
  | int j=>obtain⟨t',rfl⟩:=ry;exact PySem.EqMixed.ne_str_int (aS I q rfl)
  | str j=>obtain⟨t',rfl⟩:=ry;exact ne_str (aS I q (ab9 not xG))
  | _=>exact absurd (show false=true from hs) ZJ
 | xX i=>
  obtain⟨t,rfl⟩:=rx;cases y with
  | xX j=>obtain⟨t',rfl⟩:=ry;exact PySem.W.ne_bytes (aS I q (ab9 not xJ))
  | _=>exact absurd (show false=true from hs) ZJ
 | _=>exact absurd (show false=true from hs) ZJ
theorem MM:mi X (compareOp .Lt) (Hc fun i j=> .bl (decide (i < j))):=Jz fun _ _ _ _ _ _ _ q=>lt_int q
theorem MN:mi X (compareOp .Gt) (Hc fun i j=> .bl (decide (j < i))):=Jz fun _ _ _ _ _ _ _ q=>gt_int q
theorem MO:mi X (compareOp .GtE) (Hc fun i j=> .bl (decide (j<=i))):=Jz fun _ _ _ _ _ _ _ q=>ge_int q
theorem i3(b:Expr)(h:op≠ .In:=by decide)(h2:op≠ .NotIn:=by decide):behindInMarks op b=false:=by
 have e1:(op==CmpOp.In)=false:=by cases op <;> first | rfl | exact absurd rfl h
 have e2:(op==CmpOp.NotIn)=false:=by cases op <;> first | rfl | exact absurd rfl h2
 cases b <;> simp [behindInMarks,e1,e2]
theorem Fu(ho:mi X (compareOp op) r)(ha:PE X a ta)(hb:PE X b tb)(hm:behindInMarks op b=false):PE X (.Compare a [op] [b] pos) (Mf r ta tb):=by
 intro pins s σ H Q I h;exact wpAny_Compare1 (K5 ha hb I h fun v u s2 x y H2 I2 rx ry q=>ho pins s2 σ H2 x y v u Q I2 rx ry q) hm
def Mb(t:TE):TT:=fun σ H Q=>t σ H fun x H'=> ∃k,x= .bl k/\Q k H'
theorem qy(ho:mi X (compareOp op) r)(ha:PE X a ta)(hb:PE X b tb)(hm:behindInMarks op b=false):PT X (.Compare a [op] [b] pos) (Mb (Mf r ta tb)):=by
 intro pins s σ H Q I h;refine wpAny_isTrue_Compare1 (aU (ha pins s σ H _ I h) fun v s1 ⟨x,H1,I1,r1,q1⟩=>aU (hb pins s1 σ H1 _ I1 q1) fun u s2 ⟨y,H2,I2,r2,q2⟩=>
  aU (ho pins s2 σ H2 x y v u _ I2 r1 r2 q2) fun c s3 ⟨z,H3,I3,r3,k,e,q3⟩=>?_) hm
 subst e;cases r3;exact ah1 ⟨H3,I3,q3⟩
def OL(K:PySem.W.Frag)(x:V)(H:Hp)(k:Bool):Prop:=
 match x with
 | .aD=>k=false
 | .bl b=>k=b
 | .int i=>k=(i !=0)
 | .str y=>y.length<=sizeLine/\k=((y.length:Int) !=0)
 | .xX y=>y.size<=sizeLine/\k=((y.size:Int) !=0)
 | .ref p=>(∃xs,cY K H p xs/\k=!xs.isEmpty)\/(∃xs,dG K H p xs/\k=!xs.isEmpty)\/ ∃aK,H p=some (.dK aK)/\k=!aK.isEmpty
 | _=>False
theorem vd(r:KV aK vs):(!vs.isEmpty)=!aK.isEmpty:=by
 cases r <;> rfl
theorem nq(r:Vals xs ao):(!ao.toArray.isEmpty)=!xs.isEmpty:=by
 cases r <;> simp
theorem ko:(sizeLine:Nat) < 2^63:=by rw[ag6];decide
theorem Iy:Tq X (fun x H Q=> ∃k,OL X.K x H k/\Q k H):=by
 intro pins s σ H x v Q I rx h;obtain⟨k,e,q⟩:=h;have hl:=ko;have hs:sizeLine=16777216:=ag6;cases x with
 | aD=>
  cases rx;have e':k=false:=e;subst e';exact truthy_none ⟨H,I,q⟩
 | bl b=>
  cases rx;have e':k=b:=e;subst e';exact ah1 ⟨H,I,q⟩
 | int i=>
  obtain⟨t,rfl⟩:=rx;have e':k=(i !=0):=e;subst e';exact PySem.P.truthy_int ⟨H,I,q⟩
 | str y=>
  obtain⟨t,rfl⟩:=rx;obtain⟨hy,e'⟩:y.length<=sizeLine/\k=((y.length:Int) !=0):=e;subst e';exact PySem.P.truthy_str (by lia) ⟨H,I.tok _,q⟩
 | xX y=>
  obtain⟨t,rfl⟩:=rx;obtain⟨hy,e'⟩:y.size<=sizeLine/\k=((y.size:Int) !=0):=e;subst e';exact PySem.W.truthy_bytes (by lia) ⟨H,I.tok _,q⟩
 | ref p=>
  cases rx;have e':(∃xs,cY X.K H p xs/\k=!xs.isEmpty)\/(∃xs,dG X.K H p xs/\k=!xs.isEmpty)\/ ∃aK,H p=some (.dK aK)/\k=!aK.isEmpty:=e;rcases e' with ⟨xs,hx,e'⟩ | ⟨xs,hx,e'⟩ | ⟨aK,hx,e'⟩
  . subst e';obtain⟨ao,r,pl,hz⟩:=I.list hx;have hlen:=r.length;exact wpAny_truthy_list pl.isList (by simp only [ZH];lia) ⟨H,I.tok _,by rw[nq r];exact q⟩
  . subst e';obtain⟨ao,r,pl,hz⟩:=I.tuple hx;have hlen:=r.length;exact truthy_tuple pl (by simp only [ZH];lia) ⟨H,I.tok _,by rw[nq r];exact q⟩
  . subst e';obtain⟨hz,hS,vs,r,m⟩:aK.length<=sizeLine/\(p==sysModules)=false/\ ∃vs,KV aK vs/\s.heap.DictOf (aV X.prog X.w) p vs:=I.aT p _ hx;have hlen:aK.length=vs.length:=Paired.length r;exact wpAny_truthy_dict hS m (by lia) ⟨H,I.tok _,by rw[vd r];exact q⟩
 | _=>exact(show False from e).elim
theorem Bh(ha:PE X a ta)(he: ∀whole,isTrue a X.env whole=(do let v<-whole;standAt a.pos;holding [v] (truthy v))):
  PT X a (fun σ H Q=>ta σ H fun x H'=> ∃k,OL X.K x H' k/\Q k H'):=by
 intro pins s σ H Q I h;exact isTrue_plain (aU (ha pins s σ H _ I h) fun v s1 Qk=>(by obtain⟨x,H1,I1,r1,q1⟩:=Qk;exact(Iy pins s1 σ H1 x v Q I1 r1 q1))) (he _)
theorem vals1(r:Vals [x] us): ∃u,us= [u]/\RelV x u:=by
 cases r with
 | cons r1 r2=>cases r2;exact⟨_,rfl,r1⟩
theorem vals2(r:Vals [x,y] us): ∃u w',us= [u,w']/\RelV x u/\RelV y w':=by
 cases r with
 | cons r1 r2=>
  cases r2 with
  | cons r3 r4=>cases r4;exact⟨_,_,rfl,r1,r3⟩
end
structure Lb(h:Heap)(x dx C:Addr)(mA:Str->Option Value):Prop where
 obj:h.get? x=some (PySem.W.instObj C dx)
 ns:h.Ns1 dx mA
 ne:dx≠x
theorem y4{h:Heap}(n:h.Ns1 dx mA): ∃od,h.get? dx=some od/\ ∀name,PySem.W.lookIn name od=some (mA name):=by
 obtain⟨o,es,ep,ho,hd,hk,_,hm⟩:=n;refine⟨o,ho,fun name=>?_⟩;have e:=hm name;unfold nsFind findBy at e;rw[<-Array.find?_toList] at e;unfold PySem.W.lookIn;rw[hd];dsimp only;split
 . rename_i y q;rw[q] at e;exact ab9 some e
 . rename_i q;rw[q] at e;have a:es.toList.any (·.refKey)=false:=by
    rw[List.any_eq_false];intro y hy;obtain⟨z,t,lq⟩:=hk y (Array.mem_toList_iff.mp hy);simp [DictEntry.refKey,lq]
   have a': ¬es.toList.any (·.refKey)=true:=by rw[a];exact ZJ
   rw[if_neg a'];exact ab9 some e
theorem Lb.look(I:Lb h x dx C mA): ∃od,PySem.W.InstAt h x (PySem.W.instObj C dx) C (some od)/\ ∀name,PySem.W.lookIn name od=some (mA name):=
 let ⟨od,ho,hl⟩:=y4 I.ns
 ⟨od,⟨I.obj,rfl,rfl,ho⟩,hl⟩
theorem nV.some_of(r:nV (some v) o): ∃u,o=some u/\RelV v u:=by
 cases o with
 | none=>exact(show False from r).elim
 | some u=>exact⟨u,rfl,r⟩
theorem F3(aT:gI P w H h)(e:H a=some (.ins C dx fs)): ∃mA,Lb h a dx C mA/\(∀f,nV (fs.lookup f) (mA f))/\PySem.Within mA (fs.map (·.1))/\fs.length<=1000/\H dx=some (.own a):=by
 obtain⟨d,z,ne,ob,mA,n,r,q⟩:=(show a0 P w H h a (.ins C dx fs) from aT a _ e)
 exact⟨mA,⟨ob,n,ne⟩,r,q,z,d⟩
structure TX(K:PySem.W.Frag)(C:Addr):Prop where
 pg:PySem.W.plainGet K C Str.empty=true
 hd:PySem.W.hasDictIn K C=true
 po:PySem.W.plainOver K C=true
 sa:PySem.W.findIn K (.ref C) "__setattr__"=some (some (.builtin "object.__setattr__"))
theorem TX.get{K:PySem.W.Frag}(c:TX K C)(f:Str):PySem.W.plainGet K C f=true:=c.pg
section
variable{X:Cx}{pins:List (Addr × Obj)}{σ:St}{H:Hp}{s:Shared}{A:Around}{E:Value->Shared->Prop}{Q:Value->Shared->Prop}{c:Value}{b:Bool}
inductive lF(K:PySem.W.Frag)(H:Hp):V->Value->Prop where
 | aD:lF K H .aD (.type "NoneType")
 | bl (x:Bool):lF K H (.bl x) (.type "bool")
 | int (i:Int):lF K H (.int i) (.type "int")
 | str (x:Str):lF K H (.str x) (.type "str")
 | zV (x:UInt64):lF K H (.zV x) (.type "float")
 | lst {a:Addr} {xs:List V} (e:H a=some (.lst xs)):lF K H (.ref a) (.type "list")
 | lZ {a:Addr} {o:Obj} {xs:List V} (e:H a=some (.lZ o (.lst xs))):lF K H (.ref a) (.type "list")
 | tup {a:Addr} {xs:List V} (e:H a=some (.tup xs)):lF K H (.ref a) (.type "tuple")
 | dK {a:Addr} {aK:List (Key × V)} (e:H a=some (.dK aK)):lF K H (.ref a) (.type "dict")
 | dT {a:Addr} {aK:List (List Key × V)} (e:H a=some (.dT aK)):lF K H (.ref a) (.type "dict")
 | ins {a C dx:Addr} {fs:List (Str × V)} (e:H a=some (.ins C dx fs)) (cl:TX K C) (ha:PySem.W.findIn K (.ref C) "__class__"=some (some (.builtin "object.__class__")))
   (hn:PySem.W.specialIn K (.builtin "object.__class__") "__get__"=some (some (.builtin "getset_descriptor.__get__"))) (Uv:PySem.W.takesIn K (.builtin "object.__class__")=some true)
   (hm:PySem.W.mroIn K C (.type "object")=some true):lF K H (.ref a) (.ref C)
theorem dX(I:Inv X pins σ H s)(rx:RelV x u)(ty:lF X.K H x t)(e:PySem.W.kitOne X.K t c=some b)(h: ∀tk,Q (.bool b) {s with toks:=tk}):
  wpAny (model X.prog X.w) A (call (.builtin "isinstance") [u,c]) Q E s:=by
 cases ty with
 | aD=>cases (show u=Value.none from rx);exact ae7 PySem.W.kitx_none I.pf True.intro e (fun z=>nomatch z) h
 | bl y=>cases (show u=Value.bool y from rx);exact ae7 PySem.W.kitx_bool I.pf True.intro e (fun z=>nomatch z) h
 | int i=>obtain⟨t,q⟩:=(show∃t,u=Value.int i t from rx);cases q;exact ae7 PySem.W.kitx_int I.pf True.intro e (fun z=>nomatch z) h
 | str y=>obtain⟨t,q⟩:=(show∃t,u=Value.str y t from rx);cases q;exact ae7 PySem.W.kitx_str I.pf True.intro e (fun z=>nomatch z) h
 | zV y=>obtain⟨t,q⟩:=(show∃t,u=Value.float y t from rx);cases q;exact ae7 PySem.W.kitx_float I.pf True.intro e (fun z=>nomatch z) h
 | @lst a xs ea=>
  cases (show u=Value.ref a from rx);obtain⟨_,_,n,_,h1⟩:=(show a0 X.prog X.w H s.heap a (.lst xs) from I.aT a _ ea)
  exact ae7 PySem.W.kitx_list I.pf ⟨_,h1,rfl⟩ e (fun z=>nomatch z) h
 | @lZ a ob xs ea=>
  cases (show u=Value.ref a from rx);obtain⟨_,_,_,n,_,h1⟩:=(show a0 X.prog X.w H s.heap a (.lZ ob (.lst xs)) from I.aT a _ ea)
  exact ae7 PySem.W.kitx_list I.pf ⟨_,h1,rfl⟩ e (fun z=>nomatch z) h
 | @tup a xs ea=>
  cases (show u=Value.ref a from rx);obtain⟨_,_,_,p⟩:=(show a0 X.prog X.w H s.heap a (.tup xs) from I.aT a _ ea)
  obtain⟨o,h1,h2,_⟩:=p;exact ae7 PySem.W.kitx_tuple I.pf ⟨o,h1,h2⟩ e (fun z=>nomatch z) h
 | @dK a aK ea=>
  cases (show u=Value.ref a from rx);obtain⟨_,_,vs,_,p⟩:=(show a0 X.prog X.w H s.heap a (.dK aK) from I.aT a _ ea)
  obtain⟨o,es,ep,h1,h2,_⟩:=p;exact ae7 PySem.W.kitx_dict I.pf ⟨o,h1,h2.1⟩ e (fun z=>nomatch z) h
 | @dT a aK ea=>
  cases (show u=Value.ref a from rx);obtain⟨_,_,xs,_,o,es,ep,h1,h2,_⟩:=(show a0 X.prog X.w H s.heap a (.dT aK) from I.aT a _ ea)
  exact ae7 PySem.W.kitx_dict I.pf ⟨o,h1,h2.1⟩ e (fun z=>nomatch z) h
 | @ins a C dx fs ea cl ha hn Uv hm=>
  cases (show u=Value.ref a from rx);obtain⟨mA,O,_⟩:=F3 I.aT ea;obtain⟨od,J,_⟩:=O.look;exact ae7 (PySem.W.kitx_own (cl.get _) cl.hd ha hn Uv hm) I.pf J e (fun z=>nomatch z) h
end
structure bD(k:Nat)(A:Around):Prop where
 hd:A.handled=none
 dp:A.depth+3*k+5 < recursionLimit
 un:A.units+16*k+200 < cLine
 gd:A.guards=some []
theorem bD.mono(r:bD k A)(h:j<=k):bD j A:=⟨r.hd,by have:=r.dp;lia,by have:=r.un;lia,r.gd⟩
theorem bD.deeper(r:bD (k+1) A)(env:Env):bD k (A.deeper env):=
 ⟨r.hd,by have:=r.dp;show A.depth+1+3*k+5 < _;lia,by have:=r.un;show A.units+3+16*k+200 < _;lia,r.gd⟩
theorem bD.in1(r:bD (k+1) A):bD k A.in1:=
 ⟨r.hd,by have:=r.dp;show A.depth+3*k+5 < _;lia,by have:=r.un;show A.units+1+16*k+200 < _;lia,r.gd⟩
theorem bD.depth(r:bD k A):A.depth < recursionLimit:=by have:=r.dp;lia
theorem bD.units(r:bD k A):A.units+64 < cLine:=by have:=r.un;lia
theorem bD.Ir(r:bD k A):A.units < cLine:=by have:=r.un;lia
def p7:TA:=fun _ H Q=>Q [] H
def kG(ta:TE)(tr:TA):TA:=fun σ H Q=>ta σ H fun x H1=>tr σ H1 fun xs H2=>Q (x::xs) H2
section
variable{X:Cx}{e:Expr}{es:List Expr}{te:TE}{t:TA}{pos:Pos}
theorem aG:PA X [] p7:=fun _ _ _ _ H Q I h=>Calls.spliced_nil ⟨[],H,I,.nil,h⟩
theorem af(ha:PE X e te)(hr:PA X es t)(hs:starEach (e::es) X.env=(false,eval e X.env)::starEach es X.env:=by rfl):PA X (e::es) (kG te t):=by
 intro pos pins s σ H Q I h;rw[hs];show wpAny _ _ (spliced ((false,eval e X.env)::backTo pos (starEach es X.env))) _ _ s;refine Calls.spliced_cons (aU (ha pins s σ H _ I h) fun u s1 Qj=>?_);obtain⟨x,H1,I1,r1,q1⟩:=Qj;exact aU (hr pos pins s1 σ H1 _ I1 q1) fun us s2 Qi=>(by obtain⟨xs,H2,I2,r2,q2⟩:=Qi;exact(⟨x::xs,H2,I2,.cons r1 r2,q2⟩))
def QI(t:TA):TE:=fun σ H Q=>t σ H fun xs H1=>xs.length<=sizeLine/\ ∀p,H1 p=none->Q (.ref p) (upd H1 p (.tup xs))
def QN(t:TA):TE:=fun σ H Q=>t σ H fun xs H1=>xs.length<=sizeLine/\ ∀p,H1 p=none->Q (.ref p) (upd H1 p (.lst xs))
theorem Bx{x1}(h:PA X es t):PE X (.Tuple es x1 pos) (QI t):=by
 intro pins s σ H Q I hq;refine wpAny_Tuple_spliced (aU (h pos pins s σ H _ I hq) fun us s1 ⟨xs,H1,I1,r,z,q⟩=>⟨by rw[<-r.length];exact z,?_⟩);have hf:H1 s1.heap.objs.size=none:=I1.aT.fresh (Zx _);refine⟨.ref s1.heap.objs.size,upd H1 s1.heap.objs.size (.tup xs),I1.laid (t':=s1.toks) (fun b u e=>Zv _ e) (Zx _) ?_,rfl,q _ hf⟩;exact⟨z,us,r,⟨_,ZP _ rfl,rfl,rfl,_,rfl⟩⟩
theorem uT(h:PA X es t):PE X (.List es pos) (QN t):=by
 intro pins s σ H Q I hq;refine wpAny_List_spliced (aU (h pos pins s σ H _ I hq) fun us s1 ⟨xs,H1,I1,r,z,q⟩=>⟨by rw[<-r.length];exact z,?_⟩);have hf:H1 s1.heap.objs.size=none:=I1.aT.fresh (Zx _);refine⟨.ref s1.heap.objs.size,upd H1 s1.heap.objs.size (.lst xs),I1.laid (t':=s1.toks) (fun b u e=>Zv _ e) (Zx _) ?_,rfl,q _ hf⟩;exact⟨z,us,0,r,ZP _ rfl⟩
end
abbrev Sp:=List V->Hp->VK->XK->Prop
abbrev Ia:=List Env->Hp->Shared->XK->Value->Shared->Prop
structure G3(P:Program)(w:World)(K:PySem.W.Frag)(mg:Str->Option Value)(base:Heap)(A:Around)(outer:List Env)(s:Shared)(H:Hp):Prop where
 frames:A.frames=some outer
 mod:Mod K mg base
 bs: ∀b o,base.get? b=some o->s.heap.get? b=some o/\H b=none
 GR:base.objs.size<=s.heap.objs.size
 nD:s.heap.FunFrames base outer
 LJ: ∀b∈kR outer,H b=none
 aT:gI P w H s.heap
 bare:AllBare s.gens
 tab:iu K H
def CE(outer:List Env)(P:Program)(w:World)(H:Hp)(s:Shared)(Q:VK)(u:Value)(s':Shared):Prop:=
 ∃v H',s'.os=s.os/\AllBare s'.gens/\Un (kR outer) [] H H' s.heap s'.heap/\gI P w H' s'.heap/\RelV v u/\Q v H'
def CR(CX:Ia)(outer:List Env)(P:Program)(w:World)(H:Hp)(s:Shared)(Q:VK)(E:XK)(r:Result)(s':Shared):Prop:=
 match r with
 | .ok (.ret u)=>CE outer P w H s Q u s'
 | .ok _=>False
 | .error e=>CX outer H s E e s'
structure aX(P:Program)(w:World)(K:PySem.W.Frag)(mg:Str->Option Value)(base:Heap)(CX:Ia)(k:Nat)(f:Addr)(fd:FuncData)(ps:List Str)(sp:Sp):Prop where
 len: ∀vs H Q E,sp vs H Q E->vs.length=ps.length
 run: ∀(A:Around) (outer:List Env) (s:Shared) (H:Hp) (args:Args) (us:List Value) (vs:List V) (Q:VK) (E:XK),bD k A->G3 P w K mg base A outer s H->BindsTo s fd args (ps.zip us)->Vals vs us->sp vs H Q E->
  codeAny (model P w) A (.call (.ref f) args) (CR CX outer P w H s Q E) s
theorem aX.imp{P:Program}{w:World}{K:PySem.W.Frag}{k:Nat}(F:aX P w K mg base CX k f fd ps sp)(h: ∀vs H Q E,VZ vs H Q E->sp vs H Q E):aX P w K mg base CX k f fd ps VZ:=
 ⟨fun vs H Q E q=>F.len vs H Q E (h _ _ _ _ q),fun A outer s H args us vs Q E hr he hb hv hs=>F.run A outer s H args us vs Q E hr he hb hv (h _ _ _ _ hs)⟩
theorem Inv.NX(I:Inv X pins σ H s):G3 X.prog X.w X.K X.mg X.base X.A X.stack s H:=
 ⟨I.ok.frames,I.ok.mod,I.bs,ZZ I.ok.GR I.sz,I.stack,I.p9,I.aT,I.bare,I.tab⟩
theorem Inv.after(I:Inv X pins σ H s)(h:CE X.stack X.prog X.w H s Q u s'):EP X pins σ Q u s':=by
 obtain⟨v,H',os,bare,un,aT,r,q⟩:=h;obtain⟨hh,g,d,t,Q3⟩:=s';obtain rfl:Q3=s.os:=os;exact⟨v,H',I.call (h':=hh) (g':=g) (d':=d) (t':=t) (ch:= []) un aT bare (fun b z=>absurd z (by simp)),r,q⟩
def AL(sp:Sp)(dvs:List V)(E:XK)(t:TA):TE:=fun σ H Q=>t σ H fun vs H1=>sp (vs++dvs) H1 Q E
def Binds(K:PySem.W.Frag)(fd:FuncData)(ps:List Str)(ds:List Value):Prop:=
 ∀(s:Shared) (us:List Value),K.In s.heap->(us++ds).length=ps.length->BindsTo s fd ⟨us,[]⟩ (ps.zip (us++ds))
theorem Binds.all{K:PySem.W.Frag}{ps:List Str}(h: ∀us:List Value,us.length=ps.length->bindArgs fd ⟨us,[]⟩=pure (ps.zip us)):Binds K fd ps []:=fun s us _ hl=>by
 rw[ab2] at hl ⊢;exact .of_eq (h us hl)
def Passes(CX:Ia)(X:Cx)(E:XK):Prop:= ∀(pins:List (Addr × Obj)) (σ:St) (H:Hp) (s:Shared) (e:Value) (s':Shared),Inv X pins σ H s->CX X.stack H s E e s'->X.xe e s'
theorem Ba(F:aX X.prog X.w X.K X.mg X.base CX k f fd ps sp)(hr:bD k X.A)(hb:Binds X.K fd ps ds)(hd:Vals dvs ds)(hx:Passes CX X E)(I:Inv X pins σ H s)(r:Vals vs us)(h:sp (vs++dvs) H Q E):wpAny (model X.prog X.w) X.A (call (.ref f) us) (EP X pins σ Q) X.xe s:=by
 have r2:Vals (vs++dvs) (us++ds):=r.append hd;have hl:(us++ds).length=ps.length:=by rw[<-r2.length];exact F.len _ _ _ _ h
 refine wpAny_call (al7 (F.run X.A X.stack s H ⟨us,[]⟩ (us++ds) (vs++dvs) Q E hr I.NX (hb s us I.pf hl) r2 h) fun r s' hq=>?_);cases r with
 | error e=>exact hx pins σ H s e s' I hq
 | ok fl=>
  cases fl with
  | ret u=>exact I.after hq
  | next=>exact False.elim hq
  | brk=>exact False.elim hq
  | cont=>exact False.elim hq
theorem Fv(F:aX X.prog X.w X.K X.mg X.base CX k f fd ps sp)(hr:bD k X.A)(hg:Gl X x)(hm:X.mg x=some (.ref f))(hk:PySem.W.keepIn X.K (.ref f)=true)(hb:Binds X.K fd ps ds)(hd:Vals dvs ds)(hx:Passes CX X E)
  (ha:PA X (e::es) t) (i8:(x==("__debug__":Str))=false:=by decide) (he:starEach (e::es) X.env=(false,eval e X.env)::starEach es X.env:=by rfl) (dq:(backTo pos (starEach es X.env)).any (·.1)=false:=by rfl):
  PE X (.Call (.Name x p) (e::es) [] pos) (AL sp dvs E t):=by
 intro pins s σ H Q I h;refine ag5 (qL I hg hm ?_ i8);refine PySem.W.callWith_K (h₀:=X.base) I.ok.mod.Pn hk (aU (ha pos pins s σ H _ I h) fun us s1 ⟨vs,H1,I1,r,q⟩=>⟨I1.pf,?_⟩) he dq;exact Ba F hr hb hd hx I1 r q
def PK(X:Cx)(kN:List Keyword)(t:TA):Prop:=
 ∀(pos:Pos) (pins:List (Addr × Obj)) (s:Shared) (σ:St) (H:Hp) (Q:List V->Hp->Prop),Inv X pins σ H s->t σ H Q->wpAny (model X.prog X.w) X.A (evalAll ((backToKw pos (keywordEach kN X.env)).map (·.2))) (AP X pins σ Q) X.xe s
theorem Bp:PK X [] p7:=fun _ _ _ _ H Q I h=>wpAny_evalAll_nil ⟨[],H,I,.nil,h⟩
theorem wR(ha:PE X e te)(hr:PK X kN t):PK X (⟨nm,e,qM⟩::kN) (kG te t):=by
 intro pos pins s σ H Q I h;show wpAny _ _ (evalAll ((do let v<-eval e X.env;standAt pos;pure v)::(backToKw pos (keywordEach kN X.env)).map (·.2))) _ _ s;refine wpAny_evalAll_cons (Zt (aU (ha pins s σ H _ I h) fun u s1 ⟨x,H1,I1,r1,q1⟩=>Zt (ae2 (ZD ?_))));exact aU (hr pos pins s1 σ H1 _ I1 q1) fun us s2 Qh=>(by obtain⟨xs,H2,I2,r2,q2⟩:=Qh;exact(⟨x::xs,H2,I2,.cons r1 r2,q2⟩))
structure aH(N P:List Str)(sc:Scope):Prop where
 kind:sc.kind= .function
 co:sc.isCoroutine=false
 gen:sc.isGenerator=false
 nd:N.Nodup
 pre:N.take P.length=P
 par: ∀x∈P,sc.names.lookup x=some .local\/sc.names.lookup x=some .cell
 JC: ∀y∈sc.names,y.2≠ .free
theorem pQ{kindOf:Str->Option NameKind}: ∀{binds:List (Str × Value)} {m:Str->Option Value},(∀v,(x,v)∉binds)->bindL kindOf binds m x=m x
 | [],_,_=>rfl
 | (n,v)::r,m,h=>by
  unfold bindL;rw[pQ fun w hw=>h w (ZF _ hw)];split
  . have:x≠n:=by rintro rfl;exact h v ZI
    simp [this]
  . rfl
theorem pS{kindOf:Str->Option NameKind}: ∀{binds:List (Str × Value)} {m:Str->Option Value},(∀v,(x,v)∉binds)->bindC kindOf binds m x=m x
 | [],_,_=>rfl
 | (n,v)::r,m,h=>by
  unfold bindC;rw[pS fun w hw=>h w (ZF _ hw)];split
  . rfl
  . have:x≠n:=by rintro rfl;exact h v ZI
    simp [this]
theorem pR{kindOf:Str->Option NameKind}: ∀{P:List Str} {vs:List Value} {i:Nat} {m:Str->Option Value},P.Nodup->P[i]?=some x->vs[i]?=some v->kindOf x=some .local->
  bindL kindOf (P.zip vs) m x=some v
 | [],_,_,_,_,h,_,_=>by simp at h
 | _::_,[],_,_,_,_,h,_=>by simp at h
 | p::P,w::vs,0,m,nd,h1,h2,hk=>by
  simp at h1 h2;subst h1;subst h2;show bindL kindOf ((p,w)::P.zip vs) m p=_;unfold bindL;rw[pQ fun v hv=>(af7.mp nd).1 (List.of_mem_zip hv).1,if_pos hk];simp
 | p::P,w::vs,i+1,m,nd,h1,h2,hk=>by
  show bindL kindOf ((p,w)::P.zip vs) m x=_;unfold bindL;exact pR (i:=i) (af7.mp nd).2 (by simpa using h1) (by simpa using h2) hk
theorem pU{kindOf:Str->Option NameKind}: ∀{P:List Str} {vs:List Value} {i:Nat} {m:Str->Option Value},P.Nodup->P[i]?=some x->vs[i]?=some v->kindOf x≠some .local->
  bindC kindOf (P.zip vs) m x=some v
 | [],_,_,_,_,h,_,_=>by simp at h
 | _::_,[],_,_,_,_,h,_=>by simp at h
 | p::P,w::vs,0,m,nd,h1,h2,hk=>by
  simp at h1 h2;subst h1;subst h2;show bindC kindOf ((p,w)::P.zip vs) m p=_;unfold bindC;rw[pS fun v hv=>(af7.mp nd).1 (List.of_mem_zip hv).1,if_neg hk];simp
 | p::P,w::vs,i+1,m,nd,h1,h2,hk=>by
  show bindC kindOf ((p,w)::P.zip vs) m x=_;unfold bindC;exact pU (i:=i) (af7.mp nd).2 (by simpa using h1) (by simpa using h2) hk
noncomputable def start(N:List Str)(vs:List V):St:=vs.map some++List.replicate (N.length - vs.length) none
noncomputable def lC(CX:Ia)(P:Program)(w:World)(K:PySem.W.Frag)(mg:Str->Option Value)(base:Heap)(N:List Str)(qual:Str)(scope:Scope)(f:Addr)(cd:Value)(A:Around)(outer:List Env)(s:Shared)(H:Hp)(E:XK):Cx where
 prog:=P
 w:=w
 K:=K
 mg:=mg
 base:=base
 A:=A.deeper (envOfC qual scope s.heap.objs.size f cd)
 N:=N
 s₀:=s
 H₀:=H
 env:=envOfC qual scope s.heap.objs.size f cd
 outer:=outer
 stack:=envOfC qual scope s.heap.objs.size f cd::outer
 ex:= []
 calm:=true
 fn:=fun _=>true
 pn:= []
 xe:=fun e s'=>wpAny (model P w) (A.deeper (envOfC qual scope s.heap.objs.size f cd)) (leaving (envOfC qual scope s.heap.objs.size f cd) e) (fun _ rX=>CX outer H s E e rX) (fun e' rX=>CX outer H s E e' rX) s'
theorem jX{sc:Scope}(h:sc.names.lookup x=some .cell): ∃c,(cellsFrom n sc.names []).lookup x=some c:=by
 have q:=PySem.W.cellsFrom_some sc.names n [] (.inl h);exact Option.isSome_iff_exists.mp q
theorem zc{CX:Ia}{P:Program}{w:World}{K:PySem.W.Frag}{A:Around}{vs:List V}(S:aH N ps scope)(hd:A.handled=none)(e0:G3 P w K mg base A outer s H)(hl:vs.length=ps.length)(r:Vals vs us)(x:InCallC s s.heap.objs.size (bindL (envOfC qual scope s.heap.objs.size f cd).kindOf (ps.zip us) fun _=>none) (cellsFrom (s.heap.objs.size+1) scope.names []) (bindC (envOfC qual scope s.heap.objs.size f cd).kindOf (ps.zip us) fun _=>none) s1):
  Inv (lC CX P w K mg base N qual scope f cd A outer s H E) [] (start N vs) H s1:=by
 have dq:ps.length<=N.length:=by have:=ab9 List.length S.pre;rw[ac0] at this;lia
 obtain⟨h1,tk,rfl,hk⟩:=x.done;have MY: ∀b:Addr,b∉(lC CX P w K mg base N qual scope f cd A outer s H E).ex:=fun b z=>absurd (show b∈([]:List Addr) from z) (by simp);refine⟨⟨e0.mod,S.kind,rfl,rfl,Zx _,fun y z c h1 h2=>?_,fun y hy=>?_,fun y c _ h=>?_,fun _=>hd,Around.frames_deeper e0.frames,.inr ⟨rfl,rfl⟩,fun b z=>absurd z (MY b),e0.bs,e0.GR,fun b _ _=>MY b,fun b z=>absurd z (MY b),e0.nD,e0.LJ,e0.tab⟩,
  rfl,e0.bare,Un.kept hk,⟨_,x.toInCall.ns,fun i y v h1 h2 h3=>?_⟩,fun y c h=>⟨_,x.cell y c h⟩,e0.aT.fresh (Zx _),fun y c h=>?_,fun p hp=>absurd (show p∈([]:List (Addr × Obj)) from hp) (by simp),e0.aT.kept hk,?_⟩
 . exact name_of_addr x.apart (ab0 h1) (ab0 h2)
 . have hy:scope.names.lookup y=some .cell\/scope.names.lookup y=some .free:=hy;rcases hy with hy | hy
   . exact jX hy
   . exact absurd rfl (S.JC _ (ab0 hy))
 . exact Nat.le_of_lt (x.above y c (ab0 h))
 . have hi : i < vs.length := by
     unfold start at h2;by_cases hi:i < vs.length
     . exact hi
     . rw[Z8 (by simpa using hi)] at h2;rw[ZX] at h2;split at h2 <;> cases h2
   have ha:vs[i]?=some v:=by
    unfold start at h2;rw[Z3 (by simpa using hi),Zy] at h2;cases e:vs[i]? with
    | none=>rw[e] at h2;cases h2
    | some a=>rw[e] at h2;cases h2;rfl
   obtain⟨u,hu,rv⟩:=r.get ha;have hp:ps[i]?=some y:=by
    rw[<-S.pre,List.getElem?_take_of_lt (by lia)];exact h1
   have Um:ps.Nodup:=by rw[<-S.pre];exact S.nd.sublist (List.take_sublist _ _)
   refine⟨u,rv,?_⟩;rcases S.par y (ZY hp) with k | k
   . exact .inl ⟨k,pR Um hp hu k⟩
   . obtain⟨c,e⟩:=jX (n:=s.heap.objs.size+1) k;refine .inr ⟨.inl k,c,e,?_⟩;have q:=x.cell y c e;rw[pU Um hp hu (by show scope.names.lookup y≠_;rw[k];decide)] at q;exact q
 . exact e0.aT.fresh (Nat.le_of_lt (x.above y c (ab0 h)))
 . unfold start;show _=N.length;rw[ZK,Zu,ae4];lia
theorem HB {CX : Ia} {P : Program} {w : World} {K : PySem.W.Frag} {mg : Str -> Option Value} {base : Heap} {k : Nat} {f : Addr} {name qual : Str} {params : Arguments} {body : List Stmt} {scope : Scope} {dV kV doc pm bJ ct oc : Value} (lk : K.lookup f = some ⟨oc, od, .func (PySem.W.fnOf name qual params body scope dV kV doc pm an bJ ct), zP⟩) (tR : PySem.W.codeIn K bJ qual = true) (S : aH N ps scope) (len : ∀ vs H Q E, sp vs H Q E -> vs.length = ps.length) (fH : ∀ (A : Around) (outer : List Env) (s : Shared) (H : Hp) (vs : List V) (Q : VK) (E : XK), bD k (A.deeper (envOfC qual scope s.heap.objs.size f bJ)) -> sp vs H Q E ->
   ∃t,pW (lC CX P w K mg base N qual scope f bJ A outer s H E) body t/\t {nx:=fun _ H'=>Q .aD H',rt:=Q} (start N vs) H):
  aX P w K mg base CX (k+1) f (PySem.W.fnOf name qual params body scope dV kV doc pm an bJ ct) ps sp:=by
 refine⟨len,fun A outer s H args us vs Q E hr e0 hb r Hx=>?_⟩;have hl:=len _ _ _ _ Hx;have KX:K.In s.heap:=e0.mod.Pn.keeps fun b o e=>(e0.bs b o e).1;have lim:s.heap.NoLimit:=e0.mod.nolimit.keeps fun b o e=>(e0.bs b o e).1;have Nz: ∀y∈ps.zip us,scope.names.lookup y.1=some .local\/(scope.names.lookup y.1=some .cell/\((cellsFrom (s.heap.objs.size+1) scope.names []).lookup y.1).isSome=true):=fun Qg hy=>(by obtain⟨n,v⟩:=Qg;exact(by
  rcases S.par n (List.of_mem_zip hy).1 with q | q
  . exact .inl q
  . exact .inr ⟨q,PySem.W.cellsFrom_some _ _ _ (.inl q)⟩))
 refine codeAny_call_function hr.depth (KX _ _ lk) rfl S.co S.gen rfl (PySem.W.codeRec_of KX tR) (hb _ _ _ _ ?_);refine wpAny_newFunctionEnv_cells S.kind Nz fun env he s1 x=>?_;subst he;refine⟨lim.keeps x.toInCall.keep,codeAny_func ?_⟩;obtain⟨t,ht,hq⟩:=fH A outer s H vs Q E (hr.deeper _) Hx;have I:Inv (lC CX P w K mg base N qual scope f bJ A outer s H E) [] (start N vs) H s1:=zc S hr.hd e0 hl r x;refine Z6 (ht [] s1 (start N vs) H _ I hq) (fun fl s' hs=>?_) fun e s' hs=>hs;have fin: ∀{σ':St} {H':Hp} {v:V} {u:Value},Inv (lC CX P w K mg base N qual scope f bJ A outer s H E) [] σ' H' s'->RelV v u->Q v H'->CE outer P w H s Q u s':=
  fun{σ' H' v u} J rv q=>⟨v,H',J.os,J.bare,J.base,J.aT,rv,q⟩
 cases fl with
 | ret u=>
  obtain⟨v,σ',H',J,rv,q⟩:=hs;exact fin J rv q
 | next=>
  obtain⟨σ',H',J,q⟩:=hs;exact fin (v:=V.aD) (u:=Value.none) J rfl q
 | brk=>
  obtain⟨_,_,_,q⟩:=hs;exact False.elim q
 | cont=>
  obtain⟨_,_,_,q⟩:=hs;exact False.elim q
section
variable{X:Cx}{x:Str}{p pos:Pos}{e:Expr}{es:List Expr}{t:TA}{id T:String}{r:List V->Hp->VK->Prop}
def QQ(r:List V->Hp->VK->Prop)(t:TA):TE:=fun σ H Q=>t σ H fun vs H1=>r vs H1 Q
theorem g6(hc:fM X (.builtin id) r)(hg:Gl X x)(hm:X.mg x=none)(hv:bootBuiltins x=some (.builtin id))(ha:PA X (e::es) t)(hn:x≠"__name__":=by decide)(i8:(x==("__debug__":Str))=false:=by decide)
  (he:starEach (e::es) X.env=(false,eval e X.env)::starEach es X.env:=by rfl) (dq:(backTo pos (starEach es X.env)).any (·.1)=false:=by rfl):PE X (.Call (.Name x p) (e::es) [] pos) (QQ r t):=by
 intro pins s σ H Q I h;refine ag5 (eC I hg hm hv ?_ hn i8);exact PyProof.Rows.callWith_builtin1 (aU (ha pos pins s σ H _ I h) fun us s1 Qf=>(by obtain⟨vs,H1,I1,r1,q1⟩:=Qf;exact(hc pins s1 σ H1 vs us Q I1 r1 q1))) he dq
theorem iB(hc:fM X (.type T) r)(hg:Gl X x)(hm:X.mg x=none)(hv:bootBuiltins x=some (.type T))(ha:PA X (e::es) t)(hn:x≠"__name__":=by decide)(i8:(x==("__debug__":Str))=false:=by decide)
  (he:starEach (e::es) X.env=(false,eval e X.env)::starEach es X.env:=by rfl) (dq:(backTo pos (starEach es X.env)).any (·.1)=false:=by rfl):PE X (.Call (.Name x p) (e::es) [] pos) (QQ r t):=by
 intro pins s σ H Q I h;refine ag5 (eC I hg hm hv ?_ hn i8);exact ah4 (aU (ha pos pins s σ H _ I h) fun us s1 Qe=>(by obtain⟨vs,H1,I1,r1,q1⟩:=Qe;exact(hc pins s1 σ H1 vs us Q I1 r1 q1))) he dq
end
end L2
namespace HT
open PySem PyProof.Rows
theorem Bd(A:Around)(s:Shared)(a:Int)(t:Tok)(c:Int)(u:Tok)(prog:Program)(w:World)(E:Value->Shared->Prop)(Q:Value->Shared->Prop)(h:Q (.bool (decide (a < c))) s):
  wpAny (model prog w) A (richCompare .Lt (.int a t) (.int c u)) Q E s:=
 (PyProof.Rows.lt_int h:wpAny (model prog w) A (compareOp .Lt (.int a t) (.int c u)) Q E s)
section
variable{prog:Program}{w:World}{A:Around}{E:Value->Shared->Prop}{s:Shared}
theorem GO{vs ws:List Value}(ht:IsTup s.heap t vs.toArray)(hb:IsTup s.heap b ws.toArray)(hv:vs≠ [])(h1:ws= []->Q (.ref t) s)(h2:ws≠ []->Q (.ref s.heap.objs.size) {s with heap:=s.heap.push {cls:= .type "tuple",data:= .seq (vs++ws).toArray}})(hsz:vs.length+ws.length<=sizeLine):wpAny (model prog w) A (binaryOp .Add (.ref t) (.ref b)) Q E s:=by
 obtain⟨⟨cls,dd,data,sl⟩,ho,hc,n,hd⟩:=id ht;obtain⟨⟨Te,LM,data2,IP⟩,LF,Eu,n2,hd2⟩:=id hb;simp only at hc hd Eu hd2;subst hc hd Eu hd2;have e:vs.toArray++ws.toArray=(vs++ws).toArray:=by simp
 by_cases hw:ws= []
 . exact concat_meets ⟨_, ho, rfl⟩ ⟨_, LF, rfl⟩ noFill_tuple_add seq_tuple_add PySem.F.slot_tuple_add an0 (am7 _ _)
     (tuple_addW1 t b vs.toArray ws.toArray n n2 dd LM sl IP (by simpa using hv) (by simp [hw])) ⟨ho,LF,h1 hw⟩
 . refine concat_meets ⟨_, ho, rfl⟩ ⟨_, LF, rfl⟩ noFill_tuple_add seq_tuple_add PySem.F.slot_tuple_add an0 (am7 _ _)
     (tuple_addW2 t b vs.toArray ws.toArray n n2 dd LM sl IP (by simpa using hv) (by simpa using hw) (by rw[ZH,ZH];exact hsz)) ⟨ho,LF,?_⟩
   rw[e];exact h2 hw
noncomputable def cK(n d:Nat):Option Int->Nat
 | none=>d
 | some v=>if v < 0 then(v+(n:Int)).toNat else min v.toNat n
theorem mM(n d:Nat):cK n d none=d:=rfl
theorem qu(n d k:Nat):cK n d (some (k:Int))=min k n:=by
 show(if (k:Int) < 0 then((k:Int)+(n:Int)).toNat else min (k:Int).toNat n)=min k n;rw[if_neg (by lia),ac1]
theorem IW(n d:Nat)(hd:d<=n)(o:Option Int):cK n d o<=n:=by
 cases o with
 | none=>exact hd
 | some v=>
  show(if v < 0 then(v+(n:Int)).toNat else min v.toNat n)<=n;by_cases hv:v < 0
  . rw[if_pos hv];lia
  . rw[if_neg hv];exact Nat.min_le_right _ _
theorem xV(v:Int)(n d:Nat):(if v < 0 then max (v+(n:Int)) 0 else min v (n:Int))=((cK n d (some v):Nat):Int):=by
 show(if v < 0 then max (v+(n:Int)) 0 else min v (n:Int))=(((if v < 0 then(v+(n:Int)).toNat else min v.toNat n):Nat):Int)
 by_cases hv:v < 0
 . simp only [if_pos hv];lia
 . simp only [if_neg hv];lia
theorem vP(lo hi:Option Int)(n:Nat):Builtin.Slice.sliceAdjust lo hi 1 (n:Int)=(((cK n 0 lo:Nat):Int),((cK n n hi:Nat):Int)):=by
 have h1: ¬((1:Int) < 0):=by lia
 unfold Builtin.Slice.sliceAdjust;simp only [h1,if_false];refine Prod.ext ?_ ?_
 . cases lo with
   | none=>rfl
   | some v=>exact xV v n 0
 . cases hi with
   | none=>rfl
   | some v=>exact xV v n n
theorem uR(i j:Nat):Builtin.Slice.slicePlaces (i:Int) (j:Int) 1=j - i:=by
 unfold Builtin.Slice.slicePlaces;have h1:(1:Int) > 0:=by lia
 simp only [h1,if_true,Int.ediv_one];split <;> lia
theorem mF(p:IsPart v o)(h:Q o s):wpAny (model prog w) A (Builtin.Slice.slicePartIndex v) Q E s:=by
 cases p with
 | none=>exact slicePart_none h
 | int i t=>exact slicePart_int h
theorem fD{sl:Addr}{vl vu:Value}{lo hi:Option Int}{n:Nat}{Q:Int × Int × Nat->Shared->Prop}(hs:s.heap.IsSliceOf sl vl vu .none)(pl:IsPart vl lo)(pu:IsPart vu hi)
  (h:Q (((cK n 0 lo:Nat):Int),1,cK n n hi - cK n 0 lo) s):wpAny (model prog w) A (Builtin.Slice.sliceApplied (.ref sl) (pure (n:Int))) Q E s:=by
 obtain⟨os,J3,Py,Kd⟩:=id hs;unfold Builtin.Slice.sliceApplied Builtin.Slice.sliceFields;refine Zt (Zt (ae5 J3 Kd (x:=vl) rfl (Zt (ae5 J3 Kd (x:=vu) rfl (Zt (ae5 J3 Kd (x:= .none) rfl (ZD ?_)))))));refine Zt (slicePart_none ?_);show wpAny _ _ (if ((1:Int)==0)=true then _ else _) _ _ s;rw[if_neg (by decide)];refine Zt (mF pl (Zt (mF pu (Zt (ZD ?_)))));show wpAny _ _ (match Builtin.Slice.sliceAdjust lo hi 1 (n:Int) with | (lo,hi)=>pure (lo,(1:Int),Builtin.Slice.slicePlaces lo hi 1)) _ _ s;rw[vP lo hi n];show wpAny _ _ (pure (((cK n 0 lo:Nat):Int),(1:Int),Builtin.Slice.slicePlaces ((cK n 0 lo:Nat):Int) ((cK n n hi:Nat):Int) 1)) _ _ s;rw[uR];exact ZD h
theorem Br(xs:Array Value)(i k:Nat):((List.range k).filterMap fun(m:Nat)=>xs[((i:Int)+(m:Int)*1).toNat]?).toArray=((xs.toList.drop i).take k).toArray:=by
 have e:(fun(m:Nat)=>xs[((i:Int)+(m:Int)*1).toNat]?)=fun m=>xs[i+m]?:=by
  funext m
  have:((i:Int)+(m:Int)*1).toNat=i+m:=by lia
  rw[this]
 rw[e];have:=pick_run xs i k;rw[List.filterMap_map] at this;have e2:((fun x=>xs[x]?) ∘ fun x=>i+x)=fun m=>xs[i+m]?:=rfl;rw[e2] at this;rw[this]
theorem jI{t sl:Addr}{items:Array Value}{vl vu:Value}{lo hi:Option Int}(ht:IsTup s.heap t items)(hs:s.heap.IsSliceOf sl vl vu .none)(pl:IsPart vl lo)(pu:IsPart vu hi)(hw: ¬(cK items.size 0 lo=0/\cK items.size items.size hi=items.size))(h:Q (.ref s.heap.objs.size) {s with heap:=s.heap.push {cls:= .type "tuple",data:= .seq ((items.toList.drop (cK items.size 0 lo)).take (cK items.size items.size hi - cK items.size 0 lo)).toArray}})(hsz:items.size<=sizeLine):wpAny (model prog w) A (getItem (.ref t) (.ref sl)) Q E s:=by
 have xo:sizeOk (.seq ((items.toList.drop (cK items.size 0 lo)).take (cK items.size items.size hi - cK items.size 0 lo)).toArray):=by
  show((items.toList.drop (cK items.size 0 lo)).take (cK items.size items.size hi - cK items.size 0 lo)).toArray.size<=sizeLine;rw[ZH,ac0,ag3,ZQ];lia
 have hj:cK items.size items.size hi<=items.size:=IW _ _ (Zx _) hi;obtain⟨os,J3,Py,Kd⟩:=id hs;have Se:s.TypeIs (.ref sl) "slice":=⟨os,J3,Py⟩
 unfold getItem;try with_reducible refine ad4 ?_
 first | refine Zt (ZD ?_) | skip
 refine Zt (wpAny_sequenceKey ht.typeIs (by decide) ?_);refine Zt (ah0 (name:=Str.ofString "__getitem__") ht.typeIs ai4
  (ak3 ai4 ht.typeIs entry_tuple_getitem ?_ (args_tuple_getitem _ _)))
 show wpAny _ _ (Builtin.Tuple.tupleItemsOf (.ref t) >>=_) _ _ s;refine Zt (tupleItemsOf_ ht ?_);refine Zt (wpAny_typeOf Se ?_);rw[if_pos (by decide)];refine Zt (fD hs pl pu ?_);have WJ: ¬((((cK items.size 0 lo:Nat):Int)==0 && (1:Int)==1 && (cK items.size items.size hi - cK items.size 0 lo)==items.size)=true):=by
  intro q;rw[aj0,aj0] at q;have q1:((cK items.size 0 lo:Nat):Int)=0:=eq_of_beq q.1.1;have q2:cK items.size items.size hi - cK items.size 0 lo=items.size:=eq_of_beq q.2;exact hw ⟨by lia,by lia⟩
 show wpAny _ _ (if (((cK items.size 0 lo:Nat):Int)==0 && (1:Int)==1 && (cK items.size items.size hi - cK items.size 0 lo)==items.size)=true then _ else _) _ _ s;rw[if_neg WJ,Br];first
  | exact Zt (m:=Builtin.Tuple.tupleExact _) (ad1 (ZD ⟨_,rfl,ZD h⟩) xo)
  | exact Zt (m:=Builtin.Tuple.tupleExact _) (ad1 (Zt (ZD (ZD ⟨_,rfl,ZD h⟩))) xo)
  | exact Zt (Zt (m:=Builtin.Tuple.tupleExact _) (ad1 (ZD (ZD ⟨_,rfl,ZD h⟩)) xo))
  | exact Zt (Zt (m:=Builtin.Tuple.tupleExact _) (ad1 (ZD ⟨_,rfl,ZD h⟩) xo))
end
end HT
namespace L2
open PySem PySem.Spec PyProof.Rows
abbrev TO:=St->Hp->(Option Int->Hp->Prop)->Prop
def PO(X:Cx)(e:Option Expr)(t:TO):Prop:=
 ∀(pins:List (Addr × Obj)) (s:Shared) (σ:St) (H:Hp) (Q:Option Int->Hp->Prop),Inv X pins σ H s->t σ H Q->
  wpAny (model X.prog X.w) X.A (evalPart e X.env) (fun u s'=> ∃o H',Inv X pins σ H' s'/\IsPart u o/\Q o H') X.xe s
def EV:TO:=fun _ H Q=>Q none H
def Me(t:TE):TO:=fun σ H Q=>t σ H fun x H1=> ∃i,x= .int i/\Q (some i) H1
theorem intsAre_of{ns:List Int}: ∀{us:List Value},Vals (ns.map V.int) us->IntsAre us ns:=by
 induction ns with
 | nil=>intro us r;rw[List.map_nil] at r;cases r;exact .nil
 | cons n ns ih=>
  intro us r;rw[ZT] at r;cases r with
  | cons r1 r2=>
   obtain⟨t,e⟩:=r1;subst e;exact .cons n t (ih r2)
section
variable{X:Cx}{e:Expr}{te:TE}{lo hi:Option Expr}{tl th:TO}{pos p2:Pos}
theorem wQ:PO X none EV:=by
 intro pins s σ H Q I h;rw[evalPart_none];exact ZD ⟨none,H,I,.none,h⟩
theorem wO(h:PE X e te):PO X (some e) (Me te):=by
 intro pins s σ H Q I hw;rw[evalPart_some];refine aU (h pins s σ H _ I hw) fun u s1 Qc=>?_;obtain⟨x,H1,I1,r1,q1⟩:=Qc;obtain⟨i,rfl,q⟩:=q1;obtain⟨t,rfl⟩:=r1;exact⟨some i,H1,I1,.int i t,q⟩
def rP(X:Cx)(r:V->Option Int->Option Int->Hp->VK->Prop):Prop:=
 ∀(pins:List (Addr × Obj)) (s:Shared) (σ:St) (H:Hp) (x:V) (v vl vu:Value) (lo hi:Option Int) (sl:Addr) (Q:VK),Inv X pins σ H s->RelV x v->s.heap.IsSliceOf sl vl vu .none->IsPart vl lo->IsPart vu hi->r x lo hi H Q->
  ∃T id,typeLookup (.type T) "__getitem__"=pure (some (.builtin id))/\s.TypeIs v T/\wpAny (model X.prog X.w) X.A (getItem v (.ref sl)) (EP X pins σ Q) X.xe s
def VR(r:V->Option Int->Option Int->Hp->VK->Prop)(te:TE)(tl th:TO):TE:=fun σ H Q=>te σ H fun x H1=>tl σ H1 fun l H2=>th σ H2 fun u H3=>r x l u H3 Q
theorem mV(hr:rP X r)(he:PE X e te)(hl:PO X lo tl)(hu:PO X hi th):PE X (.Subscript e (.Slice lo hi none p2) pos) (VR r te tl th):=by
 intro pins s σ H Q I h;refine Subscript_ (aU (he pins s σ H _ I h) fun v s1 Qb=>?_);obtain⟨x,H1,I1,r1,q1⟩:=Qb;refine wpAny_Slice (aU (hl pins s1 σ H1 _ I1 q1) fun vl s2 ⟨l,H2,I2,pl,q2⟩=>aU (hu pins s2 σ H2 _ I2 q2) fun vu s3 Qa=>?_);obtain⟨u,H3,I3,pu,q3⟩:=Qa;rw[evalPart_none];refine ZD ?_;have I4:Inv X pins σ H3 {s3 with heap:=s3.heap.push {cls:= .type "slice",data:= .fields #[vl,vu,.none]}}:=I3.kept (t':=s3.toks) fun b ob q=>Zv _ q;obtain⟨T,id,hT,ht,hg⟩:=hr pins {s3 with heap:=s3.heap.push {cls:= .type "slice",data:= .fields #[vl,vu,.none]}} σ H3 x v vl vu l u s3.heap.objs.size Q I4 r1 (Heap.IsSliceOf.new ..) pl pu q3;show wpAny (model X.prog X.w) X.A (subscriptTail e (.Slice lo hi none p2) v (.ref s3.heap.objs.size)) (EP X pins σ Q) X.xe {s3 with heap:=s3.heap.push {cls:= .type "slice",data:= .fields #[vl,vu,.none]}};exact tail_any (ops:= [.ref s3.heap.objs.size,v]) ht hT hg (by with_unfolding_all rfl)
noncomputable def lD(xs:List V)(lo hi:Option Int):List V:=(xs.drop (HT.cK xs.length 0 lo)).take (HT.cK xs.length xs.length hi - HT.cK xs.length 0 lo)
theorem kW(xs:List V)(lo hi:Option Int):(lD xs lo hi).length<=xs.length:=by
 unfold lD;rw[ac0,ag3];lia
theorem Vals.wX(r:Vals xs us):us= []↔xs= []:=by
 cases r with
 | nil=>simp
 | cons _ _=>simp
end
noncomputable def xi(n:Nat)(i:Int):Option Nat:=if 0<=i then(if i < n then some i.toNat else none) else if -(n:Int)<=i then some (i+n).toNat else none
noncomputable def kX{α:Type}(xs:List α)(i:Int):Option α:=(xi xs.length i).bind fun j=>xs[j]?
theorem xg(h:xi n i=some j):seqIndex? i n=some j/\j < n/\ -(n:Int)<=i/\i < n:=by
 unfold xi at h;by_cases h0:0<=i
 . rw[if_pos h0] at h;by_cases h1:i < n
   . rw[if_pos h1] at h;have e:i.toNat=j:=Option.some.inj h;exact⟨by rw[seqIndex_of h0 h1,e],by lia,by lia,h1⟩
   . rw[if_neg h1] at h;cases h
 . rw[if_neg h0] at h;by_cases h1: -(n:Int)<=i
   . rw[if_pos h1] at h;have e:(i+n).toNat=j:=Option.some.inj h;exact⟨by rw[seqIndex_neg (by lia) h1,e],by lia,h1,by lia⟩
   . rw[if_neg h1] at h;cases h
theorem rH(h:kX xs i=some v): ∃j,seqIndex? i xs.length=some j/\xs[j]?=some v/\j < xs.length/\ -(xs.length:Int)<=i/\i < xs.length:=by
 unfold kX at h;cases e:xi xs.length i with
 | none=>rw[e] at h;cases h
 | some j=>
  rw[e] at h;obtain⟨h1,h2,h3,h4⟩:=xg e;exact⟨j,h1,h,h2,h3,h4⟩
theorem aO{j:Nat}(h:xs[j]?=some v):kX xs (j:Int)=some v:=by
 have hj:j < xs.length:=(Zw.mp h).1;have e:xi xs.length (j:Int)=some j:=by
  unfold xi;rw[if_pos (by lia),if_pos (by lia)];simp
 unfold kX;rw[e];exact h
theorem uj(xs:List α)(v:α):kX (xs++ [v]) (-1)=some v:=by
 have hl:(xs++ [v]).length=xs.length+1:=by simp
 have e:xi (xs++ [v]).length (-1)=some xs.length:=by
  unfold xi;rw[hl,if_neg (by decide),if_pos (by lia)];congr 1
  lia
 unfold kX;rw[e];show(xs++ [v])[xs.length]?=some v;simp
def rQ(b:Expr):Prop:= ∀o i,subscripted b false o i=operate [o,i] (getItem o i)
def G0(X:Cx)(r:R2):Prop:=
 ∀(value slice:Expr) (pins:List (Addr × Obj)) (s:Shared) (σ:St) (H:Hp) (x y:V) (v u:Value) (Q:VK),Inv X pins σ H s->RelV x v->RelV y u->r x y H Q->
  subscripted slice false v u=operate [v,u] (getItem v u)->wpAny (model X.prog X.w) X.A (subscriptTail value slice v u) (EP X pins σ Q) X.xe s
def Vn(X:Cx)(id:String)(r:V->List V->Hp->VK->Prop):Prop:=
 ∀(pins:List (Addr × Obj)) (s:Shared) (σ:St) (H:Hp) (x:V) (xs:List V) (v:Value) (us:List Value) (Q:VK),Inv X pins σ H s->RelV x v->Vals xs us->r x xs H Q->
  wpAny (model X.prog X.w) X.A (call (.builtin id) (v::us)) (EP X pins σ Q) X.xe s
section
variable{X:Cx}{a b:Expr}{ta tb:TE}{pos:Pos}
theorem G0.or(h:G0 X r)(h':G0 X r'):G0 X (fun x y H Q=>r x y H Q\/r' x y H Q):=by
 intro value slice pins s σ H x y v u Q I rx ry q hs;rcases q with q | q
 . exact h value slice pins s σ H x y v u Q I rx ry q hs
 . exact h' value slice pins s σ H x y v u Q I rx ry q hs
theorem Bz(hr:G0 X r)(ha:PE X a ta)(hb:PE X b tb)(hs:rQ b):PE X (.Subscript a b pos) (Mf r ta tb):=by
 intro pins s σ H Q I h;exact Subscript_ (K5 ha hb I h fun v u s2 x y H2 I2 rx ry q=>hr a b pins s2 σ H2 x y v u Q I2 rx ry q (hs _ _))
def MD(K:PySem.W.Frag):R2:=fun x y H Q=> ∃p xs i v,x= .ref p/\y= .int i/\cY K H p xs/\kX xs i=some v/\Q v H
def MB(K:PySem.W.Frag):R2:=fun x y H Q=> ∃p xs i v,x= .ref p/\y= .int i/\dG K H p xs/\kX xs i=some v/\Q v H
def MC:R2:=fun x y H Q=> ∃z i c,x= .str z/\y= .int i/\z.length<=sizeLine/\kX z.cps.toList i=some c/\Q (.str ⟨#[c]⟩) H
theorem qO:G0 X (MD X.K):=by
 intro value slice pins s σ H x y v u Q I rx ry h hs;obtain⟨p,xs,i,z,rfl,rfl,hq,he,q⟩:=h;cases rx;obtain⟨t,rfl⟩:=ry;obtain⟨ao,r,pl,hz⟩:=I.list hq;obtain⟨j,h1,h2,h3,h4,h5⟩:=rH he;obtain⟨w,ew,A9⟩:=r.get h2;have hl:=r.length;have hn:=ko;have fin:EP X pins σ Q w s:=⟨z,H,I,A9,q⟩
 by_cases h0:0<=i
 . have hj : i.toNat = j := by
     rw[seqIndex_of h0 h5] at h1;exact Option.some.inj h1
   exact item_listR pl.isList h0 (by lia) (by rw[hj];simpa using ew) fin hs
 . have hj : (i + (ao.toArray.size : Int)).toNat = j := by
     rw[seqIndex_neg (by lia) h4] at h1;rw[ZH,<-hl];exact Option.some.inj h1
   exact subscriptTail_builtinR (x:=w) pl.isList.typeIs slot_list_getitem.lookup
    (wpAny_getItem_list_neg (Q:=fun r s'=>r=w/\EP X pins σ Q r s') pl.isList (by lia) (by rw[ZH] <;> lia) (by lia) (by rw[hj];simpa using ew) ⟨rfl,fin⟩) hs
theorem JT:G0 X (MB X.K):=by
 intro value slice pins s σ H x y v u Q I rx ry h hs;obtain⟨p,xs,i,z,rfl,rfl,hq,he,q⟩:=h;cases rx;obtain⟨t,rfl⟩:=ry;obtain⟨ao,r,pl,hz⟩:=I.tuple hq;obtain⟨j,h1,h2,h3,h4,h5⟩:=rH he;obtain⟨w,ew,A9⟩:=r.get h2;have hl:=r.length;have hn:=ko;have fin:EP X pins σ Q w s:=⟨z,H,I,A9,q⟩
 exact subscriptTail_builtinR (x:=w) pl.typeIs slot_tuple_getitem.lookup
  (getItem_tuple (j:=j) (Q:=fun r s'=>r=w/\EP X pins σ Q r s') pl (by lia) (by lia) (by rw[ZH,<-hl];exact h1) (by simpa using ew) ⟨rfl,fin⟩) hs
theorem JU:G0 X MC:=by
 intro value slice pins s σ H x y v u Q I rx ry h hs;obtain⟨z,i,c,rfl,rfl,hz,he,q⟩:=h;obtain⟨t,rfl⟩:=rx;obtain⟨t',rfl⟩:=ry;obtain⟨j,h1,h2,h3,h4,h5⟩:=rH he;have hl:z.cps.toList.length=z.length:=by simp [Str.length]
 rw[hl] at h1 h4 h5;have hn:=ko;exact tail_any (typeIs_str s z t) slot_str_getitem.lookup (getItem_str (c:=c) (by
  have e1:decide (i < -(2^63:Int))=false:=aa3 (by lia);have e2:decide (i>=2^63)=false:=aa3 (by lia);rw[e1,e2,Bool.or_false]) (by rw[h1];simpa using h2) ⟨.str ⟨#[c]⟩,H,I.tok _,⟨_,rfl⟩,q⟩) hs
def Ue(K:PySem.W.Frag):R2:=fun x y H Q=>MD K x y H Q\/MB K x y H Q\/MC x y H Q
theorem JV:G0 X (Ue X.K):=qO.or (JT.or JU)
theorem u9(ao:List Value)(n j:Nat)(u:Value):Obj.mapSeq (·.setIfInBounds j u) {cls:= .type "list",data:= .seq ao.toArray n}={cls:= .type "list",data:= .seq (ao.set j u).toArray n}:=by
 simp [Obj.mapSeq]
theorem Inv.lst{pins:List (Addr × Obj)}{σ:St}{H:Hp}{s:Shared}{p:Addr}{xs:List V}(I:Inv X pins σ H s)(h:H p=some (.lst xs)):
  ∃(ao:List Value) (n:Nat),Vals xs ao/\s.heap.get? p=some {cls:= .type "list",data:= .seq ao.toArray n}/\xs.length<=sizeLine:=by
 obtain⟨z,ao,n,r,e⟩:=I.aT p _ h;exact⟨ao,n,r,e,z⟩
theorem Inv.JI{ao its':List Value}(I:Inv X pins σ H s)(h:H p=some (.lst xs))(ho:s.heap.get? p=some {cls:= .type "list",data:= .seq ao.toArray n})(hf:f {cls:= .type "list",data:= .seq ao.toArray n}={cls:= .type "list",data:= .seq its'.toArray n'})(r:Vals ys its')(hz:ys.length<=sizeLine)(t:Nat):
  Inv X pins σ (upd H p (.lst ys)) {s with heap:=s.heap.update p f,toks:=t}:=by
 have e:(s.heap.update p f).get? p=some {cls:= .type "list",data:= .seq its'.toArray n'}:=by
  rw[aj5 f ho (by rw[hf] <;> rfl),hf]
 refine I.write (x:=p) (e:=p) (by rw[h];trivial) (.inl rfl) (fun b u hb q=>(af2 _ _ (Ne.symm hb)).trans q) ⟨_,e⟩ ?_;exact⟨hz,its',n',r,e⟩
def MA:V->V->V->Hp->(Hp->Prop)->Prop:=fun o i v H Q=> ∃p xs k j,o= .ref p/\i= .int k/\H p=some (.lst xs)/\xi xs.length k=some j/\Q (upd H p (.lst (xs.set j v)))
theorem set_list:OO X MA:=by
 intro pins s σ H o i v ov iv u Q I ro ri rv h;obtain⟨p,xs,k,j,rfl,rfl,hp,hj,q⟩:=h;cases ro;obtain⟨t,rfl⟩:=ri;obtain⟨ao,n,r,ho,hz⟩:=I.lst hp;obtain⟨h1,h2,h3,h4⟩:=xg hj;have hl:=r.length;have hn:=ko;have I':Inv X pins σ (upd H p (.lst (xs.set j v))) {s with heap:=s.heap.update p (Obj.mapSeq (·.setIfInBounds j u))}:=
  I.JI hp ho (u9 ao n j u) (r.set rv j) (by rw[Z4];exact hz) s.toks
 by_cases h0:0<=k
 . have hk : k.toNat = j := by
     rw[seqIndex_of h0 h4] at h1;exact Option.some.inj h1
   exact PySem.W.ki_setAt ho h0 (by lia) (by rw[ZH,<-hl];exact h4) (by rw[hk];exact⟨_,I',q⟩)
 . have hk : (k + (ao.toArray.size : Int)).toNat = j := by
     rw[seqIndex_neg (by lia) h3] at h1;rw[ZH,<-hl];exact Option.some.inj h1
   exact PySem.W.ki_setBack ho (by lia) (by rw[ZH,<-hl];exact h3) (by lia) (by rw[hk];exact⟨_,I',q⟩)
theorem qf(lo hi:Option Int)(n:Nat):(sliceBounds lo hi none n).1=((HT.cK n 0 lo:Nat):Int)/\(sliceBounds lo hi none n).2.1=((HT.cK n n hi:Nat):Int)/\(sliceBounds lo hi none n).2.2=1:=by
 refine⟨?_,?_,rfl⟩
 . cases lo with
   | none=>simp [sliceBounds,HT.cK]
   | some i=>
    simp only [sliceBounds,HT.cK,Option.getD_none,show(1:Int) > 0 by decide,if_true];by_cases h:i < 0
    . simp only [h,if_true] <;> lia
    . simp only [h,if_false] <;> lia
 . cases hi with
   | none=>simp [sliceBounds,HT.cK]
   | some i=>
    simp only [sliceBounds,HT.cK,Option.getD_none,show(1:Int) > 0 by decide,if_true];by_cases h:i < 0
    . simp only [h,if_true] <;> lia
    . simp only [h,if_false] <;> lia
theorem ox(ao:List Value)(lo hi:Option Int):slicePick ao.toArray lo hi none=((ao.drop (HT.cK ao.length 0 lo)).take (HT.cK ao.length ao.length hi - HT.cK ao.length 0 lo)).toArray:=by
 obtain⟨h1,h2,h3⟩:=qf lo hi ao.toArray.size;unfold slicePick;rw[h1,h2,h3];simp only [sliceRange_one,pick_run,ZH] <;> rfl
def QW(K:PySem.W.Frag):V->Option Int->Option Int->Hp->VK->Prop:=fun x lo hi H Q=> ∃a xs,x= .ref a/\cY K H a xs/\ ∀p,H p=none->Q (.ref p) (upd H p (.lst (lD xs lo hi)))
theorem wy:rP X (QW X.K):=by
 intro pins s σ H x v vl vu lo hi sl Q I rx hs pl pu h;obtain⟨a,xs,rfl,hx,q⟩:=h;cases rx;obtain⟨ao,r,ht,hz⟩:=I.list hx;have hlen:=r.length;refine⟨"list",_,slot_list_getitem.lookup,ht.isList.typeIs,?_⟩;refine wpAny_getItem_list_slice ht.isList hs pl pu .none (by simp) ?_ (by rw[ZH] <;> lia);rw[ox,<-hlen];refine⟨.ref s.heap.objs.size,_,I.laid (t':=s.toks) (o:= .lst (lD xs lo hi)) (fun b ob q=>Zv _ q) (Zx _) ?_,rfl,q _ (I.aT.fresh (Zx _))⟩;exact⟨ZZ (kW xs lo hi) hz,_,0,(r.drop (HT.cK xs.length 0 lo)).take (HT.cK xs.length xs.length hi - HT.cK xs.length 0 lo),ZP _ rfl⟩
noncomputable def eF:V->Bool
 | .aD=>true
 | .bl _=>true
 | .int _=>true
 | .str _=>true
 | _=>false
noncomputable def zW:V->V->Bool
 | .aD,.aD=>true
 | .bl a,.bl b=>a==b
 | .bl a,.int b=>(if a then 1 else 0)==b
 | .int a,.bl b=>a==(if b then 1 else 0)
 | .int a,.int b=>a==b
 | .str a,.str b=>a==b
 | _,_=>false
theorem CM(ry:RelV y u)(rx:RelV x v)(fy:eF y=true)(fx:eF x=true):SeqAt.EqAt A s u v (zW y x):=by
 cases y with
 | aD=>
  cases ry;cases x with
  | aD=>cases rx;exact SeqAt.EqAt.same _
  | bl b=>cases rx;exact SeqAt.EqAt.none_bool b
  | int b=>obtain⟨t,rfl⟩:=rx;exact SeqAt.EqAt.none_int b t
  | str b=>obtain⟨t,rfl⟩:=rx;exact SeqAt.EqAt.none_str b t
  | _=>exact absurd (show false=true from fx) ZJ
 | bl a=>
  cases ry;cases x with
  | aD=>cases rx;exact SeqAt.EqAt.bool_none a
  | bl b=>cases rx;exact SeqAt.EqAt.bool_bool a b
  | int b=>obtain⟨t,rfl⟩:=rx;exact SeqAt.EqAt.bool_int a b t
  | str b=>obtain⟨t,rfl⟩:=rx;exact SeqAt.EqAt.bool_str a b t
  | _=>exact absurd (show false=true from fx) ZJ
 | int a=>
  obtain⟨t',rfl⟩:=ry;cases x with
  | aD=>cases rx;exact SeqAt.EqAt.int_none a t'
  | bl b=>cases rx;exact SeqAt.EqAt.int_bool a t' b
  | int b=>obtain⟨t,rfl⟩:=rx;exact SeqAt.EqAt.int_int a t' b t
  | str b=>obtain⟨t,rfl⟩:=rx;exact SeqAt.EqAt.int_str a t' b t
  | _=>exact absurd (show false=true from fx) ZJ
 | str a=>
  obtain⟨t',rfl⟩:=ry;cases x with
  | aD=>cases rx;exact SeqAt.EqAt.str_none a t'
  | bl b=>cases rx;exact SeqAt.EqAt.str_bool a t' b
  | int b=>obtain⟨t,rfl⟩:=rx;exact SeqAt.EqAt.str_int a t' b t
  | str b=>obtain⟨t,rfl⟩:=rx;exact SeqAt.EqAt.str_str a t' b t
  | _=>exact absurd (show false=true from fx) ZJ
 | _=>exact absurd (show false=true from fy) ZJ
noncomputable def Gp(x:V)(u:Value):Bool:=match u with
 | .none=>zW .aD x
 | .bool b=>zW (.bl b) x
 | .int i _=>zW (.int i) x
 | .str z _=>zW (.str z) x
 | _=>false
theorem CL(r:RelV y u)(f:eF y=true):Gp x u=zW y x:=by
 cases y with
 | aD=>cases r;rfl
 | bl b=>cases r;rfl
 | int i=>obtain⟨t,rfl⟩:=r;rfl
 | str z=>obtain⟨t,rfl⟩:=r;rfl
 | _=>exact absurd (show false=true from f) ZJ
theorem rJ: ∀{xs:List V} {us:List Value},Vals xs us->xs.all eF=true->us.any (Gp x)=xs.any fun y=>zW y x
 | _,_,.nil,_=>rfl
 | y::xs,u::us,.cons r t,f=>by
  rw[an5,aj0] at f;rw[aj6,aj6,CL r f.1,rJ t f.2]
theorem m9(rx:RelV x v)(fx:eF x=true): ∀{xs:List V} {us:List Value},Vals xs us->xs.all eF=true-> ∀u∈us,SeqAt.EqAt A s u v (Gp x u)
 | _,_,.nil,_=>fun u hu=>by cases hu
 | y::xs,u::us,.cons r t,f=>fun u' hu=>by
  rw[an5,aj0] at f;rcases ZR.mp hu with rfl | hu
  . rw[CL r f.1];exact CM r rx f.1 fx
  . exact m9 rx fx t f.2 u' hu
noncomputable def oE(x:V)(xs:List V):Bool:=xs.any fun y=>zW y x
def Ug(K:PySem.W.Frag)(neg:Bool):R2:=fun x y H Q=> ∃p xs,y= .ref p/\(cY K H p xs\/dG K H p xs)/\eF x=true/\xs.all eF=true/\Q (.bl (if neg then !oE x xs else oE x xs)) H
theorem yM:mi X (compareOp .In) (Ug X.K false):=by
 intro pins s σ H x y v u Q I rx ry h;obtain⟨p,xs,rfl,hq,fx,fs,q⟩:=h;cases ry;rcases hq with hq | hq
 . obtain⟨ao,r,pl,hz⟩:=I.list hq;refine SeqAt.in_listAt (Gp x) pl.isList (fun w hw=>m9 rx fx r fs w (by simpa using hw)) ⟨.bl _,H,I,rfl,?_⟩;rw[show ao.toArray.any (Gp x)=ao.any (Gp x) by simp,rJ r fs];exact q
 . obtain⟨ao,r,pl,hz⟩:=I.tuple hq;refine SeqAt.in_tupleAt (Gp x) pl (fun w hw=>m9 rx fx r fs w (by simpa using hw)) ⟨.bl _,H,I,rfl,?_⟩;rw[show ao.toArray.any (Gp x)=ao.any (Gp x) by simp,rJ r fs];exact q
theorem gf:fM X (.builtin "len") (fun xs H Q=> ∃p ys,xs= [.ref p]/\(cY X.K H p ys\/dG X.K H p ys)/\Q (.int ys.length) H):=by
 intro pins s σ H xs us Q I r h;obtain⟨p,ys,rfl,hq,q⟩:=h;obtain⟨u,rfl,rx⟩:=vals1 r;cases rx;have hn:=ko;rcases hq with hq | hq
 . obtain⟨ao,r',pl,hz⟩:=I.list hq;have hlen:=r'.length;exact Calls.call_len_list pl.isList (by simp only [ZH] <;> lia) ⟨.int ys.length,H,I.tok _,⟨s.toks+1,by rw[ZH,hlen]⟩,q⟩
 . obtain⟨ao,r',pl,hz⟩:=I.tuple hq;have hlen:=r'.length;exact len_tuple pl (by simp only [ZH] <;> lia) ⟨.int ys.length,H,I.tok _,⟨s.toks+1,by rw[ZH,hlen]⟩,q⟩
theorem rB:fM X (.type "list") (fun xs H Q=> ∃p ys,xs= [.ref p]/\(cY X.K H p ys\/dG X.K H p ys)/\ ∀l,H l=none->Q (.ref l) (upd H l (.lst ys))):=by
 intro pins s σ H xs us Q I r h;obtain⟨p,ys,rfl,hq,q⟩:=h;obtain⟨u,rfl,rx⟩:=vals1 r;cases rx;have fin: ∀(ao:List Value),Vals ys ao->ys.length<=sizeLine-> ∀(h':Heap) (c':Nat),(∀b o',s.heap.get? b=some o'->h'.get? b=some o')->
   h'.get? s.heap.objs.size=some {cls:= .type "list",dict:=none,data:= .seq ao.toArray c',slots:= #[]}->EP X pins σ Q (.ref s.heap.objs.size) {s with heap:=h'}:=fun ao r' hz h' c' kp e=>
  ⟨.ref s.heap.objs.size,_,I.laid (t':=s.toks) kp (Zx _) (show a0 X.prog X.w _ h' _ (.lst ys) from⟨hz,ao,c',r',e⟩),rfl,q _ (I.aT.fresh (Zx _))⟩
 rcases hq with hq | hq
 . obtain⟨ao,r',pl,hz⟩:=I.list hq;have hlen:=r'.length;obtain⟨o,ho,hc,n,hd⟩:=pl.isList;exact call_list_seq p (.inl rfl) ho hc hd (fun h' c' kp e=>fin ao r' hz h' c' kp e) (by simp only [ZH] <;> lia)
 . obtain⟨ao,r',pl,hz⟩:=I.tuple hq;have hlen:=r'.length;obtain⟨o,ho,hc,n,hd⟩:=pl;exact call_list_seq p (.inr rfl) ho hc hd (fun h' c' kp e=>fin ao r' hz h' c' kp e) (by simp only [ZH] <;> lia)
theorem iO:fM X (.type "tuple") (fun xs H Q=> ∃p ys,xs= [.ref p]/\((cY X.K H p ys/\ ∀l,H l=none->Q (.ref l) (upd H l (.tup ys)))\/(dG X.K H p ys/\Q (.ref p) H))):=by
 intro pins s σ H xs us Q I r h;obtain⟨p,ys,rfl,h⟩:=h;obtain⟨u,rfl,rx⟩:=vals1 r;cases rx;rcases h with ⟨hq,q⟩ | ⟨hq,q⟩
 . obtain⟨ao,r',pl,hz⟩:=I.list hq;have hlen:=r'.length;refine call_tuple_list pl.isList (fun h' kp=>?_) (by simp only [ZH] <;> lia);have I1:Inv X pins σ H {s with heap:=h'}:=I.kept (t':=s.toks) kp;have I2:Inv X pins σ (upd H h'.objs.size (.tup ys)) {s with heap:=h'.push {cls:= .type "tuple",data:= .seq ao.toArray}}:=
    I1.laid (t':=s.toks) (fun b o e=>Zv _ e) (Zx _) (show a0 X.prog X.w _ _ _ (.tup ys) from⟨hz,ao,r',oS.new _ _⟩)
   exact⟨.ref h'.objs.size,_,I2,rfl,q _ (I1.aT.fresh (Zx _))⟩
 . obtain⟨ao,r',pl,hz⟩:=I.tuple hq;exact call_tuple_same pl ⟨.ref p,H,I,rfl,q⟩
def QD(K:PySem.W.Frag)(T:String)(x:V)(H:Hp):Prop:=match x with
 | .str _=>T="str"
 | .int _=>T="int"
 | .ref p=>(T="list"/\ ∃xs,cY K H p xs)\/(T="tuple"/\ ∃o,K.lookup p=some o/\o.cls= .type "tuple"/\o.dict=none)\/
   (T="dict"/\((∃aK,H p=some (.dK aK))\/ ∃aK,H p=some (.dT aK)))\/(T="set"/\ ∃S n,H p=some (.set S n))\/(T="tuple"/\ ∃xs,H p=some (.tup xs))
 | _=>False
theorem Ax(I:Inv X pins σ H s)(r:RelV x v)(ty:QD X.K T x H):
  s.TypeIs v T/\ ∀a,v= .ref a-> ∃ob,s.heap.get? a=some ob/\ob.dict=none:=by
 cases x with
 | str z=>
  obtain⟨t,rfl⟩:=r;cases (show T="str" from ty);exact⟨typeIs_str s z t,fun _ e=>nomatch e⟩
 | int i=>
  obtain⟨t,rfl⟩:=r;cases (show T="int" from ty);exact⟨typeIs_int s i t,fun _ e=>nomatch e⟩
 | ref p=>
  cases r;rcases ty with ⟨rfl,xs,hq⟩ | ⟨rfl,o,hk,hc,hd⟩ | ⟨rfl,hk⟩ | ⟨rfl,S,n,hk⟩ | ⟨rfl,xs,hk⟩
  . obtain⟨ao,_,pl,_⟩:=I.list hq;refine⟨pl.isList.typeIs,fun a e=>?_⟩;cases e;obtain⟨o,n,e,c,hd,_⟩:=pl;exact⟨o,e,hd⟩
  . refine⟨⟨o,I.pf p o hk,hc⟩,fun a e=>?_⟩;cases e;exact⟨o,I.pf _ o hk,hd⟩
  . have z : ∃ o, s.heap.get? p = some o /\ o.ExactDict := by
      rcases hk with ⟨aK,hk⟩ | ⟨aK,hk⟩
      . obtain⟨_,_,_,_,o,_,_,e,ex,_⟩:=I.aT p _ hk;exact⟨o,e,ex⟩
      . obtain⟨_,_,_,_,o,_,_,e,ex,_⟩:=I.aT p _ hk;exact⟨o,e,ex⟩
    obtain⟨o,e,ex⟩:=z;refine⟨⟨o,e,ex.1⟩,fun a e2=>?_⟩;cases e2;exact⟨o,e,ex.2.1⟩
  . obtain⟨o,_,_,_,e,ex,_⟩:=I.aT p _ hk;refine⟨⟨o,e,ex.1⟩,fun a e2=>?_⟩;cases e2;exact⟨o,e,ex.2.1⟩
  . obtain⟨_,_,_,o,e,c,dn,_⟩:=(show a0 X.prog X.w H s.heap p (.tup xs) from I.aT p _ hk)
    refine⟨⟨o,e,c⟩,fun a e2=>?_⟩;cases e2;exact⟨o,e,dn⟩
 | _=>exact False.elim ty
def QR(K:PySem.W.Frag)(T:String)(r:V->List V->Hp->VK->Prop)(to:TE):TE:=fun σ H Q=>to σ H fun x H1=>QD K T x H1/\r x [] H1 Q
def VU(K:PySem.W.Frag)(T:String)(r:V->List V->Hp->VK->Prop)(to:TE)(t:TA):TE:=fun σ H Q=>to σ H fun x H1=>QD K T x H1/\t σ H1 fun xs H2=>r x xs H2 Q
variable{o e:Expr}{es:List Expr}{to:TE}{t:TA}{name:Str}{apos dM:Pos}{T id:String}{r:V->List V->Hp->VK->Prop}
theorem Ju(pa:PlainAttrs T)(slot:Slot T name id)(RF:typeOf (.builtin id)=pure (.type "method_descriptor"))(hm:Vn X id r)(ho:PE X o to)
  (jG:attributeBase o name X.env (eval o X.env)=eval o X.env:=by rfl) (jF:(apos.endLine==dM.line)=true:=by rfl):PE X (.Call (.Attribute o name apos) [] [] dM) (QR X.K T r to):=by
 intro pins s σ H Q I h;refine wpAny_Call_method0_late jG jF (aU (ho pins s σ H _ I h) fun v s1 P9=>?_);obtain⟨x,H1,I1,r1,ty,q1⟩:=P9;obtain⟨h1,h2⟩:=Ax I1 r1 ty;exact⟨T,id,pa,slot,RF,h1,h2,Calls.callWith_builtin rfl (PySem.evalArgs_none (hm pins s1 σ H1 x [] v [] Q I1 r1 .nil q1))⟩
theorem He(pa:PlainAttrs T)(slot:Slot T name id)(RF:typeOf (.builtin id)=pure (.type "method_descriptor"))(hm:Vn X id r)(ho:PE X o to)(ha:PA X (e::es) t)
  (jG:attributeBase o name X.env (eval o X.env)=eval o X.env:=by rfl)
  (Cs:((backTo dM (starEach (e::es) X.env)).all (fun x=>!x.1) && (backToKw dM (keywordEach [] X.env)).all (fun x=>x.1.isSome)
   && decide ((e::es).length+([]:List Keyword).length+(if ([]:List Keyword).isEmpty then 0 else 1) < 30))=true:=by rfl)
  (jF:(apos.endLine==dM.line)=true:=by rfl) (hs:starEach (e::es) X.env=(false,eval e X.env)::starEach es X.env:=by rfl) (nv:(backTo dM (starEach es X.env)).any (·.1)=false:=by rfl):
  PE X (.Call (.Attribute o name apos) (e::es) [] dM) (VU X.K T r to t):=by
 intro pins s σ H Q I h;refine wpAny_Call_method_late jG Cs jF rfl (aU (ho pins s σ H _ I h) fun v s1 P8=>?_);obtain⟨x,H1,I1,r1,ty,q1⟩:=P8;obtain⟨h1,h2⟩:=Ax I1 r1 ty;refine⟨T,id,pa,slot,RF,h1,h2,?_⟩;have hA:=ha dM pins s1 σ H1 _ I1 q1;rw[hs] at hA ⊢;refine Calls.callWith_builtin (by show(false || (backTo dM (starEach es X.env)).any (·.1))=false;rw[nv] <;> rfl) (Calls.evalArgs_plain ?_);exact aU hA fun us s2 P7=>(by obtain⟨vs,H2,I2,r2,q2⟩:=P7;exact(hm pins s2 σ H2 x vs v us Q I2 r1 r2 q2))
end
def TM(X:Cx)(id:String)(r:V->List V->Hp->VK->Prop):Prop:=
 ∀(pins:List (Addr × Obj)) (s:Shared) (σ:St) (H:Hp) (x:V) (xs:List V) (v:Value) (us:List Value) (Q:VK),Inv X pins σ H s->RelV x v->Vals xs us->r x xs H Q->
  wpAny (model X.prog X.w) X.A (call (.builtin id) (v::us)) (EP X pins σ Q) X.xe s
theorem Vals.one: ∀{x:V} {us:List Value},Vals [x] us-> ∃u,us= [u]/\RelV x u
 | _,_,.cons r .nil=>⟨_,rfl,r⟩
theorem Vals.zero: ∀{us:List Value},Vals [] us->us= []
 | _,.nil=>rfl
theorem Vals.reverse(h:Vals xs us):Vals xs.reverse us.reverse:=by
 induction h with
 | nil=>exact .nil
 | cons r t ih=>rw[an2,an2];exact Vals.append ih (.cons r .nil)
theorem Inv.JJ{ao its':List Value}(I:Inv X pins σ H s)(hH:H l=some (.lst xs))(e:s.heap.get? l=some {cls:= .type "list",data:= .seq ao.toArray n})(hf:f ao.toArray=its'.toArray)(hv:Vals ys its')(hz:ys.length<=sizeLine):
  Inv X pins σ (upd H l (.lst ys)) {s with heap:=s.heap.update l (Obj.mapSeq f),toks:=t'}:=by
 have q:=PySem.IsL.update e f;rw[hf] at q;refine I.write (x:=l) (e:=l) (by rw[hH];exact trivial) (.inl rfl) (fun b' u hb hu=>(af2 s.heap (Obj.mapSeq f) (Ne.symm hb)).trans hu) ⟨_,q⟩ ?_;exact⟨hz,its',_,hv,q⟩
theorem Inv.Rl(I:Inv X pins σ H s)(hv:Vals ys ao)(hz:ys.length<=sizeLine):
  Inv X pins σ (upd H s.heap.objs.size (.lst ys)) {s with heap:=s.heap.push {cls:= .type "list",data:= .seq ao.toArray},toks:=t'}:=
 I.laid (fun _ _ q=>Zv _ q) (Zx _) ⟨hz,ao,0,hv,ZP _ rfl⟩
theorem Inv.fresh(I:Inv X pins σ H s):H s.heap.objs.size=none:=I.aT.fresh (Zx _)
theorem Inv.yY(I:Inv X pins σ H s)(hH:H l=some (.lst xs)):xs.length<=sizeLine/\ ∃(ao:List Value) (n:Nat),Vals xs ao/\xs.length=ao.length/\s.heap.get? l=some {cls:= .type "list",data:= .seq ao.toArray n}:=by
 obtain⟨z,ao,n,r,e⟩:=I.aT l _ hH;exact⟨z,ao,n,r,r.length,e⟩
theorem BX(h:n<=sizeLine):Builtin.List.listTooLong n=false:=by
 unfold Builtin.List.listTooLong;exact aa3 (by lia)
section
variable{X:Cx}
def Fi:V->List V->Hp->VK->Prop:=fun x vs H Q=> ∃l xs y,x= .ref l/\vs= [y]/\H l=some (.lst xs)/\xs.length < sizeLine/\Q .aD (upd H l (.lst (xs++ [y])))
theorem km:TM X "list.append" Fi:=by
 intro pins s σ H x vs v us Q I rx rv h;obtain⟨l,xs,y,rfl,rfl,hH,hz,q⟩:=h;cases rx;obtain⟨u,rfl,ru⟩:=rv.one;obtain⟨z,ao,n,r,hl,e⟩:=I.yY hH;refine call_meets F.slot_list_append ⟨_,e,rfl⟩ F.entry_list_append (F.args_list_append_2 _ _) (PySem.list_append l ao.toArray n u (by rw[ZH];lia)) ⟨e,?_⟩;refine⟨.aD,_,I.JJ (its':=ao++ [u]) hH e (by simp) (r.append (.cons ru .nil)) ?_,rfl,q⟩;rw[ZK,ag0];lia
def Fg:V->List V->Hp->VK->Prop:=fun x vs H Q=> ∃l b xs zs,x= .ref l/\vs= [.ref b]/\H l=some (.lst xs)/\H b=some (.lst zs)/\xs.length+zs.length<=sizeLine/\Q .aD (upd H l (.lst (xs++zs)))
theorem yU:TM X "list.extend" Fg:=by
 intro pins s σ H x vs v us Q I rx rv h;obtain⟨l,b,xs,zs,rfl,rfl,hH,hB,hz,q⟩:=h;cases rx;obtain⟨u,rfl,ru⟩:=rv.one;cases ru;obtain⟨z,ao,n,r,hl,e⟩:=I.yY hH;obtain⟨z2,cq,n2,r2,Ny,e2⟩:=I.yY hB;have hsz:ao.toArray.size+cq.toArray.size<=sizeLine:=by rw[ZH,ZH];lia
 have Nv: ¬(!ao.toArray.isEmpty && Builtin.List.listTooLong (ao.toArray.size+cq.toArray.size))=true:=by
  rw[BX hsz,Bool.and_false];exact ZJ
 refine call_meets F.slot_list_extend ⟨_,e,rfl⟩ F.entry_list_extend (F.args_list_extend_2 _ _)
  (AutoSeq1.list_extend_list_list_0 l ao.toArray n b cq.toArray n2 Nv (by rw[ZH];lia) (by lia)) ⟨e,e2,?_⟩
 refine⟨.aD,_,I.JJ (its':=ao++cq) hH e (by simp) (r.append r2) ?_,rfl,q⟩;rw[ZK];lia
def Bf:V->List V->Hp->VK->Prop:=fun x vs H Q=> ∃l xs,x= .ref l/\vs= []/\H l=some (.lst xs)/\Q .aD (upd H l (.lst xs.reverse))
theorem u4:TM X "list.reverse" Bf:=by
 intro pins s σ H x vs v us Q I rx rv h;obtain⟨l,xs,rfl,rfl,hH,q⟩:=h;cases rx;have WA:=rv.zero;subst WA;obtain⟨z,ao,n,r,hl,e⟩:=I.yY hH;refine call_meets F.slot_list_reverse ⟨_,e,rfl⟩ F.entry_list_reverse (F.args_list_reverse_1 _) (AutoSeq1.list_reverse_list_0 l ao.toArray n (by rw[ZH];lia)) ⟨e,?_⟩;refine⟨.aD,_,I.JJ (its':=ao.reverse) hH e (by simp) r.reverse ?_,rfl,q⟩;rw[List.length_reverse];lia
def ME:R2:=fun x y H Q=> ∃l b xs zs,x= .ref l/\y= .ref b/\H l=some (.lst xs)/\H b=some (.lst zs)/\xs.length+zs.length<=sizeLine/\ ∀p,H p=none->Q (.ref p) (upd H p (.lst (xs++zs)))
theorem Jy:mi X (binaryOp .Add) ME:=by
 intro pins s σ H x y v u Q I rx ry h;obtain⟨l,b,xs,zs,rfl,rfl,hH,hB,hz,q⟩:=h;cases rx;cases ry;obtain⟨z,ao,n,r,hl,e⟩:=I.yY hH;obtain⟨z2,cq,n2,r2,Ny,e2⟩:=I.yY hB;refine PySem.P.add_list e e2 ?_ (by rw[ZH,ZH];lia);have ea:ao.toArray++cq.toArray=(ao++cq).toArray:=by simp
 rw[ea];exact⟨.ref _,_,I.Rl (t':=s.toks) (r.append r2) (by rw[ZK];lia),rfl,q _ I.fresh⟩
end
section
variable{κ:Type}[DecidableEq κ]
noncomputable def fP(aK:List (κ × V))(k:κ):Option V:=(aK.find? fun kv=>decide (kv.1=k)).map (·.2)
noncomputable def putK(aK:List (κ × V))(k:κ)(v:V):List (κ × V):=
 if (aK.any fun kv=>decide (kv.1=k))=true then aK.map (fun kv=>if kv.1=k then(kv.1,v) else kv) else aK++ [(k,v)]
theorem mB{p:κ × V}(e:p.1=k):fP (p::r) k=some p.2:=by simp [fP,ak9,e]
theorem mC{p:κ × V}(e: ¬p.1=k):fP (p::r) k=fP r k:=by simp [fP,ak9,e]
theorem sE(k:κ): ∀aK:List (κ × V),(aK.any fun kv=>decide (kv.1=k))=(fP aK k).isSome
 | []=>rfl
 | p::r=>by
  rw[aj6];by_cases e:p.1=k
  . simp only [mB e,Z9 e,Bool.true_or,Option.isSome_some]
  . rw[mC e,aa3 e,Bool.false_or];exact sE k r
theorem dz(aK:List (κ × V))(k:κ)(v:V):(putK aK k v).length<=aK.length+1:=by
 unfold putK;split
 . rw[Zu];lia
 . rw[ZK,ZG,ah3];lia
theorem nV.zb(r:nV o u):o.isSome=u.isSome:=by
 cases o with
 | none=>cases u with
  | none=>rfl
  | some _=>exact(show False from r).elim
 | some _=>cases u with
  | none=>exact(show False from r).elim
  | some _=>rfl
theorem KV.val(r:KV aK vs)(k:κ):nV (fP aK k) (valueAt vs k):=by
 unfold KV at r;induction r with
 | nil=>exact True.intro
 | @cons p q ps qs h t ih=>
  obtain⟨h1,h2⟩:=h;by_cases e:p.1=k
  . have e':q.1=k:=h1.symm.trans e;have b:valueAt (q::qs) k=some q.2:=by simp [valueAt,ak9,e']
    rw[mB e,b];exact h2
  . have e': ¬q.1=k:=fun z=>e (h1.trans z);have b:valueAt (q::qs) k=valueAt qs k:=by simp [valueAt,ak9,e']
    rw[mC e,b];exact ih
theorem KV.any(r:KV aK vs)(k:κ):(aK.any fun kv=>decide (kv.1=k))=vs.any fun kv=>decide (kv.1=k):=by
 unfold KV at r;induction r with
 | nil=>rfl
 | cons h t ih=>rw[aj6,aj6,ih,h.1]
theorem KV.Jg(r:KV aK vs)(k:κ)(ry:RelV y u):
  KV (aK.map fun kv=>if kv.1=k then(kv.1,y) else kv) (vs.map fun kv=>if kv.1=k then(kv.1,u) else kv):=by
 unfold KV at r ⊢;induction r with
 | nil=>exact .nil
 | @cons p q ps qs h t ih=>
  rw[ZT,ZT];refine .cons ?_ ih;obtain⟨h1,h2⟩:=h;by_cases e:p.1=k
  . rw[if_pos e,if_pos (h1.symm.trans e)];exact⟨h1,ry⟩
  . rw[if_neg e,if_neg (fun z=>e (h1.trans z))];exact⟨h1,h2⟩
theorem KV.put(r:KV aK vs)(k:κ)(ry:RelV y u):KV (putK aK k y) (stored vs k u):=by
 unfold putK stored;rw[r.any k];by_cases e:(vs.any fun kv=>decide (kv.1=k))=true
 . rw[if_pos e,if_pos e];exact r.Jg k ry
 . rw[if_neg e,if_neg e];exact Paired.snoc r ⟨rfl,ry⟩
theorem KV.length{aK:List (κ × V)}(r:KV aK vs):aK.length=vs.length:=Paired.length r
end
theorem tN(r:RelV (kV k) u):(aV P w).is k u=true:=by
 cases k with
 | inl i=>obtain⟨t,e⟩:=(show∃t,u=Value.int i t from r);subst e;exact tE P w i t
 | inr x=>obtain⟨t,e⟩:=(show∃t,u=Value.str x t from r);subst e;exact tD P w x t
theorem ph: ∀{ks:List Key} {us:List Value},Vals (ks.map kV) us->ItemsAre (aV P w) ks us
 | [],_,r=>by rw[List.map_nil] at r;cases r;exact .nil
 | k::ks,_,r=>by
  rw[ZT] at r;cases r with
  | cons h t=>exact .cons (tN h) (ph t)
abbrev KT(H:Hp):List (List Key × V)->List (List Key × Addr × Value)->Prop:=Paired fun p q=>p.1=q.1/\H q.2.1=some (.tup (p.1.map kV))/\RelV p.2 q.2.2
theorem KT.val(r:KT H aK xs)(k:List Key):nV (fP aK k) ((atKey xs k).map (·.2)):=by
 induction r with
 | nil=>exact True.intro
 | @cons p q ps qs h t ih=>
  obtain⟨h1,_,h2⟩:=h;by_cases e:p.1=k
  . have e':q.1=k:=h1.symm.trans e;have b:atKey (q::qs) k=some q.2:=by simp [atKey,ak9,e']
    rw[mB e,b];exact h2
  . have e': ¬q.1=k:=fun z=>e (h1.trans z);have b:atKey (q::qs) k=atKey qs k:=by simp [atKey,ak9,e']
    rw[mC e,b];exact ih
theorem KT.Jg(r:KT H aK xs)(k:List Key)(ry:RelV y u):
  KT H (aK.map fun kv=>if kv.1=k then(kv.1,y) else kv) (xs.map (putAt k u)):=by
 induction r with
 | nil=>exact .nil
 | @cons p q ps qs h t ih=>
  rw[ZT,ZT];refine .cons ?_ ih;obtain⟨h1,h2,h3⟩:=h;unfold putAt;by_cases e:p.1=k
  . rw[if_pos e,if_pos (h1.symm.trans e)];exact⟨h1,h2,ry⟩
  . rw[if_neg e,if_neg (fun z=>e (h1.trans z))];exact⟨h1,h2,h3⟩
theorem KT.put(r:KT H aK xs)(k:List Key)(hb:H b=some (.tup (k.map kV)))(ry:RelV y u):
  KT H (putK aK k y) (storedH xs k b u):=by
 have e:(aK.any fun kv=>decide (kv.1=k))=(atKey xs k).isSome:=by
  rw[sE,(r.val k).zb,Option.isSome_map]
 unfold putK storedH;rw[e];by_cases q:(atKey xs k).isSome=true
 . rw[if_pos q,if_pos q];exact r.Jg k ry
 . rw[if_neg q,if_neg q];exact Paired.snoc r ⟨rfl,hb,ry⟩
theorem KT.keeps(r:KT H aK xs)(ht: ∀b ys,H b=some (.tup ys)->H' b=some (.tup ys)):KT H' aK xs:=
 Paired.JD r fun _ _ z=>⟨z.1,ht _ _ z.2.1,z.2.2⟩
theorem Hb(ok:gI P w H h)(e:Rd H a u):a0 P w H h a u:=e.ok ok
theorem CT(ok:gI P w H h)(e:Rd H a (.dK aK)):aK.length<=sizeLine/\(a==sysModules)=false/\ ∃vs,KV aK vs/\h.DictOf (aV P w) a vs:=
 show a0 P w H h a (.dK aK) from Hb ok e
theorem CU(ok:gI P w H h)(e:H a=some (.dK aK)):aK.length<=sizeLine/\(a==sysModules)=false/\ ∃vs,KV aK vs/\h.DictOf (aV P w) a vs:=CT ok (.inl e)
theorem qN{ks:List Key}(ok:gI P w H h)(e:H a=some (.tup (ks.map kV))):(tupleKind (aV P w)).is h ks a:=by
 obtain⟨_,ao,r,o,h1,h2,_,n,h3⟩:=(show a0 P w H h a (.tup (ks.map kV)) from ok a _ e)
 exact⟨o,ao.toArray,n,h1,h2,h3,by simpa using ph r⟩
theorem CS(ok:gI P w H h)(e:Rd H a (.dT aK)):aK.length<=sizeLine/\(a==sysModules)=false/\
  ∃xs,KT H aK xs/\h.DictOfH (tupleKind (aV P w)) a xs:=by
 obtain⟨z,y,xs,r,o,es,ep,h1,h2,h3,h4,h5⟩:=(show a0 P w H h a (.dT aK) from Hb ok e)
 refine⟨z,y,xs,r,o,es,ep,h1,h2,h3,h4,fun x hx=>?_,h5⟩;have all: ∀{l:List (List Key × V)} {m:List (List Key × Addr × Value)},KT H l m-> ∀x∈m,(tupleKind (aV P w)).is h x.1 x.2.1:=by
  intro l m q;induction q with
  | nil=>intro x hx;exact nomatch hx
  | @cons p q ps qs hq t ih=>
   intro x hx;rcases ZR.mp hx with e | hx
   . subst e;exact qN ok (by rw[<-hq.1];exact hq.2.1)
   . exact ih x hx
 exact all r x hx
theorem xA(ok:gI P w H h)(e:H a=some (.dT aK)):aK.length<=sizeLine/\(a==sysModules)=false/\
  ∃xs,KT H aK xs/\h.DictOfH (tupleKind (aV P w)) a xs:=CS ok (.inl e)
def lJ(H:Hp)(a:Addr)(y:V)(r:Option V):Prop:=
 (∃aK k,Rd H a (.dK aK)/\y=kV k/\r=fP aK k)\/ ∃aK k b,Rd H a (.dT aK)/\y= .ref b/\H b=some (.tup (k.map kV))/\r=fP aK k
def n4(H:Hp)(a:Addr)(y v:V)(H':Hp):Prop:=
 (∃aK k,H a=some (.dK aK)/\y=kV k/\aK.length < sizeLine/\H'=upd H a (.dK (putK aK k v)))\/
 ∃aK k b,H a=some (.dT aK)/\y= .ref b/\H b=some (.tup (k.map kV))/\aK.length < sizeLine/\H'=upd H a (.dT (putK aK k v))
theorem lJ.k{H:Hp}{a:Addr}{aK:List (Key × V)}{k:Key}(e:H a=some (.dK aK)):lJ H a (kV k) (fP aK k):= .inl ⟨aK,k,.inl e,rfl,rfl⟩
theorem lJ.t{k:List Key}(e:H a=some (.dT aK))(eb:H b=some (.tup (k.map kV))):lJ H a (.ref b) (fP aK k):= .inr ⟨aK,k,b,.inl e,rfl,eb,rfl⟩
theorem n4.k{H:Hp}{a:Addr}{aK:List (Key × V)}{k:Key}(e:H a=some (.dK aK))(hl:aK.length < sizeLine):n4 H a (kV k) v (upd H a (.dK (putK aK k v))):= .inl ⟨aK,k,e,rfl,hl,rfl⟩
theorem n4.t{k:List Key}(e:H a=some (.dT aK))(eb:H b=some (.tup (k.map kV)))(hl:aK.length < sizeLine):
  n4 H a (.ref b) v (upd H a (.dT (putK aK k v))):= .inr ⟨aK,k,b,e,rfl,eb,hl,rfl⟩
theorem Inv.big(I:Inv X pins σ H s):sysModules < s.heap.objs.size:=by
 have h:mainGlobals < s.heap.objs.size:=(I.mod.glob.keeps I.bk).lt;exact Nat.lt_trans (by decide) h
theorem zv(hu:A.units+1 < cLine)(I:Inv X pins σ H s)(g:lJ H a y (some v))(ry:RelV y u)(h: ∀w' s',Inv X pins σ H s'->RelV v w'->Q w' s'):
  wpAny (model X.prog X.w) A (getItem (.ref a) u) Q E s:=by
 rcases g with ⟨aK,k,e,ey,l⟩ | ⟨aK,k,b,e,ey,eb,l⟩
 . subst ey;obtain⟨z,hd,vs,rel,dd⟩:=CT I.aT e;obtain⟨w',hw,A9⟩:=nV.some_of (v:=v) (o:=valueAt vs k) (by rw[l];exact rel.val k);exact wpAny_getItem_of (tN ry) dd.mapOf hw (h w' _ (I.tok _) A9)
 . subst ey;cases (show u=Value.ref b from ry);obtain⟨z,hd,xs,rel,dd⟩:=CS I.aT e;obtain⟨w',hw,A9⟩:=nV.some_of (v:=v) (o:=(atKey xs k).map (·.2)) (by rw[l];exact rel.val k);obtain⟨p,hp,WH⟩:=aa2.mp hw;refine wpAny_getItem_heap (tupleKind_room_in1 hu) (qN I.aT eb) dd hp ?_;rw[WH];exact h w' _ (I.tok _) A9
theorem iC(I:Inv X pins σ H s)(mu:OX (H a))(hs:Heap.SameBut a s.heap h')(he: ∃q,h'.get? a=some q)(new:a0 X.prog X.w (upd H a ob) h' a ob):
  Inv X pins σ (upd H a ob) {s with heap:=h',toks:=t'}:=
 I.write (x:=a) (e:=a) mu (.inl rfl) (fun b q hb z=>(hs.2 b hb).trans z) he new
theorem vA{h':Heap}{aK:List (Key × V)}(z:aK.length<=sizeLine)(hd:(a==sysModules)=false)(rel:KV aK vs)(dd:h'.DictOf (aV P w) a vs):
  a0 P w H' h' a (.dK aK):=⟨z,hd,vs,rel,dd⟩
theorem zu(hu:A.units+1 < cLine)(I:Inv X pins σ H s)(g:n4 H a y v H')(ry:RelV y u)(rv:RelV v r)(h: ∀s',Inv X pins σ H' s'->Q () s'):
  wpAny (model X.prog X.w) A (setItem (.ref a) u r) Q E s:=by
 rcases g with ⟨aK,k,e,ey,l,eH⟩ | ⟨aK,k,b,e,ey,eb,l,eH⟩
 . subst ey eH;obtain⟨z,hd,vs,rel,dd⟩:=CU I.aT e;have hz:vs.length<=sizeLine:=by rw[<-rel.length];exact z
   have hl:(putK aK k v).length<=sizeLine:=by have:=dz aK k v;lia
   refine wpAny_setItem_pairs (hsz:=hz) (tN ry) dd fun h' zX hs=>h _ ?_;have he: ∃q,h'.get? a=some q:=let ⟨q,_,_,hq,_⟩:=zX;⟨q,hq⟩;exact iC I (by rw[e];exact True.intro) hs he (vA hl hd (rel.put k rv) zX)
 . subst ey eH;cases (show u=Value.ref b from ry);obtain⟨z,hd,xs,rel,dd⟩:=xA I.aT e;have hz:xs.length<=sizeLine:=by rw[<-Paired.length rel];exact z
   have hl:(putK aK k v).length<=sizeLine:=by have:=dz aK k v;lia
   refine wpAny_setItem_heap (hsz:=hz) (tupleKind_room_in1 hu) (qN I.aT eb) dd fun h' zX hs=>h _ ?_;obtain⟨q,es,ep,hq,h2,h3,h4,_,h5⟩:=zX;refine iC I (by rw[e];exact True.intro) hs ⟨q,hq⟩ ⟨hl,hd,_,(rel.put k eb rv).keeps fun c ys ec=>?_,q,es,ep,hq,h2,h3,h4,h5⟩;rw[ah (wY ec e (fun z=>nomatch z))];exact ec
def Lc(i:Expr):Prop:= ∀ov iv,subscripted i false ov iv=operate [ov,iv] (getItem ov iv)
theorem EW{prog:Program}{w:World}{A:Around}{E:Value->Shared->Prop}{s:Shared}{env:Env}{value slice:Expr}{pos:Pos}{T id:String}(hl:typeLookup (.type T) "__getitem__"=pure (some (.builtin id)))(hs:Lc slice)(h:wpAny (model prog w) A (eval value env) (fun o s₁=>wpAny (model prog w) A (eval slice env) (fun i s₂=>s₂.TypeIs o T/\wpAny (model prog w) A (getItem o i) Q E s₂) E s₁) E s):
  wpAny (model prog w) A (eval (.Subscript value slice pos) env) Q E s:=by
 refine Subscript_ (Z6 h (fun o s₁ h₁=>Z6 h₁ (fun i s₂ h₂=>?_) fun _ _ x=>x) fun _ _ x=>x);obtain⟨hT,h₂⟩:=h₂;unfold subscriptTail;refine Zt ?_;rw[getitemInPython_of_ne hT.not_modules];refine Zt (wpAny_specialOf hT hl ?_);have fin:wpAny (model prog w) A (subscripted slice false o i) (fun r s₃=>wpAny (model prog w) A (letTemporaryGo value o r >>=fun _=>pure r) Q E s₃) E s₂:=by
  rw[hs o i];exact wpAny_operating (Z6 h₂ (fun r s₃ h₃=>Zt (wpAny_letTemporaryGo (ZD h₃))) fun _ _ x=>x)
 first
  | exact ZD (Zt fin)
  | exact Zt (ZD (Zt fin))
  | exact Zt fin
theorem t5(I:Inv X pins σ H s)(g:lJ H a y o):s.TypeIs (.ref a) "dict":=by
 rcases g with ⟨aK,k,e,_,_⟩ | ⟨aK,k,b,e,_,_,_⟩
 . obtain⟨_,_,vs,_,dd⟩:=CT I.aT e;exact dd.typeIs
 . obtain⟨_,_,xs,_,dd⟩:=CS I.aT e;exact dd.typeIs
def Ml(td ty:TE):TE:=fun σ H Q=>td σ H fun x H1=>ty σ H1 fun y H2=> ∃a v,x= .ref a/\lJ H2 a y (some v)/\Q v H2
def Mt(td ty tv:TE):TS:=fun D σ H=>tv σ H fun v H1=>td σ H1 fun x H2=>ty σ H2 fun y H3=> ∃a H4,x= .ref a/\n4 H3 a y v H4/\D.nx σ H4
theorem jC(hu:X.A.units+1 < cLine)(ho:PE X o td)(hi:PE X i ty)(hs:Lc i):PE X (.Subscript o i pos) (Ml td ty):=by
 intro pins s σ H Q I h;refine EW PySem.F.slot_dict_getitem.lookup hs (aU (ho pins s σ H _ I h) fun u s1 ⟨x,H1,I1,rx,q1⟩=>aU (hi pins s1 σ H1 _ I1 q1) fun iv s2 P6=>?_);obtain⟨y,H2,I2,ry,a,v,ex,g,q2⟩:=P6;subst ex;obtain rfl:u=Value.ref a:=rx;exact⟨t5 I2 g,zv hu I2 g ry fun w' s3 I3 A9=>⟨v,H2,I3,A9,q2⟩⟩
theorem wM(hu:X.A.units+1 < cLine)(ho:PE X o td)(hi:PE X i ty)(hv:PE X value tv)(hs:swapsWith value (some (.Subscript o i pos')) pos.line X.env=pure false):
  PS X (.Assign [.Subscript o i pos'] value pos) (Mt td ty tv):=by
 intro pins s σ H D I h;refine wpAny_Assign_Subscript (aU (hv pins s σ H _ I h) fun r s1 ⟨v,H1,I1,rv,q1⟩=>aU (ho pins s1 σ H1 _ I1 q1) fun u s2 ⟨x,H2,I2,rx,q2⟩=>aU (hi pins s2 σ H2 _ I2 q2) fun iv s3 P5=>?_) hs;obtain⟨y,H3,I3,ry,a,H4,ex,g,q3⟩:=P5;subst ex;obtain rfl:u=Value.ref a:=rx;exact zu hu I3 g ry rv fun s4 I4=>⟨σ,H4,I4,q3⟩
theorem CV(h:Heap)(hb:sysModules < h.objs.size):a0 P w H (h.push {cls:= .type "dict",data:= .dict #[]}) h.objs.size (.dK []):=
 ⟨Z7 _,ah5.mpr (Ne.symm (aa8 hb)),[],.nil,Heap.DictOf.new h⟩
theorem nF(h:Heap)(hb:sysModules < h.objs.size):a0 P w H (h.push {cls:= .type "dict",data:= .dict #[]}) h.objs.size (.dT []):=
 ⟨Z7 _,ah5.mpr (Ne.symm (aa8 hb)),[],.nil,_,#[],0,ZP _ rfl,⟨rfl,rfl,rfl⟩,rfl,rfl,ag8⟩
def IJ:TE:=fun _ H Q=> ∀p,H p=none->Q (.ref p) (upd H p (.dT []))
theorem BB:PE X (.Dict [] [] pos) IJ:=fun pins s σ H Q I h=>
 wpAny_Dict_empty ⟨.ref s.heap.objs.size,_,I.laid (a:=s.heap.objs.size) (o:= .dT []) (t':=s.toks) (fun _ _ q=>Zv _ q) (Zx _) (nF s.heap I.big),rfl,h _ (I.aT.fresh (Zx _))⟩
def uH:List (TE × TE)->St->Hp->(List (V × V)->Hp->Prop)->Prop
 | [],_,H,Q=>Q [] H
 | (tk,tv)::r,σ,H,Q=>tk σ H fun x H1=>tv σ H1 fun y H2=>uH r σ H2 fun ps H3=>Q ((x,y)::ps) H3
abbrev VV:List (V × V)->List (Value × Value)->Prop:=Paired fun p q=>RelV p.1 q.1/\RelV p.2 q.2
def PX(X:Cx)(pos:Pos)(keys:List (Option Expr))(values:List Expr)(Iz:List (TE × TE)):Prop:=
 ∀(pins:List (Addr × Obj)) (s:Shared) (σ:St) (H:Hp) (Q:List (V × V)->Hp->Prop),Inv X pins σ H s->uH Iz σ H Q->
  wpAny (model X.prog X.w) X.A (evalPairs (pairTrees keys values X.env pos)) (fun vs s'=> ∃ps H',Inv X pins σ H' s'/\VV ps vs/\Q ps H') X.xe s
theorem Fl:PX X pos [] [] []:=fun pins s σ H Q I h=>pairTrees_nil_walk ⟨[],H,I,.nil,h⟩
theorem tf(hk:PE X k tk)(hv:PE X v tv)(hr:PX X pos ks vs Iz):
  PX X pos (some k::ks) (v::vs) ((tk,tv)::Iz):=fun pins s σ H Q I h=>
 pairTrees_cons_walk (aU (hk pins s σ H _ I h) fun u s1 L0=>(by obtain⟨x,H1,I1,rx,q1⟩:=L0;exact(aU (hv pins s1 σ H1 _ I1 q1) fun w2 s2 LZ=>(by obtain⟨y,H2,I2,ry,q2⟩:=LZ;exact(
  aU (hr pins s2 σ H2 _ I2 q2) fun ws s3 LY=>(by obtain⟨ps,H3,I3,rel,q3⟩:=LY;exact(⟨(x,y)::ps,H3,I3,.cons ⟨rx,ry⟩ rel,q3⟩)))))))
noncomputable def i5(aK more:List (Key × V)):List (Key × V):=more.foldl (fun acc kv=>putK acc kv.1 kv.2) aK
theorem KV.merge: ∀{more:List (Key × V)} {rs:List (Key × Value)} {aK:List (Key × V)} {vs:List (Key × Value)},KV more rs->KV aK vs->KV (i5 aK more) (merged vs rs):=by
 intro more rs aK vs r;unfold KV at r;induction r generalizing aK vs with
 | nil=>intro q;exact q
 | @cons p q ps qs h t ih=>
  intro r0;have e:KV (putK aK p.1 p.2) (stored vs q.1 q.2):=by
   have:=r0.put p.1 h.2;rw[<-h.1];exact this
  exact ih e
theorem iL: ∀(more aK:List (Key × V)),(i5 aK more).length<=aK.length+more.length
 | [],aK=>by show aK.length<=aK.length+0;lia
 | p::r,aK=>by
  have h1:=iL r (putK aK p.1 p.2);have h2:=dz aK p.1 p.2;show(i5 (putK aK p.1 p.2) r).length<=_;rw[ZG];lia
theorem nJ: ∀{aK:List (Key × V)} {ws:List (Value × Value)},VV (aK.map fun kv=>(kV kv.1,kv.2)) ws-> ∃rs,Carries (aV P w) ws rs/\KV aK rs
 | [],_,r=>by rw[List.map_nil] at r;cases r;exact⟨[],True.intro,.nil⟩
 | p::aK,_,r=>by
  rw[ZT] at r;cases r with
  | @cons a b as bs h t=>
   obtain⟨rs,c,q⟩:=nJ (P:=P) (w:=w) t;obtain⟨b1,b2⟩:=b;exact⟨(p.1,b2)::rs,⟨tN h.1,rfl,c⟩,.cons ⟨rfl,h.2⟩ q⟩
def G7(Iz:List (TE × TE)):TE:=fun σ H Q=> ∀p,H p=none->uH Iz σ (upd H p (.dK [])) fun ps H2=>H2 p=some (.dK [])/\ ∃aK:List (Key × V),ps=aK.map (fun kv=>(kV kv.1,kv.2))/\aK.length<=15/\Q (.ref p) (upd H2 p (.dK (i5 [] aK)))
theorem Fs(h:PX X pos keys values Iz)(Kg:keys.all (·.isSome)=true)(hl:keys.length=values.length)(h0:keys≠ [])(Xl:keys.length<=15):PE X (.Dict keys values pos) (G7 Iz):=by
 intro pins s σ H Q I q;have hn:=I.aT.fresh (Zx s.heap.objs.size);have I1:=I.laid (a:=s.heap.objs.size) (o:= .dK []) (h':=s.heap.push {cls:= .type "dict",data:= .dict #[]}) (t':=s.toks) (fun _ _ q=>Zv _ q) (Zx _) (CV s.heap I.big);refine wpAny_Dict_walk (knd:=aV X.prog X.w) Kg hl h0 Xl (aU (h pins _ σ _ _ I1 (q _ hn)) fun ws s2 LX=>?_);obtain⟨ps,H2,I2,rel,e,aK,ep,lk,q2⟩:=LX;subst ep;obtain⟨rs,c,rk⟩:=nJ (P:=X.prog) (w:=X.w) rel;obtain⟨z,hd,VL,r0,dd⟩:=CU I2.aT e;cases r0;refine⟨rs,c,dd,fun h' zX hs=>⟨.ref s.heap.objs.size,_,?_,rfl,q2⟩⟩;have hz:(i5 [] aK).length<=sizeLine:=by
  have h1:=iL aK [];rw[ah3] at h1;rw[ag6];lia
 have he: ∃q,h'.get? s.heap.objs.size=some q:=let ⟨q,_,_,hq,_⟩:=zX;⟨q,hq⟩;exact iC I2 (by rw[e];exact True.intro) hs he (vA hz hd (rk.merge .nil) zX)
end L2
namespace Vt
open PySem PySem.W PySem.Calls PyProof.Rows
theorem lh: ∀(ns:List Int) (vs:List Value),WellAll P h vs (ns.map WData.int)->IntsAre vs ns:=by
 intro ns;induction ns with
 | nil=>
  intro vs w;rw[List.map_nil] at w;cases w;exact .nil
 | cons n ns ih=>
  intro vs w;rw[ZT] at w;cases w with
  | cons a b=>
   cases a;exact .cons _ _ (ih _ b)
theorem yC{l:OpenLaw}(hn:l.most=some n)(F7:l.row.toRowW.claim.pre args=true)(RC:WellAll P h vals args):
  ∃a vs ns,vals= [Value.ref a]/\args= [WData.list (ns.map WData.int)]/\h.get? a=some {cls:= .type "list",data:= .seq vs.toArray}/\IntsAre vs ns/\ns.length<=n:=by
 have WD:WShape.hasAll [] args [.list .int]=true:=(pre_splitW F7).1;have hc:l.pre.holds [] {args:=args}=true:=(pre_splitW F7).2;obtain⟨d,r,rfl,h1,h2⟩:=hasAllW_cons WD;obtain rfl:=hasAllW_nil h2;obtain⟨xs,rfl,h3⟩:=hasW_list h1;obtain⟨ns,rfl⟩:=items_int h3;have hlen:ns.length<=n:=by
  unfold OpenLaw.pre at hc;have h4:(WTm.not (.lt (.lit (.int (n:Int))) (.len (.arg 0)))).holds [] {args:= [.list (ns.map .int)]}=true:=by
   have h4:=(holds_andW hc).1;rw[hn] at h4;exact h4
  have h5:=condW_of h4 (w_not (w_lt w_lit (w_len_list (w_arg rfl))));rw[Zu] at h5;refine Nat.le_of_not_lt fun q=>?_;have q':(n:Int) < ((ns.length:Nat):Int):=by lia
  first
   | (rw[Z9 q'] at h5;exact absurd h5 (by decide))
   | (simp at h5;lia)
 cases RC with
 | cons w1 w2=>
  cases w2;cases w1 with
  | list ho Kg=>exact⟨_,_,ns,rfl,rfl,ho,lh ns _ Kg,hlen⟩
theorem yI(l:OpenLaw)(args:List WData):l.row.toRowW.claim.post args (.bool true) args=true:=
 postW_of (r:=l.row.toRowW) (X:=(true==true))
  (show WShape.has [] (.bool true) .bool=true by first | rfl | decide | simp [WShape.has,WShape.arms,WShape.armsAll])
  (show(WTm.eq .res (.lit (.bool true))).value [] {args:=args,res:=some (.bool true),after:=args}=some (.bool (true==true)) from w_eq_bool (w_res rfl) w_lit) rfl
theorem ui {l : OpenLaw} {d : DefRec} (hn : l.most = some n) (NH : d.params.defaults = []) (call : ∀ (w : World) (s₀ s₁ : Shared) (mg mb : Str -> Option Value) (fa : Addr) (o : Obj) (pm cd doc : Value) (a : Addr) (vs : List Value) (ns : List Int),
   Ground q loose [] XP w s₀ mg mb s₁.heap->YP w s₁.heap->
   s₁.heap.get? fa=some o->o.data= .func (docDef d.name d.params d.body d.scope pm cd doc)->s₁.heap.CodeRec cd d.name->mg d.name=some (.ref fa)->
   s₁.heap.get? a=some {cls:= .type "list",data:= .seq vs.toArray}->IntsAre vs ns->ns.length<=n->s₁.gens= #[]->
   codeAny (model l.prog w) callerA (.call (.ref fa) ⟨[.ref a],[]⟩) (fun r s'=>r= .ok (.ret (.bool true))/\OldK s₁.heap s'.heap/\s'.os=s₁.os/\AllBare s'.gens) s₁):
  WalkO q loose XP YP l.row.toRowW d [] (fun f vs=>PySem.call f vs):=by
 intro w s₀ s₁ mg mb G Y fa o pm cd doc dV kV ho hd tR hD Nt hg args vals as F7 WN Yz RC RU;obtain rfl:dV= .none:=Dflts.none hD NH;obtain rfl:kV= .none:=Dflts.noKw hD;obtain⟨a,vs,ns,rfl,rfl,J5,hints,hlen⟩:=yC hn F7 RC;refine enter_call (al7 (call w s₀ s₁ mg mb fa o pm cd doc a vs ns G Y ho (fd_plain hd) tR Nt J5 hints hlen hg) fun r s' hq=>?_);obtain⟨rfl,h2,h3,h4⟩:=hq;exact⟨.inl ⟨.bool true,.bool true,[],rfl,fun _=>rfl,.bool true,yI l _,fun _=>⟨List.Pairwise.nil,fun _ hm=>(nomatch hm)⟩⟩,h2,h3,h4⟩
end Vt
namespace L2
open PySem PySem.Spec PyProof.Rows
theorem oV: ∀{vs:List Value} {ns:List Int},IntsAre vs ns->Vals (ns.map V.int) vs
 | _,_,.nil=> .nil
 | _,_,.cons n t h=> .cons ⟨t,rfl⟩ (oV h)
def La(H:Hp):Prop:= ∀b,H b=none\/(∃o xs,H b=some (.lZ o (.lst xs)))\/ ∃ps,H b=some (.uE ps)
noncomputable def bj(K:PySem.W.Frag)(b:Addr):Option Str:=bb.find? fun x=>decide ((PySem.W.tabIn K x).map (·.2)=some b)
noncomputable def p6(K:PySem.W.Frag)(H:Hp):Hp:=fun b=>match bj K b with
 | some x=>some (.uE #[.str (hV x) 0])
 | none=>H b
theorem ID{K:PySem.W.Frag}(e:bj K b=some x):p6 K H b=some (.uE #[.str (hV x) 0]):=by unfold p6;rw[e]
theorem IC{K:PySem.W.Frag}(e:bj K b=none):p6 K H b=H b:=by unfold p6;rw[e]
theorem Cc{K:PySem.W.Frag}{s₁:Shared}{vs:List Value}(KX:K.In s₁.heap)(Em:s₁.heap.Ns mainGlobals mg)(hb:s₁.heap.Ns builtinsNs mb)(Sa: ∀x:Str,x≠"__name__"->mb x=bootBuiltins x)(RV:s₁.heap.NoLimit)(hg:s₁.gens= #[])(ha:s₁.heap.get? a=some {cls:= .type "list",data:= .seq vs.toArray})(hi:IntsAre vs ns)(hl:ns.length<=sizeLine)(hr:bD k callerA)(F: ∀base:Heap,K.In base->base.Ns mainGlobals mg->aX P w K mg base CX k fa fd [x] sp)(NJ: ∀(s:Shared) (u:Value),BindsTo s fd ⟨[u],[]⟩ [(x,u)])(Hx: ∀H:Hp,La H->cY K H a (ns.map V.int)->sp [.ref a] H (fun v _=>v= .bl true) fun _ _ _=>False)(Xi: ∃bm ob,mg "__builtins__"=some (.ref bm)/\bm≠builtinsNs/\s₁.heap.get? bm=some ob/\ob.cls= .type "module"/\ob.dict=some builtinsNs/\ob.data= .plain)(NN:PySem.W.noTabs K=true)(NM: ∀x∈bb,∃c P,PySem.W.tabIn K x=some (c,P)/\PySem.W.CodeHd s₁.heap c P/\s₁.heap.get? P=some (PySem.W.tabObj #[]))(Sf: ∀x∈bb,∀y∈bb,∀c c' P,PySem.W.tabIn K x=some (c,P)->PySem.W.tabIn K y=some (c',P)->x=y)(Sq: ∀H e s',CX [] H s₁ (fun _ _ _=>False) e s'->False):
  codeAny (model P w) callerA (.call (.ref fa) ⟨[.ref a],[]⟩) (fun r s'=>r= .ok (.ret (.bool true))/\OldK s₁.heap s'.heap/\s'.os=s₁.os/\AllBare s'.gens) s₁:=by
 have rv:=oV hi;have Rm:=hi.length;have core: ∀H:Hp,La H->cY K H a (ns.map V.int)->gI P w H s₁.heap->(∀b,H b≠none->b=a\/ ∃c,PySem.W.CodeHd s₁.heap c b/\s₁.heap.get? b=some (PySem.W.tabObj #[]))->(H a≠none->K.lookup a=none)->iu K H->
   codeAny (model P w) callerA (.call (.ref fa) ⟨[.ref a],[]⟩) (fun r s'=>r= .ok (.ret (.bool true))/\OldK s₁.heap s'.heap/\s'.os=s₁.os/\AllBare s'.gens) s₁:=by
  intro H hO hS aT hA hK Gg;have rF: ∀{b:Addr} {o:Obj},s₁.heap.get? b=some o->H b=none->(qS s₁.heap H).get? b=some o:=fun e n=>Cr e n;have MY: ∀{b:Addr} {o:Obj} {es:Array DictEntry} {ep:Nat},s₁.heap.get? b=some o->o.data= .dict es ep->H b=none:=fun{b o es ep} e d=>by
   cases q:H b with
   | none=>rfl
   | some u=>
    rcases hA b (by rw[q];simp) with e' | ⟨_,_,e'⟩
    . subst e';rw[ha] at e;cases e;have d':Data.seq vs.toArray _=Data.dict es ep:=d;cases d'
    . rw[e'] at e;cases e;have d':Data.fields #[]=Data.dict es ep:=d;cases d'
  have Pj: ∀{b:Addr} {m:Str->Option Value},s₁.heap.Ns b m->(qS s₁.heap H).Ns b m:=fun{b m} LV=>(by obtain⟨o,es,ep,e,d,r⟩:=LV;exact(⟨o,es,ep,rF e (MY e d),d,r⟩))
  have UH:K.In (qS s₁.heap H):=fun b o e=>rF (KX b o e) (by
   cases q:H b with
   | none=>rfl
   | some u=>
    rcases hA b (by rw[q];simp) with e' | ⟨_,_,e'⟩
    . subst e';rw[hK (by rw[q];simp)] at e;cases e
    . have e2:=KX b o e;rw[e'] at e2;cases e2;have h2:=ag4.mp NN (b,_) (PySem.W.mem_of_lookupK e);exact absurd (show false=true from h2) ZJ)
  have hM:Mod K mg (qS s₁.heap H):=⟨UH,Pj Em,⟨mb,Pj hb,Sa⟩,let ⟨mc,h1,h2⟩:=RV;⟨mc,Pj h1,h2⟩,by
   obtain⟨bm,ob,e1,e2,e3,e4,e5,e6⟩:=Xi;refine⟨bm,ob,e1,e2,rF e3 ?_,e4,e5,e6⟩;cases q:H bm with
   | none=>rfl
   | some u=>
    rcases hA bm (by rw[q];simp) with e' | ⟨_,_,e'⟩
    . rw[e',ha] at e3;cases e3;have z:Value.type "list"=Value.type "module":=e4;injection z with z;exact absurd z (by decide)
    . rw[e'] at e3;cases e3;cases e4⟩
  have e0:G3 P w K mg (qS s₁.heap H) callerA [] s₁ H:=⟨rfl,hM,fun b o e=>FP e,Nat.le_of_eq (ze _ _),trivial,fun b hb=>absurd (show b∈([]:List Addr) from hb) (by simp),aT,.of_eq hg,Gg⟩
  refine al7 ((F _ UH (Pj Em)).run callerA [] s₁ H ⟨[.ref a],[]⟩ [.ref a] [.ref a] _ _ hr e0 (NJ s₁ (.ref a)) (.cons rfl .nil) (Hx H hO hS)) fun r s' h=>?_;cases r with
  | error e=>exact(Sq H e s' h).elim
  | ok fl=>
   cases fl with
   | next=>exact False.elim h
   | brk=>exact False.elim h
   | cont=>exact False.elim h
   | ret u=>
    obtain⟨v,H',os,bare,un,Nq,r',q⟩:=h;have q':v= .bl true:=q;subst q';obtain rfl:u=Value.bool true:=r';refine⟨rfl,⟨fun b o e=>?_,fun b o e=>un.there b o e (by simp)⟩,os,bare⟩;cases q:H b with
    | none=>exact .inl <| un.keep b o e q (by intro z;exact absurd (show b∈([]:List Addr) from z) (by simp)) (by simp)
    | some u=>
     rcases hO b with z | ⟨ob,xs,z⟩ | ⟨ps,z⟩
     . rw[q] at z;cases z
     . refine .inl ?_;have z2:=un.oF b ob _ z;obtain⟨e1,_⟩:=aT b _ z;obtain⟨e2,_⟩:=Nq b _ z2;rw[e] at e1;cases e1;exact e2
     . obtain⟨more,z2⟩:=un.oo b ps z;obtain⟨es,e2,_⟩:=Nq b _ z2;rcases hA b (by rw[q];simp) with e' | ⟨c,hc,e'⟩
       . subst e';obtain⟨HF,e3,_⟩:=aT b _ z;rw[ha] at e3;cases e3
       . rw[e'] at e;cases e;exact .inr (.inl ⟨(hc.tab e').isCodeTable,rfl,#[],es,rfl,by rw[e2];simp⟩)
 have L8: ∀{b:Addr} {x:Str} {c P:Addr},x∈bb->PySem.W.tabIn K x=some (c,P)->s₁.heap.get? P=some (PySem.W.tabObj #[])/\PySem.W.CodeHd s₁.heap c P:=fun{b x c P} hx e=>by
  obtain⟨c',P',e1,e2,e3⟩:=NM x hx;rw[e] at e1;cases e1;exact⟨e3,e2⟩
 have w6: ∀{b x},bj K b=some x->x∈bb/\ ∃c,PySem.W.tabIn K x=some (c,b):=fun{b x} e=>by
  refine⟨List.mem_of_find?_eq_some e,?_⟩;have q:=ab4 (List.find?_some (p:=fun x=>decide ((PySem.W.tabIn K x).map (·.2)=some b)) e);obtain⟨⟨c,P⟩,e1,e2⟩:=aa2.mp q;have e2:P=b:=e2;subst e2;exact⟨c,e1⟩
 have FN: ∀{x c P},x∈bb->PySem.W.tabIn K x=some (c,P)->bj K P=some x:=fun{x c P} hx e=>by
  cases q:bj K P with
  | none=>
   have:=List.find?_eq_none.mp q x hx;exact absurd (by rw[e];exact Z9 rfl) this
  | some y=>
   obtain⟨hy,c',e'⟩:=w6 q;rw[Sf y hy x hx c' c P e' e]
 have DX: ∀{b x} (H:Hp),bj K b=some x->p6 K H b=some (.uE #[.str (hV x) 0]):=fun{b x} H e=>ID e;have rN: ∀{b} (H:Hp),bj K b=none->p6 K H b=H b:=fun{b} H e=>IC e;have Vh: ∀H,iu K (p6 K H):=fun H x hx c P e=>⟨_,DX _ (FN hx e),rfl⟩
 have wk: ∀{b x},bj K b=some x-> ∃c,PySem.W.CodeHd s₁.heap c b/\s₁.heap.get? b=some (PySem.W.tabObj #[]):=fun{b x} e=>by
  obtain⟨hx,c,e1⟩:=w6 e;obtain⟨e2,e3⟩:=L8 (b:=b) hx e1;exact⟨c,e3,e2⟩
 have B7:bj K a=none:=by
  cases q:bj K a with
  | none=>rfl
  | some x=>
   obtain⟨c,_,e⟩:=wk q;rw[ha] at e;cases e
 have G5: ∀{H b x},bj K b=some x->a0 P w H s₁.heap b (.uE #[.str (hV x) 0]):=fun{H b x} e=>by
  obtain⟨c,_,e1⟩:=wk e;exact⟨#[],e1,trivial,fun pos cv z=>nomatch z⟩
 cases hk:K.lookup a with
 | some o=>
  have e:=KX a o hk;rw[ha] at e;cases e;refine core (p6 K fun _=>none) (fun b=>?_) (.inr ⟨_,vs.toArray,_,hk,rfl,rfl,rfl,by rw[ZH,Rm];exact hl,by simpa using rv⟩) (fun b u z=>?_) (fun b z=>?_) (fun z=>absurd (rN (fun _=>none) B7) z) (Vh _)
  . cases q:bj K b with
    | none=>exact .inl (rN _ q)
    | some x=>exact .inr (.inr ⟨_,DX _ q⟩)
  . cases q:bj K b with
    | none=>
     rw[rN _ q] at z;cases z
    | some x=>
     rw[DX _ q] at z;cases z;exact G5 q
  . cases q:bj K b with
    | none=>exact absurd (rN (fun _=>none) q) z
    | some x=>exact .inr (wk q)
 | none=>
  refine core (p6 K fun b=>if b=a then some (.lZ {cls:= .type "list",data:= .seq vs.toArray} (.lst (ns.map V.int))) else none) (fun b=>?_) (.inl (.inr ⟨{cls:= .type "list",data:= .seq vs.toArray},(rN _ B7).trans (if_pos rfl)⟩)) (fun b u z=>?_) (fun b z=>?_) (fun _=>hk) (Vh _)
  . cases q:bj K b with
    | none=>
     by_cases hb:b=a
     . exact .inr (.inl ⟨_,_,(rN _ q).trans (if_pos hb)⟩)
     . exact .inl ((rN _ q).trans (if_neg hb))
    | some x=>exact .inr (.inr ⟨_,DX _ q⟩)
  . cases q:bj K b with
    | none=>
     rw[rN _ q] at z;by_cases hb:b=a
     . have z':=(if_pos hb).symm.trans z;cases z';subst hb;exact⟨ha,by rw[Zu];exact hl,vs,_,rv,ha⟩
     . have z':=(if_neg hb).symm.trans z;cases z'
    | some x=>
     rw[DX _ q] at z;cases z;exact G5 q
  . cases q:bj K b with
    | none=>
     by_cases hb:b=a
     . exact .inl hb
     . exact absurd ((rN _ q).trans (if_neg hb)) z
    | some x=>exact .inr (wk q)
theorem EJ {l : PySem.W.OpenLaw} {n k : Nat} {q : Program} {loose : List Str} {XP : (Str -> Option Value) -> Heap -> Prop} {YP : World -> Heap -> Prop} {d : DefRec} {K : Params -> PySem.W.Frag} {CX : World -> Ia} {sp : World -> Sp} (hn : l.most = some n) (En : n <= sizeLine) (NH : d.params.defaults = []) (hr : bD k callerA) (hY : ∀ (w : World) (h : Heap), YP w h -> (K w.params).In h) (F : ∀ (w : World) (mg : Str -> Option Value) (fa : Addr) (h : Heap), (K w.params).In h -> h.Ns mainGlobals mg -> mg d.name = some (.ref fa) ->
   ∃fd:FuncData,(∀(s:Shared) (u:Value),BindsTo s fd ⟨[u],[]⟩ [(x,u)])/\
    ∀base:Heap,(K w.params).In base->base.Ns mainGlobals mg->aX l.prog w (K w.params) mg base (CX w) k fa fd [x] (sp w)) (Hx: ∀(w:World) (H:Hp) (a:Addr) (ns:List Int),ns.length<=n->La H->cY (K w.params) H a (ns.map V.int)->sp w [.ref a] H (fun v _=>v= .bl true) fun _ _ _=>False) (Sq: ∀(w:World) (H:Hp) (s:Shared) (e:Value) (s':Shared),CX w [] H s (fun _ _ _=>False) e s'->False) (NN: ∀w:World,PySem.W.noTabs (K w.params)=true) (NM: ∀(w:World),∀x∈bb,∃d c P,(recsOf q).find? (fun e=>e.name==x)=some d/\PySem.W.tabIn (K w.params) x=some (c,P)) (Sf: ∀(w:World),∀x∈bb,∀y∈bb,∀c c' P,PySem.W.tabIn (K w.params) x=some (c,P)->PySem.W.tabIn (K w.params) y=some (c',P)->x=y):
  PySem.W.WalkO q loose XP YP l.row.toRowW d [] (fun f vs=>PySem.call f vs):=by
 refine Vt.ui hn NH fun w s₀ s₁ mg mb fa o pm cd doc a vs ns G Y ho hd tR Nt J5 hints hlen hg=>?_;have KX:=hY w _ Y;obtain⟨fd,hb,hF⟩:=F w mg fa _ KX G.T.g Nt;exact Cc KX G.T.g G.T.b G.T.builtins G.T.nolimit hg J5 hints (ZZ hlen En) hr hF hb (fun H hO hS=>Hx w H a ns hlen hO hS) G.T.bmain (NN w) (fun x hx=>by
  obtain⟨dx,c,P,e1,e2⟩:=NM w x hx;obtain⟨e3,e4⟩:=PySem.W.tab_of G.T KX e1 e2;exact⟨c,P,e2,e3,e4⟩) (Sf w) fun H e s'=>Sq w H s₁ e s'
noncomputable def fX(s:Stmt):Arguments:=match s with
 | .FunctionDef _ a _ _ _ _ _ _ _ _=>a
 | _=>{posonlyargs:= [],args:= [],vararg:=none,kwonlyargs:= [],kw_defaults:= [],kwarg:=none,defaults:= []}
noncomputable def cz(s:Stmt):List Stmt:=match s with
 | .FunctionDef _ _ b _ _ _ _ _ _ _=>b
 | _=> []
noncomputable def ab(s:Stmt):Scope:=match s with
 | .FunctionDef _ _ _ _ _ _ sc _ _ _=>sc
 | _=>{kind:= .function,names:= [],isGenerator:=false,isCoroutine:=false}
abbrev di:Ia:=fun _ _ _ _ _ _=>False
abbrev E0:XK:=fun _ _ _=>False
theorem Hf:Passes di X E0:=fun _ _ _ _ _ _ _ h=>h.elim
structure fA(K:PySem.W.Frag)(x qual:Str)(st:Stmt)(f:Addr)(fd:FuncData):Prop where
 ex: ∃(oc:Value) (od:Option Addr) (kV doc pm:Value) (an:Option Addr) (bJ ct:Value) (zP:Array (Option Value)),
  fd=PySem.W.fnOf x qual (fX st) (cz st) (ab st) .none kV doc pm an bJ ct/\K.lookup f=some ⟨oc,od,.func fd,zP⟩/\PySem.W.codeIn K bJ qual=true
 kp:PySem.W.keepIn K (.ref f)=true
section
variable{P:Program}{w:World}{K:PySem.W.Frag}{mg:Str->Option Value}{base:Heap}
theorem fA.ok {x qual : Str} {st : Stmt} {k : Nat} (F : fA K x qual st f fd) (S : aH N ps (ab st)) (len : ∀ vs H Q E, sp vs H Q E -> vs.length = ps.length) (fH : ∀ (bJ : Value) (A : Around) (outer : List Env) (s : Shared) (H : Hp) (vs : List V) (Q : VK) (E : XK), bD k (A.deeper (envOfC qual (ab st) s.heap.objs.size f bJ)) -> sp vs H Q E ->
   ∃t,pW (lC di P w K mg base N qual (ab st) f bJ A outer s H E).BW (cz st) t/\t {nx:=fun _ H'=>Q .aD H',rt:=Q} (start N vs) H):aX P w K mg base di (k+1) f fd ps sp:=by
 obtain⟨oc,od,kV,doc,pm,an,bJ,ct,zP,rfl,lk,tR⟩:=F.ex;refine HB lk tR S len fun A outer s H vs Q E hr Hx=>?_;obtain⟨t,h,q⟩:=fH bJ A outer s H vs Q E hr Hx;exact⟨t,h.BW,q⟩
theorem Km{x qual:Str}{st:Stmt}{f:Addr}{oc:Value}{od an:Option Addr}{zP:Array (Option Value)}{kV doc pm bJ ct:Value}(l:K.lookup f=some ⟨oc,od, .func (PySem.W.fnOf x qual (fX st) (cz st) (ab st) .none kV doc pm an bJ ct),zP⟩)
  (c:PySem.W.codeIn K bJ qual=true) (k:PySem.W.keepIn K (.ref f)=true):fA K x qual st f (PySem.W.fnOf x qual (fX st) (cz st) (ab st) .none kV doc pm an bJ ct):=⟨⟨oc,od,kV,doc,pm,an,bJ,ct,zP,rfl,l,c⟩,k⟩
end
theorem eD(hr:bD k A):A.units+1 < cLine:=ae9 (Nat.add_le_add_left (by decide:1<=64) _) hr.units
theorem pv(i:Nat)(hN:X.N[i]?=some x:=by rfl)(hv:PR X.env.scope x:=by first | exact Or.inl rfl | exact Or.inr (Or.inl rfl) | exact Or.inr (Or.inr rfl))(hd:(x==("__debug__":Str))=false:=by decide)(tR:(x==("__classdict__":Str))=false:=by decide):PE X (.Name x pos) (gy i):=Bw hN hv hd tR
theorem bf{A B:Prop}(h:B):if false=true then A else B:=by
 rw[if_neg ZJ];exact h
theorem cu{A B:Prop}(h:A):if true=true then A else B:=by
 rw[if_pos rfl];exact h
theorem Rr{c A B:Prop} [Decidable c](h1:c->A)(h2: ¬c->B):if c then A else B:=by
 by_cases h:c
 . rw[if_pos h];exact h1 h
 . rw[if_neg h];exact h2 h
def aC(H H':Hp):Prop:= ∀b o,H b=some o->H' b=some o
theorem aC.refl(H:Hp):aC H H:=fun _ _ h=>h
noncomputable def nL(scope:Scope)(cl:List (Str × Addr))(C:Addr)(env:Env):Env:=
 {scope:=relabel scope env,locals:=C,globals:=env.globals,cells:=cellsFrom (C+1) scope.names cl,qual:=env.qual,func:=none,code:=env.code,frame:=env.frame,builtins:=env.builtins}
noncomputable def dF(X:Cx)(N:List Str)(scope:Scope)(s:Shared)(H:Hp)(cl:List (Str × Addr))(C:Addr)(ex:List Addr):Cx:=
 {X with N:=N,s₀:=s,H₀:=H,env:=nL scope cl C X.env,outer:=X.stack,ex:=ex,fn:=fun x=>decide (scope.names.lookup x=some .cell),pn:= [],xe:=fun _ _=>False}
theorem bh: ∀(names:List (Str × NameKind)) (n:Nat) (acc:List (Str × Addr)),cellsFrom n names acc=cellsFrom n names []++acc
 | [],_,_=>rfl
 | (name,kind)::r,n,acc=>by
  unfold cellsFrom;split
  . rw[bh r (n+1) ((name,n)::acc),bh r (n+1) [(name,n)],aa1];rfl
  . exact bh r n acc
theorem fq: ∀(names:List (Str × NameKind)) (n:Nat) {x:Str} {c:Addr},(x,c)∈cellsFrom n names []->(x,NameKind.cell)∈names
 | [],_,_,_,h=>by simp [cellsFrom] at h
 | (name,kind)::r,n,x,c,h=>by
  unfold cellsFrom at h;split at h
  . rename_i hk;rw[bh] at h;rcases aa7.mp h with q | q
    . exact ZF _ (fq r _ q)
    . have e:(x,c)=(name,n):=by simpa using q
      cases e;have:kind= .cell:=by simpa using hk
      subst this;exact ZI
  . exact ZF _ (fq r _ h)
theorem fg{α:Type}: ∀{l:List (Str × α)} {x:Str} {v:α},(l.map (·.1)).Nodup->(x,v)∈l->l.lookup x=some v
 | (k,w)::r,x,v,nd,h=>by
  rw[ZT] at nd;obtain⟨h1,h2⟩:=af7.mp nd;rw[aa9];rcases ZR.mp h with e | h'
  . cases e;simp
  . have Hy : (x == k) = false := by
      rw[ah5];intro e;exact h1 (e▸ZL.mpr ⟨(x,v),h',rfl⟩)
    rw[Hy];exact fg h2 h'
theorem hU{env:Env}: ∀{names:List (Str × NameKind)} {x:Str} {k:NameKind},
  (names.map fun(n,k)=>if (k==NameKind.free && env.scope.kind== .function && env.kindOf n==some .cell) then(n,NameKind.cell) else(n,k)).lookup x=some k->
  names.lookup x=some k\/(k= .cell/\names.lookup x=some .free)
 | [],_,_,h=>by simp at h
 | (n,k0)::r,x,k,h=>by
  have ih:= @hU env r x k;rw[ZT] at h;cases hx:x==n with
  | true=>
   by_cases hc:(k0==NameKind.free && env.scope.kind== .function && env.kindOf n==some .cell)=true
   . dsimp only at h;rw[if_pos hc,aa9,hx] at h;cases h;right;refine⟨rfl,?_⟩;rw[aa9,hx];simp only [aj0] at hc;have:k0= .free:=by simpa using hc.1.1
     rw[this]
   . dsimp only at h;rw[if_neg hc,aa9,hx] at h;left;rw[aa9,hx];exact h
  | false=>
   have h':(r.map fun(n,k)=>if (k==NameKind.free && env.scope.kind== .function && env.kindOf n==some .cell) then(n,NameKind.cell) else(n,k)).lookup x=some k:=by
    by_cases hc:(k0==NameKind.free && env.scope.kind== .function && env.kindOf n==some .cell)=true
    . dsimp only at h;rw[if_pos hc,aa9,hx] at h;exact h
    . dsimp only at h;rw[if_neg hc,aa9,hx] at h;exact h
   rw[aa9,hx];exact ih h'
theorem dQ{env:Env}: ∀{names:List (Str × NameKind)} {x:Str},names.lookup x=some .free->
  (names.map fun(n,k)=>if (k==NameKind.free && env.scope.kind== .function && env.kindOf n==some .cell) then(n,NameKind.cell) else(n,k)).lookup x=some .free\/
  (names.map fun(n,k)=>if (k==NameKind.free && env.scope.kind== .function && env.kindOf n==some .cell) then(n,NameKind.cell) else(n,k)).lookup x=some .cell
 | [],_,h=>by simp at h
 | (n,k0)::r,x,h=>by
  have ih:= @dQ env r x;rw[ZT];dsimp only;cases hx:x==n with
  | true=>
   rw[aa9,hx] at h;cases h;by_cases hc:(NameKind.free==NameKind.free && env.scope.kind== .function && env.kindOf n==some .cell)=true
   . right;rw[if_pos hc,aa9,hx]
   . left;rw[if_neg hc,aa9,hx]
  | false=>
   rw[aa9,hx] at h;by_cases hc:(k0==NameKind.free && env.scope.kind== .function && env.kindOf n==some .cell)=true
   . rw[if_pos hc];simp only [aa9,hx];exact ih h
   . rw[if_neg hc];simp only [aa9,hx];exact ih h
theorem eK{scope:Scope}{env:Env}(h: ∀x∈scope.names,x.2= .free-> ∃c,env.cells.lookup x.1=some c):
  ∃cl,closureFor scope env=pure cl/\(∀x c,(x,c)∈cl->env.cells.lookup x=some c)/\ ∀x,(x,NameKind.free)∈scope.names-> ∃c,(x,c)∈cl:=by
 have gen: ∀(names:List (Str × NameKind)) (acc:List (Str × Addr)),(∀x∈names,x.2= .free-> ∃c,env.cells.lookup x.1=some c)->(∀x c,(x,c)∈acc->env.cells.lookup x=some c)->
   ∃cl,(forIn names acc (fun(x:Str × NameKind) (cs:List (Str × Addr))=>match x with | (name,kind)=>if kind== .free then(do let a<-cellOf env name;pure (ForInStep.yield ((name,a)::cs))) else pure (ForInStep.yield cs)):Sem (List (Str × Addr)))=pure cl/\
    (∀x c,(x,c)∈cl->env.cells.lookup x=some c)/\(∀p∈acc,p∈cl)/\ ∀x,(x,NameKind.free)∈names-> ∃c,(x,c)∈cl:=by
  intro names;induction names with
  | nil=>intro acc _ ha;exact⟨acc,by rw[List.forIn_nil],ha,fun _ hp=>hp,fun x hx=>by simp at hx⟩
  | cons p r ih=>
   intro acc hn ha;obtain⟨n,k⟩:=p;rw[List.forIn_cons];by_cases hk:(k==NameKind.free)=true
   . have Er:k= .free:=by simpa using hk
     obtain⟨c,hc⟩:=hn (n,k) ZI Er;obtain⟨cl,e1,e2,e3,e4⟩:=ih ((n,c)::acc) (fun x hx=>hn x (ZF _ hx)) (fun x c' hx=>by
      rcases ZR.mp hx with e | hx
      . cases e;exact hc
      . exact ha x c' hx)
     refine⟨cl,?_,e2,fun q hq=>e3 q (ZF _ hq),fun x hx=>?_⟩
     . dsimp only;rw[if_pos hk];have:cellOf env n=pure c:=by unfold cellOf;rw[hc]
       rw[this];exact e1
     . rcases ZR.mp hx with e | hx
       . cases e;exact⟨c,e3 _ ZI⟩
       . exact e4 x hx
   . obtain⟨cl,e1,e2,e3,e4⟩:=ih acc (fun x hx=>hn x (ZF _ hx)) ha;refine⟨cl,?_,e2,e3,fun x hx=>?_⟩
     . dsimp only;rw[if_neg hk];exact e1
     . rcases ZR.mp hx with e | hx
       . cases e;exact absurd rfl hk
       . exact e4 x hx
 obtain⟨cl,e1,e2,_,e4⟩:=gen scope.names [] h (fun _ _ hx=>nomatch hx);refine⟨cl,?_,e2,e4⟩;unfold closureFor;first
  | exact e1
  | (simp only [bind_pure];exact e1)
theorem rA (I : Nat -> Shared -> Prop) (turn : ∀ n s, I n s -> wpAny (model prog w) A (pyNext it) (fun r s₁ => match r with
   | none=>R (.ok .next) s₁
   | some v=>wpAny (model prog w) A (letOwnedTupleGo target it v) (fun _ s₀=>wpAny (model prog w) A (assign target env v) (fun _ s₂=>
     wpAny (model prog w) A (forIn ifs true fun c r=>if r=true then do let ok<-isTrue c env (eval c env);pure (ForInStep.yield ok) else pure (ForInStep.yield r)) (fun ok s₃=>
      if ok=true then wpAny (model prog w) A (eval elt env) (fun x s₄=>
       wpAny (model prog w) A (call (.builtin "list.append") [acc,x]) (fun _ s₅=> ∃m,m < n/\I m s₅) (fun _ _=>False) s₄) (fun _ _=>False) s₃
      else∃m,m < n/\I m s₃) (fun _ _=>False) s₂) (fun _ _=>False) s₀) (fun _ _=>False) s₁) (fun _ _=>False) s) (n:Nat) (h:I n s):codeAny (model prog w) A (.compLoop (.ListComp elt [⟨target,iter,ifs,0⟩] scope pos) 0 it acc env) R s:=by
 refine codeAny_loop rfl I (fun n s hI=>?_) n h;show wpAny _ A ((compTurn (.ListComp elt [⟨target,iter,ifs,0⟩] scope pos) 0 it acc env).onRaise (fun x=>do noteFrame x env;theTreesLotGoes x)) _ _ s;refine wpAny_noted ?_;rw[compTurn_list];refine Zt (ae2 (Zt (Z6 (turn n s hI) (fun r s₁ h₁=>?_) fun _ _ h'=>h'.elim)));cases r with
 | none=>exact ZD h₁
 | some v=>
  refine Zt (Z6 h₁ (fun _ s₀ h₀=>?_) fun _ _ h'=>h'.elim);refine Zt (Z6 h₀ (fun _ s₂ h₂=>Zt (Z6 h₂ (fun ok s₃ h₃=>?_) fun _ _ h'=>h'.elim)) fun _ _ h'=>h'.elim);cases ok with
  | false=>exact ZD ⟨rfl,h₃⟩
  | true=>
   exact Zt (Zt (Z6 h₃ (fun x s₄ h₄=>Zt (Z6 h₄ (fun _ s₅ h₅=>ZD (ZD ⟨rfl,h₅⟩)) fun _ _ h'=>h'.elim)) fun _ _ h'=>h'.elim))
def PF(X:Cx)(ifs:List Expr)(t:TT):Prop:=
 ∀(pins:List (Addr × Obj)) (s:Shared) (σ:St) (H:Hp) (Q:Bool->Hp->Prop),Inv X pins σ H s->t σ H Q->
  wpAny (model X.prog X.w) X.A (forIn ifs true fun c r=>if r=true then do let ok<-isTrue c X.env (eval c X.env);pure (ForInStep.yield ok) else pure (ForInStep.yield r)) (TP X pins σ Q) X.xe s
def AG:TT:=fun _ H Q=>Q true H
theorem Bv:PF X [] AG:=fun _ _ _ H _ I h=>wpAny_tests_nil ⟨H,I,h⟩
theorem Jq(h:PT X c t):PF X [c] t:=fun pins s σ H Q I hw=>wpAny_tests_one (h pins s σ H Q I hw)
noncomputable def gA(nt:Nat)(js:List Nat)(σ:St):St:=List.replicate nt none++js.map fun j=>(σ[j]?).join
structure je(X:Cx)(N:List Str)(nt:Nat)(js:List Nat)(scope:Scope):Prop where
 kind:scope.kind= .function
 nd:(scope.names.map (·.1)).Nodup
 len:nt<=N.length
 OA:js.map (fun j=>X.N[j]?)=(N.drop nt).map some
 fr: ∀x∈N.drop nt,scope.names.lookup x=some .free
 EZ: ∀x∈scope.names,x.2= .free->X.env.kindOf x.1=some .cell\/X.env.kindOf x.1=some .free
theorem je.names(S:je X N nt js scope): ∀x∈scope.names,x.2= .local->scope.names.lookup x.1=some .local:=fun x hx e=>by
 obtain⟨n,k⟩:=x;cases e;exact fg S.nd hx
theorem kC(S:je X N nt js scope)(hc:X.calm=true)(I:Inv X pins σ H s)(hf: ∀b∈fp,cV X pins H b)(UC: ∀b∈fp,b < s.heap.objs.size)(c1: ∀x c,(x,c)∈cl->X.env.cells.lookup x=some c)(c2: ∀x,(x,NameKind.free)∈scope.names-> ∃c,(x,c)∈cl):
  Inv (dF X N scope s H cl s.heap.objs.size fp) [] (gA nt js σ) H {s with heap:=pushCells (s.heap.push {cls:= .type "dict",data:= .dict #[]}) scope.names,toks:=tk}:=by
 have keep: ∀b o,s.heap.get? b=some o->(pushCells (s.heap.push {cls:= .type "dict",data:= .dict #[]}) scope.names).get? b=some o:=fun b o e=>ai5 _ _ b o (Zv _ e);have ok:=cellsFrom_ok scope.names (s.heap.push {cls:= .type "dict",data:= .dict #[]}) (s.heap.objs.size+1) [] ⟨fun _ _ hm=>(nomatch hm),List.Pairwise.nil⟩ (by rw[ac4];exact Zx _);rw[ac4] at ok;have split: ∀x c,(cellsFrom (s.heap.objs.size+1) scope.names cl).lookup x=some c->(x,c)∈cellsFrom (s.heap.objs.size+1) scope.names []\/(x,c)∈cl:=fun x c e=>by
  rw[bh] at e;exact aa7.mp (ab0 e)
 have old: ∀x c,(x,c)∈cl->c < s.heap.objs.size:=fun x c h=>by
  obtain⟨v,q⟩:=I.cell x c (c1 x c h);exact q.lt
 have new: ∀x c,(x,c)∈cellsFrom (s.heap.objs.size+1) scope.names []->s.heap.objs.size+1<=c:=fun x c h=>(ok.empty x c h).2;have fresh: ∀b,s.heap.objs.size<=b->H b=none:=fun b hb=>I.aT.fresh hb;have ub: ∀x,scope.names.lookup x=some .free-> ∀c,X.env.cells.lookup x=some c->(cellsFrom (s.heap.objs.size+1) scope.names cl).lookup x=some c:=fun x hx c W7=>by
  obtain⟨c',Ew⟩:=c2 x (ab0 hx);have e1:(cellsFrom (s.heap.objs.size+1) scope.names []).lookup x=none:=by
   cases e:(cellsFrom (s.heap.objs.size+1) scope.names []).lookup x with
   | none=>rfl
   | some d=>
    have:=fg S.nd (fq _ _ (ab0 e));rw[hx] at this;cases this
  have e2: ∃d,cl.lookup x=some d:=by
   cases e:cl.lookup x with
   | some d=>exact⟨d,rfl⟩
   | none=>
    exfalso;have: ∀{l:List (Str × Addr)},(x,c')∈l->l.lookup x≠none:=fun{l}=>by
     induction l with
     | nil=>intro h;simp at h
     | cons p r ih=>
      intro h;obtain⟨k,v⟩:=p;rw[aa9];cases hb:x==k with
      | true=>simp
      | false=>
       rcases ZR.mp h with q | q
       . cases q;simp at hb
       . exact ih q
    exact this Ew e
  obtain⟨d,hd⟩:=e2;have:d=c:=by
   have:=c1 x d (ab0 hd);rw[W7] at this;cases this;rfl
  subst this;rw[bh,List.lookup_append,e1,hd];rfl
 have Xn: ∀b,b≠X.env.locals->b∉X.fs->b∉kR X.stack:=fun b h1 h2 hb=>(ZR.mp (I.p8 b hb)).elim h1 h2;refine⟨⟨I.ok.mod,S.kind,I.ok.glob,I.ok.blt,Zx _,fun x y c e1 e2=>?_,fun x hx=>?_,fun x c h1 h2=>?_,I.ok.hd,I.ok.frames,.inl rfl,fun b hb=>⟨?_,fun x c e=>?_⟩,fun b o e=>⟨I.bk b o e,(I.bs b o e).2⟩,?_,fun b o e hb=>?_,fun b hb=>?_,I.stack,I.p9,I.tab⟩,
  rfl,I.bare,Un.kept keep,⟨_,(Heap.Ns.new s.heap (.type "dict")).keeps (ai5 _ _),fun i x v e1 e2 e3=>?_⟩,fun x c e=>?_,fresh _ (Zx _),fun x c e=>?_,fun p hp=>absurd (show p∈([]:List (Addr × Obj)) from hp) (by simp),I.aT.kept keep,?_⟩
 . rcases split x c e1 with h1 | h1 <;> rcases split y c e2 with h2 | h2
   . exact name_of_addr ok.apart h1 h2
   . exact absurd (ZU (old y c h2) (al5 (new x c h1))) (ab5 _)
   . exact absurd (ZU (old x c h1) (al5 (new y c h2))) (ab5 _)
   . exact I.ok.inj x y c (c1 x c h1) (c1 y c h2)
 . have own : scope.names.lookup x = some .cell -> ∃ c, (cellsFrom (s.heap.objs.size + 1) scope.names cl).lookup x = some c := fun h => by
     obtain⟨c,e⟩:=jX (n:=s.heap.objs.size+1) h;exact⟨c,by rw[bh,List.lookup_append,e];rfl⟩
   have UK:scope.names.lookup x=some .free-> ∃c,(cellsFrom (s.heap.objs.size+1) scope.names cl).lookup x=some c:=fun h=>by
    obtain⟨c,e⟩:=I.ok.has x (S.EZ _ (ab0 h) rfl);exact⟨c,ub x h c e⟩
   rcases hx with h | h <;> rcases hU h with q | ⟨z,q⟩
   . exact own q
   . exact UK q
   . exact UK q
   . cases z
 . have h1:scope.names.lookup x=some .cell:=by simpa [dF] using h1
   obtain⟨d,e⟩:=jX (n:=s.heap.objs.size+1) h1;have h2:(cellsFrom (s.heap.objs.size+1) scope.names cl).lookup x=some c:=h2;rw[bh,List.lookup_append,e] at h2;have:d=c:=by simpa using h2
   subst this;exact al5 (new x d (ab0 e))
 . exact aa8 (UC b hb)
 . rcases split x c e with h | h
   . exact aj1 (ZU (UC b hb) (al5 (new x c h)))
   . exact(hf b hb).2.2.2.2.1 x c (c1 x c h)
 . exact ZZ I.ok.GR I.sz
 . rcases(hf b hb).2.2.2.1 with z | z
   . exact I.ok.BY b o e z
   . exact absurd (ZU (ZW e) (ZZ I.ok.GR z)) (ab5 _)
 . exact Xn b (hf b hb).2.1 (hf b hb).2.2.1
 . have hi : nt <= i := by
     apply Nat.le_of_not_lt;intro dr;unfold gA at e2;rw[Z3 (by simpa using dr),ZX,if_pos dr] at e2;cases e2
   have zr:(js.map fun j=>(σ[j]?).join)[i - nt]?=some (some v):=by
    unfold gA at e2;rw[Z8 (by simpa using hi),ae4] at e2;exact e2
   rw[Zy] at zr;have Kx:(N.drop nt)[i - nt]?=some x:=by
    rw[List.getElem?_drop];have:nt+(i - nt)=i:=by lia
    rw[this];exact e1
   cases hj:js[i - nt]? with
   | none=>rw[hj] at zr;cases zr
   | some j=>
    rw[hj] at zr;have qX:(σ[j]?).join=some v:=by simpa using zr
    have hσ:σ[j]?=some (some v):=by
     cases q:σ[j]? with
     | none=>rw[q] at qX;cases qX
     | some o=>rw[q] at qX;simpa using qX
    have hX:X.N[j]?=some x:=by
     have:=ab9 (fun l=>l[i - nt]?) S.OA;simp only [Zy,hj,Kx,ak8] at this;exact Option.some.inj this
    have iN:=S.fr x (ZY Kx);have hk:=S.EZ _ (ab0 iN) rfl;obtain⟨m,_,hl⟩:=I.loc;obtain⟨u,ru,lk⟩:=hl j x v hX hσ (by rcases hk with q | q;exact .inr (.inl q);exact .inr (.inr q));refine⟨u,ru,?_⟩;rcases lk with ⟨Er,_⟩ | ⟨_,c,Gb,kQ⟩
    . rcases hk with q | q <;> rw[q] at Er <;> cases Er
    . refine .inr ⟨?_,c,ub x iN c Gb,kQ.keeps keep⟩;rcases dQ (env:=X.env) iN with q | q
      . exact .inr q
      . exact .inl q
 . rcases split x c e with h | h
   . exact⟨none,(ok.empty x c h).1⟩
   . obtain⟨v,q⟩:=I.cell x c (c1 x c h);exact⟨v,q.keeps keep⟩
 . rcases split x c e with h | h
   . exact fresh _ (al5 (new x c h))
   . exact I.gq x c (c1 x c h)
 . unfold gA;show _=N.length;rw[ZK,ae4,Zu];have:=ab9 List.length S.OA;rw[Zu,Zu,ag3] at this;have:=S.len;lia
def jd(nt:Nat)(g:TG):Prop:= ∀v σ H (Q:St->Hp->Prop),g v σ H Q->g v σ H fun σ' H'=>Q σ' H'/\σ'.length=σ.length/\ ∀k,nt<=k->σ'[k]?=σ[k]?
def ye(nt:Nat)(g:K9):Prop:= ∀vs σ H (Q:St->Hp->Prop),g vs σ H Q->g vs σ H fun σ' H'=>Q σ' H'/\σ'.length=σ.length/\ ∀k,nt<=k->σ'[k]?=σ[k]?
theorem bP(h:i < nt:=by decide):jd nt (cB i):=fun v σ H Q q=>⟨q,by simp,fun k hk=>by rw[ZE (by lia)]⟩
theorem CA:ye nt vp:=fun vs σ H Q ck=>(by obtain⟨e,q⟩:=ck;exact(⟨e,q,rfl,fun _ _=>rfl⟩))
def yd(g:K9):Prop:= ∀vs σ H (Q Q':St->Hp->Prop),(∀σ' H',Q σ' H'->Q' σ' H')->g vs σ H Q->g vs σ H Q'
theorem pE:yd vp:=fun vs σ H Q Q' hq dS=>(by obtain⟨e,q⟩:=dS;exact(⟨e,hq _ _ q⟩))
theorem vm(hu:yd u):yd (eV (cB i) u):=fun vs σ H Q Q' hq j8=>(by obtain⟨v,r,e,q⟩:=j8;exact(⟨v,r,e,hu r _ _ Q Q' hq q⟩))
theorem pF(h:i < nt:=by decide)(hm:yd u)(hu:ye nt u):ye nt (eV (cB i) u):=fun vs σ H Q ck=>(by obtain⟨v,r,e,q⟩:=ck;exact(by
 refine⟨v,r,e,hm _ _ _ _ _ (fun σ' H' z=>?_) (hu r (σ.set i (some v)) H Q q)⟩;obtain⟨z1,z2,z3⟩:=z;refine⟨z1,by simpa using z2,fun k hk=>?_⟩;rw[z3 k hk,ZE (by lia)]))
theorem Cz{nt n:Nat}{K:PySem.W.Frag}(h:ye nt t):jd nt (zj K n t):=fun v σ H Q kZ=>(by obtain⟨a,xs,e,sq,l,q⟩:=kZ;exact(⟨a,xs,e,sq,l,h xs σ H Q q⟩))
def Eh(nt:Nat)(js:List Nat)(g:TG)(tc:TT)(te:TE)(σ:St)(Q:VK)(D:Addr)(J:It)(H0:Hp):Prop:=
 ∃W:Nat->Nat->List V->Hp->Prop,(∃m,W 0 m [] H0)/\ ∀i m acc H,W i m acc H->
  (J.stop i H/\Q (.ref D) H)\/(J.go i H/\acc.length < sizeLine/\ ∃B:List V->Hp->Prop,(∀bI H',B bI H'-> ∃m',m' < m/\W (i+1) m' bI H')/\ ∀x H',J.se i H x H'->g x (gA nt js σ) H' fun σ2 H2=>
   tc σ2 H2 fun b H3=>if b=true then te σ2 H3 fun v H4=>H4 D=some (.lst acc)/\B (acc++ [v]) (upd H4 D (.lst (acc++ [v]))) else B acc H3)
def wq(nt:Nat)(js:List Nat)(wi:TI)(g:TG)(tc:TT)(te:TE):TE:=fun σ H Q=>wi σ H fun J H1=> ∀D,H1 D=none->Eh nt js g tc te σ Q D J (upd H1 D (.lst []))
theorem fe{s:Shared}(h: ∀ja:Env,{ja with scope:=relabel scope env}=nL scope cl s.heap.objs.size env->ja.locals=s.heap.objs.size->Q ja {s with heap:=pushCells (s.heap.push {cls:= .type "dict",data:= .dict #[]}) scope.names}):
  wpAny M A (newFunctionEnv scope env.globals cl [] env.qual none .none (some env)) Q E s:=by
 simp only [newFunctionEnv,Option.isSome_some,if_true];refine Zt (wpAny_alloc ?_);refine Zt (wpAny_layCells _ (fun name kind cells=>by cases WS:kind==NameKind.cell <;> simp [WS]) _ _ _ _ ?_);rw[show({s with heap:=s.heap.push {cls:= .type "dict",data:= .dict #[]}}:Shared).heap.objs.size=s.heap.objs.size+1 from ac4 ..];first
  | exact ZD (h _ rfl rfl)
  | exact Zt (ZD (ZD (h _ rfl rfl)))
theorem pM{elt tg iter:Expr}{ifs:List Expr}{pos:Pos}{g:TG}{tc:TT}{te:TE}{cl:List (Str × Addr)}{Q:VK}{E:Value->Shared->Prop}{RR:Value->Addr->Result->Shared->Prop}(S:je X N nt js scope)(hc:X.calm=true)(hg: ∀s H cl C ex,PG (dF X N scope s H cl C ex) tg g)(eE:jd nt g)(hf: ∀s H cl C ex,PF (dF X N scope s H cl C ex) ifs tc)(he: ∀s H cl C ex,PE (dF X N scope s H cl C ex) elt te){tn:Nat->Heap->Prop}(I:Inv X pins σ H s)(T:Turn X.prog X.w X.K tg J fp it tn)(st:tn 0 s.heap)(ff: ∀b∈fp,cV X pins H b)(c1: ∀x c,(x,c)∈cl->X.env.cells.lookup x=some c)(c2: ∀x,(x,NameKind.free)∈scope.names-> ∃c,(x,c)∈cl)(R: ∀D,H D=none->Eh nt js g tc te σ Q D J (upd H D (.lst [])))(fin: ∀(D C:Addr) (s':Shared) (H':Hp),Inv X pins σ H' s'->cV X pins H' C->(∃m,s'.heap.Ns C m)->Q (.ref D) H'->RR (.ref D) C (.ok .next) s'):
  wpAny (model X.prog X.w) X.A (newList []) (fun acc s₃=>wpAny (model X.prog X.w) X.A (newFunctionEnv scope X.env.globals cl [] X.env.qual none .none (some X.env)) (fun ja s₄=>
   codeAny (model X.prog X.w) X.A (.compStart (.ListComp elt [⟨tg,iter,ifs,0⟩] scope pos) 0 (.ref it) acc {ja with scope:=relabel scope X.env}) (RR acc ja.locals) s₄) E s₃) E s:=by
 refine ad1 (fe fun ja tZ CQ=>?_);rw[tZ,CQ];dsimp only;have hD:H s.heap.objs.size=none:=I.aT.fresh (Zx _);obtain⟨W,⟨m0,w0⟩,turn⟩:=R s.heap.objs.size hD;have kD: ∀b u,s.heap.get? b=some u->(s.heap.push {cls:= .type "list",data:= .seq ([]:List Value).toArray}).get? b=some u:=fun b u e=>Zv _ e;have I3:Inv X pins σ (upd H s.heap.objs.size (.lst [])) {s with heap:=s.heap.push {cls:= .type "list",data:= .seq ([]:List Value).toArray},toks:=s.toks}:=
  I.laid kD (Zx _) ⟨Z7 _,[],_,.nil,ZP _ rfl⟩
 have fs: ∀b∈fp,b < s.heap.objs.size:=fun b hb=>by
  obtain⟨o,e,_⟩:=T.obj _ _ st b hb;exact ZW e
 have HD: ∀b∈fp,cV X pins (upd H s.heap.objs.size (.lst [])) b:=fun b hb=>⟨by rw[ah (aa8 (fs b hb))];exact(ff b hb).1,(ff b hb).2⟩
 have I4:=kC (tk:=s.toks) S hc I3 HD (fun b hb=>by show b < (s.heap.push _).objs.size;rw[ac4];exact ah2 (fs b hb)) c1 c2;dsimp only at I4;have NQ:(s.heap.push {cls:= .type "list",data:= .seq ([]:List Value).toArray}).objs.size=s.heap.objs.size+1:=ac4 ..;generalize hY:dF X N scope {s with heap:=s.heap.push {cls:= .type "list",data:= .seq ([]:List Value).toArray},toks:=s.toks} (upd H s.heap.objs.size (.lst [])) cl (s.heap.push {cls:= .type "list",data:= .seq ([]:List Value).toArray}).objs.size fp=Y at I4;have UG:=hY;have nS:Y.env=nL scope cl (s.heap.push {cls:= .type "list",data:= .seq ([]:List Value).toArray}).objs.size X.env:=by rw[<-hY];rfl
 have cf:Y.prog=X.prog:=by rw[<-hY];rfl
 have Yw:Y.w=X.w:=by rw[<-hY];rfl
 have YA:Y.A=X.A:=by rw[<-hY];rfl
 have YK:Y.K=X.K:=by rw[<-hY];rfl
 have jZ:Y.calm=true:=by rw[<-hY];exact hc
 have rY:Y.xe=fun _ _=>False:=by rw[<-hY];rfl
 have um:Y.ex=fp:=by rw[<-hY];rfl
 have OI:Y.pn= []:=by rw[<-hY];rfl
 have OJ:Y.fs=kR X.stack:=by rw[<-hY];rfl
 have HW:Y.s₀={s with heap:=s.heap.push {cls:= .type "list",data:= .seq ([]:List Value).toArray},toks:=s.toks}:=by rw[<-hY];rfl
 have OK:Y.H₀=upd H s.heap.objs.size (.lst []):=by rw[<-hY];rfl
 have NG:PG Y tg g:=by rw[<-hY];exact hg _ _ _ _ _
 have R1:PF Y ifs tc:=by rw[<-hY];exact hf _ _ _ _ _
 have R6:PE Y elt te:=by rw[<-hY];exact he _ _ _ _ _
 have hm:(Y.N.length:Nat)=(gA nt js σ).length:=I4.len.symm;rw[<-nS,<-cf,<-Yw,<-YA];have CD: ∀{H':Hp} (_: ∀b∈fp,H' b=none),∀b∈fp,cV Y [] H' b:=fun{H'} hn b hb=>by
  refine⟨hn b hb,(I4.ok.HE b (by rw[um];exact hb)).1,I4.ok.vw b (by rw[um];exact hb),.inl (by rw[um];exact hb),(I4.ok.HE b (by rw[um];exact hb)).2,fun p hp=>?_⟩;rw[OI] at hp;simp at hp
 have back: ∀{H':Hp} {s':Shared} {σ':St},Inv Y [] σ' H' s'->Inv X pins σ H' s'/\cV X pins H' Y.env.locals/\ ∃m,s'.heap.Ns Y.env.locals m:=fun{H' s' σ'} J=>by
  have hb:Un (kR X.stack) fp (upd H s.heap.objs.size (.lst [])) H' (s.heap.push {cls:= .type "list",data:= .seq ([]:List Value).toArray}) s'.heap:=by
   have:=J.base;rw[OJ,um,OK,HW] at this;exact this
  have loc:Y.env.locals=s.heap.objs.size+1:=by rw[nS];exact NQ
  have os:s'.os=s.os:=by
   have:=J.os;rw[HW] at this;exact this
  have aT:gI X.prog X.w H' s'.heap:=by
   have:=J.aT;rw[cf,Yw] at this;exact this
  refine⟨I3.xW (ch:=fp) os hb aT J.bare fun b hb=>⟨(ff b hb).2.2.2.1,(ff b hb).2.1,(ff b hb).2.2.2.2.1,(ff b hb).2.2.2.2.2⟩,?_,let ⟨m,q,_⟩:=J.loc;⟨m,q⟩⟩;exact I.gE (by rw[loc];exact al3 _) J.free
 have loop:codeAny (model Y.prog Y.w) Y.A (.compLoop (.ListComp elt [⟨tg,iter,ifs,0⟩] scope pos) 0 (.ref it) (.ref s.heap.objs.size) Y.env) (RR (.ref s.heap.objs.size) Y.env.locals)
   {s with heap:=pushCells ((s.heap.push {cls:= .type "list",data:= .seq ([]:List Value).toArray}).push {cls:= .type "dict",data:= .dict #[]}) scope.names}:=by
  refine rA (fun n s'=> ∃i acc H',Inv Y [] (gA nt js σ) H' s'/\tn i s'.heap/\(∀b∈fp,H' b=none)/\W i n acc H') ?_ m0
   ⟨0,[],_,I4,T.keep _ _ _ st fun b _ o e=>ai5 _ _ b o (Zv _ (kD b o e)),fun b hb=>(HD b hb).1,w0⟩
  rintro n s5 ⟨i,acc,H5,I5,uL,zm,w5⟩
  rcases turn i n acc H5 w5 with ⟨stop,q⟩ | ⟨go,hlen,B,hB,step⟩
  . have hd:=T.done Y cf Yw YK jZ i [] s5 _ H5 (fun _ _=>False) I5 (CD zm) uL stop;rw[<-cf,<-Yw] at hd;refine aU hd fun r s6 j7=>?_;obtain⟨hr,I6⟩:=j7;subst hr;obtain⟨b1,b2,b3⟩:=back I6;exact fin _ _ _ _ b1 b2 b3 q
  . have hd:=T.item Y cf Yw YK jZ i [] s5 _ H5 (fun _ _=>False) I5 (CD zm) uL go;rw[<-cf,<-Yw] at hd;refine aU hd fun r s6 oi=>?_;obtain⟨u,hr,h6⟩:=oi;subst hr;refine aU h6 fun _ s7 pX=>?_;obtain⟨x,H7,I7,r7,y7,uK,Kn⟩:=pX;have Lh:=I7.pinned (CD Kn) (T.obj _ _ uK);have g7:=eE _ _ _ _ (step x H7 y7);have h7:=NG _ s7 _ H7 x u _ Lh r7 g7;rw[rY] at h7;refine aU h7 fun _ s8 oh=>?_;obtain⟨σ8,H8,I8,q8,l8,k8⟩:=oh;have h8:=R1 _ s8 σ8 H8 _ I8 q8;rw[rY] at h8;refine aU h8 fun b s9 iQ=>?_;obtain⟨H9,I9,q9⟩:=iQ;have again: ∀{kY:Hp} {n6:Shared} {bI:List V},Inv Y ([]++iW fp s7.heap) σ8 kY n6->B bI kY-> ∃m,m < n/\ ∃i acc H',Inv Y [] (gA nt js σ) H' n6/\tn i n6.heap/\(∀b∈fp,H' b=none)/\W i m acc H':=fun{kY n6 bI} uq OF=>by
     obtain⟨m',J7,Iq⟩:=hB bI kY OF;refine⟨m',J7,i+1,bI,kY,uq.eh.weak l8.symm fun k v e=>?_,T.keep _ _ _ uK fun b hb o e=>(uq.pin (b,o) (ZS _ (ZS _ (bA hb e)))).1,fun b hb=>?_,Iq⟩
     . by_cases hk:nt<=k
       . rw[k8 k hk];exact e
       . exfalso;unfold gA at e;rw[Z3 (by simp;lia),ZX,if_pos (by lia)] at e;cases e
     . obtain⟨o,e,d⟩:=T.obj _ _ uK b hb;exact(uq.pin (b,o) (ZS _ (ZS _ (bA hb e)))).2.1
    cases b with
    | false=>
     rw[if_neg ZJ] at q9 ⊢;exact again I9 q9
    | true=>
     rw[if_pos rfl] at q9 ⊢;have h9:=R6 _ s9 σ8 H9 _ I9 q9;rw[rY] at h9;refine aU h9 fun y n6 mm=>?_;obtain⟨v,kY,uq,MF,Kj,Ji⟩:=mm;have Gi:=(km (X:=Y) _ n6 σ8 kY (.ref s.heap.objs.size) [v] (.ref s.heap.objs.size) [y] (fun _ H'=>B (acc++ [v]) H') uq rfl (.cons MF .nil) ⟨_,acc,v,rfl,rfl,Kj,hlen,Ji⟩)
     rw[rY] at Gi;refine aU Gi fun _ Mu pY=>?_;obtain⟨_,ED,G1,_,QY⟩:=pY;exact again G1 QY
 have tY:(s.heap.push {cls:= .type "list",data:= .seq ([]:List Value).toArray}).objs.size=Y.env.locals:=by rw[nS];rfl
 rw[tY];exact codeAny_compStart_list loop (by rw[cf,Yw,YA] at*;exact T.self _ 0 _ _ _ (T.keep _ _ _ st fun b _ o e=>ai5 _ _ b o (Zv _ (kD b o e))) loop)
theorem Ft(S:je X N nt js scope)(hc:X.calm=true)(hi:PI X tg iter wi)(hg: ∀s H cl C ex,PG (dF X N scope s H cl C ex) tg g)(eE:jd nt g)(hf: ∀s H cl C ex,PF (dF X N scope s H cl C ex) ifs tc)(he: ∀s H cl C ex,PE (dF X N scope s H cl C ex) elt te)(hs: ∀x,foldedSetIterable iter X.env x=pure x:=by intro _;rfl):PE X (.ListComp elt [⟨tg,iter,ifs,0⟩] scope pos) (wq nt js wi g tc te):=by
 intro pins s σ H Q I h;obtain⟨cl,Es,c1,c2⟩:=eK (scope:=scope) (env:=X.env) fun x hx e=>I.ok.has x.1 (S.EZ x hx e);rw[eval_ListComp];refine ak7 (use:=none) rfl hs Es S.kind S.names (aU (hi pins s σ H _ I h) fun v s1 h1=>aU h1 fun Lu s2 h2=>?_);obtain⟨it,fp,tn,J,H2,rfl,I2,T,gG,f2,R⟩:=h2;refine pM (RR:=fun acc C=>compPost (model X.prog X.w) X.A X.xe none (EP X pins σ Q) acc C) S hc hg eE hf he I2 T gG f2 c1 c2 R fun D C s' H' I' fo j9 q=>?_;obtain⟨m,hn⟩:=j9;refine⟨m,hn,fun h' sb=>⟨.ref D,H',?_,rfl,q⟩⟩;obtain⟨f0,f1,_,f3,f4,f5⟩:=fo;exact I'.turned (t':=s'.toks) (fun b o hb e=>(sb.2 b hb).trans e) f0 f1 f3 f4 f5
theorem wN{pos pos' py:Pos}(hN:X.N.Nodup)(NF:X.N[i]?=some y)(hy:Loc X.env.scope y)(S:je X N nt js scope)(hc:X.calm=true)(hi:PI X tg iter wi)(hg: ∀s H cl C ex,PG (dF X N scope s H cl C ex) tg g)(eE:jd nt g)(hf: ∀s H cl C ex,PF (dF X N scope s H cl C ex) ifs tc)(he: ∀s H cl C ex,PE (dF X N scope s H cl C ex) elt te)(Nn:swapsWith (.ListComp elt [⟨tg,iter,ifs,0⟩] scope pos) (some (.Name y py)) pos'.line X.env=pure true:=by rfl)(hs: ∀x,foldedSetIterable iter X.env x=pure x:=by intro _;rfl)(F9:X.fn y=true\/X.env.scope.names.lookup y=some .local:=by first | exact .inl rfl | exact .inr rfl | assumption):
  PS X (.Assign [.Name y py] (.ListComp elt [⟨tg,iter,ifs,0⟩] scope pos) pos') (AM (wq nt js wi g tc te) (cB i)):=by
 intro pins s σ H D I h;obtain⟨cl,Es,c1,c2⟩:=eK (scope:=scope) (env:=X.env) fun x hx e=>I.ok.has x.1 (S.EZ x hx e);rw[exec_Assign_Name_used _ _ _ _ Nn];refine Zt (ae2 (Zt ?_));show wpAny _ _ (do let _<-comprehension (.ListComp elt [⟨tg,iter,ifs,0⟩] scope pos) scope X.env _ (newList []) false (eval iter X.env) (some (assign (.Name y py) X.env))) _ _ s;refine Zt (Z6 (ak7 (use:=some (assign (.Name y py) X.env)) (Q:=fun _ s'=>SP X pins D .next s') rfl hs Es S.kind S.names
  (aU (hi pins s σ H _ I h) fun v s1 h1=>aU h1 fun Lu s2 h2=>?_)) (fun _ s' hq=>ZD (ZD hq)) fun _ _ e=>e)
 obtain⟨it,fp,tn,J,H2,rfl,I2,T,gG,f2,R⟩:=h2;refine pM (RR:=fun acc C=>compPost (model X.prog X.w) X.A X.xe (some (assign (.Name y py) X.env)) (fun _ s'=>SP X pins D .next s') acc C) (Q:=fun x H1=>cB i x σ H1 D.nx) S hc hg eE hf he I2 T gG f2 c1 c2 R fun Da C s' H' I' fo Ag q=>?_;obtain⟨m,hn⟩:=Ag;show wpAny _ _ (assign (.Name y py) X.env (.ref Da)) _ _ _;obtain⟨f0,f1,_,f3,f4,f5⟩:=fo;refine wpAny_assign_Name (o4 I' hN NF hy (v:= .ref Da) rfl (fun rX O0 uz=>?_) F9);obtain⟨a,sb,ha⟩:=uz;have Xh:C≠a:=by
  rcases ha with z | z
  . rw[z];exact f1
  . exact Ne.symm (f4 _ _ z)
 refine⟨m,hn.sameBut sb Xh,fun h' V1=>⟨_,H',?_,q⟩⟩;exact O0.turned (t':=rX.toks) (fun b o hb e=>(V1.2 b hb).trans e) f0 f1 f3 f4 f5
open AutoSeq1 (wpAny_loadPart')
theorem JX(q1:typeLookup (.type T) "__init__"=pure (some (.builtin "object.__init__")))(q2:Bind.madeBy (.type T)=pure (some newId))(q3:(some newId !=some "object.__new__")=true):Meets (Builtin.«object.__init__» ⟨me::more,kw⟩) (fun _ R s=>s.TypeIs me T/\R (.ok (.ret .none)) s):=by
 refine Meets.of_wp fun prog w A R s ck=>?_;obtain⟨hT,hq⟩:=ck;cases more with
 | nil=>
  cases kw with
  | nil=>exact ZD ⟨_,rfl,hq⟩
  | cons p r=>
   repeat (any_goals (first | assumption | wp_step))
   all_goals exact⟨_,rfl,hq⟩
 | cons a r=>
  repeat (any_goals (first | assumption | wp_step))
  all_goals exact⟨_,rfl,hq⟩
theorem nK(ft:TypeCalled T newId "object.__init__")(Hy:(some newId !=some "object.__new__")=true)(c1:checkTypeCall T ⟨xs,kw⟩=pure ())(c2:checkBuiltinCall newId ⟨.type T::xs,kw⟩=pure ())(c3: ∀ob,argsOk "object.__init__" ⟨ob::xs,kw⟩)(eN:entryFor table newId=some B)(mt:Meets (B ⟨.type T::xs,kw⟩) S)(h:S A.in1 (wants (fun ob z=>z.TypeIs ob T/\Q ob z) E) s):wpAny (model prog w) A (call (.type T) xs kw) Q E s:=by
 obtain⟨c,tl,RT⟩:=ft.mro;have UA:=ft.made;have F6:=ft.sub;refine wpAny_call (codeAny_of_tree (show wpAny _ _ (callAny (.type T) _) _ _ _ from ZD ⟨Code.quiet_builtin _ (by decide+kernel),codeAny_builtin F.entry_type_call ?_⟩));rw[Around.under_plain (weight_type_call_type T xs kw) (units_type_call_type T xs kw)];have k1:=ft.notType;have k2:=ft.canCreate;repeat (any_goals (first | assumption | wp_step))
 refine al7 (codeAny_call_builtin ft.plain eN (wpAny_of_eq c2 (mt prog w A.in1 _ s h))) fun r z hr=>?_;match r,hr with
 | .error e,hr=>exact hr
 | .ok (.ret ob),hr=>
  obtain⟨hT,hq⟩:=hr;have l1:=ft.init.lookup;have l2:=ft.init.bind ob;repeat (any_goals (first | assumption | wp_step))
  refine al7 (codeAny_call_builtin ft.init.plain F.entry_object_init (ft.init.check _ _ _ _ _ _ _ _ hT (c3 ob) (JX ft.init.lookup ft.made Hy prog w A.in1 (wants (fun v z'=>v= .none/\Q ob z') E) z ⟨hT,rfl,hq⟩))) fun r2 z2 zU=>?_;match r2,zU with
  | .error e,zU=>exact zU
  | .ok (.ret v),zU=>
   obtain⟨rfl,YB⟩:=zU;repeat (any_goals (first | assumption | wp_step))
  | .ok .next,zU=>exact zU.elim
  | .ok .brk,zU=>exact zU.elim
  | .ok .cont,zU=>exact zU.elim
 | .ok .next,hr=>exact hr.elim
 | .ok .brk,hr=>exact hr.elim
 | .ok .cont,hr=>exact hr.elim
open AutoSeq1 (wpAny_loadPart')
noncomputable def jQ(h:Heap)(t:Addr)(k:Int):Heap:=
 (h.push {cls:= .type "tuple_iterator",data:= .fields #[.ref t,.int 0 0]}).push {cls:= .type "enumerate",data:= .fields #[.none,.bool false,.ref h.objs.size,rawInt k,.none,.none]}
def tX(t:Addr)(k:Int):PySem.Spec:=fun _ R s=>(∃items,s.heap.IsTuple t items)/\R (.ok (.ret (.ref (s.heap.push {cls:= .type "tuple_iterator",data:= .fields #[.ref t,.int 0 0]}).objs.size))) {s with heap:=jQ s.heap t k}
theorem CP(t:Addr):Meets (Builtin.«enumerate.__new__» ⟨[.type "enumerate",.ref t],[]⟩) (tX t 0):=
 .of_wp fun prog w A R s ck=>(by obtain⟨⟨items,hT⟩,h⟩:=ck;exact(by
  obtain⟨hp,g,d,tk,os⟩:=s;have F6:=sub_enumerate;obtain⟨⟨c,SJ,dt,sl⟩,hl,hc,n,hd⟩:=id hT;replace hc:c= .type "tuple":=hc
  replace hd:dt= .seq items n:=hd
  subst hc hd;wp_walk using ac8 hl
  refine wpAny_stack_any fun st=>ZD ?_;split
  . rename_i c _ _ _ _ _;cases (c==Value.type "enumerate") <;> (wp_walk using ac8 hl,ae8 hT;exact⟨_,rfl,h⟩)
  . wp_walk using ac8 hl,ae8 hT
    exact⟨_,rfl,h⟩))
theorem CO(t:Addr)(u:Tok):Meets (Builtin.«enumerate.__new__» ⟨[.type "enumerate",.ref t],[("start",.int 1 u)]⟩) (tX t 1):=
 .of_wp fun prog w A R s dS=>(by obtain⟨⟨items,hT⟩,h⟩:=dS;exact(by
  obtain⟨hp,g,d,tk,os⟩:=s;have F6:=sub_enumerate;obtain⟨⟨c,SJ,dt,sl⟩,hl,hc,n,hd⟩:=id hT;replace hc:c= .type "tuple":=hc
  replace hd:dt= .seq items n:=hd
  subst hc hd;wp_walk using ac8 hl
  refine wpAny_stack_any fun st=>ZD ?_;split
  . rename_i c _ _ _ _ _;cases (c==Value.type "enumerate") <;> (wp_walk using ac8 hl,ae8 hT;exact⟨_,rfl,h⟩)
  . wp_walk using ac8 hl,ae8 hT
    exact⟨_,rfl,h⟩))
open AutoSeq1 (wpAny_loadPart')
theorem sI(a1:s.heap.IsTupleIter it t j)(a2:s.heap.IsTuple t ao)(a3:ao[j]?=some y)(k: ∀h',h'.IsTupleIter it t (j+1)->Heap.SameBut it s.heap h'->Q y {s with heap:=h'}):wpAny (model prog w) A (Builtin.SmallTypes.nextOf (.ref it)) Q E s:=by
 obtain⟨ob,b1,b2,b3⟩:=id a1;obtain⟨ot,d1,_,nt,d2⟩:=a2;unfold Builtin.SmallTypes.nextOf;refine Zt (ah0 (name:=Str.ofString "__next__") a1.typeIs aj7 (ak3 aj7 a1.typeIs F.entry_tuple_iterator_next ?_ (F.args_tuple_iterator_next_1 _)));show wpAny _ _ (field (.ref it) 0 >>=_) _ _ s;refine Zt (ae5 b1 b3 (x:= .ref t) rfl ?_);show wpAny _ _ (if (Value.ref t==Value.none)=true then _ else _) _ _ s;rw[if_neg (show¬(Value.ref t==Value.none)=true from fun z=>nomatch (show false=true from z))];show wpAny _ _ (field (.ref it) 1 >>=_) _ _ s;refine Zt (ae5 b1 b3 (x:= .int j 0) rfl ?_);show wpAny _ _ (seqItems? (.ref t) >>=_) _ _ s;refine Zt (ag7 d1 d2 ?_);simp only [ac1,a3];refine Zt (wpAny_setField b1 b3 (by simp) (ZD ⟨y,rfl,ZD (k _ ⟨_,aj5 _ b1 (Obj.isFreed_of_fields (Obj.data_mapFields b3 _)),(Obj.cls_mapFields ..).trans b2,by rw[Obj.data_mapFields b3];simp [rawInt]⟩ (ah6 ..))⟩))
theorem sJ(hh:A.handled=none)(a1:s.heap.IsTupleIter it t j)(a2:s.heap.IsTuple t ao)(a3:ao[j]?=none)(k: ∀h' e,Heap.ExtBut it s.heap h'->(∃o,h'.get? e=some o/\o.cls= .type "StopIteration")->E (.ref e) {s with heap:=h'}):wpAny (model prog w) A (Builtin.SmallTypes.nextOf (.ref it)) Q E s:=by
 obtain⟨ob,b1,b2,b3⟩:=id a1;obtain⟨ot,d1,_,nt,d2⟩:=a2;unfold Builtin.SmallTypes.nextOf;refine Zt (ah0 (name:=Str.ofString "__next__") a1.typeIs aj7 (ak3 aj7 a1.typeIs F.entry_tuple_iterator_next ?_ (F.args_tuple_iterator_next_1 _)));show wpAny _ _ (field (.ref it) 0 >>=_) _ _ s;refine Zt (ae5 b1 b3 (x:= .ref t) rfl ?_);show wpAny _ _ (if (Value.ref t==Value.none)=true then _ else _) _ _ s;rw[if_neg (show¬(Value.ref t==Value.none)=true from fun z=>nomatch (show false=true from z))];show wpAny _ _ (field (.ref it) 1 >>=_) _ _ s;refine Zt (ae5 b1 b3 (x:= .int j 0) rfl ?_);show wpAny _ _ (seqItems? (.ref t) >>=_) _ _ s;refine Zt (ag7 d1 d2 ?_);simp only [ac1,a3];refine Zt (af6 (Zt (wpAny_setField b1 b3 (by simp) ?_)));show wpAny _ _ (newExc (.type "StopIteration") [] >>=_) _ _ _;refine Zt ?_;simp only [newExc,newTuple];refine Zt (ad1 ?_ (by size_fits));refine Zt (m:=firstArgMember _ _) (wpAny_of_eq (a:=Value.none) (by first | rfl | (simp only [firstArgMember];rfl)) (ad1 ?_ (by size_fits)));simp only [raiseNew];refine Zt (wpAny_handled ?_);first | rw[show A.in1.handled=none from hh] | rw[hh]
 exact Zt (ZD (wpAny_throw (k _ _ (((ah6 ..).extBut.push _).push _) ⟨_,ZP _ rfl,rfl⟩)))
theorem t4{prog:Program}{w:World}{A:Around}(hh:A.handled=none)(it t:Addr)(Hy:t≠it)(ao:Array Value)(k:Nat):
  Draws prog w A it [it,t] (ao.size+k) (fun i v=>k<=i/\ao[i - k]?=some v) (fun i h=>k<=i/\h.IsTupleIter it t (i - k)/\h.IsTuple t ao) where
 live:=fun _ _ ck=>(by obtain⟨_,st,_⟩:=ck;exact(let ⟨o,ho,_⟩:=st;⟨o,ho⟩))
 frame:=fun _ _ _ dS hk=>(by obtain⟨l,st,gG⟩:=dS;exact(⟨l,let ⟨o,q,r⟩:=st;⟨o,hk it (by simp) o q,r⟩,let ⟨o,q,r⟩:=gG;⟨o,hk t (by simp) o q,r⟩⟩))
 item:=fun i s Q E hi ⟨l,st,gG⟩ hQ=>by
  have dr:i - k < ao.size:=by grind
  refine sI st gG (y:=ao[i - k]) (by simp [dr]) fun h' q1 q2=>hQ _ h' s.toks ⟨l,by simp [dr]⟩ ⟨by grind,?_,?_⟩ q2
  . rw[show i+1 - k=i - k+1 by grind];exact q1
  . obtain⟨o,q,r⟩:=gG;exact⟨o,(q2.2 t Hy).trans q,r⟩
 done:=fun s Q E iP hE=>(by obtain⟨l,st,gG⟩:=iP;exact(sJ hh st gG (by simp) hE))
section
variable{X:Cx}{pins:List (Addr × Obj)}{σ:St}{H:Hp}{s:Shared}
theorem Inv.oW{h':Heap}{t':Nat}{ch:List Addr}(I:Inv X pins σ H s)(hc: ∀b∈ch,cV X pins H b)(hT:s.heap.objs.size<=T)(k: ∀b u,b∉ch->s.heap.get? b=some u->h'.get? b=some u)(new:a0 X.prog X.w (upd H T o) h' T o):Inv X pins σ (upd H T o) {s with heap:=h',toks:=t'}:=by
 have nT:H T=none:=I.aT.fresh hT;have ne: ∀b u,s.heap.get? b=some u->b≠T:=fun b u e z=>absurd (ZU (ZW e) (z▸hT)) (ab5 _);have yw: ∀b u,H b=some u->b∉ch:=fun b u e z=>by rw[(hc b z).1] at e;cases e
 refine I.step (g':=s.gens) (d':=s.drawn) (ch:=ch) (fun b hb=>?_) (fun b u _ _ hn e _=>k b u hn e) (fun b u _ _ hn e _=>⟨u.slots,k b u hn e⟩) (fun b u hn e n=>by rw[ah (ne b u e)];exact n)
  (fun b u hn e=>⟨u,k b u hn e⟩) (fun b xs e=>by rw[ah (ai e nT)];exact e) (fun b ob u e=>by rw[ah (ai e nT)];exact e) (fun b ps e=>⟨#[],by rw[ah (ai e nT),e];simp⟩) (fun m hm=>?_) (fun b u e=>?_) I.bare
 . obtain⟨f0,f1,f2,f3,f4,f5⟩:=hc b hb;exact⟨f3,f1,f4,f5⟩
 . obtain⟨ob,es,ep,ho,r⟩:=hm;exact⟨ob,es,ep,k _ ob (fun z=>(hc _ z).2.1 rfl) ho,r⟩
 . by_cases hb:b=T
   . subst hb;rw[ag] at e;cases e;exact new
   . rw[ah hb] at e;refine(I.aT b u e).qc (fun c v Ew q=>k c v ?_ q) (fun c q=>by rw[ah (ai q nT)];exact q) fun c xs q=>by rw[ah (ai q nT)];exact q
     rcases Ew with z | z
     . rw[z];exact yw b u e
     . exact yw c _ z
noncomputable def LS(K:PySem.W.Frag)(a:Addr)(k:Nat):It:=
 ⟨fun i H=> ∃xs x,dG K H a xs/\xs[i]?=some x,fun i H x H'=> ∃p y,x= .ref p/\H p=none/\H'=upd H p (.tup [.int ((i+k:Nat):Int),y])/\ ∀xs,dG K H a xs->xs[i]?=some y,fun i H=> ∃xs,dG K H a xs/\xs.length=i⟩
theorem yv{P:Program}{w:World}{K:PySem.W.Frag}{es:List Expr}{x1}{tp:Pos}(a e it:Addr)(k:Nat)(R5:e≠it):
  Turn P w K (.Tuple es x1 tp) (LS K a k) [e,it] e (fun i h=>(∃old,IsEnum h e it ((i+k:Nat):Int) old)/\h.IsTupleIter it a i) where
 mem:=by simp
 obj:=fun i h st b hb=>by
  obtain⟨⟨old,sO⟩,gG⟩:=st;rcases ZR.mp hb with q | q
  . subst q;exact⟨_,sO,fun v z=>nomatch (show Data.fields _=Data.cell v from z)⟩
  . have q:b=it:=by simpa using q
    subst q;obtain⟨o,q1,q2,q3⟩:=gG;exact⟨o,q1,fun v z=>by rw[q3] at z;cases z⟩
 keep:=fun i h h' st kk=>by
  obtain⟨⟨old,sO⟩,gG⟩:=st;exact⟨⟨old,kk e (by simp) _ sO⟩,gG.at fun o q=>kk it (by simp) o q⟩
 item:=by
  intro X hP hw hK hc i pins s σ H E I hf st hg;subst hP hw hK;obtain⟨xs,x,hq,hx⟩:=hg;obtain⟨ao,rv,p,hz⟩:=I.tuple hq;obtain⟨u,hu,ru⟩:=rv.get hx;obtain⟨⟨old,sO⟩,gG⟩:=st;have ha: ∃o,s.heap.get? a=some o:=let ⟨o,q,_⟩:=p;⟨o,q⟩;have Xa:a≠e:=by
   rintro rfl
   obtain⟨o,q1,q2,_⟩:=p;rw[sO] at q1;cases q1;injection q2 with z;exact absurd z (by decide)
  have Sb:a≠it:=by
   rintro rfl
   obtain⟨o,q1,q2,_⟩:=p;obtain⟨o',r1,r2,_⟩:=gG;rw[r1] at q1;cases q1;rw[r2] at q2;injection q2 with z;exact absurd z (by decide)
  have D:=t4 (prog:=X.prog) (w:=X.w) (A:=X.A.in1) (I.ok.hd hc) it a Sb ao.toArray k;have hlen:i < ao.length:=(Zw.mp hu).1;refine wpAny_pyNext_enum_itemD D sO ⟨by lia,by rw[show i+k - k=i by lia];exact gG,p⟩ (by simp;lia) R5 (by simp [R5,Ne.symm Xa]) fun y h' tk hy ho kP ht hsz hk=>?_;obtain⟨_,hy⟩:=hy;rw[show i+k - k=i by lia] at hy;have ey:y=u:=by
   have:ao[i]?=some y:=by simpa using hy
   rw[hu] at this;cases this;rfl
  subst ey;refine⟨_,rfl,?_⟩;refine wpAny_letOwnedTupleGo_enum ho fun h2 W4 QV=>?_;have NL:e < s.heap.objs.size:=ZW sO;have ND:it < s.heap.objs.size:=let ⟨o,q,_⟩:=gG;ZW q;have I1:Inv X pins σ (upd H s.heap.objs.size (.tup [.int ((i+k:Nat):Int),x])) {s with heap:=h2,toks:=tk+1}:=by
   refine I.oW (ch:= [e,it]) hf (Zx _) (fun b o hb q=>?_) ⟨by show 2<=sizeLine;decide,[.int ((i+k:Nat):Int) tk,y],.cons ⟨_,rfl⟩ (.cons ru .nil),?_⟩
   . have h1:b≠e:=fun z=>hb (by simp [z]);have vi:b≠it:=fun z=>hb (by simp [z]);exact(QV.2 b h1).trans (hk b o h1 vi q)
   . exact⟨_,(QV.2 _ (aj1 NL)).trans ht,rfl,rfl,_,rfl⟩
  refine⟨.ref s.heap.objs.size,_,I1,rfl,⟨_,x,rfl,I.aT.fresh (Zx _),rfl,fun ys hy=>by rw[I.oX hy hq];exact hx⟩,⟨⟨y,?_⟩,?_⟩,fun b hb=>?_⟩
  . rw[show((i+1+k:Nat):Int)=((i+k:Nat):Int)+1 by lia];exact W4
  . obtain⟨_,q,_⟩:=kP;rw[show i+k+1 - k=i+1 by lia] at q;exact q.at fun o z=>(QV.2 it (Ne.symm R5)).trans z
  . rw[ah (fun z=>?_)]
    . exact(hf b hb).1
    . rcases ZR.mp hb with q | q
      . subst q;exact absurd (z▸NL) (ab5 _)
      . have q:b=it:=by simpa using q
        subst q;exact absurd (z▸ND) (ab5 _)
 done:=by
  intro X hP hw hK hc i pins s σ H E I hf st hg;subst hP hw hK;obtain⟨xs,hq,hx⟩:=hg;obtain⟨ao,rv,p,hz⟩:=I.tuple hq;obtain⟨⟨old,sO⟩,gG⟩:=st;have Sb:a≠it:=by
   rintro rfl
   obtain⟨o,q1,q2,_⟩:=p;obtain⟨o',r1,r2,_⟩:=gG;rw[r1] at q1;cases q1;rw[r2] at q2;injection q2 with z;exact absurd z (by decide)
  have hl:=rv.length;have D:=t4 (prog:=X.prog) (w:=X.w) (A:=X.A.in1) (I.ok.hd hc) it a Sb ao.toArray k;obtain⟨f0,f1,f2,f3,f4,f5⟩:=hf it (by simp);refine wpAny_pyNext_enum_endD D sO ⟨by simp,?_,p⟩ fun h' eb=>⟨rfl,I.turned (t':=s.toks) (fun b o hb q=>eb b o hb q) f0 f1 f3 f4 f5⟩
  rw[show ao.toArray.size+k - k=i by simp;lia];exact gG
 self:=fun A i s Q E st h=>by
  obtain⟨⟨old,sO⟩,_⟩:=st;exact wpAny_pyIter_enum sO h
end
section
variable{X:Cx}{tg:Expr}{a b:Expr}{ta tb:TE}{pos:Pos}
def Nj(K:PySem.W.Frag)(k:Nat)(ta:TA):TI:=fun σ H R=>ta σ H fun vs H1=> ∃a,vs= [.ref a]/\(∃xs,dG K H1 a xs)/\R (LS K a k) H1
def JY(K:PySem.W.Frag)(ta:TA)(tk:TA):TI:=fun σ H R=>ta σ H fun vs H1=>tk σ H1 fun zs H2=> ∃a,vs= [.ref a]/\zs= [.int 1]/\(∃xs,dG K H2 a xs)/\R (LS K a 1) H2
theorem kU{x1}{k:Nat}(I:Inv X pins σ H s)(q:R (LS X.K p k) H):
  wpAny (model X.prog X.w) X.A (pyIter (.ref (s.heap.push {cls:= .type "tuple_iterator",data:= .fields #[.ref p,.int 0 0]}).objs.size)) (PY X pins σ (.Tuple es x1 tp) R) E {s with heap:=jQ s.heap p k,toks:=tk}:=by
 have z:(s.heap.push {cls:= .type "tuple_iterator",data:= .fields #[.ref p,.int 0 0]}).objs.size=s.heap.objs.size+1:=ac4 ..;have he:IsEnum (jQ s.heap p k) (s.heap.objs.size+1) s.heap.objs.size k .none:=by
  have:=ZP (s.heap.push {cls:= .type "tuple_iterator",data:= .fields #[.ref p,.int 0 0]}) (o:={cls:= .type "enumerate",data:= .fields #[.none,.bool false,.ref s.heap.objs.size,rawInt k,.none,.none]}) rfl;rw[z] at this;exact this
 have hi:(jQ s.heap p k).IsTupleIter s.heap.objs.size p 0:=⟨_,Zv _ (ZP _ rfl),rfl,rfl⟩
 rw[z];refine wpAny_pyIter_enum he ?_;refine⟨s.heap.objs.size+1,[s.heap.objs.size+1,s.heap.objs.size],_,LS X.K p k,H,rfl,I.kept fun c o e=>Zv _ (Zv _ e),yv p _ _ k (Nat.succ_ne_self _),⟨⟨.none,?_⟩,hi⟩,fun c hc=>?_,q⟩
 . rw[am4];exact he
 . have hle : s.heap.objs.size <= c := by
     rcases ZR.mp hc with q | q
     . rw[q];exact al3 _
     . have q:c=s.heap.objs.size:=by simpa using q
       rw[q];exact Zx _
   exact I.gE hle (I.aT.fresh hle)
theorem Bt{x1}(hg:Gl X "enumerate")(hm:X.mg "enumerate"=none)(ha:PA X [e] t)(hs:starEach [e] X.env= [(false,eval e X.env)]:=by rfl):
  PI X (.Tuple es x1 tp) (.Call (.Name "enumerate" p) [e] [] pos) (Nj X.K 0 t):=by
 intro pins s σ H R I h;refine Call_ (eC I hg hm boot_enumerate (ah4 (aU (ha pos pins s σ H _ I h) fun us s1 ck=>?_) hs rfl));obtain⟨vs,H1,I1,r1,q1⟩:=ck;obtain⟨p,rfl,⟨xs,hq⟩,q⟩:=q1;obtain⟨u,rfl,ru⟩:=vals1 r1;cases ru;obtain⟨ao,rv,pt,hz⟩:=I1.tuple hq;exact nK F.called_enumerate (by decide) (F.typeCall_enumerate_1 _) (F.newCall_enumerate_1 _) (fun obj=>F.args_object_init_2 obj _) F.entry_enumerate_new (CP p) ⟨⟨_,pt⟩,⟨_,ZP _ rfl,rfl⟩,kU (k:=0) I1 q⟩
theorem zp(a b:Value):checkTypeCall "enumerate" ⟨[a],[("start",b)]⟩=pure ():=by kernel_rfl
theorem zq(a b:Value):checkBuiltinCall "enumerate.__new__" ⟨[.type "enumerate",a],[("start",b)]⟩=pure ():=by kernel_rfl
theorem BU(a b c:Value):argsOk "object.__init__" ⟨[a,b],[("start",c)]⟩:=by unfold argsOk;kernel_rfl
theorem oO{M:Model}{A:Around}{E:Value->Shared->Prop}{s:Shared}{env:Env}{pos:Pos}{T:String}{Q:Value->Shared->Prop}{e:Expr}{rest:List Expr}(h:wpAny M A (spliced (backTo pos (starEach (e::rest) env))) (fun vs z=>wpAny M A (evalAll ((backToKw pos (keywordEach kN env)).map (·.2))) (fun ks z2=>wpAny M A (call (.type T) vs (((backToKw pos (keywordEach kN env)).filterMap (·.1)).zip ks)) Q E z2) E z) E s)(k1:backTo pos (starEach (e::rest) env)=(false,eval e env)::backTo pos (starEach rest env):=by rfl)(k2:(backTo pos (starEach (e::rest) env)).any (·.1)=false:=by rfl)(k3:(backToKw pos (keywordEach kN env)).all (·.1.isSome)=true:=by rfl)(k4:(backToKw pos (keywordEach kN env)).any (·.1.isNone)=false:=by rfl):
  wpAny M A (callWith pos (.type T) [] (backTo pos (starEach (e::rest) env)) (backToKw pos (keywordEach kN env))) Q E s:=by
 have g:wpAny M A (evalArgs (.type T) true (backTo pos (starEach (e::rest) env)) (backToKw pos (keywordEach kN env))) (fun a z=>wpAny M A (call (.type T) ([]++a.pos) a.kw) Q E z) E s:=by
  rw[k1] at h ⊢;exact evalArgs_kwB k3 h
 unfold callWith;refine Zt (ad4 (Z6 g (fun a z gz=>Zt (ae2 ?_)) fun _ _ x=>x));simp only [k2,k4,Bool.or_false];exact Zt (ZD (Zt (Z6 gz (fun r z2 hr=>Zt (ad4 (wpAny_point (ZD hr)))) fun _ _ x=>x)))
theorem Bs{x1}(hg:Gl X "enumerate")(hm:X.mg "enumerate"=none)(ha:PA X [e] t)(hk:PK X kN tk)(xr:(backToKw pos (keywordEach kN X.env)).filterMap (·.1)=(["start"]:List Str):=by rfl)(k1:backTo pos (starEach [e] X.env)=(false,eval e X.env)::backTo pos (starEach [] X.env):=by rfl)(k2:(backTo pos (starEach [e] X.env)).any (·.1)=false:=by rfl)(k3:(backToKw pos (keywordEach kN X.env)).all (·.1.isSome)=true:=by rfl)(k4:(backToKw pos (keywordEach kN X.env)).any (·.1.isNone)=false:=by rfl):
  PI X (.Tuple es x1 tp) (.Call (.Name "enumerate" p) [e] kN pos) (JY X.K t tk):=by
 intro pins s σ H R I h;refine ag5 (eC I hg hm boot_enumerate (oO (aU (ha pos pins s σ H _ I h) fun us s1 j8=>?_) k1 k2 k3 k4));obtain⟨vs,H1,I1,r1,q1⟩:=j8;refine aU (hk pos pins s1 σ H1 _ I1 q1) fun ws s2 iP=>?_;obtain⟨zs,H2,I2,rz,q2⟩:=iP;obtain⟨p,rfl,rfl,⟨xs,hq⟩,q⟩:=q2;obtain⟨u,rfl,ru⟩:=vals1 r1;cases ru;obtain⟨u2,rfl,⟨AB,rfl⟩⟩:=vals1 rz;obtain⟨ao,rv,pt,hz⟩:=I2.tuple hq;rw[xr];exact nK F.called_enumerate (by decide) (zp _ _) (zq _ _) (fun obj=>BU obj _ _) F.entry_enumerate_new (CO p AB) ⟨⟨_,pt⟩,⟨_,ZP _ rfl,rfl⟩,kU (k:=1) I2 q⟩
def Fh(K:PySem.W.Frag):R2:=fun x y H Q=> ∃p q xs,x= .ref p/\y= .ref q/\cY K H p xs/\cY K H q []/\Q (.bl xs.isEmpty) H
theorem yN(hu:X.A.units < cLine):mi X (compareOp .Eq) (Fh X.K):=by
 intro pins s σ H x y v u Q I rx ry h;obtain⟨p,q,xs,rfl,rfl,h1,h2,hq⟩:=h;cases rx;cases ry;obtain⟨ao,rv,pl,_⟩:=I.list h1;obtain⟨cq,n8,Fm,_⟩:=I.list h2;cases n8;cases rv with
 | nil=>exact SeqAt.eq_listAt (e:=fun _=>true) pl.isList Fm.isList rfl hu (fun j h1 _=>absurd h1 (by simp)) ⟨.bl true,H,I,rfl,hq⟩
 | cons r rr=>exact SeqAt.eq_list_lengthsAt pl.isList Fm.isList (by simp) hu ⟨.bl false,H,I,rfl,hq⟩
def Pa(i j:Int):Prop:=0 < j/\j < 2^64
theorem Ra(h1:0 < j)(h2:j < 2^64):Builtin.divisionGoesByPylong i j=false:=by
 have e:j.natAbs < 2^64:=by lia
 have l:j.natAbs.log2 < 64:=by
  rw[Nat.log2_lt (by lia)];exact e
 unfold Builtin.divisionGoesByPylong;have: ¬(if (j==0)=true then 0 else j.natAbs.log2 / 30+1) > 300:=by
  split <;> lia
 simp only [aa3 this,Bool.false_and]
theorem jY:fM X (.builtin "divmod") (fun xs H Q=> ∃i j,xs= [.int i,.int j]/\Pa i j/\ ∀p,H p=none->Q (.ref p) (upd H p (.tup [.int (i / j),.int (i % j)]))):=by
 intro pins s σ H xs us Q I r h;obtain⟨i,j,rfl,⟨h1,h2⟩,q⟩:=h;obtain⟨u,u2,rfl,⟨t,rfl⟩,⟨t',rfl⟩⟩:=vals2 r;refine divmod_int (by lia) ?_ (.inl (Ra h1 h2));rw[Int.fdiv_eq_ediv_of_nonneg i (by lia),Int.fmod_eq_emod_of_nonneg i (by lia)];refine⟨.ref s.heap.objs.size,_,I.laid (o:= .tup [.int (i / j),.int (i % j)]) (fun b o e=>Zv _ e) (Zx _) ⟨by show 2<=sizeLine;decide,[.int (i / j) s.toks,.int (i % j) (s.toks+1)],.cons ⟨_,rfl⟩ (.cons ⟨_,rfl⟩ .nil),_,ZP s.heap rfl,rfl,rfl,0,rfl⟩,rfl,q _ (I.aT.fresh (Zx _))⟩
noncomputable def tP(T:String)(H:Hp):V->Option Bool
 | .aD=>some false
 | .bl _=>some (T=="bool" || T=="int")
 | .int _=>some (T=="int")
 | .str _=>some (T=="str")
 | .ref a=>match H a with
  | some (.lst _)=>some (T=="list")
  | some (.tup _)=>some (T=="tuple")
  | _=>none
 | _=>none
theorem JW(hT:T="int"\/T="bool"\/T="tuple"\/T="list"\/T="str"):fM X (.builtin "isinstance") (fun xs H Q=> ∃x b,xs= [x,.ty T]/\tP T H x=some b/\Q (.bl b) H):=by
 intro pins s σ H xs us Q I r h;obtain⟨x,b,rfl,e,q⟩:=h;obtain⟨u,u2,rfl,ru,Mv⟩:=vals2 r;cases (show u2=Value.type T from Mv);have fin: ∀tk:Nat,EP X pins σ Q (.bool b) {s with toks:=tk}:=fun tk=>⟨.bl b,H,I.tok _,rfl,q⟩
 cases x with
 | aD=>cases e;rcases hT with rfl | rfl | rfl | rfl | rfl <;> exact dX I ru .aD rfl fin
 | bl y=>cases e;rcases hT with rfl | rfl | rfl | rfl | rfl <;> exact dX I ru (.bl y) rfl fin
 | int y=>cases e;rcases hT with rfl | rfl | rfl | rfl | rfl <;> exact dX I ru (.int y) rfl fin
 | str y=>cases e;rcases hT with rfl | rfl | rfl | rfl | rfl <;> exact dX I ru (.str y) rfl fin
 | ref a=>
  cases ha:H a with
  | none=>simp only [tP,ha] at e;cases e
  | some o=>
   cases o with
   | lst xs=>simp only [tP,ha] at e;cases e;rcases hT with rfl | rfl | rfl | rfl | rfl <;> exact dX I ru (.lst ha) rfl fin
   | tup xs=>simp only [tP,ha] at e;cases e;rcases hT with rfl | rfl | rfl | rfl | rfl <;> exact dX I ru (.tup ha) rfl fin
   | _=>simp only [tP,ha] at e;cases e
 | _=>cases e
end
inductive gg:List Value->List Bool->Prop
 | nil:gg [] []
 | cons (b:Bool) {vs:List Value} {bs:List Bool}:gg vs bs->gg (.bool b::vs) (b::bs)
theorem gg.of: ∀{bs:List Bool} {us:List Value},Vals (bs.map V.bl) us->gg us bs
 | [],_,.nil=> .nil
 | b::bs,_,.cons r rr=>by
  cases (show _=Value.bool b from r);exact .cons b (gg.of rr)
theorem gg.get(h:gg vs bs): ∀(i:Nat) (v:Value),vs[i]?=some v-> ∃b,bs[i]?=some b/\v= .bool b:=by
 induction h with
 | nil=>intro i v e;simp at e
 | cons b _ ih=>
  intro i v e;cases i with
  | zero=>simp at e;subst e;exact⟨b,rfl,rfl⟩
  | succ i=>simpa using ih i v (by simpa using e)
theorem Be(bs:List Bool):((List.range bs.length).all fun i=>(bs[i]?).getD true)=bs.all id:=by
 rw[al0,ag4,ag4];constructor
 . intro h b hb;obtain⟨i,hi,e⟩:=af5 hb;have:=h i (ab3.mpr hi);simp only [Zs hi,Option.getD_some,e] at this;exact this
 . intro h i hi;have og:=ab3.mp hi;simp only [Zs og,Option.getD_some];exact h _ (ad9 og)
theorem DI{X:Cx}(hc:X.calm=true):fM X (.builtin "all") (fun xs H Q=> ∃a bs,xs= [.ref a]/\cY X.K H a (List.map V.bl bs)/\Q (.bl (bs.all id)) H):=by
 intro pins s σ H xs us Q I r h;obtain⟨a,bs,rfl,hq,q⟩:=h;obtain⟨u,rfl,ru⟩:=vals1 r;cases ru;obtain⟨ao,rv,pl,_⟩:=I.list hq;have hl:=pl.isList;have hb:=gg.of rv;have hlen:ao.length=bs.length:=by rw[<-rv.length,Zu]
 have dr:a < s.heap.objs.size:=by obtain⟨_,e,_⟩:=hl;exact ZW e
 refine call_all_walk (aj9 hl ?_);refine⟨s.heap.objs.size,[s.heap.objs.size,a],[s.heap.objs.size],ao.toArray.size,_,_,fun i=>(bs[i]?).getD true,rfl,Walks.list (A:=X.A.in1) (I.ok.hd hc) _ a (aa8 dr) ao.toArray,
  ⟨⟨_,ZP _ rfl,rfl,rfl⟩,hl.push _⟩,fun i v s' Q' E' hP hQ=>?_,fun h' tk hk=>?_⟩
 . obtain⟨b,e,rfl⟩:=hb.get i v (by simpa using hP);simp only [e,Option.getD_some] at hQ;exact ah1 hQ
 . have e : ((List.range ao.toArray.size).all fun i => (bs[i]?).getD true) = bs.all id := by
     rw[ZH,hlen];exact Be bs
   rw[e];exact⟨.bl (bs.all id),H,I.kept fun b x e=>hk b x (fun hm=>by rw[ZM.mp hm] at e;exact ab5 _ (ZW e)) (Zv _ e),rfl,q⟩
end L2
namespace L2
open PySem PySem.Spec PyProof.Rows HT
def vR(H:Hp)(zs:List V)(p:Addr)(H':Hp):Prop:=(H'=H/\H p=some (.tup zs))\/(H p=none/\H'=upd H p (.tup zs))
theorem vR.at(h:vR H zs p H'):H' p=some (.tup zs):=by
 rcases h with ⟨rfl,h⟩ | ⟨_,rfl⟩
 . exact h
 . exact ag
theorem vR.keep(h:vR H zs p H'):aC H H':=by
 rcases h with ⟨rfl,h⟩ | ⟨h,rfl⟩
 . exact fun _ _ e=>e
 . exact fun b o e=>by rw[ah (ai e h)];exact e
theorem DG{vs ws:List Value}(ht:IsTup s.heap t vs.toArray)(hb:IsTup s.heap b ws.toArray)(hv:vs= [])(h:Q (.ref b) s):wpAny (model prog w) A (binaryOp .Add (.ref t) (.ref b)) Q E s:=by
 obtain⟨⟨c1,d1,t1,l1⟩,a1,a2,n1,a3⟩:=id ht;obtain⟨⟨c2,d2,t2,l2⟩,b1,b2,n2,b3⟩:=id hb;simp only at a2 a3 b2 b3;subst a2 a3 b2 b3;exact concat_meets ⟨_,a1,rfl⟩ ⟨_,b1,rfl⟩ noFill_tuple_add seq_tuple_add PySem.F.slot_tuple_add an0 (am7 _ _) (tuple_addW0 t b vs.toArray ws.toArray n1 n2 d1 d2 l1 l2 (by simp [hv])) ⟨a1,b1,h⟩
theorem jJ{t sl:Addr}{items:Array Value}{vl vu:Value}{lo hi:Option Int}(ht:IsTup s.heap t items)(hs:s.heap.IsSliceOf sl vl vu .none)(pl:IsPart vl lo)(pu:IsPart vu hi)(hw:cK items.size 0 lo=0/\cK items.size items.size hi=items.size)(h:Q (.ref t) s):wpAny (model prog w) A (getItem (.ref t) (.ref sl)) Q E s:=by
 obtain⟨os,J3,Py,Kd⟩:=id hs;have Se:s.TypeIs (.ref sl) "slice":=⟨os,J3,Py⟩
 unfold getItem;try with_reducible refine ad4 ?_
 first | refine Zt (ZD ?_) | skip
 refine Zt (wpAny_sequenceKey ht.typeIs (by decide) ?_);refine Zt (ah0 (name:=Str.ofString "__getitem__") ht.typeIs ai4
  (ak3 ai4 ht.typeIs entry_tuple_getitem ?_ (args_tuple_getitem _ _)))
 show wpAny _ _ (Builtin.Tuple.tupleItemsOf (.ref t) >>=_) _ _ s;refine Zt (tupleItemsOf_ ht ?_);refine Zt (wpAny_typeOf Se ?_);rw[if_pos (by decide)];refine Zt (fD hs pl pu ?_);rw[hw.1,hw.2];obtain⟨ob,k1,k2,k3⟩:=id ht;show wpAny _ _ (if (((0:Nat):Int)==0 && (1:Int)==1 && (items.size - 0)==items.size)=true then _ else _) _ _ s;rw[if_pos (by simp)];wp_walk using AutoSeq1.wpAny_loadPart' k1
 all_goals exact⟨_,rfl,ZD h⟩
section
variable{X:Cx}{e:Expr}{te:TE}{pos p2:Pos}
def Hd:R2:=fun x y H Q=> ∃a b xs ys,x= .ref a/\y= .ref b/\H a=some (.tup xs)/\H b=some (.tup ys)/\xs.length+ys.length<=sizeLine/\ ∀p H',vR H (xs++ys) p H'->Q (.ref p) H'
theorem Fz:mi X (binaryOp .Add) Hd:=by
 intro pins s σ H x y v u Q I rx ry h;obtain⟨a,b,xs,ys,rfl,rfl,h1,h2,hz,q⟩:=h;cases rx;cases ry;obtain⟨ao,r1,p1,_⟩:=I.tuple (dG.of h1);obtain⟨cq,r2,p2,_⟩:=I.tuple (dG.of h2);by_cases e1:ao= []
 . have ex:xs= []:=r1.wX.mp e1;refine DG p1 p2 e1 ⟨.ref b,H,I,rfl,q b H (.inl ⟨rfl,?_⟩)⟩;rw[ex];exact h2
 . refine GO p1 p2 e1 (fun e2=>⟨.ref a,H,I,rfl,q a H (.inl ⟨rfl,?_⟩)⟩) (fun e2=>?_) (by rw[<-r1.length,<-r2.length];exact hz)
   . have ey:ys= []:=r2.wX.mp e2;rw[ey,ab2];exact h1
   . refine⟨.ref s.heap.objs.size,_,I.laid (t':=s.toks) (o:= .tup (xs++ys)) (fun b ob q=>Zv _ q) (Zx _) ⟨by rw[ZK];exact hz,_,r1.append r2,oS.new _ _⟩,rfl,q _ _ (.inr ⟨I.aT.fresh (Zx _),rfl⟩)⟩
def QX:V->Option Int->Option Int->Hp->VK->Prop:=fun x lo hi H Q=> ∃a xs,x= .ref a/\H a=some (.tup xs)/\ ∀p H',vR H (lD xs lo hi) p H'->Q (.ref p) H'
theorem EX:rP X QX:=by
 intro pins s σ H x v vl vu lo hi sl Q I rx hs pl pu h;obtain⟨a,xs,rfl,hx,q⟩:=h;cases rx;obtain⟨ao,r,ht,hz⟩:=I.tuple (dG.of hx);have hlen:ao.toArray.size=xs.length:=by rw[ZH];exact r.length.symm
 refine⟨"tuple",_,PyProof.Rows.slot_tuple_getitem.lookup,ht.typeIs,?_⟩;by_cases hw:cK xs.length 0 lo=0/\cK xs.length xs.length hi=xs.length
 . refine jJ ht hs pl pu (by rw[hlen];exact hw) ⟨.ref a,H,I,rfl,q a H (.inl ⟨rfl,?_⟩)⟩;unfold lD;rw[hw.1,hw.2,List.drop_zero,al8,ac9];exact hx
 . refine HT.jI ht hs pl pu (by rw[hlen];exact hw) ?_ (by rw[hlen];exact hz);rw[hlen];refine⟨.ref s.heap.objs.size,_,I.laid (t':=s.toks) (o:= .tup (lD xs lo hi)) (fun b ob q=>Zv _ q) (Zx _) ?_,rfl,q _ _ (.inr ⟨I.aT.fresh (Zx _),rfl⟩)⟩;exact⟨ZZ (kW xs lo hi) hz,_,(r.drop (HT.cK xs.length 0 lo)).take (HT.cK xs.length xs.length hi - HT.cK xs.length 0 lo),oS.new _ _⟩
end
end L2
namespace L2
open PySem PySem.Spec PyProof.Rows
theorem GV(h:0<=i)(e:xs[i.toNat]?=some v):kX xs i=some v:=by
 have:i=((i.toNat:Nat):Int):=by lia
 rw[this];exact aO e
theorem xh{n:Nat}{i:Int}(h:0<=i)(hl:i < n):xi n i=some i.toNat:=by
 unfold xi;rw[if_pos h,if_pos hl]
def fB(P:Program)(w:World)(K:PySem.W.Frag)(mg:Str->Option Value)(base:Heap)(x:Str)(k:Nat)(ps:List Str)(sp:Sp):Prop:=
 ∃f fd,mg x=some (.ref f)/\PySem.W.keepIn K (.ref f)=true/\Binds K fd ps []/\aX P w K mg base di k f fd ps sp
theorem mW{X:Cx}(h:fB X.prog X.w X.K X.mg X.base x k ps sp)(hr:bD k X.A)(hg:Gl X x)(ha:PA X (e::es) t)(i8:(x==("__debug__":Str))=false:=by decide)(he:starEach (e::es) X.env=(false,eval e X.env)::starEach es X.env:=by rfl)(dq:(backTo pos (starEach es X.env)).any (·.1)=false:=by rfl):
  PE X (.Call (.Name x p) (e::es) [] pos) (AL sp [] E0 t):=by
 obtain⟨f,fd,h1,h2,h3,h4⟩:=h;exact Fv h4 hr hg h1 h2 h3 .nil Hf ha i8 he dq
end L2
namespace LB
open PySem L2 PyProof.Rows
theorem kB:bootBuiltins "int"=some (.type "int"):=by decide+kernel
theorem aZ:bootBuiltins "tuple"=some (.type "tuple"):=by decide+kernel
theorem bK:bootBuiltins "bool"=some (.type "bool"):=by decide+kernel
theorem dY:bootBuiltins "str"=some (.type "str"):=by decide+kernel
theorem zC:bootBuiltins "sum"=some (.builtin "sum"):=by decide+kernel
theorem bC:bootBuiltins "list"=some (.type "list"):=by decide+kernel
theorem rE:bootBuiltins "divmod"=some (.builtin "divmod"):=by decide+kernel
theorem Rp: ¬(("cells":Str)="turn"):=by decide+kernel
noncomputable def bx(c:Addr)(t:Int):List (Key × V):= [(Sum.inr "cells",.ref c),(Sum.inr "turn",.int t)]
theorem ug(c:Addr)(t:Int):fP (bx c t) (Sum.inr "cells":Key)=some (.ref c):=by
 simp [fP,bx]
theorem GQ(c:Addr)(t:Int):fP (bx c t) (Sum.inr "turn":Key)=some (.int t):=by
 simp [fP,bx,Rp]
theorem K4(c:Addr)(t u:Int):putK (bx c t) (Sum.inr "turn":Key) (.int u)=bx c u:=by
 simp [putK,bx,Rp]
structure ur(H:Hp)(d c:Addr)(t:Int):Prop where
 dc:H d=some (.dK (bx c t))
 cs: ∃ns:List Int,H c=some (.lst (ns.map V.int))/\0 < ns.length/\ns.length<=63
 t0:0<=t
 t1:t<=1000000
theorem ur.ne(b:ur H d c t):d≠c:=let ⟨_,h,_⟩:=b.cs;wY b.dc h (by intro z;cases z)
def Kp(d c:Addr)(H H':Hp):Prop:= ∀b o,H b=some o->b≠d->b≠c->H' b=some o
theorem ur.same(b:ur H d c t)(s:aC H H'):ur H' d c t:=⟨s _ _ b.dc,let ⟨ns,h,r⟩:=b.cs;⟨ns,s _ _ h,r⟩,b.t0,b.t1⟩
def AO:Sp:=fun vs H Q _=> ∃(d c:Addr) (t m:Int),vs= [.ref d,.int m]/\ur H d c t/\t < 1000000/\0 < m/\m < 2^64/\ ∀(r:Int) (H':Hp),0<=r->r < m->ur H' d c (t+1)->Kp d c H H'->Q (.int r) H'
def qe(K:PySem.W.Frag):Sp:=fun vs H Q _=> ∃(a:Addr) (ns:List Int),vs= [.ref a]/\cY K H a (ns.map V.int)/\ns.length<=63/\ ∀(d c:Addr) (H':Hp),ur H' d c 0->aC H H'->Q (.ref d) H'
theorem aC.new(h:H p=none):aC H (upd H p o):=fun b u e=>by rw[ah (ai e h)];exact e
end LB
namespace L2
open PySem PySem.Spec PyProof.Rows
theorem DH(hc:X.calm=true):fM X (.builtin "sum") (fun xs H Q=> ∃a ns,xs= [.ref a]/\cY X.K H a (List.map V.int ns)/\Q (.int ns.sum) H):=by
 intro pins s σ H xs us Q I r h;obtain⟨a,ns,rfl,hq,q⟩:=h;obtain⟨u,rfl,ru⟩:=vals1 r;cases ru;obtain⟨ao,rv,pl,_⟩:=I.list hq;have hi:=intsAre_of rv;obtain⟨xs,hx⟩:=hi.allInts.items;have F8:s.heap.IsList a (intItems xs):=hx▸pl.isList;refine sum_intListG (I.ok.hd hc) F8 fun h' tk t' hk=>?_;have e1:ns=xs.toList.map (·.1):=by
  rw[<-nums_intItems,<-hx];exact(show numsOf ao.toArray.toList=ns from hi.numsOf).symm
 have e2:preSum (numAt xs) xs.size=ns.sum:=by
  rw[preSum_eq,ah8 (by simp),e1]
 rw[e2];exact⟨.int ns.sum,H,I.kept hk,⟨_,rfl⟩,q⟩
def nU(h:Heap)(it a:Addr)(xs:Array Value)(k:Nat):Prop:=(h.IsListIter it a k/\h.IsList a xs)\/(h.IsTupleIter it a k/\h.IsTuple a xs)
theorem nU.ext{h h':Heap}(z:nU h it a xs k)(e1: ∀o,h.get? it=some o->h'.get? it=some o)(e2: ∀o,h.get? a=some o->h'.get? a=some o):nU h' it a xs k:=by
 rcases z with ⟨z1,z2⟩ | ⟨z1,z2⟩
 . exact .inl ⟨let ⟨o,q,r⟩:=z1;⟨o,e1 o q,r⟩,let ⟨o,q,r⟩:=z2;⟨o,e2 o q,r⟩⟩
 . exact .inr ⟨let ⟨o,q,r⟩:=z1;⟨o,e1 o q,r⟩,let ⟨o,q,r⟩:=z2;⟨o,e2 o q,r⟩⟩
theorem u3(z:nU s.heap it a xs k)(Hy:a≠it)(hy:xs[k]?=some y)(hQ: ∀h',nU h' it a xs (k+1)->Heap.SameBut it s.heap h'->Q y {s with heap:=h'}):wpAny (model prog w) A (Builtin.SmallTypes.nextOf (.ref it)) Q E s:=by
 rcases z with ⟨z1,z2⟩ | ⟨z1,z2⟩
 . exact wpAny_nextOf_list_item z1 z2 hy fun h' q sb=>hQ h' (.inl ⟨q,let ⟨o,e,r⟩:=z2;⟨o,(sb.2 a Hy).trans e,r⟩⟩) sb
 . exact sI z1 z2 hy fun h' q sb=>hQ h' (.inr ⟨q,let ⟨o,e,r⟩:=z2;⟨o,(sb.2 a Hy).trans e,r⟩⟩) sb
theorem B5(hh:A.handled=none)(z:nU s.heap it a xs k)(hy:xs[k]?=none)(hE: ∀h' e,Heap.ExtBut it s.heap h'->(∃o,h'.get? e=some o/\o.cls= .type "StopIteration")->E (.ref e) {s with heap:=h'}):wpAny (model prog w) A (Builtin.SmallTypes.nextOf (.ref it)) Q E s:=by
 rcases z with ⟨z1,z2⟩ | ⟨z1,z2⟩
 . exact wpAny_nextOf_list_end hh z1 z2 hy hE
 . exact sJ hh z1 z2 hy hE
theorem yj{z TI TO i1 i2 l1 l2:Addr}{k1 k2:Nat}{xs ys:Array Value}{x y a b:Value}{Q:Value->Shared->Prop}(D:ZipApart z TI TO i1 i2 l1 l2)(hz:IsZip s.heap z TI TO .none)(Gg:IsPair s.heap TI (.ref i1) (.ref i2))(Kh:IsPair s.heap TO a b)
  (h1:nU s.heap i1 l1 xs k1) (h2:nU s.heap i2 l2 ys k2) (hx:xs[k1]?=some x) (hy:ys[k2]?=some y)
  (hQ: ∀h',IsZip h' z TI TO (rawInt s.heap.objs.size)->IsPair h' TO x y->nU h' i1 l1 xs (k1+1)->nU h' i2 l2 ys (k2+1)->IsPair h' s.heap.objs.size x y->h'.objs.size=s.heap.objs.size+1->
   (∀c o,c≠z->c≠TO->c≠i1->c≠i2->s.heap.get? c=some o->h'.get? c=some o)->Q (.ref s.heap.objs.size) {s with heap:=h'}):wpAny (model prog w) A (Builtin.«zip.__next__» ⟨[.ref z],[]⟩) (fun fin s'=> ∃v,fin= .done (.ret v)/\Q v s') E s:=by
 show wpAny _ _ (field (.ref z) 2 >>=_) _ _ _;refine Zt (ae5 hz rfl (x:= .bool false) rfl ?_);show wpAny _ _ (field (.ref z) 3 >>=_) _ _ _;refine Zt (ae5 hz rfl (x:= .ref TI) rfl ?_);refine Zt (ag7 Gg rfl ?_);show wpAny _ _ (Builtin.SmallTypes.ownedTupleIsFree (.ref z) >>=_) _ _ _;refine Zt ?_;unfold Builtin.SmallTypes.ownedTupleIsFree;refine Zt (ae5 hz rfl (x:= .none) rfl (ZD ?_));simp only [if_true];refine Zt (af6 ?_);refine Zt (ae5 hz rfl (x:= .ref TO) rfl ?_);refine Zt (aj2 hz (by simp) fun h₁ kO ie=>?_);replace kO:IsZip h₁ z TI TO .ellipsis:=kO;refine Zt ?_;simp only [List.zipIdx_cons,List.zipIdx_nil,List.forIn_cons,List.forIn_nil]
 refine Zt (Zt (wpAny_onRaise ?_));show wpAny _ _ (Builtin.SmallTypes.nextOf (.ref i1) >>=_) _ _ _;refine Zt (u3 (h1.ext (fun o e=>ie.extBut _ _ D.i1z e) fun o e=>ie.extBut _ _ D.l1z e) D.l1i1 hx fun h₂ HA ic=>ZD ?_);have nB:IsPair h₂ TO a b:=ic.extBut _ _ D.TOi1 (ie.extBut _ _ D.TOz Kh);refine Zt (ag7 nB rfl ?_);refine Zt (wpAny_updateSeq_pair nB fun h₃ qV hZ=>?_);replace qV:IsPair h₃ TO x b:=qV;refine Zt (al2 (ZD ?_));refine Zt (Zt (wpAny_onRaise ?_));show wpAny _ _ (Builtin.SmallTypes.nextOf (.ref i2) >>=_) _ _ _;have k3: ∀c o,c≠z->c≠i1->c≠TO->s.heap.get? c=some o->h₃.get? c=some o:=fun c o c1 c2 c3 e=>hZ.extBut _ _ c3 (ic.extBut _ _ c2 (ie.extBut _ _ c1 e));refine Zt (u3 (h2.ext (fun o e=>k3 _ o D.i2z D.i12.symm D.TOi2.symm e) fun o e=>k3 _ o D.l2z D.l2i1 D.l2TO e) D.l2i2 hy fun h₄ NO jE=>ZD ?_);have Cv:IsPair h₄ TO x b:=jE.extBut _ _ D.TOi2 qV;refine Zt (ag7 Cv rfl ?_);refine Zt (wpAny_updateSeq_pair Cv fun h₅ qU iM=>?_);replace qU:IsPair h₅ TO x y:=qU;refine Zt (al2 (ZD (ZD ?_)));refine Zt (ag7 qU rfl ?_);refine Zt (wpAny_newTuple ?_);have hsz:h₅.objs.size=s.heap.objs.size:=by rw[iM.1,jE.1,hZ.1,ic.1,ie.1]
 have k5: ∀c o,c≠z->c≠TO->c≠i1->c≠i2->s.heap.get? c=some o->h₅.get? c=some o:=fun c o c1 c2 c3 c4 e=>iM.extBut _ _ c2 (jE.extBut _ _ c4 (k3 c o c1 c3 c2 e));have Hs:IsZip h₅ z TI TO .ellipsis:=iM.extBut _ _ D.TOz.symm (jE.extBut _ _ D.i2z.symm (hZ.extBut _ _ D.TOz.symm (ic.extBut _ _ D.i1z.symm kO)));have f1:nU h₅ i1 l1 xs (k1+1):=HA.ext (fun o e=>iM.extBut _ _ D.TOi1.symm (jE.extBut _ _ D.i12 (hZ.extBut _ _ D.TOi1.symm e))) fun o e=>iM.extBut _ _ D.l1TO (jE.extBut _ _ D.l1i2 (hZ.extBut _ _ D.l1TO e));have f2:nU h₅ i2 l2 ys (k2+1):=NO.ext (fun o e=>iM.extBut _ _ D.TOi2.symm e) fun o e=>iM.extBut _ _ D.l2TO e;have L1:z < h₅.objs.size:=ZW Hs;show wpAny _ _ (Builtin.SmallTypes.ownedTupleHandOut (.ref z) (.ref h₅.objs.size) >>=_) _ _ _;refine Zt ?_;unfold Builtin.SmallTypes.ownedTupleHandOut;have Nk:IsZip (h₅.push {cls:= .type "tuple",data:= .seq #[x,y]}) z TI TO .ellipsis:=Zv _ Hs;refine Zt (aj2 Nk (by simp) fun h₇ Ck Cn=>?_);replace Ck:IsZip h₇ z TI TO (rawInt h₅.objs.size):=Ck;refine aj2 Ck (by simp) fun h₈ xm Cm=>?_
 replace xm:IsZip h₈ z TI TO (rawInt h₅.objs.size):=xm
 have up: ∀c o,c≠z->h₅.get? c=some o->h₈.get? c=some o:=fun c o c1 e=>Cm.extBut _ _ c1 (Cn.extBut _ _ c1 (Zv _ e));have pT:IsPair h₈ h₅.objs.size x y:=Cm.extBut _ _ (aj1 L1) (Cn.extBut _ _ (aj1 L1) (ZP _ rfl));have s8:h₈.objs.size=h₅.objs.size+1:=by rw[Cm.1,Cn.1,ac4]
 rw[hsz] at xm pT s8;refine ZD ⟨_,rfl,?_⟩;show Q (.ref h₅.objs.size) _;rw[hsz];exact hQ h₈ xm (up _ _ D.TOz qU) (f1.ext (fun o e=>up _ o D.i1z e) fun o e=>up _ o D.l1z e) (f2.ext (fun o e=>up _ o D.i2z e) fun o e=>up _ o D.l2z e) pT s8 fun c o c1 c2 c3 c4 e=>up c o c1 (k5 c o c1 c2 c3 c4 e)
theorem yh{z TI TO i1 i2 l1 l2:Addr}{k1 k2:Nat}(hh:A.handled=none)(D:ZipApart z TI TO i1 i2 l1 l2)(hz:IsZip s.heap z TI TO .none)(Gg:IsPair s.heap TI (.ref i1) (.ref i2))(Kh:IsPair s.heap TO a b)(h1:nU s.heap i1 l1 xs k1)(h2:nU s.heap i2 l2 ys k2)(Kc:xs[k1]?=none\/ys[k2]?=none)(hE: ∀h' e,(∀c o,c≠z->c≠TO->c≠i1->c≠i2->s.heap.get? c=some o->h'.get? c=some o)->(∃o,h'.get? e=some o/\o.cls= .type "StopIteration")->E (.ref e) {s with heap:=h'}):wpAny (model prog w) A (Builtin.«zip.__next__» ⟨[.ref z],[]⟩) Q E s:=by
 show wpAny _ _ (field (.ref z) 2 >>=_) _ _ _;refine Zt (ae5 hz rfl (x:= .bool false) rfl ?_);show wpAny _ _ (field (.ref z) 3 >>=_) _ _ _;refine Zt (ae5 hz rfl (x:= .ref TI) rfl ?_);refine Zt (ag7 Gg rfl ?_);show wpAny _ _ (Builtin.SmallTypes.ownedTupleIsFree (.ref z) >>=_) _ _ _;refine Zt ?_;unfold Builtin.SmallTypes.ownedTupleIsFree;refine Zt (ae5 hz rfl (x:= .none) rfl (ZD ?_));simp only [if_true];refine Zt (af6 ?_);refine Zt (ae5 hz rfl (x:= .ref TO) rfl ?_);refine Zt (aj2 hz (by simp) fun h₁ kO ie=>?_);replace kO:IsZip h₁ z TI TO .ellipsis:=kO;refine Zt ?_;simp only [List.zipIdx_cons,List.zipIdx_nil,List.forIn_cons,List.forIn_nil]
 refine Zt (Zt (wpAny_onRaise ?_));show wpAny _ _ (Builtin.SmallTypes.nextOf (.ref i1) >>=_) _ _ _;have g1:nU h₁ i1 l1 xs k1:=h1.ext (fun o e=>ie.extBut _ _ D.i1z e) fun o e=>ie.extBut _ _ D.l1z e;cases hx:xs[k1]? with
 | none=>
  refine Zt (B5 hh g1 hx fun h₂ e ic he=>?_);obtain⟨oe,J4,NI⟩:=he;have Hu:IsZip h₂ z TI TO .ellipsis:=ic _ _ D.i1z.symm kO;have R4:e≠z:=fun y=>by subst y;rw[Hu] at J4;cases J4;simp at NI
  exact aj2 Hu (by simp) fun h₃ _ hZ=>hE h₃ e (fun c o c1 _ c3 _ y=>hZ.extBut _ _ c1 (ic _ _ c3 (ie.extBut _ _ c1 y))) ⟨oe,hZ.extBut _ _ R4 J4,NI⟩
 | some x=>
  have hy:ys[k2]?=none:=Kc.resolve_left fun q=>by rw[hx] at q;cases q
  refine Zt (u3 g1 D.l1i1 hx fun h₂ HA ic=>ZD ?_);have nB:IsPair h₂ TO a b:=ic.extBut _ _ D.TOi1 (ie.extBut _ _ D.TOz Kh);refine Zt (ag7 nB rfl ?_);refine Zt (wpAny_updateSeq_pair nB fun h₃ qV hZ=>?_);refine Zt (al2 (ZD ?_));refine Zt (Zt (wpAny_onRaise ?_));show wpAny _ _ (Builtin.SmallTypes.nextOf (.ref i2) >>=_) _ _ _;have k3: ∀c o,c≠z->c≠i1->c≠TO->s.heap.get? c=some o->h₃.get? c=some o:=fun c o c1 c2 c3 e=>hZ.extBut _ _ c3 (ic.extBut _ _ c2 (ie.extBut _ _ c1 e));refine Zt (B5 hh (h2.ext (fun o e=>k3 _ o D.i2z D.i12.symm D.TOi2.symm e) fun o e=>k3 _ o D.l2z D.l2i1 D.l2TO e) hy fun h₄ e jE he=>?_);obtain⟨oe,J4,NI⟩:=he;have Ht:IsZip h₄ z TI TO .ellipsis:=jE _ _ D.i2z.symm (hZ.extBut _ _ D.TOz.symm (ic.extBut _ _ D.i1z.symm kO));have R4:e≠z:=fun y=>by subst y;rw[Ht] at J4;cases J4;simp at NI
  exact aj2 Ht (by simp) fun h₅ _ iM=>hE h₅ e (fun c o c1 c2 c3 c4 y=>iM.extBut _ _ c1 (jE _ _ c4 (k3 c o c1 c3 c2 y))) ⟨oe,iM.extBut _ _ R4 J4,NI⟩
theorem yi {z TI TO i1 i2 l1 l2 : Addr} {k1 k2 : Nat} (D : ZipApart z TI TO i1 i2 l1 l2) (hz : IsZip s.heap z TI TO .none) (Gg : IsPair s.heap TI (.ref i1) (.ref i2)) (Kh : IsPair s.heap TO a b) (h1 : nU s.heap i1 l1 xs k1) (h2 : nU s.heap i2 l2 ys k2) (hx : xs[k1]? = some x) (hy : ys[k2]? = some y) (hQ : ∀ h', IsZip h' z TI TO (rawInt s.heap.objs.size) -> IsPair h' TO x y -> nU h' i1 l1 xs (k1 + 1) -> nU h' i2 l2 ys (k2 + 1) -> IsPair h' s.heap.objs.size x y -> h'.objs.size = s.heap.objs.size + 1 ->
   (∀c o,c≠z->c≠TO->c≠i1->c≠i2->s.heap.get? c=some o->h'.get? c=some o)->Q (some (.ref s.heap.objs.size)) {s with heap:=h'}):wpAny (model prog w) A (pyNext (.ref z)) Q E s:=by
 have hT:s.TypeIs (.ref z) "zip":=⟨_,hz,rfl⟩;unfold pyNext;exact Zt (wpAny_attempt (ah0 (name:=Str.ofString "__next__") hT F.slot_zip_next (ak3 F.slot_zip_next hT F.entry_zip_next
   (yj D hz Gg Kh h1 h2 hx hy fun h' a1 a2 a3 a4 a5 a6 a7=>ZD (hQ h' a1 a2 a3 a4 a5 a6 a7)) (F.args_zip_next_1 _))))
theorem Ai{z TI TO i1 i2 l1 l2:Addr}{k1 k2:Nat}(hh:A.handled=none)(D:ZipApart z TI TO i1 i2 l1 l2)(hz:IsZip s.heap z TI TO .none)(Gg:IsPair s.heap TI (.ref i1) (.ref i2))(Kh:IsPair s.heap TO a b)(h1:nU s.heap i1 l1 xs k1)(h2:nU s.heap i2 l2 ys k2)(Kc:xs[k1]?=none\/ys[k2]?=none)(hQ: ∀h',(∀c o,c≠z->c≠TO->c≠i1->c≠i2->s.heap.get? c=some o->h'.get? c=some o)->Q none {s with heap:=h'}):wpAny (model prog w) A (pyNext (.ref z)) Q E s:=by
 have hT:s.TypeIs (.ref z) "zip":=⟨_,hz,rfl⟩;unfold pyNext;refine Zt (wpAny_attempt (ah0 (name:=Str.ofString "__next__") hT F.slot_zip_next (ak3 F.slot_zip_next hT F.entry_zip_next (yh hh D hz Gg Kh h1 h2 Kc fun h' e hk he=>?_) (F.args_zip_next_1 _))));obtain⟨o,ho,hc⟩:=he;refine Zt (wpAny_isInstance (T:="StopIteration") (b:=true) ⟨o,ho,hc⟩ isSubtype_stop ?_);exact ZD (hQ _ hk)
open AutoSeq1 (wpAny_loadPart')
noncomputable def za(b:Bool)(a:Addr):Obj:={cls:= .type (if b then "tuple_iterator" else "list_iterator"),data:= .fields #[.ref a,.int 0 0]}
def vW(b:Bool)(h:Heap)(a:Addr)(xs:Array Value):Prop:=match b with
 | true=>h.IsTuple a xs
 | false=>h.IsList a xs
noncomputable def fC(h:Heap)(b1 b2:Bool)(a1 a2:Addr):Heap:=(h.push (za b1 a1)).push (za b2 a2)
noncomputable def gK(h:Heap)(b1 b2:Bool)(a1 a2:Addr):Heap:=((fC h b1 b2 a1 a2).push {cls:= .type "tuple",data:= .seq #[.ref h.objs.size,.ref (h.push (za b1 a1)).objs.size]}).push {cls:= .type "tuple",data:= .seq #[.none,.none]}
noncomputable def du(h:Heap)(b1 b2:Bool)(a1 a2:Addr):Heap:=
 (gK h b1 b2 a1 a2).push {cls:= .type "zip",data:= .fields #[.none,.bool false,.bool false,.ref (fC h b1 b2 a1 a2).objs.size,.ref ((fC h b1 b2 a1 a2).push {cls:= .type "tuple",data:= .seq #[.ref h.objs.size,.ref (h.push (za b1 a1)).objs.size]}).objs.size]}
theorem Ik(b1 b2:Bool)(a1 a2:Addr)(xs ys:Array Value):
  Meets (Builtin.«zip.__new__» ⟨[.type "zip",.ref a1,.ref a2],[]⟩) (fun _ R s=>vW b1 s.heap a1 xs/\vW b2 s.heap a2 ys/\R (.ok (.ret (.ref (gK s.heap b1 b2 a1 a2).objs.size))) {s with heap:=du s.heap b1 b2 a1 a2}):=
 .of_wp fun prog w A R s h=>by
  obtain⟨hp,g,d,tk,os⟩:=s;obtain⟨h1,h2,h⟩:=h;have F6:=sub_zip;cases b1 <;> cases b2
  . have q1:Heap.IsList (Shared.heap ⟨hp,g,d,tk,os⟩) a1 xs:=h1;have q2:Heap.IsList (Shared.heap ⟨hp.push {cls:= .type "list_iterator",data:= .fields #[.ref a1, .int 0 0]},g,d,tk,os⟩) a2 ys:=Heap.IsList.push h2 _;wp_walk using aj9 q1,aj9 q2
    exact⟨_,rfl,h⟩
  . have q1:Heap.IsList (Shared.heap ⟨hp,g,d,tk,os⟩) a1 xs:=h1;have q2:Heap.IsTuple (Shared.heap ⟨hp.push {cls:= .type "list_iterator",data:= .fields #[.ref a1, .int 0 0]},g,d,tk,os⟩) a2 ys:=let ⟨o,e,r⟩:=h2;⟨o,Zv _ e,r⟩;wp_walk using aj9 q1,ae8 q2
    exact⟨_,rfl,h⟩
  . have q1:Heap.IsTuple (Shared.heap ⟨hp,g,d,tk,os⟩) a1 xs:=h1;have q2:Heap.IsList (Shared.heap ⟨hp.push {cls:= .type "tuple_iterator",data:= .fields #[.ref a1, .int 0 0]},g,d,tk,os⟩) a2 ys:=Heap.IsList.push h2 _;wp_walk using ae8 q1,aj9 q2
    exact⟨_,rfl,h⟩
  . have q1:Heap.IsTuple (Shared.heap ⟨hp,g,d,tk,os⟩) a1 xs:=h1;have q2:Heap.IsTuple (Shared.heap ⟨hp.push {cls:= .type "tuple_iterator",data:= .fields #[.ref a1, .int 0 0]},g,d,tk,os⟩) a2 ys:=let ⟨o,e,r⟩:=h2;⟨o,Zv _ e,r⟩;wp_walk using ae8 q1,ae8 q2
    exact⟨_,rfl,h⟩
def oP(b:Bool)(H:Hp)(a:Addr)(xs:List V):Prop:=match b with
 | true=>H a=some (.tup xs)
 | false=>H a=some (.lst xs)
theorem oP.inj(h:oP b H a xs)(k:oP b H a ys):xs=ys:=by
 cases b
 . have h:H a=some (.lst xs):=h;have k:H a=some (.lst ys):=k;rw[h] at k;cases k;rfl
 . have h:H a=some (.tup xs):=h;have k:H a=some (.tup ys):=k;rw[h] at k;cases k;rfl
theorem oP.some{b:Bool}{H:Hp}{a:Addr}{xs:List V}(h:oP b H a xs): ∃o,H a=some o:=by
 cases b
 . exact⟨_,h⟩
 . exact⟨_,h⟩
def zZ(b:Bool)(h:Heap)(it a:Addr)(k:Nat):Prop:=match b with
 | true=>h.IsTupleIter it a k
 | false=>h.IsListIter it a k
theorem zZ.obj(z:zZ b h it a k): ∃o,h.get? it=Option.some o/\ ∀v,o.data≠ .cell v:=by
 cases b
 . obtain⟨o,q,_,d⟩:=(show h.IsListIter it a k from z);exact⟨o,q,fun v y=>by rw[d] at y;cases y⟩
 . obtain⟨o,q,_,d⟩:=(show h.IsTupleIter it a k from z);exact⟨o,q,fun v y=>by rw[d] at y;cases y⟩
theorem zZ.keep{h h':Heap}(z:zZ b h it a k)(e: ∀o,h.get? it=Option.some o->h'.get? it=Option.some o):zZ b h' it a k:=by
 cases b
 . obtain⟨o,q,r⟩:=(show h.IsListIter it a k from z);exact(show h'.IsListIter it a k from⟨o,e o q,r⟩)
 . obtain⟨o,q,r⟩:=(show h.IsTupleIter it a k from z);exact(show h'.IsTupleIter it a k from⟨o,e o q,r⟩)
theorem zZ.Pe(z:zZ b h it a k)(q:vW b h a xs):nU h it a xs k:=by
 cases b
 . exact .inl ⟨z,q⟩
 . exact .inr ⟨z,q⟩
theorem Ci(z:nU h it a xs k)(q:vW b h a xs):zZ b h it a k:=by
 cases b
 . rcases z with ⟨z1,_⟩ | ⟨_,o,e1,e2,_⟩
   . exact z1
   . obtain⟨o',f1,f2,_⟩:=(show h.IsList a xs from q)
     rw[f1] at e1;cases e1;rw[f2] at e2;injection e2 with y;exact absurd y (by decide)
 . rcases z with ⟨_,o,e1,e2,_⟩ | ⟨z1,_⟩
   . obtain⟨o',f1,f2,_⟩:=(show h.IsTuple a xs from q)
     rw[f1] at e1;cases e1;rw[f2] at e2;injection e2 with y;exact absurd y (by decide)
   . exact z1
theorem Inv.Lr(I:Inv X pins σ H s)(h:oP b H a xs): ∃ao:List Value,Vals xs ao/\vW b s.heap a ao.toArray:=by
 cases b
 . obtain⟨ao,rv,pl,_⟩:=I.list (cY.of (show H a=Option.some (.lst xs) from h));exact⟨ao,rv,pl.isList⟩
 . obtain⟨ao,rv,pl,_⟩:=I.tuple (dG.of (show H a=Option.some (.tup xs) from h));exact⟨ao,rv,pl⟩
theorem Inv.yt{h':Heap}{t':Nat}{ch:List Addr}(I:Inv X pins σ H s)(hc: ∀b∈ch,cV X pins H b)(k: ∀b u,b∉ch->s.heap.get? b=some u->h'.get? b=some u):Inv X pins σ H {s with heap:=h',toks:=t'}:=by
 have yw: ∀b u,H b=some u->b∉ch:=fun b u e z=>by rw[(hc b z).1] at e;cases e
 refine I.step (g':=s.gens) (d':=s.drawn) (ch:=ch) (fun b hb=>?_) (fun b u _ _ hn e _=>k b u hn e) (fun b u _ _ hn e _=>⟨u.slots,k b u hn e⟩) (fun _ _ _ _ n=>n)
  (fun b u hn e=>⟨u,k b u hn e⟩) (fun _ _ e=>e) (fun _ _ _ e=>e) (fun b ps e=>⟨#[],by rw[e];simp⟩) (fun m hm=>?_) (fun b u e=>?_) I.bare
 . obtain⟨f0,f1,f2,f3,f4,f5⟩:=hc b hb;exact⟨f3,f1,f4,f5⟩
 . obtain⟨ob,es,ep,ho,r⟩:=hm;exact⟨ob,es,ep,k _ ob (fun z=>(hc _ z).2.1 rfl) ho,r⟩
 . refine(I.aT b u e).qc (fun c v Ew q=>k c v ?_ q) (fun c q=>q) fun c xs q=>q;rcases Ew with z | z
   . rw[z];exact yw b u e
   . exact yw c _ z
structure Z5(n:Nat):Prop where
 a:n+2≠n+4
 b:n+3≠n+4
 c:n≠n+4
 d:n+1≠n+4
 e:n+2≠n+3
 f:n+2≠n
 g:n+2≠n+1
 h:n+3≠n
 i:n+3≠n+1
 j:n≠n+1
theorem bE(n:Nat):Z5 n:=⟨by lia,by lia,by lia,by lia,by lia,by lia,by lia,by lia,by lia,by lia⟩
noncomputable def OY(b1 b2:Bool)(a1 a2:Addr):It:=
 ⟨fun i H=> ∃xs x ys y,oP b1 H a1 xs/\xs[i]?=some x/\oP b2 H a2 ys/\ys[i]?=some y,
  fun i H v H'=> ∃p x y,v= .ref p/\H p=none/\H'=upd H p (.tup [x,y])/\(∀xs,oP b1 H a1 xs->xs[i]?=some x)/\ ∀ys,oP b2 H a2 ys->ys[i]?=some y,
  fun i H=> ∃xs ys,oP b1 H a1 xs/\oP b2 H a2 ys/\(xs.length<=i\/ys.length<=i)⟩
theorem Ay{P:Program}{w:World}{K:PySem.W.Frag}{es:List Expr}{x1}{tp:Pos}(b1 b2:Bool)(a1 a2:Addr)(n:Nat):
  Turn P w K (.Tuple es x1 tp) (OY b1 b2 a1 a2) [n+4,n+2,n+3,n,n+1] (n+4) (fun i h=>IsZip h (n+4) (n+2) (n+3) .none/\IsPair h (n+2) (.ref n) (.ref (n+1))/\(∃a b,IsPair h (n+3) a b)/\zZ b1 h n a1 i/\zZ b2 h (n+1) a2 i) where
 mem:=by simp
 obj:=fun i h st b hb=>by
  obtain⟨z1,z2,⟨u,v,z3⟩,z4,z5⟩:=st;simp only [ZR,Zz,or_false] at hb;rcases hb with rfl | rfl | rfl | rfl | rfl
  . exact⟨_,z1,fun v y=>nomatch (show Data.fields _=Data.cell v from y)⟩
  . exact⟨_,z2,fun v y=>nomatch (show Data.seq _ _=Data.cell v from y)⟩
  . exact⟨_,z3,fun v y=>nomatch (show Data.seq _ _=Data.cell v from y)⟩
  . exact z4.obj
  . exact z5.obj
 keep:=fun i h h' st kk=>by
  obtain⟨z1,z2,⟨u,v,z3⟩,z4,z5⟩:=st;exact⟨kk _ (by simp) _ z1,kk _ (by simp) _ z2,⟨u,v,kk _ (by simp) _ z3⟩,z4.keep fun o q=>kk _ (by simp) o q,z5.keep fun o q=>kk _ (by simp) o q⟩
 item:=by
  intro X hP hw hK hc i pins s σ H E I hf st hg;subst hP hw hK;obtain⟨xs,x,ys,y,q1,hx,q2,hy⟩:=hg;obtain⟨ao,rv,p1⟩:=I.Lr q1;obtain⟨cq,n8,p2⟩:=I.Lr q2;obtain⟨u,hu,ru⟩:=rv.get hx;obtain⟨u2,RE,Mv⟩:=n8.get hy;obtain⟨z1,z2,⟨c1,c2,z3⟩,z4,z5⟩:=st;have ap: ∀{b:Bool} {a:Addr} {zs:List V},oP b H a zs-> ∀f∈ [n+4,n+2,n+3,n,n+1],a≠f:=fun hq f Ga e=>by
   obtain⟨o,q⟩:=hq.some;have:=(hf f Ga).1;rw[<-e,q] at this;cases this
  have D:ZipApart (n+4) (n+2) (n+3) n (n+1) a1 a2:=⟨(bE n).a,(bE n).b,(bE n).c,(bE n).d,(bE n).e,(bE n).f,(bE n).g,(bE n).h,(bE n).i,(bE n).j,ap q1 _ (by simp),ap q1 _ (by simp),ap q1 _ (by simp),ap q1 _ (by simp),ap q2 _ (by simp),ap q2 _ (by simp),ap q2 _ (by simp),ap q2 _ (by simp)⟩
  refine yi D z1 z2 z3 (z4.Pe p1) (z5.Pe p2) (x:=u) (y:=u2) (by simpa using hu) (by simpa using RE) fun h' e1 e2 e3 e4 e5 e6 e7=>⟨_,rfl,?_⟩
  refine wpAny_letOwnedTupleGo_zip e1 fun h2 g1 sb=>?_;have L1:n+4 < s.heap.objs.size:=ZW z1;have I1:Inv X pins σ (upd H s.heap.objs.size (.tup [x,y])) {s with heap:=h2,toks:=s.toks}:=by
   refine I.oW (ch:= [n+4,n+2,n+3,n,n+1]) hf (Zx _) (fun b o hb q=>?_) ⟨by show 2<=sizeLine;decide,[u,u2],.cons ru (.cons Mv .nil),?_⟩
   . have m: ∀f,f∈ [n+4,n+2,n+3,n,n+1]->b≠f:=fun f Ga e=>hb (e▸Ga);exact(sb.2 b (m _ (by simp))).trans (e7 b o (m _ (by simp)) (m _ (by simp)) (m _ (by simp)) (m _ (by simp)) q)
   . exact⟨_,(sb.2 _ (aj1 L1)).trans e5,rfl,rfl,_,rfl⟩
  have up: ∀b o,b≠n+4->h'.get? b=some o->h2.get? b=some o:=fun b o hb q=>(sb.2 b hb).trans q;have Hr: ∀{b:Bool} {a:Addr} {zs:Array Value} {ws:List V},oP b H a ws->vW b s.heap a zs->vW b h' a zs:=fun{b a zs ws} hq hs=>by
   have k: ∀o,s.heap.get? a=some o->h'.get? a=some o:=fun o q=>e7 a o (ap hq _ (by simp)) (ap hq _ (by simp)) (ap hq _ (by simp)) (ap hq _ (by simp)) q;cases b
   . obtain⟨o,f1,f2⟩:=(show s.heap.IsList a zs from hs);exact(show h'.IsList a zs from⟨o,k o f1,f2⟩)
   . obtain⟨o,f1,f2⟩:=(show s.heap.IsTuple a zs from hs);exact(show h'.IsTuple a zs from⟨o,k o f1,f2⟩)
  refine⟨.ref s.heap.objs.size,_,I1,rfl,⟨_,x,y,rfl,I.aT.fresh (Zx _),rfl,fun zs hz=>by rw[hz.inj q1];exact hx,fun zs hz=>by rw[hz.inj q2];exact hy⟩,⟨g1,?_,⟨u,u2,up _ _ (bE n).b e2⟩,?_,?_⟩,fun b hb=>?_⟩
  . exact up _ _ (bE n).a (e7 _ _ (bE n).a (bE n).e (bE n).f (bE n).g z2)
  . exact(Ci e3 (Hr q1 p1)).keep fun o q=>up _ o (bE n).c q
  . exact(Ci e4 (Hr q2 p2)).keep fun o q=>up _ o (bE n).d q
  . rw[ah (fun z=>?_)]
    . exact(hf b hb).1
    . have Vw:n+4 < s.heap.objs.size:=L1;have: ∀f:Nat,f∈ [n+4,n+2,n+3,n,n+1]->f < s.heap.objs.size:=fun f Ga=>by
       simp only [ZR,Zz,or_false] at Ga;lia
      exact absurd (z▸this b hb) (ab5 _)
 done:=by
  intro X hP hw hK hc i pins s σ H E I hf st hg;subst hP hw hK;obtain⟨xs,ys,q1,q2,hx⟩:=hg;obtain⟨ao,rv,p1⟩:=I.Lr q1;obtain⟨cq,n8,p2⟩:=I.Lr q2;have l1:=rv.length;have l2:=n8.length;obtain⟨z1,z2,⟨c1,c2,z3⟩,z4,z5⟩:=st;have ap: ∀{b:Bool} {a:Addr} {zs:List V},oP b H a zs-> ∀f∈ [n+4,n+2,n+3,n,n+1],a≠f:=fun hq f Ga e=>by
   obtain⟨o,q⟩:=hq.some;have:=(hf f Ga).1;rw[<-e,q] at this;cases this
  have D:ZipApart (n+4) (n+2) (n+3) n (n+1) a1 a2:=⟨(bE n).a,(bE n).b,(bE n).c,(bE n).d,(bE n).e,(bE n).f,(bE n).g,(bE n).h,(bE n).i,(bE n).j,ap q1 _ (by simp),ap q1 _ (by simp),ap q1 _ (by simp),ap q1 _ (by simp),ap q2 _ (by simp),ap q2 _ (by simp),ap q2 _ (by simp),ap q2 _ (by simp)⟩
  refine Ai (I.ok.hd hc) D z1 z2 z3 (z4.Pe p1) (z5.Pe p2) (hx.elim (fun h=> .inl (by rw[List.getElem?_toArray];exact ab6 (by lia))) fun h=> .inr (by rw[List.getElem?_toArray];exact ab6 (by lia))) fun h' kk=>⟨rfl,?_⟩
  refine I.yt (ch:= [n+4,n+2,n+3,n,n+1]) hf fun b o hb q=>?_;have m: ∀f,f∈ [n+4,n+2,n+3,n,n+1]->b≠f:=fun f Ga e=>hb (e▸Ga);exact kk b o (m _ (by simp)) (m _ (by simp)) (m _ (by simp)) (m _ (by simp)) q
 self:=fun A i s Q E st h=>wpAny_pyIter_zip st.1 h
theorem zB:bootBuiltins "zip"=some (.type "zip"):=by decide+kernel
def Nf(ta:TA):TI:=fun σ H R=>ta σ H fun vs H1=> ∃b1 b2 a1 a2 xs ys,vs= [.ref a1,.ref a2]/\oP b1 H1 a1 xs/\oP b2 H1 a2 ys/\R (OY b1 b2 a1 a2) H1
theorem uA{x1}(I:Inv X pins σ H s)(q:R (OY b1 b2 a1 a2) H):
  wpAny (model X.prog X.w) X.A (pyIter (.ref (gK s.heap b1 b2 a1 a2).objs.size)) (PY X pins σ (.Tuple es x1 tp) R) E {s with heap:=du s.heap b1 b2 a1 a2,toks:=tk}:=by
 have z1:(s.heap.push (za b1 a1)).objs.size=s.heap.objs.size+1:=ac4 ..;have z2:(fC s.heap b1 b2 a1 a2).objs.size=s.heap.objs.size+2:=by unfold fC;rw[ac4,z1]
 have z3:((fC s.heap b1 b2 a1 a2).push {cls:= .type "tuple",data:= .seq #[.ref s.heap.objs.size,.ref (s.heap.push (za b1 a1)).objs.size]}).objs.size=s.heap.objs.size+3:=by rw[ac4,z2]
 have z4:(gK s.heap b1 b2 a1 a2).objs.size=s.heap.objs.size+4:=by unfold gK;rw[ac4,z3]
 have keep: ∀c o,s.heap.get? c=some o->(du s.heap b1 b2 a1 a2).get? c=some o:=fun c o e=>by
  unfold du gK fC;exact Zv _ (Zv _ (Zv _ (Zv _ (Zv _ e))))
 have g5:IsZip (du s.heap b1 b2 a1 a2) (s.heap.objs.size+4) (s.heap.objs.size+2) (s.heap.objs.size+3) .none:=by
  have:=ZP (gK s.heap b1 b2 a1 a2) (o:={cls:= .type "zip",data:= .fields #[.none,.bool false,.bool false,.ref (fC s.heap b1 b2 a1 a2).objs.size,.ref ((fC s.heap b1 b2 a1 a2).push {cls:= .type "tuple",data:= .seq #[.ref s.heap.objs.size,.ref (s.heap.push (za b1 a1)).objs.size]}).objs.size]}) rfl;rw[z4,z2,z3] at this;unfold du;rw[z2,z3];exact this
 have g3:IsPair (du s.heap b1 b2 a1 a2) (s.heap.objs.size+2) (.ref s.heap.objs.size) (.ref (s.heap.objs.size+1)):=by
  have:=ZP (fC s.heap b1 b2 a1 a2) (o:={cls:= .type "tuple",data:= .seq #[.ref s.heap.objs.size,.ref (s.heap.push (za b1 a1)).objs.size]}) rfl;rw[z2] at this;have h2:(du s.heap b1 b2 a1 a2).get? (s.heap.objs.size+2)=some {cls:= .type "tuple",data:= .seq #[.ref s.heap.objs.size,.ref (s.heap.push (za b1 a1)).objs.size]}:=by
   unfold du gK;exact Zv _ (Zv _ this)
  rw[z1] at h2;exact h2
 have g4:IsPair (du s.heap b1 b2 a1 a2) (s.heap.objs.size+3) .none .none:=by
  have:=ZP ((fC s.heap b1 b2 a1 a2).push {cls:= .type "tuple",data:= .seq #[.ref s.heap.objs.size,.ref (s.heap.push (za b1 a1)).objs.size]}) (o:={cls:= .type "tuple",data:= .seq #[.none,.none]}) rfl;rw[z3] at this;unfold du gK;exact Zv _ this
 have i1:zZ b1 (du s.heap b1 b2 a1 a2) s.heap.objs.size a1 0:=by
  have h:(du s.heap b1 b2 a1 a2).get? s.heap.objs.size=some (za b1 a1):=by
   unfold du gK fC;refine Zv _ (Zv _ (Zv _ (Zv _ (ZP _ ?_))));cases b1 <;> rfl
  cases b1
  . exact(show Heap.IsListIter _ _ _ _ from⟨_,h,rfl,rfl⟩)
  . exact(show Heap.IsTupleIter _ _ _ _ from⟨_,h,rfl,rfl⟩)
 have i2:zZ b2 (du s.heap b1 b2 a1 a2) (s.heap.objs.size+1) a2 0:=by
  have h:(du s.heap b1 b2 a1 a2).get? (s.heap.push (za b1 a1)).objs.size=some (za b2 a2):=by
   unfold du gK fC;refine Zv _ (Zv _ (Zv _ (ZP _ ?_)));cases b2 <;> rfl
  rw[z1] at h;cases b2
  . exact(show Heap.IsListIter _ _ _ _ from⟨_,h,rfl,rfl⟩)
  . exact(show Heap.IsTupleIter _ _ _ _ from⟨_,h,rfl,rfl⟩)
 rw[z4];refine wpAny_pyIter_zip g5 ?_;refine⟨s.heap.objs.size+4,_,_,OY b1 b2 a1 a2,H,rfl,I.kept keep,Ay b1 b2 a1 a2 s.heap.objs.size,⟨g5,g3,⟨_,_,g4⟩,i1,i2⟩,fun c hc=>?_,q⟩;have hle:s.heap.objs.size<=c:=by
  have: ∀n f:Nat,f∈ [n+4,n+2,n+3,n,n+1]->n<=f:=fun n f hf=>by
   simp only [ZR,Zz,or_false] at hf;omega
  exact this _ _ hc
 exact I.gE hle (I.aT.fresh hle)
theorem qC{x1}(hg:Gl X "zip")(hm:X.mg "zip"=none)(ha:PA X [e,f] t)(hs:starEach [e,f] X.env= [(false,eval e X.env),(false,eval f X.env)]:=by rfl)(jf:starEach [f] X.env= [(false,eval f X.env)]:=by rfl):
  PI X (.Tuple es x1 tp) (.Call (.Name "zip" p) [e,f] [] pos) (Nf t):=by
 intro pins s σ H R I h;refine Call_ (eC I hg hm zB (ah4 (aU (ha pos pins s σ H _ I h) fun us s1 ck=>?_) (by rw[hs,jf]) (by rw[jf];rfl)));obtain⟨vs,H1,I1,r1,q1⟩:=ck;obtain⟨b1,b2,a1,a2,xs,ys,rfl,k1,k2,q⟩:=q1;obtain⟨u,u2,rfl,ru,Mv⟩:=vals2 r1;cases ru;cases Mv;obtain⟨ao,rv,p1⟩:=I1.Lr k1;obtain⟨cq,n8,p2⟩:=I1.Lr k2;exact nK F.called_zip (by decide) (F.typeCall_zip_2 _ _) (F.newCall_zip_2 _ _) (fun obj=>F.args_object_init_3 obj _ _) F.entry_zip_new (Ik b1 b2 a1 a2 ao.toArray cq.toArray) ⟨p1,p2,⟨_,ZP _ rfl,rfl⟩,uA I1 q⟩
end L2
namespace LW
open PySem PySem.Spec PyProof.Rows HT L2
def v7:V->Prop
 | .aD=>True
 | .bl _=>True
 | .int i=>i.natAbs < 2^140
 | .str x=>x.length<=15/\ ∀c∈x.cps.toList,c < 16^8
 | _=>False
def Td(c:Addr->Prop)(H:Hp):Nat->V->Prop
 | 0,v=>v7 v
 | k+1,v=>Td c H k v\/ ∃a xs,v= .ref a/\((H a=some (.lst xs)/\c a)\/H a=some (.tup xs))/\ ∀x∈xs,Td c H k x
theorem Td.tup{c:Addr->Prop}{a:Addr}{H:Hp}{xs:List V}{k:Nat}(h:H a=some (.tup xs))(e: ∀x∈xs,Td c H k x):Td c H (k+1) (.ref a):= .inr ⟨a,xs,rfl,.inr h,e⟩
theorem Td.lst{c:Addr->Prop}{a:Addr}{H:Hp}{xs:List V}{k:Nat}(h:H a=some (.lst xs))(n:c a)(e: ∀x∈xs,Td c H k x):Td c H (k+1) (.ref a):= .inr ⟨a,xs,rfl,.inl ⟨h,n⟩,e⟩
theorem Td.kind: ∀{k:Nat},Td c H k v->v7 v\/ ∃a xs,v= .ref a/\((H a=some (.lst xs)/\c a)\/H a=some (.tup xs))
 | 0,h=> .inl h
 | k+1,h=>by
  rcases h with h | ⟨a,xs,e,q,_⟩
  . exact h.kind
  . exact .inr ⟨a,xs,e,q⟩
noncomputable def dat(H:Hp):Nat->V->PyData
 | _,.aD=> .none
 | _,.bl b=> .bool b
 | _,.int i=> .int i
 | _,.str x=> .str x
 | m+1,.ref a=>match H a with
  | some (.lst xs)=> .list (xs.map (dat H m))
  | some (.tup xs)=> .tuple (xs.map (dat H m))
  | _=> .none
 | _,_=> .none
noncomputable def wt(H:Hp):Nat->V->Nat
 | m+1,.ref a=>match H a with
  | some (.lst xs)=>3+(xs.map fun x=>wt H m x+2).sum
  | some (.tup xs)=>3+(xs.map fun x=>wt H m x+2).sum
  | _=>200
 | _,_=>200
theorem Al(h:v7 v):wt H m v=200:=by
 cases v <;> first | (cases m <;> rfl) | exact h.elim
theorem Ak(h:H a=some (.lst xs)):wt H (m+1) (.ref a)=3+(xs.map fun x=>wt H m x+2).sum:=by
 simp only [wt,h]
theorem Aj(h:H a=some (.tup xs)):wt H (m+1) (.ref a)=3+(xs.map fun x=>wt H m x+2).sum:=by
 simp only [wt,h]
theorem qZ(h:H a=some (.lst xs)):dat H (m+1) (.ref a)= .list (xs.map (dat H m)):=by
 simp only [dat,h]
theorem qY(h:H a=some (.tup xs)):dat H (m+1) (.ref a)= .tuple (xs.map (dat H m)):=by
 simp only [dat,h]
structure EB(k n:Nat)(d:PyData):Prop where
 ok:d.showable=true
 nd:d.hasDict=false
 dp:d.depth<=k
 len:d.shown.length<=n
theorem EB.up(h:EB k n d)(e:k<=m):EB m n d:=⟨h.ok,h.nd,ZZ h.dp e,h.len⟩
theorem rK: ∀{ds:List PyData},(∀d∈ds,d.showable=true)->PyData.showableAll ds=true
 | [],_=>rfl
 | d::r,h=>by
  rw[PyData.showableAll,h d ZI,rK fun x hx=>h x (ZF _ hx)];rfl
theorem kE: ∀{ds:List PyData},(∀d∈ds,d.hasDict=false)->PyData.hasDictAll ds=false
 | [],_=>rfl
 | d::r,h=>by
  rw[PyData.hasDictAll,h d ZI,kE fun x hx=>h x (ZF _ hx)];rfl
theorem nP: ∀{ds:List PyData},(∀d∈ds,d.depth<=k)->PyData.depthAll ds<=k
 | [],_=>Z7 _
 | d::r,h=>by
  rw[PyData.depthAll];exact Nat.max_le.mpr ⟨h d ZI,nP fun x hx=>h x (ZF _ hx)⟩
theorem DT{f:V->PyData}{g:V->Nat}: ∀{xs:List V},(∀x∈xs,(f x).shown.length<=g x)->((PyData.shownAll (xs.map f)).map (·.length)).sum+2*(PyData.shownAll (xs.map f)).length<=(xs.map fun x=>g x+2).sum
 | [],_=>by simp [PyData.shownAll]
 | x::r,h=>by
  have ih:=DT (f:=f) (g:=g) (xs:=r) fun y hy=>h y (ZF _ hy);have:=h x ZI;rw[ZT,PyData.shownAll,ZT,List.sum_cons,ZG,ZT,List.sum_cons];omega
theorem Td.QU: ∀{k m:Nat} {v:V},Td c H k v->k<=m->EB k (wt H m v) (dat H m v)
 | 0,m,v,h,_=>by
  rw[Al h];cases v with
  | aD=>
   have q:EB 0 200 .none:=⟨rfl,rfl,Zx _,by decide+kernel⟩
   cases m <;> exact q
  | bl b=>
   have q:EB 0 200 (.bool b):=by cases b <;> exact⟨rfl,rfl,Zx _,by decide+kernel⟩
   cases m <;> exact q
  | int i=>
   have h:i.natAbs < 2^140:=h;have hl:i.natAbs.log2 < 1920:=by
    by_cases z:i.natAbs=0
    . rw[z];decide
    . rw[Nat.log2_lt z];exact ZU h (Nat.pow_le_pow_right (by decide) (by decide))
   have q:EB 0 200 (.int i):=⟨by show decide (i.natAbs.log2 < 1920)=true;exact Z9 hl,rfl,Zx _,by
    have e:=int_text_length_le10 (a:=i) (k:=60) (by decide) (ZU h (by decide));show(Str.ofString (toString i)).length<=200;rw[PySem.ofString_length];omega⟩
   cases m <;> exact q
  | str x=>
   have q:EB 0 200 (.str x):=⟨rfl,rfl,Zx _,by
    have:=StrLaws.reprText_len x h.2;have:=h.1;show(reprText x).length<=_;omega⟩
   cases m <;> exact q
  | _=>exact h.elim
 | k+1,0,_,_,hk=>absurd hk (by omega)
 | k+1,m+1,v,h,hk=>by
  rcases h with h | ⟨a,xs,rfl,q,r⟩
  . exact(Td.QU h (by omega)).up (al3 _)
  . have all: ∀x∈xs,EB k (wt H m x) (dat H m x):=fun x hx=>Td.QU (r x hx) (by omega);have zI: ∀d∈xs.map (dat H m),∃n,EB k n d:=fun d hd=>by
     obtain⟨x,hx,rfl⟩:=ZL.mp hd;exact⟨_,all x hx⟩
    have hlen:=DT (f:=dat H m) (g:=wt H m) (xs:=xs) fun x hx=>(all x hx).len;rcases q with ⟨q,n⟩ | q
    . rw[qZ q,Ak q];exact⟨rK fun d hd=>(zI d hd).elim fun _ z=>z.ok,kE fun d hd=>(zI d hd).elim fun _ z=>z.nd,ai1 (nP fun d hd=>(zI d hd).elim fun _ z=>z.dp),by have:=listText_len_le (PyData.shownAll (xs.map (dat H m)));exact ZZ this (by omega)⟩
    . rw[qY q,Aj q];exact⟨rK fun d hd=>(zI d hd).elim fun _ z=>z.ok,kE fun d hd=>(zI d hd).elim fun _ z=>z.nd,ai1 (nP fun d hd=>(zI d hd).elim fun _ z=>z.dp),by have:=tupleText_len_le (PyData.shownAll (xs.map (dat H m)));exact ZZ this (by omega)⟩
theorem Bc(a:v7 v)(r:RelV v u):Reads h u (dat H m v) []:=by
 cases v with
 | aD=>cases (show u=Value.none from r);cases m <;> exact .none
 | bl b=>cases (show u=Value.bool b from r);cases m <;> exact .bool b
 | int i=>obtain⟨t,rfl⟩:=(show∃t,u=Value.int i t from r);cases m <;> exact .int i t
 | str x=>obtain⟨t,rfl⟩:=(show∃t,u=Value.str x t from r);cases m <;> exact .str x t
 | _=>exact a.elim
theorem readsAll: ∀{xs:List V} {us:List Value},Vals xs us->(∀x∈xs,∀u,RelV x u-> ∃as,Reads h u (f x) as)-> ∃as,ReadsAll h us (xs.map f) as
 | _,_,.nil,_=>⟨[],.nil⟩
 | _,_,.cons r t,k=>by
  obtain⟨a1,r1⟩:=k _ ZI _ r;obtain⟨a2,r2⟩:=readsAll t fun x hx=>k x (ZF _ hx);exact⟨_,.cons r1 r2⟩
theorem Td.reads(ok:gI P w H h): ∀{k m:Nat} {v:V} {u:Value},Td c H k v->k<=m->RelV v u-> ∃as,Reads h u (dat H m v) as
 | 0,_,_,_,a,_,r=>⟨_,Bc a r⟩
 | k+1,0,_,_,_,hk,_=>absurd hk (by omega)
 | k+1,m+1,v,u,a,hk,r=>by
  rcases a with a | ⟨p,xs,rfl,q,rr⟩
  . exact Td.reads ok a (by omega) r
  . cases (show u=Value.ref p from r);rcases q with ⟨q,n⟩ | q
    . obtain⟨_,ao,n',rv,e⟩:=(show a0 P w H h p (.lst xs) from ok p _ q)
      obtain⟨as,ra⟩:=readsAll (f:=dat H m) rv fun x hx u ru=>Td.reads ok (rr x hx) (by omega) ru;rw[qZ q];exact⟨_,.list e rfl rfl (by simpa using ra)⟩
    . obtain⟨_,ao,rv,o,e1,e2,_,n',e3⟩:=(show a0 P w H h p (.tup xs) from ok p _ q)
      obtain⟨as,ra⟩:=readsAll (f:=dat H m) rv fun x hx u ru=>Td.reads ok (rr x hx) (by omega) ru;rw[qY q];exact⟨_,.tuple e1 e2 e3 (by simpa using ra)⟩
end LW
namespace LW
open PySem L2 LB PyProof.Rows
theorem aC.none{H H':Hp}{a:Addr}(s:aC H H')(h:H' a=none):H a=none:=by
 cases e:H a with
 | none=>rfl
 | some o=>rw[s _ _ e] at h;cases h
theorem vK:bootBuiltins "repr"=some (.builtin "repr"):=by decide+kernel
end LW
namespace fL
open PySem PySem.W PyProof.Rows
section
variable{prog:Program}{w:World}{A:Around}{E:Value->Shared->Prop}{z:Shared}{K:Nat->Int}{vs:List Value}
structure Ask(prog:Program)(w:World)(A:Around)(vs:List Value)(K:Nat->Int)(z:Shared)(κ:SortKind):Prop where
 kind: ∀Q:SortKind->Shared->Prop,Q κ z->wpAny (model prog w) A (keyKind' vs.toArray) Q (fun _ _=>False) z
 ask:Vs vs.length K (kas_ask prog w A κ vs) z
noncomputable def outs(vs:List Value)(p:Array Nat):Array Value:=List.toArray (p.toList.map fun i=>vs.getD i Value.none)
theorem BH(hp:Pm vs.length p):(outs vs p).size=vs.length:=by
 unfold outs;rw[ZH,Zu,ZQ,hp.sz]
theorem Fx:((vs.toArray.zip vs.toArray).map fun q:Keyed=>q.2)=outs vs (List.range vs.length).toArray:=by
 apply ak6.mp;unfold outs;apply af0
 . simp
 . intro i h1 h2;have hi:i < vs.length:=by simpa using h1
   simp [hi]
end
end fL
namespace fL
open PySem PySem.W PyProof.Rows eZ
theorem mU{α β:Type}{f:α->β}{l k:List β}(h:l.Perm k): ∀{m:List α},k=m.map f-> ∃m':List α,m'.Perm m/\l=m'.map f:=by
 induction h with
 | nil=>
  intro m e;cases m with
  | nil=>exact⟨[],List.Perm.refl _,rfl⟩
  | cons a b=>cases e
 | cons x _ ih=>
  intro m e;cases m with
  | nil=>cases e
  | cons a m=>
   obtain⟨e1,e2⟩:=List.cons.inj e;obtain⟨m',p,e3⟩:=ih e2;exact⟨a::m',p.cons a,by rw[ZT,<-e3,e1]⟩
 | swap x y l=>
  intro m e;match m,e with
  | a::b::m,e=>
   obtain⟨e1,e2⟩:=List.cons.inj e;obtain⟨e3,e4⟩:=List.cons.inj e2;exact⟨b::a::m,List.Perm.swap _ _ _,by rw[ZT,ZT,e1,e3,e4]⟩
 | trans _ _ Wt Wr=>
  intro m e;obtain⟨m',p,e1⟩:=Wr e;obtain⟨m2,p2,e2⟩:=Wt e1;exact⟨m2,p2.trans p,e2⟩
open Classical in
noncomputable def El(a:Array Keyed)(x:Keyed):Nat:=if h: ∃i:Nat,a[i]?=some x then choose h else 0
theorem vc(h: ∃i:Nat,a[i]?=some x):a[El a x]?=some x:=by
 unfold El;rw[dif_pos h];exact Classical.choose_spec h
section
variable{prog:Program}{w:World}{A:Around}{E:Value->Shared->Prop}{z:Shared}{K:Nat->Int}{vs:List Value}
theorem Rj{a₀:Array Keyed}(hc:Vs vs.length K (kas_ask prog w A κ vs) z)(hs:a₀.size=vs.length)(ha: ∀(i:Nat) x,a₀[i]?=some x->x.1=vs.getD i Value.none):oQ prog w A E z κ (fun x=>K (El a₀ x)) (fun x=> ∃i:Nat,a₀[i]?=some x):=by
 intro st x y Q hk hx hy q;have ex:=vc hx;have ey:=vc hy;have e1:=ha _ _ ex;have e2:=ha _ _ ey;have l1:El a₀ x < vs.length:=by rw[<-hs];exact(aj8.mp ex).1
 have l2:El a₀ y < vs.length:=by rw[<-hs];exact(aj8.mp ey).1
 obtain⟨x1,x2⟩:=x;obtain⟨y1,y2⟩:=y;rw[lt'_eq];refine ZA (al6 ?_);rw[hk];dsimp only at e1 e2;have:=hc _ _ l1 l2 (fun b z'=>b=decide (K (El a₀ (x1,x2)) < K (El a₀ (y1,y2)))/\z'=z) ⟨rfl,rfl⟩;unfold kas_ask at this;rw[<-e1,<-e2] at this;refine ZA (wpS_lift (wpAny_attempt (Z6 this (fun b z' hb=>?_) (fun _ _ f=>f.elim))));obtain⟨rfl,rfl⟩:=hb;exact⟨rfl,ZC q⟩
end
section
variable{prog:Program}{w:World}{A:Around}{E:Value->Shared->Prop}{z:Shared}{K:Nat->Int}{vs:List Value}
noncomputable def jD(h:Heap)(a:Addr)(vs:List Value):Heap:=((h.update a (Obj.mapSeq fun _=>(#[]:Array Value))).push (seqObj "tuple" vs.toArray 0)).push (seqObj "list" #[] 0)
theorem pG (J : List Value -> Shared -> Prop) (hl : vs.length <= 100000) (hb : ∀ x ks e (s : Shared), ks.length < vs.length -> vs[ks.length]? = some x -> J ks s -> s.heap.get? kS = some (seqObj "list" (List.toArray ks) e) -> s.heap.get? a = some oa ->
   wpAny (model prog w) A (body x ⟨⟩) (fun r s'=>r= .yield ⟨⟩/\ ∃k c,s'.heap.get? kS=some (seqObj "list" (List.toArray (ks++ [k])) c)/\s'.heap.get? a=some oa/\J (ks++ [k]) s') E s):
  ∀(r pre ks:List Value) (e:Nat) (s:Shared),vs=pre++r->ks.length=pre.length->s.heap.get? kS=some (seqObj "list" (List.toArray ks) e)->s.heap.get? a=some oa->J ks s->
   wpAny (model prog w) A (forIn r PUnit.unit body) (fun _ s'=> ∃ks e,s'.heap.get? kS=some (seqObj "list" (List.toArray ks) e)/\s'.heap.get? a=some oa/\ks.length=vs.length/\J ks s') E s
 | [],pre,ks,e,s,hv,hl,hk,ha,h=>by
  rw[List.forIn_nil];exact ZD ⟨ks,e,hk,ha,by rw[hv,ab2];exact hl,h⟩
 | x::r,pre,ks,e,s,hv,F8,hk,ha,h=>by
  rw[List.forIn_cons];have lx:ks.length < vs.length:=by rw[hv,F8,ZK,ZG];omega
  refine Zt (Z6 (hb x ks e s lx (by rw[hv,F8];simp) h hk ha) (fun q s' hq=>?_) fun _ _ x=>x);obtain⟨rfl,k,c,Er,vg,h2⟩:=hq;show wpAny (model prog w) A (forIn r PUnit.unit body) _ E s';exact pG J hl hb r (pre++ [x]) (ks++ [k]) c s' (by rw[hv];simp) (by simp [F8]) Er vg h2
theorem yA(J:List Value->Shared->Prop)(ho:z.heap.get? a=some (seqObj "list" vs.toArray m))(hl:vs.length<=100000)(j0:J [] {z with heap:=jD z.heap a vs})(jk: ∀ks s' h',J ks s'->(∀c o,c≠z.heap.objs.size+1->s'.heap.get? c=some o->h'.get? c=some o)->(∃ks e,h'.get? (z.heap.objs.size+1)=some (seqObj "list" (List.toArray ks) e))->J ks {s' with heap:=h'})(turn: ∀v ks s',ks.length < vs.length->vs[ks.length]?=some v->J ks s'->wpAny (model prog w) A (call (.ref q) [v]) (fun k rX=>J (ks++ [k]) rX/\ ∀o,(s'.heap.get? a=some o->rX.heap.get? a=some o)/\(s'.heap.get? (z.heap.objs.size+1)=some o->rX.heap.get? (z.heap.objs.size+1)=some o)) (fun _ _=>False) s')(hK: ∀ks s',J ks s'->ks.length=vs.length-> ∀i j,i < vs.length->j < vs.length->ks.getD i Value.none=ks.getD j Value.none->vs.getD i Value.none=vs.getD j Value.none->K i=K j)(hk: ∀ks s',J ks s'->ks.length=vs.length->2<=vs.length-> ∃κ,Ask prog w A ks K s' κ)(h: ∀ks s' p h',J ks s'->ks.length=vs.length->Pm vs.length p->P1 K p vs.length->(∀c o,c≠z.heap.objs.size+1->c≠a->s'.heap.get? c=some o->h'.get? c=some o)->(∃e,h'.get? a=some (seqObj "list" (outs vs p) e))->P (.done (.ret .none)) {s' with heap:=h'}):
  wpAny (model prog w) A (ksk_tree a (.ref q) false) P E z:=by
 have la:a < z.heap.objs.size:=ZW ho;obtain⟨e1,Po⟩: ∃e1,(z.heap.update a (Obj.mapSeq fun _=>(#[]:Array Value))).get? a=some (seqObj "list" #[] e1):=⟨_,am3 ho fun _=> #[]⟩
 have hsz:((z.heap.update a (Obj.mapSeq fun _=>(#[]:Array Value))).push (seqObj "tuple" vs.toArray 0)).objs.size=z.heap.objs.size+1:=by rw[size_push',Heap.size_update]
 have gk:(jD z.heap a vs).get? (z.heap.objs.size+1)=some (seqObj "list" #[] 0):=by
  rw[<-hsz];exact ZP _ rfl
 have ga:(jD z.heap a vs).get? a=some (seqObj "list" #[] e1):=Zv _ (Zv _ Po);have ak:z.heap.objs.size+1≠a:=aj1 (ah2 la);have fit: ∀p,Pm vs.length p->(outs vs p).size<=sizeLine+1:=fun p hp=>by rw[BH hp,ag6];omega
 unfold ksk_tree;refine Zt (listItems_at ho rfl ?_);refine Zt (listUpdate_at ho rfl ?_ (by rw[ZH,ag6];omega) (Z7 _));refine Zt (seqEpoch_at Po rfl ?_);refine Zt (wpAny_newTuple ?_ (by show vs.length<=_;rw[ag6];omega));refine Zt (wpAny_newList ?_ (Z7 _));refine ad4 ?_;show wpAny _ _ _ _ _ {z with heap:=jD z.heap a vs};rw[hsz];unfold ksk_rest;refine Zt (af6 ?_);first
  | rw[List.forIn_toArray]
  | (rw[<-Array.forIn_toList];simp only [List.toList_toArray])
  | rw[<-Array.forIn_toList]
 refine Zt (Z6 (pG (a:=a) (kS:=z.heap.objs.size+1) J hl (fun x ks e s' dr hx hJ xr ha=>?_) vs [] [] 0 _ rfl rfl gk ga j0) (fun _ s' hd=>?_) fun _ _ x=>x)
 . refine Zt (wpAny_attempt (Z6 (turn x ks s' dr hx hJ) (fun k rX hk=>?_) fun _ _ hF=>hF.elim));obtain⟨Xe,kp⟩:=hk;have nk:=(kp _).2 xr;have na:=(kp _).1 ha;have s1:=ah6 rX.heap (z.heap.objs.size+1) (Obj.mapSeq (·.push k));have ea:(List.toArray ks).push k=List.toArray (ks++ [k]):=by simp
   obtain⟨c2,Eu⟩: ∃c2,(rX.heap.update (z.heap.objs.size+1) (Obj.mapSeq (·.push k))).get? (z.heap.objs.size+1)=some (seqObj "list" (List.toArray (ks++ [k])) c2):=⟨_,by rw[<-ea];exact am3 nk (·.push k)⟩
   try dsimp only
   refine Zt (listUpdate_at nk rfl ?_ (by rw[ZH,ag6];omega) (ZZ (Nat.le_of_eq (Array.size_push ..)) (by rw[ZH,ag6];omega)));exact ZD ⟨rfl,k,c2,Eu,(s1.2 a ak.symm).trans na,jk _ _ _ Xe (fun c o hc e=>(s1.2 c hc).trans e) ⟨_,_,Eu⟩⟩
 . obtain⟨ks,e,xr,ha,hlen,hJ⟩:=hd;try dsimp only
   refine Zt (listItems_at xr rfl ?_);unfold ksk_end;try dsimp only
   simp only [am6,if_false];have s2:=ah6 s'.heap (z.heap.objs.size+1) (Obj.mapSeq fun _=>(#[]:Array Value));have na:(s'.heap.update (z.heap.objs.size+1) (Obj.mapSeq fun _=>(#[]:Array Value))).get? a=some (seqObj "list" #[] e1):=(s2.2 a ak.symm).trans ha;have tail: ∀st:SortSt,∀p,failedOf st=none->(arrOf st).map (·.2)=outs vs p->Pm vs.length p->P1 K p vs.length->wpAny (model prog w) A (ksk_tail a false e1 (.ref (z.heap.objs.size+1)) st) P E s':=fun st p hf J1 pm asc=>by
    unfold ksk_tail;try dsimp only
    rw[J1,hf];refine Zt (listUpdate_at xr rfl ?_ (by rw[ZH,ag6];omega) (Z7 _));refine Zt (al2 ?_);refine Zt (seqEpoch_at na rfl ?_);simp only [am6,if_false];refine Zt (listUpdate_at na rfl ?_ (Z7 _) (fit _ pm));simp only [bne_self_eq_false,am6,if_false];have s3:=ah6 (s'.heap.update (z.heap.objs.size+1) (Obj.mapSeq fun _=>(#[]:Array Value))) a (Obj.mapSeq fun _=>outs vs p);exact ZD (h ks s' p _ hJ hlen pm asc (fun c o c1 c2 e=>(s3.2 c c2).trans ((s2.2 c c1).trans e)) ⟨_,am3 na fun _=>outs vs p⟩)
   have zs:((List.toArray ks).zip vs.toArray).size=vs.length:=by simp [hlen]
   by_cases c2:vs.toArray.size < 2
   . rw[if_pos c2,if_pos c2];refine Zt (ZD ?_);rw[StateT.run_pure];refine Zt (ZD ?_);dsimp only;have pm:Pm vs.length (List.range vs.length).toArray:=⟨Array.Perm.refl _⟩
     refine tail _ _ rfl ?_ pm fun i j x y=>by
      have:i=j:=by rw[ZH] at c2;omega
      subst this;exact ae6 _
     rw[<-Fx (vs:=vs)];show Array.map _ ((List.toArray ks).zip vs.toArray)=_;apply ak6.mp;apply af0
     . simp [hlen]
     . intro i g1 g2;simp
   . rw[if_neg c2,if_neg c2];have l2:2<=vs.length:=by rw[ZH] at c2;omega
     obtain⟨κ,ask⟩:=hk ks s' hJ hlen l2;refine Zt (Z6 (ask.kind (fun κ' z'=>κ'=κ/\z'=s') ⟨rfl,rfl⟩) (fun κ' z' q=>?_) fun _ _ x=>x.elim);obtain⟨r1,r2⟩:=q;subst r1;subst r2;have zg: ∀(i:Nat) x,((List.toArray ks).zip vs.toArray)[i]?=some x->i < vs.length/\x=(ks.getD i Value.none,vs.getD i Value.none):=fun i x e=>by
      obtain⟨hi,e⟩:=aj8.mp e;have og:i < vs.length:=by rw[zs] at hi;exact hi
      refine⟨og,?_⟩;rw[<-e,Array.getElem_zip];simp [List.getD,og,hlen]
     refine Zt (Z6 (yk (st:=SortSt.mk' κ' ((List.toArray ks).zip vs.toArray) #[] 7 none) (a₀:=(List.toArray ks).zip vs.toArray)
      (Q:=fun _ st=>failedOf st=none/\(arrOf st).Perm ((List.toArray ks).zip vs.toArray)/\bo (fun x=>K (El ((List.toArray ks).zip vs.toArray) x)) (arrOf st) 0 ((List.toArray ks).zip vs.toArray).size)
      (Rj (vs:=ks) ask.ask (by rw[zs,hlen]) fun i x e=>by rw[(zg i x e).2]) (fun x hx=>?_) ⟨Array.Perm.refl _,rfl,rfl,rfl,rfl⟩ (by rw[zs];omega) fun st x y u=>⟨y,x,u⟩) ?_ fun _ _ x=>x)
     . obtain⟨i,hi,e⟩:=af5 hx;exact⟨i,by rw[<-ad0,Zs hi,e]⟩
     rintro⟨⟨⟩,st⟩ z' ⟨e,hf,hp,hg⟩
     subst e;have dq:(arrOf st).toList.Perm ((List.range vs.length).map fun i=>((ks.getD i Value.none,vs.getD i Value.none):Keyed)):=by
      have:=ad5.mp hp;refine this.trans ?_;have:((List.toArray ks).zip vs.toArray).toList=(List.range vs.length).map fun i=>((ks.getD i Value.none,vs.getD i Value.none):Keyed):=by
       apply af0
       . simp [hlen]
       . intro i g1 g2;have hi:i < vs.length:=by simpa using g2
         simp [hi,hlen]
      rw[this]
     obtain⟨m',Q1,em⟩:=mU dq rfl;have pp:Pm vs.length m'.toArray:=⟨ad5.mpr (by simpa using Q1)⟩
     have lm:m'.length=vs.length:=by have:=Q1.length_eq;rw[Z1] at this;exact this
     have J1:(arrOf st).map (·.2)=outs vs m'.toArray:=by
      apply ak6.mp;unfold outs;rw[Array.toList_map,em,ab1];rfl
     have asc:P1 K m'.toArray vs.length:=fun i j ij jl=>by
      have at': ∀i,i < vs.length->kp K m'.toArray i=rk (fun x=>K (El ((List.toArray ks).zip vs.toArray) x)) (arrOf st) i:=fun i hi=>by
       have im:i < m'.length:=by rw[lm];exact hi
       have e1:(arrOf st)[i]?=some ((ks.getD m'[i] Value.none,vs.getD m'[i] Value.none):Keyed):=by
        rw[<-ad0,em,Zy,Zs im];rfl
       have ml:m'[i] < vs.length:=by have:=Q1.mem_iff.mp (ad9 im);simpa using this
       unfold kp rk;rw[e1];show K (m'.toArray.getD i 0)=K (El _ _);have e2:m'.toArray.getD i 0=m'[i]:=by simp [Array.getD,im]
       rw[e2];have e3:=vc (a:=(List.toArray ks).zip vs.toArray) (x:=(ks.getD m'[i] Value.none,vs.getD m'[i] Value.none)) ⟨m'[i],by
        rw[ae0 (by rw[zs];exact ml),Array.getElem_zip];simp [List.getD,ml,hlen]⟩
       obtain⟨g1,g2⟩:=zg _ _ e3;exact hK ks _ hJ hlen _ _ ml g1 (ab9 Prod.fst g2) (ab9 Prod.snd g2)
      rw[at' i (by omega),at' j jl];exact hg i j (Z7 _) ij (by rw[zs];exact jl)
     exact tail _ _ hf J1 pp asc
theorem kH(J:List Value->Shared->Prop)(hl:z.heap.IsList l vs.toArray)(Xj:vs.length<=100000)(j0: ∀h':Heap,(∀b o,z.heap.get? b=some o->h'.get? b=some o)->(∀b,z.heap.objs.size<=b->b < z.heap.objs.size+4-> ∃o,h'.get? b=some o)->J [] {z with heap:=h'})(jk: ∀ks s' h',J ks s'->(∀c o,c≠z.heap.objs.size+3->s'.heap.get? c=some o->h'.get? c=some o)->(∃o,h'.get? (z.heap.objs.size+3)=some o)->J ks {s' with heap:=h'})(turn: ∀v ks s',ks.length < vs.length->vs[ks.length]?=some v->J ks s'->wpAny (model prog w) A.in1.in1 (call (.ref q) [v]) (fun k rX=>J (ks++ [k]) rX/\ ∀b o,z.heap.objs.size<=b->b < z.heap.objs.size+4->s'.heap.get? b=some o->rX.heap.get? b=some o) (fun _ _=>False) s')(hK: ∀ks s',J ks s'->ks.length=vs.length-> ∀i j,i < vs.length->j < vs.length->ks.getD i Value.none=ks.getD j Value.none->vs.getD i Value.none=vs.getD j Value.none->K i=K j)(hk: ∀ks s',J ks s'->ks.length=vs.length->2<=vs.length-> ∃κ,Ask prog w A.in1.in1 ks K s' κ)(h: ∀ks s' p h',J ks s'->ks.length=vs.length->Pm vs.length p->P1 K p vs.length->(∀c o,c≠z.heap.objs.size+3->c≠z.heap.objs.size+1->s'.heap.get? c=some o->h'.get? c=some o)->(∃e,h'.get? (z.heap.objs.size+1)=some (seqObj "list" (outs vs p) e))->Q (.ref (z.heap.objs.size+1)) {s' with heap:=h'}):
  wpAny (model prog w) A (call (.builtin "sorted") [.ref l] [(Str.ofString "key",.ref q)]) Q E z:=by
 refine call_function_entry_kw kind_sorted plain_sorted entry_sorted (ksk_s1 _ _) ?_;unfold Builtin.«sorted»;let g1:Heap:=(z.heap.push (seqObj "list" #[] 0)).update z.heap.objs.size (Obj.mapSeq (· ++vs.toArray))
 let g2:Heap:=g1.push (seqObj "list" vs.toArray 0)
 have s1:g1.objs.size=z.heap.objs.size+1:=by show(Heap.update _ _ _).objs.size=_;rw[Heap.size_update,size_push']
 have IL:g2.objs.size=z.heap.objs.size+2:=by show(g1.push _).objs.size=_;rw[size_push',s1]
 have o2:g2.get? (z.heap.objs.size+1)=some (seqObj "list" vs.toArray 0):=by rw[<-s1];exact ZP _ rfl
 have k2: ∀b o,z.heap.get? b=some o->g2.get? b=some o:=fun b o q=>by
  have lb:=ZW q;show(g1.push _).get? b=_;rw[Heap.get?_push_ne _ _ _ (by rw[s1];exact aa8 (ah2 lb))];show(Heap.update _ _ _).get? b=_;rw[Heap.get?_update_ne _ _ _ _ (aa8 lb),Heap.get?_push_ne _ _ _ (aa8 lb)];exact q
 have l0: ∃o,g2.get? z.heap.objs.size=some o:=by
  have q1:(z.heap.push (seqObj "list" #[] 0)).get? z.heap.objs.size=some (seqObj "list" #[] 0):=ZP _ rfl;have q2:=am3 q1 (· ++vs.toArray);exact⟨_,(Heap.get?_push_ne _ _ _ (by rw[s1];exact aa8 (ag2 _))).trans q2⟩
 refine Zt (m:=checkCount "sorted" 1 1 _) (ZD (Zt (collect_list hl (Zt (wpAny_newList ?_ (by rw[ag6];omega))) (by rw[ag6];omega))));show wpAny _ _ _ _ _ {z with heap:=g2};rw[s1];have kh: ∀b o,b≠z.heap.objs.size+1->g2.get? b=some o->(jD g2 (z.heap.objs.size+1) vs).get? b=some o:=fun b o hb e=>
  Zv _ (Zv _ (((ah6 g2 (z.heap.objs.size+1) (Obj.mapSeq fun _=>(#[]:Array Value))).2 b hb).trans e))
 have RH:((g2.update (z.heap.objs.size+1) (Obj.mapSeq fun _=>(#[]:Array Value))).push (seqObj "tuple" vs.toArray 0)).objs.size=z.heap.objs.size+3:=by rw[size_push',Heap.size_update,IL]
 refine Zt (ad4 (wpAny_call_entry_kw slot_list_sort ⟨_,o2,rfl⟩ entry_list_sort ?_ (ksk_l1 _ _)));rw[ksk_t1];refine yA (z:={z with heap:=g2}) (K:=K) J o2 Xj ?_ (fun ks s' h' x y v=>?_) (fun v ks s' x y u=>?_) hK hk fun ks s' p h' x y u v c e=>⟨_,rfl,ZD ⟨_,rfl,?_⟩⟩
 . refine j0 _ (fun b o e=>kh b o (aa8 (ah2 (ZW e))) (k2 b o e)) fun b h1 h2=>?_;have:b=z.heap.objs.size\/b=z.heap.objs.size+1\/b=z.heap.objs.size+2\/b=z.heap.objs.size+3:=by
    generalize z.heap.objs.size=n at h1 h2 ⊢;have h1:n<=b:=h1;have h2:b < n+4:=h2;show b=n\/b=n+1\/b=n+2\/b=n+3;omega
   rcases this with e | e | e | e
   . rw[e];obtain⟨o,q⟩:=l0;exact⟨o,kh _ o (aa8 (ag2 _)) q⟩
   . rw[e];exact⟨_,Zv _ (Zv _ (am3 o2 fun _=> #[]))⟩
   . rw[e];have:(g2.update (z.heap.objs.size+1) (Obj.mapSeq fun _=>(#[]:Array Value))).objs.size=z.heap.objs.size+2:=by rw[Heap.size_update,IL]
     exact⟨_,Zv _ (by rw[<-this];exact ZP _ rfl)⟩
   . rw[e,<-RH];exact⟨_,ZP _ rfl⟩
 . have e3:({z with heap:=g2}:Shared).heap.objs.size+1=z.heap.objs.size+3:=by show g2.objs.size+1=_;rw[IL]
   rw[e3] at y v;obtain⟨Wk,e',q⟩:=v;exact jk ks s' h' x y ⟨_,q⟩
 . have e3:({z with heap:=g2}:Shared).heap.objs.size+1=z.heap.objs.size+3:=by show g2.objs.size+1=_;rw[IL]
   rw[e3];refine Z6 (turn v ks s' x y u) (fun k rX hq=>⟨hq.1,fun o=>⟨fun g=>hq.2 _ o (al3 _) ?_ g,fun g=>hq.2 _ o ?_ ?_ g⟩⟩) fun _ _ z=>z
   . exact ah2 (ah2 (ag2 _))
   . exact ak4 _ _
   . exact ag2 _
 . have e3:({z with heap:=g2}:Shared).heap.objs.size+1=z.heap.objs.size+3:=by show g2.objs.size+1=_;rw[IL]
   rw[e3] at c;exact h ks s' p h' x y u v c e
end
end fL
namespace LD
open PySem PySem.Spec L2 LB PyProof.Rows
inductive Dt where
 | aD | bl (b:Bool) | int (i:Int) | str (x:Str) | lst (ds:List Dt) | tup (ds:List Dt) | xE (ks:List Key) (ds:List Dt) | l7 (ks:List (List Key)) (ds:List Dt)
noncomputable def Dt.Rv:Dt->Bool
 | .aD=>true
 | _=>false
inductive Rep(M:Addr->Prop)(H:Hp):V->Dt->Prop where
 | aD:Rep M H .aD .aD
 | bl (b:Bool):Rep M H (.bl b) (.bl b)
 | int (i:Int):Rep M H (.int i) (.int i)
 | str (x:Str):Rep M H (.str x) (.str x)
 | lst {a:Addr} {xs:List V} {ds:List Dt}:H a=some (.lst xs)-> ¬M a->xs.length=ds.length->(∀(i:Nat) x d,xs[i]?=some x->ds[i]?=some d->Rep M H x d)->Rep M H (.ref a) (.lst ds)
 | tup {a:Addr} {xs:List V} {ds:List Dt}:H a=some (.tup xs)-> ¬M a->xs.length=ds.length->(∀(i:Nat) x d,xs[i]?=some x->ds[i]?=some d->Rep M H x d)->Rep M H (.ref a) (.tup ds)
 | xE {a:Addr} {vs:List (Key × V)} {ks:List Key} {ds:List Dt}:H a=some (.dK vs)-> ¬M a->vs.map (·.1)=ks->(vs.map (·.2)).length=ds.length->(∀(i:Nat) x d,(vs.map (·.2))[i]?=some x->ds[i]?=some d->Rep M H x d)->Rep M H (.ref a) (.xE ks ds)
 | l7 {a:Addr} {vs:List (List Key × V)} {ks:List (List Key)} {ds:List Dt}:H a=some (.dT vs)-> ¬M a->vs.map (·.1)=ks->(vs.map (·.2)).length=ds.length->(∀(i:Nat) x d,(vs.map (·.2))[i]?=some x->ds[i]?=some d->Rep M H x d)->Rep M H (.ref a) (.l7 ks ds)
def aA(M:Addr->Prop)(H:Hp)(xs:List V)(ds:List Dt):Prop:=xs.length=ds.length/\ ∀(i:Nat) x d,xs[i]?=some x->ds[i]?=some d->Rep M H x d
theorem Rep.mono(h:Rep M H v d)(m: ∀a o,H a=some o-> ¬M a->H' a=some o/\ ¬M' a):Rep M' H' v d:=by
 induction h with
 | aD=>exact .aD
 | bl b=>exact .bl b
 | int i=>exact .int i
 | str x=>exact .str x
 | lst h n l r ih=>exact .lst (m _ _ h n).1 (m _ _ h n).2 l ih
 | tup h n l r ih=>exact .tup (m _ _ h n).1 (m _ _ h n).2 l ih
 | xE h n e l r ih=>exact .xE (m _ _ h n).1 (m _ _ h n).2 e l ih
 | l7 h n e l r ih=>exact .l7 (m _ _ h n).1 (m _ _ h n).2 e l ih
theorem aA.mono(h:aA M H xs ds)(m: ∀a o,H a=some o-> ¬M a->H' a=some o/\ ¬M' a):aA M' H' xs ds:=⟨h.1,fun i x d h1 h2=>(h.2 i x d h1 h2).mono m⟩
theorem Rep.same(h:Rep M H v d)(s:aC H H'):Rep M H' v d:=h.mono fun a o e n=>⟨s _ _ e,n⟩
theorem aA.same(h:aA M H xs ds)(s:aC H H'):aA M H' xs ds:=h.mono fun a o e n=>⟨s _ _ e,n⟩
theorem aA.nil:aA M H [] []:=⟨rfl,fun i x d h=>by simp at h⟩
theorem aA.cons{M:Addr->Prop}{H:Hp}{x:V}{d:Dt}{xs:List V}{ds:List Dt}(h:Rep M H x d)(r:aA M H xs ds):aA M H (x::xs) (d::ds):=
 ⟨by rw[ZG,ZG,r.1],fun i y e h1 h2=>by
  cases i with
  | zero=>cases h1;cases h2;exact h
  | succ j=>exact r.2 j y e (by simpa using h1) (by simpa using h2)⟩
theorem aA.append(h:aA M H xs ds)(r:aA M H ys es):aA M H (xs++ys) (ds++es):=
 ⟨by rw[ZK,ZK,h.1,r.1],fun i y e h1 h2=>by
  by_cases hi:i < xs.length
  . rw[Z3 hi] at h1;rw[Z3 (by rw[<-h.1];exact hi)] at h2;exact h.2 i y e h1 h2
  . rw[Z8 (by omega)] at h1;rw[Z8 (by have:=h.1;omega),<-h.1] at h2;exact r.2 _ y e h1 h2⟩
theorem aA.one(h:Rep M H x d):aA M H [x] [d]:= .cons h .nil
theorem aA.get(h:aA M H xs ds){i:Nat}(e:ds[i]?=some d): ∃x,xs[i]?=some x/\Rep M H x d:=by
 have hi:=(Zw.mp e).1;have hx:xs[i]?=some (xs[i]'(by rw[h.1];exact hi)):=Zs _;exact⟨_,hx,h.2 i _ _ hx e⟩
theorem aA.take(h:aA M H xs ds)(n:Nat):aA M H (xs.take n) (ds.take n):=
 ⟨by rw[ac0,ac0,h.1],fun i y e h1 h2=>by
  rw[List.getElem?_take] at h1 h2;split at h1
  . rename_i hi;rw[if_pos hi] at h2;exact h.2 i y e h1 h2
  . cases h1⟩
theorem aA.drop(h:aA M H xs ds)(n:Nat):aA M H (xs.drop n) (ds.drop n):=
 ⟨by rw[ag3,ag3,h.1],fun i y e h1 h2=>by
  rw[List.getElem?_drop] at h1 h2;exact h.2 _ y e h1 h2⟩
theorem aA.set(h:aA M H xs ds)(r:Rep M H x d)(n:Nat):aA M H (xs.set n x) (ds.set n d):=
 ⟨by rw[Z4,Z4,h.1],fun i y e h1 h2=>by
  rw[List.getElem?_set] at h1 h2;split at h1
  . rename_i hi;rw[if_pos hi] at h2;subst hi;by_cases hl:n < xs.length
    . rw[if_pos hl] at h1;rw[if_pos (by rw[<-h.1];exact hl)] at h2;cases h1;cases h2;exact r
    . rw[if_neg hl] at h1;cases h1
  . rename_i hi;rw[if_neg hi] at h2;exact h.2 i y e h1 h2⟩
theorem aA.aQ(h:aA M H xs (d::ds)): ∃x ys,xs=x::ys/\Rep M H x d/\aA M H ys ds:=by
 cases xs with
 | nil=>have:=h.1;simp at this
 | cons x ys=>exact⟨x,ys,rfl,h.2 0 x d rfl rfl,⟨by have:=h.1;simpa using this,fun i y e h1 h2=>h.2 (i+1) y e (by simpa using h1) (by simpa using h2)⟩⟩
theorem aA.eQ(h:aA M H xs []):xs= []:=List.length_eq_zero_iff.mp (by rw[h.1];rfl)
theorem Rep.oY(h:H a=some (.lst xs))(n: ¬M a)(r:aA M H xs ds):Rep M H (.ref a) (.lst ds):= .lst h n r.1 r.2
theorem Rep.jj(h:H a=some (.tup xs))(n: ¬M a)(r:aA M H xs ds):Rep M H (.ref a) (.tup ds):= .tup h n r.1 r.2
theorem Rep.cO(h:Rep M H v (.lst ds)): ∃a xs,v= .ref a/\H a=some (.lst xs)/\ ¬M a/\aA M H xs ds:=by
 cases h with
 | lst h n l r=>exact⟨_,_,rfl,h,n,l,r⟩
theorem Rep.bN(h:Rep M H v (.tup ds)): ∃a xs,v= .ref a/\H a=some (.tup xs)/\ ¬M a/\aA M H xs ds:=by
 cases h with
 | tup h n l r=>exact⟨_,_,rfl,h,n,l,r⟩
theorem Rep.MU(h:Rep M H v (.l7 ks ds)): ∃a vs,v= .ref a/\H a=some (.dT vs)/\ ¬M a/\vs.map (·.1)=ks/\aA M H (vs.map (·.2)) ds:=by
 cases h with
 | l7 h n e l r=>exact⟨_,_,rfl,h,n,e,l,r⟩
theorem Rep.ofInt(h:Rep M H v (.int i)):v= .int i:=by cases h;rfl
theorem Rep.BS(h:Rep M H v (.bl i)):v= .bl i:=by cases h;rfl
structure Vk where
 rel:(Addr->Prop)->Hp->V->List Addr->Prop
 st: ∀{M M':Addr->Prop} {H H':Hp} {v:V} {as:List Addr},rel M H v as->(∀a∈as,∀o,H a=some o->H' a=some o)->(∀a o,H a=some o-> ¬M a->H' a=some o/\ ¬M' a)->rel M' H' v as
inductive Sl where
 | no | im (d:Dt) | ow (ds:List Dt) | bx (t:Int) | dk (ks:List Key) (ds:List Dt) | ob (R:Vk) | fn (f:Addr)
def rP(M:Addr->Prop)(H:Hp)(o:Option V):Sl->List Addr->Prop
 | .no,as=>as= []
 | .im d,as=>as= []/\ ∃v,o=some v/\Rep M H v d
 | .ow ds,as=> ∃a xs,as= [a]/\o=some (.ref a)/\H a=some (.lst xs)/\aA M H xs ds
 | .bx t,as=> ∃d c,as= [d,c]/\o=some (.ref d)/\ur H d c t
 | .dk ks ds,as=> ∃a vs,as= [a]/\o=some (.ref a)/\H a=some (.dK vs)/\vs.map (·.1)=ks/\aA M H (vs.map (·.2)) ds
 | .ob R,as=> ∃v,o=some v/\R.rel M H v as
 | .fn f,as=>as= []/\o=some (.ref f)
structure Wd where
 H0:Hp
 A0:Addr->Prop
 M0:Addr->Prop
 M1:Addr->Prop
 box:Option (Addr × Addr)
noncomputable def Sl.bU:Sl->Bool
 | .bx _=>true
 | _=>false
structure PQ(W:Wd)(M:Addr->Prop)(α:List (List Addr))(H:Hp)(δ:List Sl):Prop where
 bs: ∀b o,W.H0 b=some o-> ¬W.A0 b->H b=some o
 ex: ∀b,W.H0 b≠none->H b≠none
 fr: ∀a∈α.flatten,W.A0 a\/W.H0 a=none
 m0: ∀a,W.M0 a->M a
 m1: ∀a,M a->W.M1 a\/W.H0 a=none
 bx: ∀d c,W.box=some (d,c)-> ∃t,δ[0]?=some (.bx t)/\α[0]?=some [d,c]
 fz: ∀(i:Nat) s as,δ[i]?=some s->α[i]?=some as->s.bU=false-> ∀a∈as,¬W.M0 a
def j3(M:Addr->Prop)(H:Hp):Prop:= ∀a,M a-> ∃o,H a=some o/\ ∀xs,o≠ .tup xs
structure az(Ws:List Wd)(M:Addr->Prop)(α:List (List Addr))(H:Hp)(σ:L2.St)(δ:List Sl):Prop where
 ls:σ.length=δ.length
 la:α.length=δ.length
 sl: ∀(i:Nat) (s:Sl),δ[i]?=some s-> ∃o as,σ[i]?=some o/\α[i]?=some as/\rP M H o s as
 nd:α.flatten.Nodup
 mu: ∀a∈α.flatten,M a
 al:j3 M H
 w: ∀W∈Ws,PQ W M α H δ
def cW(α:List (List Addr))(H H':Hp):Prop:= ∀b o,H b=some o->b∉α.flatten->H' b=some o
theorem cW.rf:cW α H H:=fun _ _ e _=>e
theorem cW.tr(a:cW α H H1)(b:cW α H1 H2):cW α H H2:=fun x o e n=>b _ _ (a _ _ e n) n
theorem cW.of(s:aC H H'):cW α H H':=fun x o e _=>s _ _ e
theorem Rep.chg(h:Rep M H v d)(E:az W M α H σ δ)(c:cW α H H'):Rep M H' v d:=h.mono fun a o e n=>⟨c _ _ e fun z=>n (E.mu a z),n⟩
theorem aA.chg(h:aA M H v d)(E:az W M α H σ δ)(c:cW α H H'):aA M H' v d:=h.mono fun a o e n=>⟨c _ _ e fun z=>n (E.mu a z),n⟩
theorem rP.same(h:rP M H o s as)(z:aC H H'):rP M H' o s as:=by
 cases s with
 | no=>exact h
 | im d=>exact⟨h.1,let ⟨v,e,r⟩:=h.2;⟨v,e,r.same z⟩⟩
 | ow ds=>obtain⟨a,xs,e1,e2,e3,r⟩:=h;exact⟨a,xs,e1,e2,z _ _ e3,r.same z⟩
 | bx t=>obtain⟨d,c,e1,e2,r⟩:=h;exact⟨d,c,e1,e2,r.same z⟩
 | dk ks ds=>obtain⟨a,vs,e1,e2,e3,e4,r⟩:=h;exact⟨a,vs,e1,e2,z _ _ e3,e4,r.same z⟩
 | ob R=>obtain⟨v,e,r⟩:=h;exact⟨v,e,R.st r (fun a _ o q=>z _ _ q) fun a o q n=>⟨z _ _ q,n⟩⟩
 | fn f=>exact h
theorem az.same(E:az W M α H σ δ)(z:aC H H'):az W M α H' σ δ:=by
 refine⟨E.ls,E.la,fun i s h=>?_,E.nd,E.mu,fun a h=>?_,fun W hW=>let k:=E.w W hW;⟨fun b o e n=>z _ _ (k.bs b o e n),fun b n y=>k.ex b n (LW.aC.none z y),k.fr,k.m0,k.m1,k.bx,k.fz⟩⟩
 . obtain⟨o,as,h1,h2,h3⟩:=E.sl i s h;exact⟨o,as,h1,h2,h3.same z⟩
 . obtain⟨o,e,n⟩:=E.al a h;exact⟨o,z _ _ e,n⟩
theorem az.fresh(E:az W M α H σ δ)(h:H p=none): ¬M p:=fun z=>let ⟨_,e,_⟩:=E.al p z;by rw[h] at e;cases e
theorem j3.fresh(h:j3 M H)(e:H p=none): ¬M p:=fun z=>let ⟨_,e',_⟩:=h p z;by rw[e] at e';cases e'
theorem j3.tup{M:Addr->Prop}{H:Hp}(h:j3 M H){p:Addr}{xs:List V}(e:H p=some (.tup xs)): ¬M p:=fun z=>let ⟨_,e',n⟩:=h p z;by rw[e] at e';cases e';exact n xs rfl
theorem j3.MZ(h:j3 M H)(n:vR H xs p H'): ¬M p:=by
 rcases n with ⟨_,e⟩ | ⟨e,_⟩
 . exact h.tup e
 . exact h.fresh e
abbrev bt:=List Sl->(Dt->List Sl->Prop)->Prop
abbrev mj:=List Sl->(Bool->List Sl->Prop)->Prop
abbrev iG:=List Sl->(List Dt->List Sl->Prop)->Prop
inductive lE(t:bt)(σ:L2.St)(H:Hp)(Q:VK):Prop
 | mk (W:List Wd) (M:Addr->Prop) (α:List (List Addr)) (δ:List Sl) (Qd:Dt->List Sl->Prop) (h1:az W M α H σ δ) (h2:t δ Qd) (h3: ∀d δ' H' v,Qd d δ'->az W M α H' σ δ'->cW α H H'->Rep M H' v d->Q v H')
inductive lT(t:mj)(σ:L2.St)(H:Hp)(Q:Bool->Hp->Prop):Prop
 | mk (W:List Wd) (M:Addr->Prop) (α:List (List Addr)) (δ:List Sl) (Qd:Bool->List Sl->Prop) (h1:az W M α H σ δ) (h2:t δ Qd) (h3: ∀b δ' H',Qd b δ'->az W M α H' σ δ'->cW α H H'->Q b H')
inductive lA(t:iG)(σ:L2.St)(H:Hp)(Q:List V->Hp->Prop):Prop
 | mk (W:List Wd) (M:Addr->Prop) (α:List (List Addr)) (δ:List Sl) (Qd:List Dt->List Sl->Prop) (h1:az W M α H σ δ) (h2:t δ Qd) (h3: ∀ds δ' H' vs,Qd ds δ'->az W M α H' σ δ'->cW α H H'->aA M H' vs ds->Q vs H')
abbrev z0:=List Sl->(List Dt->List Sl->Prop)->Prop
inductive lO(t:z0)(σ:L2.St)(H:Hp)(Q:VK):Prop
 | mk (W:List Wd) (M:Addr->Prop) (α:List (List Addr)) (δ:List Sl) (Qd:List Dt->List Sl->Prop) (h1:az W M α H σ δ) (h2:t δ Qd) (h3: ∀ds δ' H1 xs a,Qd ds δ'->az W M α H1 σ δ'->cW α H H1->aA M H1 xs ds->H1 a=none->Q (.ref a) (upd H1 a (.lst xs)))
theorem PE.imp(h:PE X e t)(i: ∀σ H Q,t' σ H Q->t σ H Q):PE X e t':=fun pins s σ H Q I q=>h pins s σ H Q I (i _ _ _ q)
theorem PT.imp(h:PT X e t)(i: ∀σ H Q,t' σ H Q->t σ H Q):PT X e t':=fun pins s σ H Q I q=>h pins s σ H Q I (i _ _ _ q)
theorem PW.imp(h:PW X e t)(i: ∀σ H Q,t' σ H Q->t σ H Q):PW X e t':=fun w pins s σ H Q I q=>h w pins s σ H Q I (i _ _ _ q)
theorem PA.imp(h:PA X e t)(i: ∀σ H Q,t' σ H Q->t σ H Q):PA X e t':=fun pos pins s σ H Q I q=>h pos pins s σ H Q I (i _ _ _ q)
theorem PS.imp(h:PS X e t)(i: ∀D σ H,t' D σ H->t D σ H):PS X e t':=fun pins s σ H D I q=>h pins s σ H D I (i _ _ _ q)
theorem pW.imp(h:pW X e t)(i: ∀D σ H,t' D σ H->t D σ H):pW X e t':=fun pins s σ H D I q=>h pins s σ H D I (i _ _ _ q)
abbrev Ev(X:Cx)(e:Expr)(t:bt):Prop:=PE X e (lE t)
abbrev Tv(X:Cx)(e:Expr)(t:mj):Prop:=PT X e (lT t)
abbrev Av(X:Cx)(es:List Expr)(t:iG):Prop:=PA X es (lA t)
abbrev Ov(X:Cx)(e:Expr)(t:z0):Prop:=PE X e (lO t)
section
variable{X:Cx}{a b c e:Expr}{es:List Expr}{ta tb t:bt}{pos:Pos}
inductive Dj(i:Nat)(δ:List Sl)(Q:Dt->List Sl->Prop):Prop
 | mk (d:_) (h1:δ[i]?=some (.im d)) (h2:Q d δ)
theorem az.im(E:az W M α H σ δ){i:Nat}(h:δ[i]?=some (.im d)): ∃v,σ[i]?=some (some v)/\Rep M H v d:=by
 obtain⟨o,as,h1,_,_,v,rfl,r⟩:=E.sl i _ h;exact⟨v,h1,r⟩
theorem az.ow(E:az W M α H σ δ){i:Nat}(h:δ[i]?=some (.ow ds)): ∃a xs,σ[i]?=some (some (.ref a))/\α[i]?=some [a]/\H a=some (.lst xs)/\aA M H xs ds:=by
 obtain⟨o,as,h1,h2,a,xs,rfl,rfl,e,r⟩:=E.sl i _ h;exact⟨a,xs,h1,h2,e,r⟩
theorem Kr(i:Nat)(h:PE X (.Name x pos) (gy i)):Ev X (.Name x pos) (Dj i):=PE.imp h fun σ H Q ck=>(by obtain⟨W,M,α,δ,Qd,E,⟨d,hd,q⟩,k⟩:=ck;exact(by
 obtain⟨v,h1,r⟩:=E.im hd;exact⟨v,h1,k _ _ _ _ q E cW.rf r⟩))
theorem dv(i:Nat)(hN:X.N[i]?=some x:=by rfl)(hv:PR X.env.scope x:=by first | exact Or.inl rfl | exact Or.inr (Or.inl rfl) | exact Or.inr (Or.inr rfl))(hd:(x==("__debug__":Str))=false:=by decide)(tR:(x==("__classdict__":Str))=false:=by decide):Ev X (.Name x pos) (Dj i):=Kr i (Bw hN hv hd tR)
def dC(d:Dt):bt:=fun δ Q=>Q d δ
theorem ay{i j pos}:Ev X (.Constant (.int i) j pos) (dC (.int i)):=PE.imp bX fun σ H Q dS=>(by obtain⟨W,M,α,δ,Qd,E,q,k⟩:=dS;exact(k _ _ _ _ q E cW.rf (.int i)))
theorem zx{i j pos}:Ev X (.Constant (.bool i) j pos) (dC (.bl i)):=PE.imp MK fun σ H Q j8=>(by obtain⟨W,M,α,δ,Qd,E,q,k⟩:=j8;exact(k _ _ _ _ q E cW.rf (.bl i)))
theorem iq{j pos}:Ev X (.Constant .none j pos) (dC .aD):=PE.imp By fun σ H Q iP=>(by obtain⟨W,M,α,δ,Qd,E,q,k⟩:=iP;exact(k _ _ _ _ q E cW.rf .aD))
def dO(t:z0):bt:=fun δ Q=>t δ fun ds δ'=>Q (.lst ds) δ'
theorem Ov.ev{t:z0}(h:Ov X e t):Ev X e (dO t):=PE.imp h fun σ H Q ck=>(by obtain⟨W,M,α,δ,Qd,E,q,k⟩:=ck;exact(by
 refine⟨W,M,α,δ,_,E,q,fun ds δ' H1 xs a q1 E1 c1 r1 h1=>?_⟩;have s:aC H1 (upd H1 a (.lst xs)):=aC.new h1;exact k _ _ _ _ q1 (E1.same s) (c1.tr (cW.of s)) (Rep.oY ag (E1.fresh h1) (r1.same s))))
abbrev D2:=Dt->Dt->(Dt->Prop)->Prop
def Aa(r:R2)(R:D2):Prop:= ∀(M:Addr->Prop) (H:Hp) (x y:V) (d1 d2:Dt) (Qd:Dt->Prop) (Q:VK),j3 M H->Rep M H x d1->Rep M H y d2->R d1 d2 Qd->(∀H' v d,Qd d->aC H H'->Rep M H' v d->Q v H')->r x y H Q
def t8(R:D2)(ta tb:bt):bt:=fun δ Q=>ta δ fun d1 δ1=>tb δ1 fun d2 δ2=>R d1 d2 fun d=>Q d δ2
theorem lQ(hd:Aa r R): ∀σ H Q,lE (t8 R ta tb) σ H Q->Mf r (lE ta) (lE tb) σ H Q:=fun σ H Q oi=>(by obtain⟨W,M,α,δ,Qd,E,q,k⟩:=oi;exact(
 ⟨W,M,α,δ,_,E,q,fun d1 δ1 H1 x q1 E1 c1 r1=>⟨W,M,α,δ1,_,E1,q1,fun d2 δ2 H2 y q2 E2 c2 r2=>hd M H2 x y d1 d2 _ _ E2.al (r1.chg E1 c2) r2 q2 fun H' v d q3 s r3=>k _ _ _ _ q3 (E2.same s) ((c1.tr c2).tr (cW.of s)) r3⟩⟩))
theorem C7(ho:mi X (binaryOp op) r)(hd:Aa r R)(ha:Ev X a ta)(hb:Ev X b tb):Ev X (.BinOp a op b pos) (t8 R ta tb):=PE.imp (cN ho ha hb) (lQ hd)
theorem N5(ho:mi X (compareOp op) r)(hd:Aa r R)(ha:Ev X a ta)(hb:Ev X b tb)(hm:behindInMarks op b=false):Ev X (.Compare a [op] [b] pos) (t8 R ta tb):=PE.imp (Fu ho ha hb hm) (lQ hd)
inductive SO(Q:Bool->List Sl->Prop)(d:Dt)(δ':List Sl):Prop
 | mk (c:_) (h1:d= .bl c) (h2:Q c δ')
def dT(t:bt):mj:=fun δ Q=>t δ fun d δ'=>SO Q d δ'
theorem iy: ∀σ H (Q:Bool->Hp->Prop),lT (dT t) σ H Q->lE t σ H fun x H1=> ∃c,x= .bl c/\Q c H1:=fun σ H Q pX=>(by obtain⟨W,M,α,δ,Qd,E,q,k⟩:=pX;exact(
 ⟨W,M,α,δ,_,E,q,fun d δ' H' v oh E1 c1 r1=>(by obtain⟨c,e,q1⟩:=oh;exact(⟨c,by subst e;exact r1.BS,k _ _ _ q1 E1 c1⟩))⟩))
theorem nG(ho:mi X (compareOp op) r)(hd:Aa r R)(ha:Ev X a ta)(hb:Ev X b tb)(hm:behindInMarks op b=false):Tv X (.Compare a [op] [b] pos) (dT (t8 R ta tb)):=
 PT.imp (qy ho ha hb hm) fun σ H Q h=>lQ hd _ _ _ (iy _ _ _ h |> fun iQ=>(by obtain⟨W,M,α,δ,Qd,E,q,k⟩:=iQ;exact(⟨W,M,α,δ,Qd,E,q,k⟩)))
theorem eI(h:Ev X e t)(he: ∀whole,isTrue e X.env whole=(do let v<-whole;standAt e.pos;holding [v] (truthy v)):=by intro _;rfl):Tv X e (dT t):=PT.imp (Jk h he) fun σ H Q h=>iy _ _ _ h
def KY(ta:bt):bt:=fun δ Q=>ta δ fun d δ'=>Q (.bl d.Rv) δ'
def HL(ta:bt):bt:=fun δ Q=>ta δ fun d δ'=>Q (.bl (!d.Rv)) δ'
theorem Cj(r:Rep M H v d):decide (v= .aD)=d.Rv:=by cases r <;> rfl
theorem tO: ∀σ H Q,lE (KY ta) σ H Q->Mj (lE ta) σ H Q:=fun σ H Q mm=>(by obtain⟨W,M,α,δ,Qd,E,q,k⟩:=mm;exact(
 ⟨W,M,α,δ,_,E,q,fun d δ' H' v q1 E1 c1 r1=>by show Q (V.bl (decide (v=V.aD))) H';rw[Cj r1];exact k _ _ _ _ q1 E1 c1 (.bl _)⟩))
theorem yS: ∀σ H Q,lE (HL ta) σ H Q->G6 (lE ta) σ H Q:=fun σ H Q pY=>(by obtain⟨W,M,α,δ,Qd,E,q,k⟩:=pY;exact(
 ⟨W,M,α,δ,_,E,q,fun d δ' H' v q1 E1 c1 r1=>by show Q (V.bl !decide (v=V.aD)) H';rw[Cj r1];exact k _ _ _ _ q1 E1 c1 (.bl _)⟩))
theorem De{j pos'}(ha:Ev X a ta):Ev X (.Compare a [.Is] [.Constant .none j pos'] pos) (KY ta):=PE.imp (Jt (BF ha)) tO
theorem sN{j pos'}(ha:Ev X a ta):Tv X (.Compare a [.Is] [.Constant .none j pos'] pos) (dT (KY ta)):=PT.imp (Bi (BF ha)) fun σ H Q h=>tO _ _ _ (iy _ _ _ h)
theorem uF{j pos'}(ha:Ev X a ta):Tv X (.Compare a [.IsNot] [.Constant .none j pos'] pos) (dT (HL ta)):=PT.imp (Bi (Fw ha)) fun σ H Q h=>yS _ _ _ (iy _ _ _ h)
end
section
variable{X:Cx}{a b c e:Expr}{es rest:List Expr}{ta tb t:bt}{u v:mj}{pos:Pos}
def S9(t u:mj):mj:=fun δ Q=>t δ fun c δ1=>if c=true then u δ1 Q else Q false δ1
def Xz(t u:mj):mj:=fun δ Q=>t δ fun c δ1=>if c=true then Q true δ1 else u δ1 Q
def SU(t:mj):mj:=fun δ Q=>t δ fun c δ1=>Q (!c) δ1
theorem As(h:Tv X a u):PW X (.BoolOp .And [a] pos) (lT u):=pw_and1 h
theorem jh(h:Tv X a u):PW X (.BoolOp .Or [a] pos) (lT u):=pw_or1 h
theorem w_and(ha:Tv X a u)(hb:PW X (.BoolOp .And (b::rest) pos) (lT v)):PW X (.BoolOp .And (a::b::rest) pos) (lT (S9 u v)):=PW.imp (pw_and ha hb) fun σ H Q j9=>(by obtain⟨W,M,α,δ,Qd,E,q,k⟩:=j9;exact(
 ⟨W,M,α,δ,_,E,q,fun c δ1 H1 q1 E1 c1=>by
  cases c with
  | true=>rw[if_pos rfl] at q1 ⊢;exact⟨W,M,α,δ1,_,E1,q1,fun c2 δ2 H2 q2 E2 HU=>k _ _ _ q2 E2 (c1.tr HU)⟩
  | false=>rw[if_neg ZJ] at q1 ⊢;exact k _ _ _ q1 E1 c1⟩))
theorem w_or(ha:Tv X a u)(hb:PW X (.BoolOp .Or (b::rest) pos) (lT v)):PW X (.BoolOp .Or (a::b::rest) pos) (lT (Xz u v)):=PW.imp (pw_or ha hb) fun σ H Q Ag=>(by obtain⟨W,M,α,δ,Qd,E,q,k⟩:=Ag;exact(
 ⟨W,M,α,δ,_,E,q,fun c δ1 H1 q1 E1 c1=>by
  cases c with
  | false=>rw[if_neg ZJ] at q1 ⊢;exact⟨W,M,α,δ1,_,E1,q1,fun c2 δ2 H2 q2 E2 HU=>k _ _ _ q2 E2 (c1.tr HU)⟩
  | true=>rw[if_pos rfl] at q1 ⊢;exact k _ _ _ q1 E1 c1⟩))
theorem AF(ha:Tv X a u):Tv X (.UnaryOp .Not a pos) (SU u):=PT.imp (Jl ha) fun σ H Q uz=>(by obtain⟨W,M,α,δ,Qd,E,q,k⟩:=uz;exact(⟨W,M,α,δ,_,E,q,fun c δ1 H1 q1 E1 c1=>k _ _ _ q1 E1 c1⟩))
inductive GJ(tb:bt)(Q:Dt->List Sl->Prop)(d:Dt)(δ1:List Sl):Prop
 | mk (c:_) (h1:d= .bl c) (h2:if c=true then tb δ1 Q else Q (.bl false) δ1)
def Ox(ta tb:bt):bt:=fun δ Q=>ta δ fun d δ1=>GJ tb Q d δ1
inductive GG(Q:Dt->List Sl->Prop)(d:Dt)(δ1:List Sl):Prop
 | mk (c:_) (h1:d= .bl c) (h2:Q (.bl (!c)) δ1)
def Oi(ta:bt):bt:=fun δ Q=>ta δ fun d δ1=>GG Q d δ1
theorem gr{op}(h:Ev X a t):Ev X (.BoolOp op [a] pos) t:=Jr h
theorem eJ(ha:Ev X a ta)(hb:Ev X (.BoolOp .And (b::rest) pos) tb):Ev X (.BoolOp .And (a::b::rest) pos) (Ox ta tb):=PE.imp (Jv ha hb) fun σ H Q Ij=>(by obtain⟨W,M,α,δ,Qd,E,q,k⟩:=Ij;exact(
 ⟨W,M,α,δ,_,E,q,fun d δ1 H1 x Af E1 c1 r1=>(by obtain⟨c,e,q1⟩:=Af;exact(⟨c,by subst e;exact r1.BS,by
  cases c with
  | true=>rw[if_pos rfl] at q1 ⊢;exact⟨W,M,α,δ1,_,E1,q1,fun d2 δ2 H2 y q2 E2 c2 r2=>k _ _ _ _ q2 E2 (c1.tr c2) r2⟩
  | false=>rw[if_neg ZJ] at q1 ⊢;exact k _ _ _ _ q1 E1 c1 (.bl _)⟩))⟩))
theorem C8(ha:Ev X a ta):Ev X (.UnaryOp .Not a pos) (Oi ta):=PE.imp (Js ha) fun σ H Q ux=>(by obtain⟨W,M,α,δ,Qd,E,q,k⟩:=ux;exact(
 ⟨W,M,α,δ,_,E,q,fun d δ1 H1 x Ad E1 c1 r1=>(by obtain⟨c,e,q1⟩:=Ad;exact(⟨c,by subst e;exact r1.BS,k _ _ _ _ q1 E1 c1 (.bl _)⟩))⟩))
def XA(t:mj)(ta tb:bt):bt:=fun δ Q=>t δ fun c δ1=>if c=true then ta δ1 Q else tb δ1 Q
theorem jS(hc:Tv X c u)(ha:Ev X a ta)(hb:Ev X b tb):Ev X (.IfExp c a b pos) (XA u ta tb):=PE.imp (BA hc ha hb) fun σ H Q Ii=>(by obtain⟨W,M,α,δ,Qd,E,q,k⟩:=Ii;exact(
 ⟨W,M,α,δ,_,E,q,fun c δ1 H1 q1 E1 c1=>by
  cases c with
  | true=>rw[if_pos rfl] at q1 ⊢;exact⟨W,M,α,δ1,_,E1,q1,fun d2 δ2 H2 y q2 E2 c2 r2=>k _ _ _ _ q2 E2 (c1.tr c2) r2⟩
  | false=>rw[if_neg ZJ] at q1 ⊢;exact⟨W,M,α,δ1,_,E1,q1,fun d2 δ2 H2 y q2 E2 c2 r2=>k _ _ _ _ q2 E2 (c1.tr c2) r2⟩⟩))
def KN:iG:=fun δ Q=>Q [] δ
def Ds(ta:bt)(tr:iG):iG:=fun δ Q=>ta δ fun d δ1=>tr δ1 fun ds δ2=>Q (d::ds) δ2
theorem ae:Av X [] KN:=PA.imp aG fun σ H Q Ih=>(by obtain⟨W,M,α,δ,Qd,E,q,k⟩:=Ih;exact(k _ _ _ _ q E cW.rf .nil))
theorem aa(ha:Ev X e ta)(hr:Av X es tr)(hs:starEach (e::es) X.env=(false,eval e X.env)::starEach es X.env:=by rfl):Av X (e::es) (Ds ta tr):=PA.imp (af ha hr hs) fun σ H Q Ig=>(by obtain⟨W,M,α,δ,Qd,E,q,k⟩:=Ig;exact(
 ⟨W,M,α,δ,_,E,q,fun d δ1 H1 x q1 E1 c1 r1=>⟨W,M,α,δ1,_,E1,q1,fun ds δ2 H2 xs q2 E2 c2 r2=>k _ _ _ _ q2 E2 (c1.tr c2) (.cons (r1.chg E1 c2) r2)⟩⟩))
def SM(t:iG):bt:=fun δ Q=>t δ fun ds δ'=>ds.length<=sizeLine/\Q (.tup ds) δ'
def Oo(t:iG):z0:=fun δ Q=>t δ fun ds δ'=>ds.length<=sizeLine/\Q ds δ'
theorem br{x1}{t:iG}(h:Av X es t):Ev X (.Tuple es x1 pos) (SM t):=PE.imp (Bx h) fun σ H Q Ac=>(by obtain⟨W,M,α,δ,Qd,E,q,k⟩:=Ac;exact(
 ⟨W,M,α,δ,_,E,q,fun ds δ1 H1 xs Ie E1 c1 r1=>(by obtain⟨l,q1⟩:=Ie;exact(⟨by rw[r1.1];exact l,fun p hp=>by
  have s:aC H1 (upd H1 p (.tup xs)):=aC.new hp;exact k _ _ _ _ q1 (E1.same s) (c1.tr (cW.of s)) (Rep.jj ag (E1.fresh hp) (r1.same s))⟩))⟩))
theorem gp{t:iG}(h:Av X es t):Ov X (.List es pos) (Oo t):=PE.imp (uT h) fun σ H Q Ic=>(by obtain⟨W,M,α,δ,Qd,E,q,k⟩:=Ic;exact(
 ⟨W,M,α,δ,_,E,q,fun ds δ1 H1 xs Qz E1 c1 r1=>(by obtain⟨l,q1⟩:=Qz;exact(⟨by rw[r1.1];exact l,fun p hp=>k _ _ _ _ _ q1 E1 c1 r1 hp⟩))⟩))
theorem gs{t:iG}(h:Av X es t):Ev X (.List es pos) (dO (Oo t)):=Ov.ev (gp h)
abbrev DN:=List Dt->(Dt->Prop)->Prop
def O9(r:List V->Hp->VK->Prop)(R:DN):Prop:= ∀(M:Addr->Prop) (H:Hp) (xs:List V) (ds:List Dt) (Qd:Dt->Prop) (Q:VK),j3 M H->aA M H xs ds->R ds Qd->(∀H' v d,Qd d->aC H H'->Rep M H' v d->Q v H')->r xs H Q
def Dz(R:DN)(t:iG):bt:=fun δ Q=>t δ fun ds δ'=>R ds fun d=>Q d δ'
theorem pO{r:List V->Hp->VK->Prop}{R:DN}{t:iG}(hd:O9 r R): ∀σ H Q,lE (Dz R t) σ H Q->QQ r (lA t) σ H Q:=fun σ H Q Ib=>(by obtain⟨W,M,α,δ,Qd,E,q,k⟩:=Ib;exact(
 ⟨W,M,α,δ,_,E,q,fun ds δ1 H1 xs q1 E1 c1 r1=>hd M H1 xs ds _ _ E1.al r1 q1 fun H' v d q3 s r3=>k _ _ _ _ q3 (E1.same s) (c1.tr (cW.of s)) r3⟩))
theorem jT{id:String}{x:Str}{p:Pos}{r:List V->Hp->VK->Prop}{R:DN}{t:iG}(hc:fM X (.builtin id) r)(hd:O9 r R)(hg:Gl X x)(hm:X.mg x=none)(hv:bootBuiltins x=some (.builtin id))(ha:Av X (e::es) t)(hn:x≠"__name__":=by decide)(i8:(x==("__debug__":Str))=false:=by decide)
  (he:starEach (e::es) X.env=(false,eval e X.env)::starEach es X.env:=by rfl) (dq:(backTo pos (starEach es X.env)).any (·.1)=false:=by rfl):Ev X (.Call (.Name x p) (e::es) [] pos) (Dz R t):=
 PE.imp (g6 hc hg hm hv ha hn i8 he dq) (pO hd)
theorem Dg{T:String}{x:Str}{p:Pos}{r:List V->Hp->VK->Prop}{R:DN}{t:iG}(hc:fM X (.type T) r)(hd:O9 r R)(hg:Gl X x)(hm:X.mg x=none)(hv:bootBuiltins x=some (.type T))(ha:Av X (e::es) t)(hn:x≠"__name__":=by decide)(i8:(x==("__debug__":Str))=false:=by decide)
  (he:starEach (e::es) X.env=(false,eval e X.env)::starEach es X.env:=by rfl) (dq:(backTo pos (starEach es X.env)).any (·.1)=false:=by rfl):Ev X (.Call (.Name x p) (e::es) [] pos) (Dz R t):=
 PE.imp (iB hc hg hm hv ha hn i8 he dq) (pO hd)
end
inductive O7(g:Int->Int->Dt)(d1:Dt)(d2:Dt)(Q:Dt->Prop):Prop
 | mk (i j:_) (h1:d1= .int i) (h2:d2= .int j) (h3:Q (g i j))
inductive O6(C:Int->Int->Prop)(g:Int->Int->Dt)(d1:Dt)(d2:Dt)(Q:Dt->Prop):Prop
 | mk (i j:_) (h1:d1= .int i) (h2:d2= .int j) (h3:C i j) (h4:Q (g i j))
theorem Gs(h: ∀M H i j,Rep M H (g i j) (gd i j)):Aa (Hc g) (O7 gd):=fun M H x y d1 d2 Qd Q al r1 r2 ck k=>(by obtain⟨i,j,e1,e2,q⟩:=ck;exact(by
 subst e1;subst e2;exact⟨i,j,r1.ofInt,r2.ofInt,k H _ _ q (fun _ _ z=>z) (h M H i j)⟩))
theorem N4(h: ∀M H i j,Rep M H (g i j) (gd i j)):Aa (rI C g) (O6 C gd):=fun M H x y d1 d2 Qd Q al r1 r2 dS k=>(by obtain⟨i,j,e1,e2,c,q⟩:=dS;exact(by
 subst e1;subst e2;exact⟨i,j,r1.ofInt,r2.ofInt,c,k H _ _ q (fun _ _ z=>z) (h M H i j)⟩))
section
variable{X:Cx}{a b c e:Expr}{es rest:List Expr}{ta tb tc t:bt}{pos:Pos}
abbrev Ta(ta tb:bt):bt:=t8 (O7 fun i j=> .int (i+j)) ta tb
abbrev SQ(ta tb:bt):bt:=t8 (O7 fun i j=> .int (i - j)) ta tb
theorem cU(ha:Ev X a ta)(hb:Ev X b tb):Ev X (.BinOp a .Add b pos) (Ta ta tb):=C7 mX (Gs fun _ _ _ _=> .int _) ha hb
theorem eW(ha:Ev X a ta)(hb:Ev X b tb):Ev X (.BinOp a .Sub b pos) (SQ ta tb):=C7 Jw (Gs fun _ _ _ _=> .int _) ha hb
theorem Dc(ha:Ev X a ta)(hb:Ev X b tb):Ev X (.BinOp a .Mult b pos) (t8 (O6 zM fun i j=> .int (i*j)) ta tb):=C7 i0 (N4 fun _ _ _ _=> .int _) ha hb
abbrev TU:D2:=O7 fun i j=> .bl (decide (i < j))
abbrev TV:D2:=O7 fun i j=> .bl (decide (j < i))
theorem IG(ha:Ev X a ta)(hb:Ev X b tb):Tv X (.Compare a [.Lt] [b] pos) (dT (t8 TU ta tb)):=nG MM (Gs fun _ _ _ _=> .bl _) ha hb (i3 _)
theorem EU(ha:Ev X a ta)(hb:Ev X b tb):Tv X (.Compare a [.Gt] [b] pos) (dT (t8 TV ta tb)):=nG MN (Gs fun _ _ _ _=> .bl _) ha hb (i3 _)
noncomputable def eq2:Dt->Dt->Option Bool
 | .aD,.aD=>some true | .aD,.int _=>some false | .int _,.aD=>some false | .aD,.bl _=>some false | .bl _,.aD=>some false | .aD,.str _=>some false | .str _,.aD=>some false
 | .int i,.int j=>some (decide (i=j)) | .bl i,.bl j=>some (decide (i=j)) | .str i,.str j=>some (decide (i=j))
 | .int _,.str _=>some false | .str _,.int _=>some false | .bl _,.str _=>some false | .str _,.bl _=>some false
 | _,_=>none
inductive Lm(d1:Dt)(d2:Dt)(Q:Dt->Prop):Prop
 | mk (b:_) (h1:eq2 d1 d2=some b) (h2:Q (.bl b))
inductive O3(d1:Dt)(d2:Dt)(Q:Dt->Prop):Prop
 | mk (b:_) (h1:eq2 d1 d2=some b) (h2:Q (.bl (!b)))
noncomputable def Kq:Dt->Option V
 | .aD=>some .aD | .bl b=>some (.bl b) | .int i=>some (.int i) | .str x=>some (.str x) | _=>none
theorem Rep.fl(r:Rep M H v d)(h:Kq d=some u):v=u:=by
 cases r <;> cases h <;> rfl
theorem Xx:decide (V.int i=V.int j)=decide (i=j):=by simp
theorem Xy:decide (V.bl i=V.bl j)=decide (i=j):=by simp
theorem Xw:decide (V.str i=V.str j)=decide (i=j):=by simp
inductive E2(d1 d2:Dt)(b:Bool):Prop
 | mk (u1 u2:V) (h1:Kq d1=some u1) (h2:Kq d2=some u2) (h3:E8 u1 u2=true/\decide (u1=u2)=b)
def Vq(d1 d2:Dt):Option Bool->Prop
 | none=>True
 | some b=>E2 d1 d2 b
theorem Kv:Vq d1 d2 (eq2 d1 d2):=by
 cases d1 with
 | lst _=>trivial
 | tup _=>trivial
 | xE _ _=>trivial
 | l7 _ _=>trivial
 | _=>cases d2 with
  | lst _=>trivial
  | tup _=>trivial
  | xE _ _=>trivial
  | l7 _ _=>trivial
  | _=>first | trivial | exact⟨_,_,rfl,rfl,rfl,rfl⟩ | exact⟨_,_,rfl,rfl,rfl,Xx⟩ | exact⟨_,_,rfl,rfl,rfl,Xy⟩ | exact⟨_,_,rfl,rfl,rfl,Xw⟩
theorem CN{b:Bool}(r1:Rep M H x d1)(r2:Rep M H y d2)(h:eq2 d1 d2=some b):E8 x y=true/\decide (x=y)=b:=by
 have z:Vq d1 d2 (some b):=h▸Kv;obtain⟨u1,u2,e1,e2,q⟩:=z;rw[r1.fl e1,r2.fl e2];exact q
theorem HG:Aa Uh Lm:=fun M H x y d1 d2 Qd Q al r1 r2 j8 k=>(by obtain⟨b,e,q⟩:=j8;exact(by
 obtain⟨h1,h2⟩:=CN r1 r2 e;exact⟨h1,by rw[h2];exact k H _ _ q (fun _ _ z=>z) (.bl b)⟩))
theorem N1:Aa Ud O3:=fun M H x y d1 d2 Qd Q al r1 r2 iP k=>(by obtain⟨b,e,q⟩:=iP;exact(by
 obtain⟨h1,h2⟩:=CN r1 r2 e;exact⟨h1,by rw[h2];exact k H _ _ q (fun _ _ z=>z) (.bl _)⟩))
theorem lz(ha:Ev X a ta)(hb:Ev X b tb):Ev X (.Compare a [.Eq] [b] pos) (t8 Lm ta tb):=N5 Hh HG ha hb (i3 _)
theorem IH(ha:Ev X a ta)(hb:Ev X b tb):Tv X (.Compare a [.Eq] [b] pos) (dT (t8 Lm ta tb)):=nG Hh HG ha hb (i3 _)
theorem uG(ha:Ev X a ta)(hb:Ev X b tb):Tv X (.Compare a [.NotEq] [b] pos) (dT (t8 O3 ta tb)):=nG ML N1 ha hb (i3 _)
inductive O1(g:Int->Dt)(Q:Dt->List Sl->Prop)(d:Dt)(δ':List Sl):Prop
 | mk (i:_) (h1:d= .int i) (h2:Q (g i) δ')
def X8(g:Int->Dt)(ta:bt):bt:=fun δ Q=>ta δ fun d δ'=>O1 g Q d δ'
theorem C9(ha:Ev X a ta):Ev X (.UnaryOp .USub a pos) (X8 (fun i=> .int (-i)) ta):=PE.imp (MJ Iw ha) fun σ H Q kZ=>(by obtain⟨W,M,α,δ,Qd,E,q,k⟩:=kZ;exact(
 ⟨W,M,α,δ,_,E,q,fun d δ1 H1 x j7 E1 c1 r1=>(by obtain⟨i,e,q1⟩:=j7;exact(⟨i,by subst e;exact r1.ofInt,k _ _ _ _ q1 E1 c1 (.int _)⟩))⟩))
theorem rG(r:aA M H xs ds)(h:kX ds i=some d): ∃x,kX xs i=some x/\Rep M H x d:=by
 unfold kX at h ⊢;rw[r.1];cases hn:xi ds.length i with
 | none=>rw[hn] at h;cases h
 | some j=>rw[hn] at h;exact r.get h
inductive O4(d1:Dt)(d2:Dt)(Q:Dt->Prop):Prop
 | mk (ds i d:_) (h1:(d1= .lst ds\/d1= .tup ds)) (h2:d2= .int i) (h3:kX ds i=some d) (h4:Q d)
theorem N2{K:PySem.W.Frag}:Aa (Ue K) O4:=fun M H x y d1 d2 Qd Q al r1 r2 oi k=>(by obtain⟨ds,i,d,e1,e2,h,q⟩:=oi;exact(by
 subst e2;rcases e1 with e1 | e1
 . subst e1;obtain⟨a,xs,rfl,ha,n,rr⟩:=r1.cO;obtain⟨v,hv,rv⟩:=rG rr h;exact .inl ⟨a,xs,i,v,rfl,r2.ofInt,cY.of ha,hv,k H _ _ q (fun _ _ z=>z) rv⟩
 . subst e1;obtain⟨a,xs,rfl,ha,n,rr⟩:=r1.bN;obtain⟨v,hv,rv⟩:=rG rr h;exact .inr (.inl ⟨a,xs,i,v,rfl,r2.ofInt,dG.of ha,hv,k H _ _ q (fun _ _ z=>z) rv⟩)))
theorem dB(ha:Ev X a ta)(hb:Ev X b tb)(hs:rQ b:=by exact fun _ _=>rfl):Ev X (.Subscript a b pos) (t8 O4 ta tb):=PE.imp (Bz JV ha hb hs) (lQ N2)
noncomputable def cutD(ds:List Dt)(lo hi:Option Int):List Dt:=(ds.drop (HT.cK ds.length 0 lo)).take (HT.cK ds.length ds.length hi - HT.cK ds.length 0 lo)
theorem aA.cut(r:aA M H xs ds)(lo hi:Option Int):aA M H (lD xs lo hi) (cutD ds lo hi):=by
 unfold lD cutD;rw[r.1];exact(r.drop _).take _
abbrev LU:=List Sl->(Option Int->List Sl->Prop)->Prop
inductive lP(t:LU)(σ:L2.St)(H:Hp)(Q:Option Int->Hp->Prop):Prop
 | mk (W:List Wd) (M:Addr->Prop) (α:List (List Addr)) (δ:List Sl) (Qd:Option Int->List Sl->Prop) (h1:az W M α H σ δ) (h2:t δ Qd) (h3: ∀o δ' H',Qd o δ'->az W M α H' σ δ'->cW α H H'->Q o H')
def Oj:LU:=fun δ Q=>Q none δ
inductive GD(Q:Option Int->List Sl->Prop)(d:Dt)(δ':List Sl):Prop
 | mk (i:_) (h1:d= .int i) (h2:Q (some i) δ')
def HK(t:bt):LU:=fun δ Q=>t δ fun d δ'=>GD Q d δ'
abbrev Pv(X:Cx)(o:Option Expr)(t:LU):Prop:=PO X o (lP t)
theorem PO.imp{X:Cx}{e:Option Expr}{t t':L2.TO}(h:PO X e t)(i: ∀σ H Q,t' σ H Q->t σ H Q):PO X e t':=fun pins s σ H Q I q=>h pins s σ H Q I (i _ _ _ q)
theorem iZ:Pv X none Oj:=PO.imp wQ fun σ H Q pX=>(by obtain⟨W,M,α,δ,Qd,E,q,k⟩:=pX;exact(k _ _ _ q E cW.rf))
theorem iY(h:Ev X e t):Pv X (some e) (HK t):=PO.imp (wO h) fun σ H Q oh=>(by obtain⟨W,M,α,δ,Qd,E,q,k⟩:=oh;exact(
 ⟨W,M,α,δ,_,E,q,fun d δ1 H1 x iQ E1 c1 r1=>(by obtain⟨i,e,q1⟩:=iQ;exact(⟨i,by subst e;exact r1.ofInt,k _ _ _ q1 E1 c1⟩))⟩))
inductive KI(Q:Dt->List Sl->Prop)(d:Dt)(lo:Option Int)(hi:Option Int)(δ3:List Sl):Prop
 | mk (ds:_) (h1:d= .tup ds) (h2:Q (.tup (cutD ds lo hi)) δ3)
def SR(ta:bt)(tl th:LU):bt:=fun δ Q=>ta δ fun d δ1=>tl δ1 fun lo δ2=>th δ2 fun hi δ3=>KI Q d lo hi δ3
inductive KJ(Q:Dt->List Sl->Prop)(d:Dt)(lo:Option Int)(hi:Option Int)(δ3:List Sl):Prop
 | mk (ds:_) (h1:d= .lst ds) (h2:Q (.lst (cutD ds lo hi)) δ3)
def Oa(ta:bt)(tl th:LU):bt:=fun δ Q=>ta δ fun d δ1=>tl δ1 fun lo δ2=>th δ2 fun hi δ3=>KJ Q d lo hi δ3
theorem xM{lo hi:Option Expr}(ha:Ev X a ta)(hl:Pv X lo tl)(hh:Pv X hi th):Ev X (.Subscript a (.Slice lo hi none p2) pos) (SR ta tl th):=PE.imp (mV EX ha hl hh) fun σ H Q ck=>(by obtain⟨W,M,α,δ,Qd,E,q,k⟩:=ck;exact(
 ⟨W,M,α,δ,_,E,q,fun d δ1 H1 x q1 E1 c1 r1=>⟨W,M,α,δ1,_,E1,q1,fun o2 δ2 H2 q2 E2 c2=>⟨W,M,α,δ2,_,E2,q2,fun o3 δ3 H3 dS E3 c3=>(by obtain⟨ds,e,q3⟩:=dS;exact(by
  subst e;obtain⟨a,xs,rfl,ha,n,rr⟩:=((r1.chg E1 c2).chg E2 c3).bN;refine⟨a,xs,rfl,ha,fun p H' nt=>?_⟩;have s:aC H3 H':=nt.keep;exact k _ _ _ _ q3 (E3.same s) (((c1.tr c2).tr c3).tr (cW.of s)) (Rep.jj nt.at (E3.al.MZ nt) ((rr.cut _ _).same s))))⟩⟩⟩))
theorem C5{lo hi:Option Expr}(ha:Ev X a ta)(hl:Pv X lo tl)(hh:Pv X hi th):Ev X (.Subscript a (.Slice lo hi none p2) pos) (Oa ta tl th):=PE.imp (mV wy ha hl hh) fun σ H Q j8=>(by obtain⟨W,M,α,δ,Qd,E,q,k⟩:=j8;exact(
 ⟨W,M,α,δ,_,E,q,fun d δ1 H1 x q1 E1 c1 r1=>⟨W,M,α,δ1,_,E1,q1,fun o2 δ2 H2 q2 E2 c2=>⟨W,M,α,δ2,_,E2,q2,fun o3 δ3 H3 iP E3 c3=>(by obtain⟨ds,e,q3⟩:=iP;exact(by
  subst e;obtain⟨a,xs,rfl,ha,n,rr⟩:=((r1.chg E1 c2).chg E2 c3).cO;refine⟨a,xs,rfl,cY.of ha,fun p hp=>?_⟩;have s:aC H3 (upd H3 p (.lst (lD xs o2 o3))):=aC.new hp;exact k _ _ _ _ q3 (E3.same s) (((c1.tr c2).tr c3).tr (cW.of s)) (Rep.oY ag (E3.fresh hp) ((rr.cut _ _).same s))))⟩⟩⟩))
inductive Ec(d1:Dt)(d2:Dt)(Q:Dt->Prop):Prop
 | mk (ds es:_) (h1:d1= .tup ds) (h2:d2= .tup es) (h3:ds.length+es.length<=sizeLine) (h4:Q (.tup (ds++es)))
inductive vZ(d1:Dt)(d2:Dt)(Q:Dt->Prop):Prop
 | mk (ds es:_) (h1:d1= .lst ds) (h2:d2= .lst es) (h3:ds.length+es.length<=sizeLine) (h4:Q (.lst (ds++es)))
theorem Gu:Aa Hd Ec:=fun M H x y d1 d2 Qd Q al r1 r2 uz k=>(by obtain⟨ds,es,e1,e2,l,q⟩:=uz;exact(by
 subst e1;subst e2;obtain⟨a,xs,rfl,ha,n,rr⟩:=r1.bN;obtain⟨b,ys,rfl,hb,n2,mR⟩:=r2.bN;exact⟨a,b,xs,ys,rfl,rfl,ha,hb,by rw[rr.1,mR.1];exact l,fun p H' nt=>k H' _ _ q nt.keep (Rep.jj nt.at (al.MZ nt) ((rr.append mR).same nt.keep))⟩))
theorem Gw:Aa ME vZ:=fun M H x y d1 d2 Qd Q al r1 r2 kZ k=>(by obtain⟨ds,es,e1,e2,l,q⟩:=kZ;exact(by
 subst e1;subst e2;obtain⟨a,xs,rfl,ha,n,rr⟩:=r1.cO;obtain⟨b,ys,rfl,hb,n2,mR⟩:=r2.cO;refine⟨a,b,xs,ys,rfl,rfl,ha,hb,by rw[rr.1,mR.1];exact l,fun p hp=>?_⟩;have s:aC H (upd H p (.lst (xs++ys))):=aC.new hp;exact k _ _ _ q s (Rep.oY ag (al.fresh hp) ((rr.append mR).same s))))
theorem fY(ha:Ev X a ta)(hb:Ev X b tb):Ev X (.BinOp a .Add b pos) (t8 Ec ta tb):=C7 Fz Gu ha hb
theorem KD(ha:Ev X a ta)(hb:Ev X b tb):Ev X (.BinOp a .Add b pos) (t8 vZ ta tb):=C7 Jy Gw ha hb
noncomputable def eG:Dt->Bool
 | .lst _=>false
 | .tup _=>false
 | .xE _ _=>false
 | .l7 _ _=>false
 | _=>true
noncomputable def Ku:Dt->Dt->Bool
 | .aD,.aD=>true
 | .bl a,.bl b=>a==b
 | .bl a,.int b=>(if a then 1 else 0)==b
 | .int a,.bl b=>a==(if b then 1 else 0)
 | .int a,.int b=>a==b
 | .str a,.str b=>a==b
 | _,_=>false
noncomputable def inD(d:Dt)(ds:List Dt):Bool:=ds.any fun e=>Ku e d
theorem jM(r:Rep M H v d)(h:eG d=true):eF v=true:=by cases r <;> first | rfl | cases h
def X6(d e:Dt):Option V->Option V->Prop
 | some u,some v=>zW u v=Ku d e
 | _,_=>False
theorem Kt{d e:Dt}(h:eG d=true)(h2:eG e=true):X6 d e (Kq d) (Kq e):=by
 cases d with
 | lst _=>cases h
 | tup _=>cases h
 | xE _ _=>cases h
 | l7 _ _=>cases h
 | _=>cases e with
  | lst _=>cases h2
  | tup _=>cases h2
  | xE _ _=>cases h2
  | l7 _ _=>cases h2
  | _=>exact(rfl:_=_)
theorem xy{M:Addr->Prop}{H:Hp}{v w:V}{d e:Dt}(r:Rep M H v d)(r2:Rep M H w e)(h:eG d=true)(h2:eG e=true):zW v w=Ku d e:=by
 have z:=Kt h h2;cases e1:Kq d with
 | none=>rw[e1] at z;exact z.elim
 | some u=>
  cases e2:Kq e with
  | none=>rw[e1,e2] at z;exact z.elim
  | some u2=>
   rw[e1,e2] at z;rw[r.fl e1,r2.fl e2];exact z
theorem zo(r:aA M H xs ds)(h:ds.all eG=true):xs.all eF=true:=ag4.mpr fun x hx=>by
 obtain⟨i,hi,e⟩:=af5 hx;have h1:xs[i]?=some x:=by rw[Zs hi,e]
 have h2:ds[i]?=some (ds[i]'(by rw[<-r.1];exact hi)):=Zs _;exact jM (r.2 i _ _ h1 h2) (ag4.mp h _ (ZY h2))
theorem xj(r:Rep M H v d)(hd:eG d=true): ∀{xs:List V} {ds:List Dt},aA M H xs ds->ds.all eG=true->oE v xs=inD d ds
 | [],[],_,_=>rfl
 | [],_::_,h,_=>by have:=h.1;simp at this
 | _::_,[],h,_=>by have:=h.1;simp at this
 | x::xs,e::ds,h,hf=>by
  obtain⟨y,ys,e1,e2,e3⟩:=h.aQ;cases e1;rw[an5,aj0] at hf;have ih:=xj r hd e3 hf.2;unfold oE inD at ih ⊢;rw[aj6,aj6,ih,xy e2 r hf.1 hd]
inductive O5(neg:Bool)(d1:Dt)(d2:Dt)(Q:Dt->Prop):Prop
 | mk (ds:_) (h1:(d2= .lst ds\/d2= .tup ds)) (h2:eG d1=true) (h3:ds.all eG=true) (h4:Q (.bl (if neg then !inD d1 ds else inD d1 ds)))
theorem N3{K:PySem.W.Frag}{neg:Bool}:Aa (Ug K neg) (O5 neg):=fun M H x y d1 d2 Qd Q al r1 r2 uy k=>(by obtain⟨ds,e2,f1,f2,q⟩:=uy;exact(by
 have fin: ∀xs,aA M H xs ds->eF x=true/\xs.all eF=true/\Q (.bl (if neg then !oE x xs else oE x xs)) H:=fun xs rr=>⟨jM r1 f1,zo rr f2,by rw[xj r1 f1 rr f2];exact k H _ _ q (fun _ _ z=>z) (.bl _)⟩
 rcases e2 with e2 | e2
 . subst e2;obtain⟨a,xs,rfl,ha,n,rr⟩:=r2.cO;exact⟨a,xs,rfl,.inl (cY.of ha),fin xs rr⟩
 . subst e2;obtain⟨a,xs,rfl,ha,n,rr⟩:=r2.bN;exact⟨a,xs,rfl,.inr (dG.of ha),fin xs rr⟩))
theorem Ma(ha:Ev X a ta)(hb:Ev X b tb)(hm:behindInMarks .In b=false:=by rfl):Tv X (.Compare a [.In] [b] pos) (dT (t8 (O5 false) ta tb)):=nG yM N3 ha hb hm
inductive HZ(ds:List Dt)(Q:Dt->Prop):Prop
 | mk (es:_) (h1:(ds= [.lst es]\/ds= [.tup es])) (h2:Q (.int es.length))
theorem KA{K:PySem.W.Frag}:O9 (fun xs H Q=> ∃p ys,xs= [.ref p]/\(cY K H p ys\/dG K H p ys)/\Q (.int ys.length) H) HZ:=fun M H xs ds Qd Q al r ux k=>(by obtain⟨es,e,q⟩:=ux;exact(by
 rcases e with e | e <;> subst e <;> obtain⟨x,ys,rfl,r1,r2⟩:=r.aQ <;> cases r2.eQ
 . obtain⟨a,zs,rfl,ha,n,rr⟩:=r1.cO;exact⟨a,zs,rfl,.inl (cY.of ha),by rw[rr.1];exact k H _ _ q (fun _ _ z=>z) (.int _)⟩
 . obtain⟨a,zs,rfl,ha,n,rr⟩:=r1.bN;exact⟨a,zs,rfl,.inr (dG.of ha),by rw[rr.1];exact k H _ _ q (fun _ _ z=>z) (.int _)⟩))
theorem dR(hm:X.mg "len"=none)(ha:Av X [e] tA)(hg:Gl X "len":=by rfl)(he:starEach [e] X.env=(false,eval e X.env)::starEach [] X.env:=by rfl)(dq:(backTo pos (starEach [] X.env)).any (·.1)=false:=by rfl):
  Ev X (.Call (.Name "len" p) [e] [] pos) (Dz HZ tA):=jT gf KA hg hm PySem.boot_len ha (by decide) (by decide) he dq
inductive yg(ds:List Dt)(Q:Dt->Prop):Prop
 | mk (es:_) (h1:(ds= [.lst es]\/ds= [.tup es])) (h2:Q (.tup es))
theorem C3{K:PySem.W.Frag}:O9 (fun xs H Q=> ∃p ys,xs= [.ref p]/\((cY K H p ys/\ ∀l,H l=none->Q (.ref l) (upd H l (.tup ys)))\/(dG K H p ys/\Q (.ref p) H))) yg:=fun M H xs ds Qd Q al r oi k=>(by obtain⟨es,e,q⟩:=oi;exact(by
 rcases e with e | e <;> subst e <;> obtain⟨x,ys,rfl,r1,r2⟩:=r.aQ <;> cases r2.eQ
 . obtain⟨a,zs,rfl,ha,n,rr⟩:=r1.cO;refine⟨a,zs,rfl,.inl ⟨cY.of ha,fun l hl=>?_⟩⟩;have s:aC H (upd H l (.tup zs)):=aC.new hl;exact k _ _ _ q s (Rep.jj ag (al.fresh hl) (rr.same s))
 . obtain⟨a,zs,rfl,ha,n,rr⟩:=r1.bN;exact⟨a,zs,rfl,.inr ⟨dG.of ha,k H _ _ q (fun _ _ z=>z) r1⟩⟩))
theorem q0(hm:X.mg "tuple"=none)(ha:Av X [e] tA)(hg:Gl X "tuple":=by rfl)(he:starEach [e] X.env=(false,eval e X.env)::starEach [] X.env:=by rfl)(dq:(backTo pos (starEach [] X.env)).any (·.1)=false:=by rfl):
  Ev X (.Call (.Name "tuple" p) [e] [] pos) (Dz yg tA):=Dg iO C3 hg hm aZ ha (by decide) (by decide) he dq
end
theorem bq{α:List (List Addr)}(h:x∈(α.set i as).flatten):x∈α.flatten\/x∈as:=by
 obtain⟨l,hl,hx⟩:=al9.mp h;rcases List.mem_or_eq_of_mem_set hl with y | y
 . exact .inl (al9.mpr ⟨l,y,hx⟩)
 . exact .inr (y▸hx)
theorem aM{α:List (List Addr)}{i:Nat}(h:α[i]?=some as)(hx:x∈as):x∈α.flatten:=al9.mpr ⟨as,ZY h,hx⟩
theorem bZ: ∀{α:List (List Addr)} {i:Nat} {as:List Addr},α.flatten.Nodup->as.Nodup->(∀x∈as,x∉α.flatten)->(α.set i as).flatten.Nodup
 | [],_,_,_,_,_=>by simp
 | l::r,0,as,h,ha,hx=>by
  rw[List.set_cons_zero,af4];rw[af4] at h;refine ai7.mpr ⟨ha,(ai7.mp h).2.1,fun x h1 y h2 e=>?_⟩;subst e;exact hx x h1 (by rw[af4];exact ZS _ h2)
 | l::r,i+1,as,h,ha,hx=>by
  rw[List.set_cons_succ,af4];rw[af4] at h;obtain⟨h1,h2,h3⟩:=ai7.mp h;refine ai7.mpr ⟨h1,bZ h2 ha fun x z y=>hx x z (by rw[af4];exact ZS _ y),fun x z y w e=>?_⟩;subst e;rcases bq w with q | q
  . exact h3 x z x q rfl
  . exact hx x q (by rw[af4];exact af1 _ z)
theorem fV: ∀{α:List (List Addr)} {i j:Nat} {as bs:List Addr} {x:Addr},α.flatten.Nodup->α[i]?=some as->α[j]?=some bs->i≠j->x∈as->x∉bs
 | [],i,j,as,bs,x,_,h1,_,_,_=>by simp at h1
 | l::r,i,j,as,bs,x,h,h1,h2,cj,hx=>by
  rw[af4] at h;obtain⟨n1,n2,n3⟩:=ai7.mp h;cases i with
  | zero=>
   cases j with
   | zero=>exact absurd rfl cj
   | succ j=>
    simp at h1 h2;subst h1;exact fun y=>n3 x hx x (aM h2 y) rfl
  | succ i=>
   cases j with
   | zero=>
    simp at h1 h2;subst h2;exact fun y=>n3 x y x (aM h1 hx) rfl
   | succ j=>exact fV n2 (by simpa using h1) (by simpa using h2) (by lia) hx
section
variable{Ws:List Wd}{M:Addr->Prop}{α:List (List Addr)}{H H':Hp}{σ:L2.St}{δ:List Sl}{i:Nat}{v:V}{d:Dt}{s:Sl}
def bY(δ:List Sl)(i:Nat):Prop:= ∃s,δ[i]?=some s/\s.bU=false
theorem bY.lt(h:bY δ i):i < δ.length:=let ⟨s,e,_⟩:=h;(Zw.mp e).1
theorem az.gm(E:az Ws M α H σ δ)(r:Rep M H v d)(ok:bY δ i):az Ws M (α.set i []) H (σ.set i (some v)) (δ.set i (.im d)):=by
 have hi:=ok.lt;obtain⟨s0,LA,nb⟩:=ok;refine⟨by rw[Z4,Z4,E.ls],by rw[Z4,Z4,E.la],fun j s hj=>?_,bZ E.nd ag8 (fun x hx=>absurd hx Zz),fun a ha=>(bq ha).elim (E.mu a) fun z=>absurd z Zz,E.al,fun W hW=>?_⟩
 . by_cases cj:i=j
   . subst cj;rw[ZN hi] at hj;cases hj;exact⟨some v,[],by rw[ZN (by rw[E.ls];exact hi)],by rw[ZN (by rw[E.la];exact hi)],rfl,v,rfl,r⟩
   . rw[ZE cj] at hj;obtain⟨o,as,h1,h2,h3⟩:=E.sl j s hj;exact⟨o,as,by rw[ZE cj];exact h1,by rw[ZE cj];exact h2,h3⟩
 . have k:=E.w W hW;refine⟨k.bs,k.ex,fun a ha=>(bq ha).elim (k.fr a) fun z=>absurd z Zz,k.m0,k.m1,fun d c e=>?_,fun j s as h1 h2 nb'=>?_⟩
   . obtain⟨t,e1,e2⟩:=k.bx d c e;have:i≠0:=fun z=>by subst z;rw[LA] at e1;cases e1;cases nb
     exact⟨t,by rw[ZE this];exact e1,by rw[ZE this];exact e2⟩
   . by_cases cj:i=j
     . subst cj;rw[ZN (by rw[E.la];exact hi)] at h2;cases h2;exact fun a ha=>absurd ha Zz
     . rw[ZE cj] at h1 h2;exact k.fz j s as h1 h2 nb'
theorem aA.grow(r:aA M H xs ds)(hp:H p=none):aA (fun b=>M b\/b=p) (upd H p o) xs ds:=r.mono fun a u e n=>⟨by rw[ah (ai e hp)];exact e,fun z=>z.elim n (ai e hp)⟩
theorem Rep.grow(r:Rep M H x d)(hp:H p=none):Rep (fun b=>M b\/b=p) (upd H p o) x d:=r.mono fun a u e n=>⟨by rw[ah (ai e hp)];exact e,fun z=>z.elim n (ai e hp)⟩
theorem rP.grow(h:rP M H o s as)(hp:H p=none):rP (fun b=>M b\/b=p) (upd H p u) o s as:=by
 have sm:aC H (upd H p u):=aC.new hp;cases s with
 | no=>exact h
 | im d=>exact⟨h.1,let ⟨v,e,r⟩:=h.2;⟨v,e,r.grow hp⟩⟩
 | ow ds=>obtain⟨a,xs,e1,e2,e3,r⟩:=h;exact⟨a,xs,e1,e2,sm _ _ e3,r.grow hp⟩
 | bx t=>obtain⟨d,c,e1,e2,r⟩:=h;exact⟨d,c,e1,e2,r.same sm⟩
 | dk ks ds=>obtain⟨a,vs,e1,e2,e3,e4,r⟩:=h;exact⟨a,vs,e1,e2,sm _ _ e3,e4,r.grow hp⟩
 | ob R=>obtain⟨v,e,r⟩:=h;exact⟨v,e,R.st r (fun a _ o q=>sm _ _ q) fun a u q n=>⟨sm _ _ q,fun z=>z.elim n (ai q hp)⟩⟩
 | fn f=>exact h
theorem az.mG(E:az Ws M α H σ δ)(hp:H p=none)(hu: ∀xs,u≠ .tup xs)(ok:bY δ i)(nb:s.bU=false)(hs:rP (fun b=>M b\/b=p) (upd H p u) (some (.ref p)) s [p]):
  az Ws (fun b=>M b\/b=p) (α.set i [p]) (upd H p u) (σ.set i (some (.ref p))) (δ.set i s):=by
 have hi:=ok.lt;have sm:aC H (upd H p u):=aC.new hp;have np:p∉α.flatten:=fun z=>E.fresh hp (E.mu p z);obtain⟨s0,LA,Wa⟩:=ok;refine⟨by rw[Z4,Z4,E.ls],by rw[Z4,Z4,E.la],fun j s' hj=>?_,bZ E.nd (by simp) (fun x hx=>by rw[ZM.mp hx];exact np),fun a ha=>(bq ha).elim (fun z=> .inl (E.mu a z)) fun z=> .inr (ZM.mp z),fun a ha=>?_,fun W hW=>?_⟩
 . by_cases cj:i=j
   . subst cj;rw[ZN hi] at hj;cases hj;exact⟨_,_,by rw[ZN (by rw[E.ls];exact hi)],by rw[ZN (by rw[E.la];exact hi)],hs⟩
   . rw[ZE cj] at hj;obtain⟨o,as,h1,h2,h3⟩:=E.sl j s' hj;exact⟨o,as,by rw[ZE cj];exact h1,by rw[ZE cj];exact h2,h3.grow hp⟩
 . rcases ha with ha | ha
   . obtain⟨o,e,n⟩:=E.al a ha;exact⟨o,sm _ _ e,n⟩
   . subst ha;exact⟨u,ag,hu⟩
 . have k:=E.w W hW;have Xc:W.A0 p\/W.H0 p=none:=by
    by_cases z:W.A0 p
    . exact .inl z
    . right;cases e:W.H0 p with
      | none=>rfl
      | some o=>have:=k.bs p o e z;rw[hp] at this;cases this
   refine⟨fun b o e n=>sm _ _ (k.bs b o e n),fun b n y=>k.ex b n (LW.aC.none sm y),fun a ha=>(bq ha).elim (k.fr a) fun z=>by rw[ZM.mp z];exact Xc,fun a h=> .inl (k.m0 a h),fun a h=>?_,fun d c e=>?_,fun j s' as h1 h2 nb'=>?_⟩
   . rcases h with h | h
     . exact k.m1 a h
     . subst h;by_cases z:W.H0 a=none
       . exact .inr z
       . exact absurd hp (k.ex a z)
   . obtain⟨t,e1,e2⟩:=k.bx d c e;have:i≠0:=fun z=>by subst z;rw[LA] at e1;cases e1;cases Wa
     exact⟨t,by rw[ZE this];exact e1,by rw[ZE this];exact e2⟩
   . by_cases cj:i=j
     . subst cj;rw[ZN (by rw[E.la];exact hi)] at h2;cases h2;exact fun a ha z=>by rw[ZM.mp ha] at z;exact E.fresh hp (k.m0 _ z)
     . rw[ZE cj] at h1 h2;exact k.fz j s' as h1 h2 nb'
theorem az.mod(E:az Ws M α H σ δ){s s':Sl}(hi:δ[i]?=some s)(ho:σ[i]?=some o)(ha:α[i]?=some as)(hb:s'.bU=s.bU)(hs:rP M H' o s' as)(keep: ∀b u,H b=some u->b∉as->H' b=some u)(ex: ∀a∈as,∃u,H' a=some u/\ ∀xs,u≠ .tup xs):az Ws M α H' σ (δ.set i s')/\cW α H H':=by
 have dr:=(Zw.mp hi).1;have Tj: ∀a∈as,M a:=fun a h=>E.mu a (aM ha h);have rep: ∀{v:V} {d:Dt},Rep M H v d->Rep M H' v d:=fun r=>r.mono fun a u e n=>⟨keep a u e fun z=>n (Tj a z),n⟩
 have Bb: ∀{v:List V} {d:List Dt},aA M H v d->aA M H' v d:=fun r=>r.mono fun a u e n=>⟨keep a u e fun z=>n (Tj a z),n⟩
 refine⟨⟨by rw[Z4,E.ls],by rw[Z4,E.la],fun j s2 hj=>?_,E.nd,E.mu,fun a h=>?_,fun W hW=>?_⟩,fun b u e n=>keep b u e fun z=>n (aM ha z)⟩
 . by_cases cj:i=j
   . subst cj;rw[ZN dr] at hj;cases hj;exact⟨o,as,ho,ha,hs⟩
   . rw[ZE cj] at hj;obtain⟨o2,yc,h1,h2,h3⟩:=E.sl j s2 hj;have ap: ∀x∈yc,x∉as:=fun x hx=>fV E.nd h2 ha (Ne.symm cj) hx;refine⟨o2,yc,h1,h2,?_⟩;cases s2 with
     | no=>exact h3
     | im d=>exact⟨h3.1,let ⟨v,e,r⟩:=h3.2;⟨v,e,rep r⟩⟩
     | ow ds=>obtain⟨a,xs,e1,e2,e3,r⟩:=h3;subst e1;exact⟨a,xs,rfl,e2,keep _ _ e3 (ap a (by simp)),Bb r⟩
     | bx t=>
      obtain⟨d,c,e1,e2,r⟩:=h3;subst e1;refine⟨d,c,rfl,e2,keep _ _ r.dc (ap d (by simp)),?_,r.t0,r.t1⟩;obtain⟨ns,h,q⟩:=r.cs;exact⟨ns,keep _ _ h (ap c (by simp)),q⟩
     | dk ks ds=>obtain⟨a,vs,e1,e2,e3,e4,r⟩:=h3;subst e1;exact⟨a,vs,rfl,e2,keep _ _ e3 (ap a (by simp)),e4,Bb r⟩
     | ob R=>obtain⟨v,e,r⟩:=h3;exact⟨v,e,R.st r (fun a ha u q=>keep _ _ q (ap a ha)) fun a u q n=>⟨keep a u q fun z=>n (Tj a z),n⟩⟩
     | fn f=>exact h3
 . by_cases z:a∈as
   . exact ex a z
   . obtain⟨u,e,n⟩:=E.al a h;exact⟨u,keep _ _ e z,n⟩
 . have k:=E.w W hW;have Wq: ∀a∈as,W.A0 a\/W.H0 a=none:=fun a z=>k.fr a (aM ha z);refine⟨fun b u e n=>keep _ _ (k.bs b u e n) fun z=>?_,fun b n y=>?_,k.fr,k.m0,k.m1,fun d c e=>?_,fun j s2 yc h1 h2 nb=>?_⟩
   . rcases Wq b z with q | q
     . exact n q
     . rw[q] at e;cases e
   . by_cases z:b∈as
     . obtain⟨u,e,_⟩:=ex b z;rw[e] at y;cases y
     . cases e:H b with
       | none=>exact k.ex b n e
       | some u=>rw[keep _ _ e z] at y;cases y
   . obtain⟨t,e1,e2⟩:=k.bx d c e;by_cases cj:i=0
     . subst cj;rw[hi] at e1;cases e1;cases s' with
       | bx t'=>exact⟨t',by rw[ZN dr],e2⟩
       | _=>cases hb
     . exact⟨t,by rw[ZE cj];exact e1,e2⟩
   . by_cases cj:i=j
     . subst cj;rw[ZN dr] at h1;cases h1;exact k.fz i s yc hi h2 (by rw[<-hb];exact nb)
     . rw[ZE cj] at h1;exact k.fz j s2 yc h1 h2 nb
theorem az.CC(E:az Ws M α H σ δ)(hi:δ[i]?=some (.ow ds))(ha:α[i]?=some [a]):az Ws (fun b=>M b/\b≠a) (α.set i []) H σ (δ.set i (.im (.lst ds))):=by
 have dr:=(Zw.mp hi).1;obtain⟨a',xs,h1,h2,h3,r⟩:=E.ow hi;rw[ha] at h2;cases h2;have mono: ∀{v:V} {d:Dt},Rep M H v d->Rep (fun b=>M b/\b≠a) H v d:=fun r=>r.mono fun b u e n=>⟨e,fun z=>n z.1⟩
 have m4: ∀{v:List V} {d:List Dt},aA M H v d->aA (fun b=>M b/\b≠a) H v d:=fun r=>r.mono fun b u e n=>⟨e,fun z=>n z.1⟩
 refine⟨by rw[Z4,E.ls],by rw[Z4,Z4,E.la],fun j s hj=>?_,bZ E.nd ag8 (fun x hx=>absurd hx Zz),fun b hb=>?_,fun b hb=>E.al b hb.1,fun W hW=>?_⟩
 . by_cases cj:i=j
   . subst cj;rw[ZN dr] at hj;cases hj;exact⟨some (.ref a),[],h1,by rw[ZN (by rw[E.la];exact dr)],rfl,_,rfl,Rep.oY h3 (fun z=>z.2 rfl) (m4 r)⟩
   . rw[ZE cj] at hj;obtain⟨o2,yc,g1,g2,g3⟩:=E.sl j s hj;refine⟨o2,yc,g1,by rw[ZE cj];exact g2,?_⟩;cases s with
     | no=>exact g3
     | im d=>exact⟨g3.1,let ⟨v,e,r⟩:=g3.2;⟨v,e,mono r⟩⟩
     | ow ds=>obtain⟨b,xs,e1,e2,e3,r⟩:=g3;exact⟨b,xs,e1,e2,e3,m4 r⟩
     | bx t=>exact g3
     | dk ks ds=>obtain⟨b,vs,e1,e2,e3,e4,r⟩:=g3;exact⟨b,vs,e1,e2,e3,e4,m4 r⟩
     | ob R=>obtain⟨v,e,r⟩:=g3;exact⟨v,e,R.st r (fun _ _ _ q=>q) fun b u q n=>⟨q,fun z=>n z.1⟩⟩
     | fn f=>exact g3
 . obtain⟨l,hl,hx⟩:=al9.mp hb;obtain⟨j,hj,e⟩:=af5 hl;have ej:(α.set i [])[j]?=some l:=by rw[Zs hj,e]
   by_cases cj:i=j
   . subst cj;rw[ZN (by rw[E.la];exact dr)] at ej;cases ej;exact absurd hx Zz
   . rw[ZE cj] at ej;refine⟨E.mu b (aM ej hx),fun z=>?_⟩;subst z;exact fV E.nd ej ha (Ne.symm cj) hx (by simp)
 . have k:=E.w W hW;refine⟨k.bs,k.ex,fun b hb=>(bq hb).elim (k.fr b) fun z=>absurd z Zz,fun b z=>⟨k.m0 b z,fun y=>?_⟩,fun b z=>k.m1 b z.1,fun d c e=>?_,fun j s as g1 g2 nb=>?_⟩
   . subst y;exact k.fz i _ _ hi ha rfl b (by simp) z
   . obtain⟨t,e1,e2⟩:=k.bx d c e;have:i≠0:=fun z=>by subst z;rw[hi] at e1;cases e1
     exact⟨t,by rw[ZE this];exact e1,by rw[ZE this];exact e2⟩
   . by_cases cj:i=j
     . subst cj;rw[ZN (by rw[E.la];exact dr)] at g2;cases g2;exact fun b hb=>absurd hb Zz
     . rw[ZE cj] at g1 g2;exact k.fz j s as g1 g2 nb
theorem az.lZ(E:az Ws M α H σ δ){ds:List Dt}(hi:δ[i]?=some (.ow ds)): ∃M' α',az Ws M' α' H σ (δ.set i (.im (.lst ds)))/\ ∀a,M' a->M a:=by
 obtain⟨a,xs,h1,h2,h3,r⟩:=E.ow hi;exact⟨_,_,E.CC hi h2,fun b z=>z.1⟩
theorem az.drop(E:az (W::Ws) M α H σ δ):az Ws M α H σ δ:=⟨E.ls,E.la,E.sl,E.nd,E.mu,E.al,fun W' h=>E.w W' (ZF _ h)⟩
theorem az.loop(E:az Ws M α H σ δ):az (⟨H,M,fun _=>False,M,none⟩::Ws) M α H σ δ:=⟨E.ls,E.la,E.sl,E.nd,E.mu,E.al,fun W h=>by
 rcases ZR.mp h with e | e
 . subst e;exact⟨fun b o e _=>e,fun b n=>n,fun a h=> .inl (E.mu a h),fun a h=>h.elim,fun a h=> .inl h,fun d c e=>(by cases e),fun j s as _ _ _ a _ z=>z⟩
 . exact E.w W e⟩
end
structure dE where
 nx:List Sl->Prop
 rt:Dt->List Sl->Prop
 bk:List Sl->Prop:=fun _=>False
 ct:List Sl->Prop:=fun _=>False
abbrev j6:=dE->List Sl->Prop
structure Lk(Ws:List Wd)(D:Ends)(Δ:dE):Prop where
 nx: ∀M α H σ δ,az Ws M α H σ δ->Δ.nx δ->D.nx σ H
 rt: ∀M α H σ δ v d,az Ws M α H σ δ->Rep M H v d->Δ.rt d δ->D.rt v H
 bk: ∀M α H σ δ,az Ws M α H σ δ->Δ.bk δ->D.bk σ H
 ct: ∀M α H σ δ,az Ws M α H σ δ->Δ.ct δ->D.ct σ H
inductive lS(T:j6)(D:L2.Ends)(σ:L2.St)(H:Hp):Prop
 | mk (Ws:List Wd) (M:Addr->Prop) (α:List (List Addr)) (δ:List Sl) (Δ:dE) (h1:az Ws M α H σ δ) (h2:Lk Ws D Δ) (h3:T Δ δ)
abbrev Ex(X:Cx)(s:Stmt)(T:j6):Prop:=PS X s (lS T)
abbrev zL(X:Cx)(s:List Stmt)(T:j6):Prop:=pW X s (lS T)
section
variable{X:Cx}{st:Stmt}{rest:List Stmt}{T U:j6}{e a b c:Expr}{es:List Expr}{t ta tb:bt}{u:mj}{pos:Pos}
def Ol:j6:=fun Δ δ=>Δ.nx δ
def Od(T U:j6):j6:=fun Δ δ=>T {Δ with nx:=U Δ} δ
theorem bL:zL X [] Ol:=pW.imp qz fun D σ H ck=>(by obtain⟨Ws,M,α,δ,Δ,E,L,q⟩:=ck;exact(L.nx _ _ _ _ _ E q))
theorem aj(h1:Ex X st T)(h2:zL X rest U):zL X (st::rest) (Od T U):=pW.imp (bM h1 h2) fun D σ H dS=>(by obtain⟨Ws,M,α,δ,Δ,E,L,q⟩:=dS;exact(
 ⟨Ws,M,α,δ,{Δ with nx:=U Δ},E,⟨fun M α H σ δ E q=>⟨Ws,M,α,δ,Δ,E,L,q⟩,L.rt,L.bk,L.ct⟩,q⟩))
theorem aB(h1:Ex X st T):zL X [st] T:=jA h1
def SS(t:bt):j6:=fun Δ δ=>t δ Δ.rt
theorem aL(h:Ev X e t):Ex X (.Return (some e) pos) (SS t):=PS.imp (qA h) fun D σ H iP=>(by obtain⟨Ws,M,α,δ,Δ,E,L,q⟩:=iP;exact(⟨Ws,M,α,δ,_,E,q,fun d δ' H' v q1 E1 c1 r1=>L.rt _ _ _ _ _ _ _ E1 r1 q1⟩))
def S0(u:mj)(T U:j6):j6:=fun Δ δ=>u δ fun b δ'=>if b=true then T Δ δ' else U Δ δ'
theorem dI(hc:Tv X c u)(ha:zL X sa T)(hb:zL X sb U):Ex X (.If c sa sb pos) (S0 u T U):=PS.imp (Bl hc ha hb) fun D σ H kZ=>(by obtain⟨Ws,M,α,δ,Δ,E,L,q⟩:=kZ;exact(
 ⟨Ws,M,α,δ,_,E,q,fun b δ' H' q1 E1 c1=>by
  cases b with
  | true=>rw[if_pos rfl] at q1 ⊢;exact⟨Ws,M,α,δ',Δ,E1,L,q1⟩
  | false=>rw[if_neg ZJ] at q1 ⊢;exact⟨Ws,M,α,δ',Δ,E1,L,q1⟩⟩))
def Ow(t:bt):j6:=fun Δ δ=>t δ fun _ δ'=>Δ.nx δ'
theorem cJ(h:Ev X e t)(hs:swapsWith e none pos.line X.env=pure false:=by rfl):Ex X (.Expr e pos) (Ow t):=PS.imp (Fj h hs) fun D σ H j7=>(by obtain⟨Ws,M,α,δ,Δ,E,L,q⟩:=j7;exact(⟨Ws,M,α,δ,_,E,q,fun d δ' H' v q1 E1 c1 r1=>L.nx _ _ _ _ _ E1 q1⟩))
def Oc(i:Nat)(t:bt):j6:=fun Δ δ=>t δ fun d δ'=>bY δ' i/\Δ.nx (δ'.set i (.im d))
theorem dy(i:Nat)(hN:X.N.Nodup)(he:Ev X e t)(hi:X.N[i]?=some x:=by rfl)(hx:Loc X.env.scope x:=by first | exact Or.inl rfl | exact Or.inr rfl)(hs:swapsWith e (some (.Name x pos')) pos.line X.env=pure false:=by rfl)(hf:X.fn x=true\/X.env.scope.names.lookup x=some .local:=by first | exact .inl rfl | exact .inr rfl | assumption):
  Ex X (.Assign [.Name x pos'] e pos) (Oc i t):=PS.imp (dJ hN hi hx he hs hf) fun D σ H oi=>(by obtain⟨Ws,M,α,δ,Δ,E,L,q⟩:=oi;exact(⟨Ws,M,α,δ,_,E,q,fun d δ' H' v pX E1 c1 r1=>(by obtain⟨ok,q1⟩:=pX;exact(L.nx _ _ _ _ _ (E1.gm r1 ok) q1))⟩))
def xO(i:Nat)(t:z0):j6:=fun Δ δ=>t δ fun ds δ'=>bY δ' i/\Δ.nx (δ'.set i (.ow ds))
theorem yB{i:Nat}{t:z0}: ∀D σ H,lS (xO i t) D σ H->AM (lO t) (cB i) D σ H:=fun D σ H oh=>(by obtain⟨Ws,M,α,δ,Δ,E,L,q⟩:=oh;exact(⟨Ws,M,α,δ,_,E,q,fun ds δ' H1 xs a iQ E1 c1 r1 h1=>(by obtain⟨ok,q1⟩:=iQ;exact(
 L.nx _ _ _ _ _ (E1.mG (s:= .ow ds) h1 (fun xs z=>by cases z) ok rfl ⟨a,xs,rfl,rfl,ag,r1.grow h1⟩) q1))⟩))
theorem dH(i:Nat){x:Str}{pos':Pos}{t:z0}(hN:X.N.Nodup)(he:Ov X e t)(hi:X.N[i]?=some x:=by rfl)(hx:Loc X.env.scope x:=by first | exact Or.inl rfl | exact Or.inr rfl)(hs:swapsWith e (some (.Name x pos')) pos.line X.env=pure false:=by rfl)(hf:X.fn x=true\/X.env.scope.names.lookup x=some .local:=by first | exact .inl rfl | exact .inr rfl | assumption):
  Ex X (.Assign [.Name x pos'] e pos) (xO i t):=PS.imp (dJ hN hi hx he hs hf) yB
inductive Ot(i:Nat)(T:j6)(Δ:dE)(δ:List Sl):Prop
 | mk (ds:_) (h1:δ[i]?=some (.ow ds)) (h2:T Δ (δ.set i (.im (.lst ds))))
theorem CB: ∀D σ H,lS (Ot i T) D σ H->lS T D σ H:=fun D σ H mm=>(by obtain⟨Ws,M,α,δ,Δ,E,L,ds,h,q⟩:=mm;exact(by
 obtain⟨M',α',E',_⟩:=E.lZ h;exact⟨Ws,M',α',_,Δ,E',L,q⟩))
theorem iJ(i:Nat)(h:Ex X st T):Ex X st (Ot i T):=PS.imp h CB
theorem lN{Ws:List Wd}{M:Addr->Prop}{α:List (List Addr)}{H:Hp}{σ:L2.St}{δ:List Sl}{i:Nat}{ds UU:List Dt}{a:Addr}(E:az Ws M α H σ δ)(h:δ[i]?=some (.ow ds))(h1:σ[i]?=some (some (.ref a)))(h2:α[i]?=some [a])(r:aA M H Pb UU):
  az Ws M α (upd H a (.lst Pb)) σ (δ.set i (.ow UU))/\cW α H (upd H a (.lst Pb)):=
 E.mod h h1 h2 rfl ⟨a,Pb,rfl,rfl,ag,r.mono fun b u e n=>⟨by rw[ah (fun z=>n (by rw[z];exact E.mu a (aM h2 (by simp))))];exact e,n⟩⟩ (fun b u e n=>by rw[ah (fun z=>n (by rw[z];simp))];exact e) (fun b hb=>by rw[ZM.mp hb];exact⟨_,ag,fun xs z=>by cases z⟩)
inductive K1(i:Nat)(Q:Dt->List Sl->Prop)(es:List Dt)(δ':List Sl):Prop
 | mk (ds d:_) (h1:es= [d]) (h2:δ'[i]?=some (.ow ds)) (h3:ds.length < sizeLine) (h4:Q .aD (δ'.set i (.ow (ds++ [d]))))
def S8(i:Nat)(t:iG):bt:=fun δ Q=>(∃xC,δ[i]?=some (.ow xC))/\t δ fun es δ'=>K1 i Q es δ'
theorem dD(i:Nat){xp apos dM:Pos}(ho:PE X (.Name x xp) (gy i))(ha:Av X [e] tA)(jG:attributeBase (.Name x xp) "append" X.env (eval (.Name x xp) X.env)=eval (.Name x xp) X.env:=by rfl)(Cs:((backTo dM (starEach [e] X.env)).all (fun x=>!x.1) && (backToKw dM (keywordEach [] X.env)).all (fun x=>x.1.isSome) && decide ([e].length+([]:List Keyword).length+(if ([]:List Keyword).isEmpty then 0 else 1) < 30))=true:=by rfl)(jF:(apos.endLine==dM.line)=true:=by rfl)(hs:starEach [e] X.env=(false,eval e X.env)::starEach [] X.env:=by rfl)(nv:(backTo dM (starEach [] X.env)).any (·.1)=false:=by rfl):
  Ev X (.Call (.Attribute (.Name x xp) "append" apos) [e] [] dM) (S8 i tA):=
 PE.imp (He am9 PySem.F.slot_list_append PySem.F.type_list_append km ho ha jG Cs jF hs nv) fun σ H Q ck=>(by obtain⟨W,M,α,δ,Qd,E,⟨⟨xC,h0⟩,q⟩,k⟩:=ck;exact(by
  obtain⟨a,QC,h1,h2,h3,r3⟩:=E.ow h0;refine⟨_,h1,.inl ⟨rfl,_,cY.of h3⟩,W,M,α,δ,_,E,q,fun es δ' H' vs j9 E1 c1 r1=>?_⟩;obtain⟨ds,d,e,hd,l,q1⟩:=j9;subst e;obtain⟨y,ys,rfl,ry,rn⟩:=r1.aQ;cases rn.eQ;obtain⟨a',xs,pC,vi,Gh,zO⟩:=E1.ow hd;rw[h1] at pC;cases pC;refine⟨a,xs,y,rfl,rfl,Gh,by rw[zO.1];exact l,?_⟩;obtain⟨E2,c2⟩:=lN E1 hd h1 vi (zO.append (.one ry));exact k _ _ _ _ q1 E2 (c1.tr c2) .aD))
inductive KR(i:Nat)(Q:Dt->List Sl->Prop)(d2:Dt)(δ':List Sl):Prop
 | mk (ds k d:_) (h1:δ'[i]?=some (.ow ds)) (h2:d2= .int k) (h3:kX ds k=some d) (h4:Q d δ')
def SV(i:Nat)(tb:bt):bt:=fun δ Q=>(∃xC,δ[i]?=some (.ow xC))/\tb δ fun d2 δ'=>KR i Q d2 δ'
theorem HI(i:Nat)(ho:PE X (.Name x xp) (gy i))(hb:Ev X b tb)(hs:rQ b:=by exact fun _ _=>rfl):Ev X (.Subscript (.Name x xp) b pos) (SV i tb):=
 PE.imp (Bz qO ho hb hs) fun σ H Q iP=>(by obtain⟨W,M,α,δ,Qd,E,⟨⟨xC,h0⟩,q⟩,k⟩:=iP;exact(by
  obtain⟨a,QC,h1,h2,h3,r3⟩:=E.ow h0;refine⟨_,h1,W,M,α,δ,_,E,q,fun d2 δ' H' v Ae E1 c1 r1=>?_⟩;obtain⟨ds,n,d,hd,e,hg,q1⟩:=Ae;subst e;obtain⟨a',xs,pC,vi,Gh,zO⟩:=E1.ow hd;rw[h1] at pC;cases pC;obtain⟨y,hy,ry⟩:=rG zO hg;exact⟨a,xs,n,y,rfl,r1.ofInt,cY.of Gh,hy,k _ _ _ _ q1 E1 c1 ry⟩))
inductive Oq(i:Nat)(δ:List Sl)(Q:Dt->List Sl->Prop):Prop
 | mk (ds:_) (h1:δ[i]?=some (.ow ds)) (h2:Q (.int ds.length) δ)
theorem Dd(i:Nat)(hm:X.mg "len"=none)(ho:PE X (.Name x xp) (gy i))(hg:Gl X "len":=by rfl)(he:starEach [.Name x xp] X.env=(false,eval (.Name x xp) X.env)::starEach [] X.env:=by rfl)(dq:(backTo pos (starEach [] X.env)).any (·.1)=false:=by rfl):
  Ev X (.Call (.Name "len" p) [.Name x xp] [] pos) (Oq i):=PE.imp (g6 gf hg hm PySem.boot_len (af ho aG he) (by decide) (by decide) he dq) fun σ H Q uy=>(by obtain⟨W,M,α,δ,Qd,E,⟨ds,hd,q⟩,k⟩:=uy;exact(by
  obtain⟨a,xs,h1,h2,h3,r3⟩:=E.ow hd;exact⟨_,h1,a,xs,rfl,.inl (cY.of h3),by rw[r3.1];exact k _ _ _ _ q E cW.rf (.int _)⟩))
inductive N6(i:Nat)(δ:List Sl)(Q:Dt->List Sl->Prop):Prop
 | mk (ds:_) (h1:δ[i]?=some (.ow ds)) (h2:Q (.tup ds) δ)
theorem vB(i:Nat)(hm:X.mg "tuple"=none)(ho:PE X (.Name x xp) (gy i))(hg:Gl X "tuple":=by rfl)(he:starEach [.Name x xp] X.env=(false,eval (.Name x xp) X.env)::starEach [] X.env:=by rfl)(dq:(backTo pos (starEach [] X.env)).any (·.1)=false:=by rfl):
  Ev X (.Call (.Name "tuple" p) [.Name x xp] [] pos) (N6 i):=PE.imp (iB iO hg hm aZ (af ho aG he) (by decide) (by decide) he dq) fun σ H Q kZ=>(by obtain⟨W,M,α,δ,Qd,E,⟨ds,hd,q⟩,k⟩:=kZ;exact(by
  obtain⟨a,xs,h1,h2,h3,r3⟩:=E.ow hd;refine⟨_,h1,a,xs,rfl,.inl ⟨cY.of h3,fun l hl=>?_⟩⟩;have s:aC H (upd H l (.tup xs)):=aC.new hl;exact k _ _ _ _ q (E.same s) (cW.of s) (Rep.jj ag (E.fresh hl) (r3.same s))))
inductive GH(i:Nat)(Δ:dE)(d:Dt)(d2:Dt)(δ2:List Sl):Prop
 | mk (ds k j:_) (h1:δ2[i]?=some (.ow ds)) (h2:d2= .int k) (h3:xi ds.length k=some j) (h4:Δ.nx (δ2.set i (.ow (ds.set j d))))
def HM(i:Nat)(tv tb:bt):j6:=fun Δ δ=>tv δ fun d δ1=>(∃xC,δ1[i]?=some (.ow xC))/\tb δ1 fun d2 δ2=>GH i Δ d d2 δ2
theorem IU (i : Nat) (hv : Ev X e tv) (ho : PE X (.Name x xp) (gy i)) (hb : Ev X b tb) (ha : ∀ v, assign (.Subscript (.Name x xp) b yx) X.env v = (do
   let ov<-holding [v] (eval (.Name x xp) X.env)
   let iv<-holding [v,ov] (eval b X.env)
   standAt yx
   holding [v,ov,iv] (setItem ov iv v)
   release [v,ov,iv] []):=by intro _;rfl) (hs:swapsWithSole [.Subscript (.Name x xp) b yx] e pos.line X.env=pure false:=by rfl) (hw:swappedStores [.Subscript (.Name x xp) b yx] e X.env=pure none:=by rfl) (h1:(assignEach [.Subscript (.Name x xp) b yx] X.env).map (·.2)= [assign (.Subscript (.Name x xp) b yx) X.env]:=by rfl):Ex X (.Assign [.Subscript (.Name x xp) b yx] e pos) (HM i tv tb):=
 PS.imp (qB hv (Bu ho hb set_list ha) hs hw h1) fun D σ H pX=>(by obtain⟨Ws,M,α,δ,Δ,E,L,q⟩:=pX;exact(
  ⟨Ws,M,α,δ,_,E,q,fun d δ1 H1 v oh E1 c1 r1=>(by obtain⟨⟨xC,h0⟩,q1⟩:=oh;exact(by
   obtain⟨a,QC,h1,h2,h3,r3⟩:=E1.ow h0;refine⟨_,h1,Ws,M,α,δ1,_,E1,q1,fun d2 δ2 H2 v2 Ic E2 c2 r2=>?_⟩;obtain⟨ds,n,j,hd,e,hj,q2⟩:=Ic;subst e;obtain⟨a',xs,pC,vi,Gh,zO⟩:=E2.ow hd;rw[h1] at pC;cases pC;refine⟨a,xs,n,j,rfl,r2.ofInt,Gh,by rw[zO.1];exact hj,?_⟩;obtain⟨E3,_⟩:=lN E2 hd h1 vi (zO.set (r1.chg E1 c2) j);exact L.nx _ _ _ _ _ E3 q2))⟩))
theorem pK(r:aA M H xs ds):xs.isEmpty=ds.isEmpty:=by
 have:=r.1;cases xs <;> cases ds <;> simp at this ⊢
noncomputable def QE:Dt->Option Bool
 | .aD=>some false
 | .bl b=>some b
 | .int i=>some (i !=0)
 | .lst ds=>some (!ds.isEmpty)
 | .tup ds=>some (!ds.isEmpty)
 | _=>none
inductive KH(Q:Bool->List Sl->Prop)(d:Dt)(δ':List Sl):Prop
 | mk (b:_) (h1:QE d=some b) (h2:Q b δ')
def SN(t:bt):mj:=fun δ Q=>t δ fun d δ'=>KH Q d δ'
theorem L9(h:Ev X e t)(he: ∀whole,isTrue e X.env whole=(do let v<-whole;standAt e.pos;holding [v] (truthy v)):=by intro _;rfl):Tv X e (SN t):=
 PT.imp (Bh h he) fun σ H Q Ib=>(by obtain⟨W,M,α,δ,Qd,E,q,k⟩:=Ib;exact(⟨W,M,α,δ,_,E,q,fun d δ' H' v Qy E1 c1 r1=>(by obtain⟨b,hb,q1⟩:=Qy;exact(⟨b,by
  cases r1 with
  | aD=>cases hb;rfl
  | bl c=>cases hb;rfl
  | int c=>cases hb;rfl
  | str c=>cases hb
  | lst h n l r=>cases hb;exact .inl ⟨_,cY.of h,by rw[pK ⟨l,r⟩]⟩
  | xE h n e l r=>cases hb
  | l7 h n e l r=>cases hb
  | tup h n l r=>cases hb;exact .inr (.inl ⟨_,dG.of h,by rw[pK ⟨l,r⟩]⟩),k _ _ _ q1 E1 c1⟩))⟩))
end
def bT(S:DN):Sp:=fun vs H Q _=> ∃M ds Qd,j3 M H/\aA M H vs ds/\S ds Qd/\ ∀r H' v',Qd r->aC H H'->Rep M H' v' r->Q v' H'
abbrev DB:=Int->List Dt->(Dt->Int->Prop)->Prop
def zN(S:DB):Sp:=fun vs H Q _=> ∃M d c t ws ds Qd,vs= .ref d::ws/\j3 M H/\M d/\M c/\ur H d c t/\aA M H ws ds/\S t ds Qd/\ ∀r t' H' v',Qd r t'->Kp d c H H'->ur H' d c t'->Rep M H' v' r->Q v' H'
section
variable{X:Cx}{e:Expr}{es:List Expr}{pos p:Pos}{x:Str}{k:Nat}{ps:List Str}
theorem bF(h:fB X.prog X.w X.K X.mg X.base x k ps (bT S))(hr:bD k X.A)(ha:Av X (e::es) t)(hg:Gl X x:=by rfl)(i8:(x==("__debug__":Str))=false:=by decide)(he:starEach (e::es) X.env=(false,eval e X.env)::starEach es X.env:=by rfl)(dq:(backTo pos (starEach es X.env)).any (·.1)=false:=by rfl):
  Ev X (.Call (.Name x p) (e::es) [] pos) (Dz S t):=PE.imp (mW h hr hg ha i8 he dq) fun σ H Q ck=>(by obtain⟨W,M,α,δ,Qd,E,q,k⟩:=ck;exact(
 ⟨W,M,α,δ,_,E,q,fun ds δ' H' vs q1 E1 c1 r1=>by
  show bT S (vs++ []) H' Q E0;rw[ab2];exact⟨M,ds,_,E1.al,r1,q1,fun r H2 v2 q2 s r2=>k _ _ _ _ q2 (E1.same s) (c1.tr (cW.of s)) r2⟩⟩))
theorem az.box{i:Nat}(E:az Ws M α H σ δ)(h:δ[i]?=some (.bx t)): ∃d c,σ[i]?=some (some (.ref d))/\α[i]?=some [d,c]/\ur H d c t:=by
 obtain⟨o,as,h1,h2,d,c,rfl,rfl,r⟩:=E.sl i _ h;exact⟨d,c,h1,h2,r⟩
theorem xZ(E:az Ws M α H σ δ)(h:δ[i]?=some (.bx t))(h1:σ[i]?=some (some (.ref d)))(h2:α[i]?=some [d,c])(k:Kp d c H H')(B:ur H' d c t'):
  az Ws M α H' σ (δ.set i (.bx t'))/\cW α H H':=
 E.mod h h1 h2 rfl ⟨d,c,rfl,rfl,B⟩ (fun b u e n=>k b u e (fun z=>n (by rw[z];simp)) (fun z=>n (by rw[z];simp))) (fun b hb=>by
  simp only [ZR,Zz,or_false] at hb;rcases hb with rfl | rfl
  . exact⟨_,B.dc,fun xs z=>by cases z⟩
  . obtain⟨ns,h,_⟩:=B.cs;exact⟨_,h,fun xs z=>by cases z⟩)
def S4(S:DB)(i:Nat)(t:iG):bt:=fun δ Q=>(∃t0,δ[i]?=some (.bx t0))/\t δ fun ds δ'=> ∃t,δ'[i]?=some (.bx t)/\S t ds fun r t'=>Q r (δ'.set i (.bx t'))
theorem ir(i:Nat)(h:fB X.prog X.w X.K X.mg X.base x k ps (zN S))(hr:bD k X.A)(ho:PE X (.Name y yp) (gy i))(ha:Av X es t)(hg:Gl X x:=by rfl)(i8:(x==("__debug__":Str))=false:=by decide)(he:starEach (.Name y yp::es) X.env=(false,eval (.Name y yp) X.env)::starEach es X.env:=by rfl)(dq:(backTo pos (starEach es X.env)).any (·.1)=false:=by rfl):
  Ev X (.Call (.Name x p) (.Name y yp::es) [] pos) (S4 S i t):=PE.imp (mW h hr hg (af ho ha he) i8 he dq) fun σ H Q ck=>(by obtain⟨W,M,α,δ,Qd,E,⟨⟨t0,h0⟩,q⟩,k⟩:=ck;exact(by
  obtain⟨d,c,h1,h2,B⟩:=E.box h0;refine⟨_,h1,W,M,α,δ,_,E,q,fun ds δ' H' vs j8 E1 c1 r1=>?_⟩;obtain⟨t,hd,q1⟩:=j8;obtain⟨d',c',pC,vi,B'⟩:=E1.box hd;rw[h1] at pC;cases pC;show zN S ((V.ref d::vs)++ []) H' Q E0;rw[ab2];refine⟨M,d,c',t,vs,ds,_,rfl,E1.al,E1.mu d (aM vi (by simp)),E1.mu c' (aM vi (by simp)),B',r1,q1,fun r t' H2 v2 q2 kp B2 r2=>?_⟩;obtain⟨E2,c2⟩:=xZ E1 hd h1 vi kp B2;exact k _ _ _ _ q2 E2 (c1.tr c2) r2))
end
section
variable{P:Program}{w:World}{K:PySem.W.Frag}{mg:Str->Option Value}{base:Heap}
theorem kz(al:j3 M H)(r:aA M H vs ds)(w: ∀W∈Ws,PQ W M (List.replicate (ds.length+n) []) H (ds.map .im++List.replicate n .no)):
  az Ws M (List.replicate (ds.length+n) []) H (vs.map some++List.replicate n none) (ds.map .im++List.replicate n .no):=by
 have aY:(List.replicate (ds.length+n) ([]:List Addr)).flatten= []:=by simp
 refine⟨by simp [r.1],by simp,fun i s h=>?_,by rw[aY];exact ag8,fun a ha=>by rw[aY] at ha;exact absurd ha Zz,al,w⟩;have hi:=(Zw.mp h).1;rw[ZK,Zu,ae4] at hi;have ha:(List.replicate (ds.length+n) ([]:List Addr))[i]?=some []:=by rw[ZX,if_pos hi]
 by_cases hl:i < ds.length
 . rw[Z3 (by rw[Zu];exact hl),Zy,Zs hl] at h;cases h;obtain⟨v,hv,rv⟩:=r.get (Zs hl);exact⟨some v,[],by rw[Z3 (by rw[Zu,r.1];exact hl),Zy,hv];rfl,ha,rfl,v,rfl,rv⟩
 . rw[Z8 (by rw[Zu];omega),ZX] at h;split at h
   . rename_i hn;cases h;rw[Zu] at hn;exact⟨none,[],by rw[Z8 (by rw[Zu,r.1];omega),ZX,if_pos (by rw[Zu,r.1];exact hn)],ha,rfl⟩
   . cases h
theorem l5 {x qual : Str} {st : Stmt} {k : Nat} (F : fA K x qual st f fd) (sc : aH N ps (ab st)) (len : ∀ ds Qd, S ds Qd -> ds.length = ps.length) (fH : ∀ (bJ : Value) (A : Around) (outer : List Env) (s : Shared) (H : Hp) (E : XK), bD k (A.deeper (envOfC qual (ab st) s.heap.objs.size f bJ)) ->
   ∃T,zL (lC di P w K mg base N qual (ab st) f bJ A outer s H E).BW (cz st) T/\ ∀ds Qd,S ds Qd->T {nx:=fun _=>Qd .aD,rt:=fun d _=>Qd d} (ds.map .im++List.replicate (N.length - ps.length) .no)):
  aX P w K mg base di (k+1) f fd ps (bT S):=by
 refine F.ok sc (fun vs H Q E h=>?_) (fun bJ A outer s H vs Q E hr h=>?_)
 . obtain⟨M,ds,Qd,al,r,q,_⟩:=h;rw[r.1];exact len ds Qd q
 . obtain⟨M,ds,Qd,al,r,q,kk⟩:=h;obtain⟨T,hT,hq⟩:=fH bJ A outer s H E hr;refine⟨lS T,hT,[⟨H,fun _=>False,M,M,none⟩],M,List.replicate (ds.length+(N.length - ps.length)) [],ds.map .im++List.replicate (N.length - ps.length) .no,_,?_,?_,hq ds Qd q⟩
   . have e:L2.start N vs=vs.map some++List.replicate (N.length - ps.length) none:=by unfold L2.start;rw[r.1,len ds Qd q]
     rw[e];refine kz al r fun W hW=>?_;rw[ZM.mp hW];have aY:(List.replicate (ds.length+(N.length - ps.length)) ([]:List Addr)).flatten= []:=by simp
     refine⟨fun b o e _=>e,fun b n=>n,fun a ha=>by rw[aY] at ha;exact absurd ha Zz,fun a h=>h,fun a h=> .inl h,fun d c e=>(by cases e),fun j s as h1 h2 _ a ha=>?_⟩;rw[ZX] at h2;split at h2
     . cases h2;exact absurd ha Zz
     . cases h2
   . have same : ∀ {M' α' H' σ' δ'}, az [⟨H, fun _ => False, M, M, none⟩] M' α' H' σ' δ' -> aC H H' /\ ∀ a, M a -> M' a := fun E' => by
       have k:=E'.w _ (ZM.mpr rfl);exact⟨fun b o e=>k.bs b o e (fun z=>z),k.m0⟩
     refine⟨fun M' α' H' σ' δ' E' q=>kk _ _ _ q (same E').1 .aD,fun M' α' H' σ' δ' v d E' r' q=>kk _ _ _ q (same E').1 (r'.mono fun a o e n=>⟨e,fun z=>n ((same E').2 a z)⟩),fun _ _ _ _ _ _ z=>z.elim,fun _ _ _ _ _ _ z=>z.elim⟩
theorem vz(al:j3 M H)(r:aA M H vs ds)(B:ur H d c t)(Md:M d)(Mc:M c)(h0:W=⟨H,fun a=>a=d\/a=c,M,M,some (d,c)⟩):
  az [W] M ([d,c]::List.replicate (ds.length+n) []) H (some (.ref d)::(vs.map some++List.replicate n none)) (.bx t::(ds.map .im++List.replicate n .no)):=by
 have E0:=kz (Ws:= []) (n:=n) al r (fun W hW=>absurd hW Zz);have aY:(List.replicate (ds.length+n) ([]:List Addr)).flatten= []:=by simp
 have ef:(([d,c]:List Addr)::List.replicate (ds.length+n) []).flatten= [d,c]:=by rw[af4,aY,ab2]
 refine⟨by rw[ZG,ZG,E0.ls],by rw[ZG,ZG,E0.la],fun i s h=>?_,?_,fun a ha=>?_,al,fun W' hW=>?_⟩
 . cases i with
   | zero=>cases h;exact⟨_,_,rfl,rfl,d,c,rfl,rfl,B⟩
   | succ i=>obtain⟨o,as,h1,h2,h3⟩:=E0.sl i s (by simpa using h);exact⟨o,as,by simpa using h1,by simpa using h2,h3⟩
 . rw[ef];simp [B.ne]
 . rw[ef] at ha;simp only [ZR,Zz,or_false] at ha;rcases ha with rfl | rfl <;> assumption
 . rw[ZM.mp hW,h0];refine⟨fun b o e _=>e,fun b n=>n,fun a ha=>?_,fun a h=>h,fun a h=> .inl h,fun d' c' e=>?_,fun j s as h1 h2 nb a ha=>?_⟩
   . rw[ef] at ha;simp only [ZR,Zz,or_false] at ha;exact .inl ha
   . cases e;exact⟨t,rfl,rfl⟩
   . cases j with
     | zero=>cases h1;cases nb
     | succ j=>
      rw[List.getElem?_cons_succ,ZX] at h2;split at h2
      . cases h2;exact absurd ha Zz
      . cases h2
theorem UM {x qual : Str} {st : Stmt} {k : Nat} (F : fA K x qual st f fd) (sc : aH N ps (ab st)) (len : ∀ t ds Qd, S t ds Qd -> ds.length + 1 = ps.length) (fH : ∀ (bJ : Value) (A : Around) (outer : List Env) (s : Shared) (H : Hp) (E : XK), bD k (A.deeper (envOfC qual (ab st) s.heap.objs.size f bJ)) ->
   ∃T,zL (lC di P w K mg base N qual (ab st) f bJ A outer s H E).BW (cz st) T/\ ∀t ds Qd,S t ds Qd->T {nx:=fun δ=> ∃t',δ[0]?=some (.bx t')/\Qd .aD t',rt:=fun d δ=> ∃t',δ[0]?=some (.bx t')/\Qd d t'} (.bx t::(ds.map .im++List.replicate (N.length - ps.length) .no))):
  aX P w K mg base di (k+1) f fd ps (zN S):=by
 refine F.ok sc (fun vs H Q E h=>?_) (fun bJ A outer s H vs Q E hr h=>?_)
 . obtain⟨M,d,c,t,ws,ds,Qd,rfl,al,md,mc,B,r,q,_⟩:=h;rw[ZG,r.1];exact len t ds Qd q
 . obtain⟨M,d,c,t,ws,ds,Qd,rfl,al,md,mc,B,r,q,kk⟩:=h;obtain⟨T,hT,hq⟩:=fH bJ A outer s H E hr;refine⟨lS T,hT,[⟨H,fun a=>a=d\/a=c,M,M,some (d,c)⟩],M,[d,c]::List.replicate (ds.length+(N.length - ps.length)) [], .bx t::(ds.map .im++List.replicate (N.length - ps.length) .no),_,?_,?_,hq t ds Qd q⟩
   . have e : L2.start N (.ref d :: ws) = some (.ref d) :: (ws.map some ++ List.replicate (N.length - ps.length) none) := by
       unfold L2.start;rw[ZT,List.cons_append,ZG,r.1,len t ds Qd q]
     rw[e];exact vz al r B md mc rfl
   . have same : ∀ {M' α' H' σ' δ' t'}, az [⟨H, fun a => a = d \/ a = c, M, M, some (d, c)⟩] M' α' H' σ' δ' -> δ'[0]? = some (.bx t') -> Kp d c H H' /\ (∀ a, M a -> M' a) /\ ur H' d c t' := fun {M' α' H' σ' δ' t'} E' ht => by
       have k:=E'.w _ (ZM.mpr rfl);refine⟨fun b o e n1 n2=>k.bs b o e (fun z=>z.elim n1 n2),k.m0,?_⟩;obtain⟨t2,e1,e2⟩:=k.bx d c rfl;obtain⟨d3,c3,e3,e4,B3⟩:=E'.box ht;rw[e2] at e4;cases e4;exact B3
     refine⟨fun M' α' H' σ' δ' E' iP=>(by obtain⟨t',ht,q⟩:=iP;exact(kk _ _ _ _ q (same E' ht).1 (same E' ht).2.2 .aD)),fun M' α' H' σ' δ' v dd E' r' kZ=>(by obtain⟨t',ht,q⟩:=kZ;exact(kk _ _ _ _ q (same E' ht).1 (same E' ht).2.2 (r'.mono fun a o e n=>⟨e,fun z=>n ((same E' ht).2.1 a z)⟩))),fun _ _ _ _ _ _ z=>z.elim,fun _ _ _ _ _ _ z=>z.elim⟩
end
def Kf(M:Addr->Prop)(H H1:Hp):Prop:= ∀b o,H b=some o-> ¬M b->H1 b=some o
structure Yl(M:Addr->Prop)(H:Hp)(J:It)(ao:List Dt):Prop where
 go: ∀i H1 M',Kf M H H1->j3 M' H1->(∀b,H b≠none-> ¬M b-> ¬M' b)->i < ao.length->J.go i H1/\ ∀x H2,J.se i H1 x H2->aC H1 H2/\ ∃d,ao[i]?=some d/\Rep M' H2 x d
 stop: ∀H1,Kf M H H1->J.stop ao.length H1
abbrev oT:=List Sl->(List Dt->List Sl->Prop)->Prop
inductive lI(t:oT)(σ:L2.St)(H:Hp)(R:It->Hp->Prop):Prop
 | mk (W:List Wd) (M:Addr->Prop) (α:List (List Addr)) (δ:List Sl) (Qd:List Dt->List Sl->Prop) (h1:az W M α H σ δ) (h2:t δ Qd) (h3: ∀ao δ' H' J,Qd ao δ'->az W M α H' σ δ'->cW α H H'->Yl M H' J ao->R J H')
theorem PI.imp(h:PI X tg iter t)(i: ∀σ H R,t' σ H R->t σ H R):PI X tg iter t':=fun pins s σ H R I q=>h pins s σ H R I (i _ _ _ q)
abbrev Iv(X:Cx)(tg iter:Expr)(t:oT):Prop:=PI X tg iter (lI t)
section
variable{X:Cx}{tg e a b:Expr}{ta t:bt}{tA:iG}{p pos:Pos}
theorem sf{lo:Int}:Yl M H (OZ lo n) ((List.range n).map fun k=> .int (lo+(k:Nat))):=by
 refine⟨fun i H1 M' kf mo hb hi=>⟨?_,fun x H2 ck=>?_⟩,fun H1 _=>?_⟩
 . rw[Zu,Z1] at hi;exact hi
 . obtain⟨e1,e2⟩:=ck;rw[Zu,Z1] at hi;subst e1;subst e2;exact⟨fun _ _ z=>z,.int (lo+i),by rw[Zy,ac3 hi];rfl,.int _⟩
 . show n<=_;rw[Zu,Z1];exact Zx _
inductive GC(Q:List Dt->List Sl->Prop)(ds:List Dt)(δ':List Sl):Prop
 | mk (j:Int) (h1:ds= [.int j]) (h2: -(2^62)<=j) (h3:j < 2^62) (h4:Q ((List.range j.toNat).map fun k=> .int (0+(k:Nat))) δ')
def Of(t:iG):oT:=fun δ Q=>t δ fun ds δ'=>GC Q ds δ'
inductive GA(Q:List Dt->List Sl->Prop)(ds:List Dt)(δ':List Sl):Prop
 | mk (i j:Int) (h1:ds= [.int i,.int j]) (h2:(-(2^62)<=i/\i < 2^62/\ -(2^62)<=j/\j < 2^62)) (h3:Q ((List.range (j - i).toNat).map fun k=> .int (i+(k:Nat))) δ')
def Oe(t:iG):oT:=fun δ Q=>t δ fun ds δ'=>GA Q ds δ'
theorem nu(hm:X.mg "range"=none)(ha:Av X [a] tA)(hg:Gl X "range":=by rfl)(hs:starEach [a] X.env= [(false,eval a X.env)]:=by rfl):Iv X tg (.Call (.Name "range" p) [a] [] pos) (Of tA):=PI.imp (yK hg hm ha hs) fun σ H R dS=>(by obtain⟨W,M,α,δ,Qd,E,q,k⟩:=dS;exact(
 ⟨W,M,α,δ,_,E,q,fun ds δ' H' vs j8 E1 c1 r1=>(by obtain⟨j,e,l1,l2,q1⟩:=j8;exact(by
  subst e;obtain⟨x,ys,rfl,r2,r3⟩:=r1.aQ;cases r3.eQ;cases r2.ofInt;exact⟨j,rfl,l1,l2,k _ _ _ _ q1 E1 c1 sf⟩))⟩))
theorem fh(hm:X.mg "range"=none)(ha:Av X [a,b] tA)(hg:Gl X "range":=by rfl)(hs:starEach [a,b] X.env= [(false,eval a X.env),(false,eval b X.env)]:=by rfl)(jf:starEach [b] X.env= [(false,eval b X.env)]:=by rfl):Iv X tg (.Call (.Name "range" p) [a,b] [] pos) (Oe tA):=PI.imp (yJ hg hm ha hs jf) fun σ H R iP=>(by obtain⟨W,M,α,δ,Qd,E,q,k⟩:=iP;exact(
 ⟨W,M,α,δ,_,E,q,fun ds δ' H' vs kZ E1 c1 r1=>(by obtain⟨i,j,e,l,q1⟩:=kZ;exact(by
  subst e;obtain⟨x,ys,rfl,r2,r3⟩:=r1.aQ;obtain⟨y,zs,rfl,r4,r5⟩:=r3.aQ;cases r5.eQ;cases r2.ofInt;cases r4.ofInt;exact⟨i,j,rfl,l,k _ _ _ _ q1 E1 c1 sf⟩))⟩))
theorem nC(r:aA M H xs ds)(kf:Kf M H H1)(hb: ∀b,H b≠none-> ¬M b-> ¬M' b):aA M' H1 xs ds:=r.mono fun a o e n=>⟨kf a o e n,hb a (by rw[e];intro z;cases z) n⟩
theorem EF{K:PySem.W.Frag}{M:Addr->Prop}{H:Hp}{a:Addr}(h:H a=some (.lst xs))(n: ¬M a)(r:aA M H xs ds):Yl M H (TQ K a) ds:=by
 refine⟨fun i H1 M' kf mo hb hi=>?_,fun H1 kf=>⟨xs,cY.of (kf _ _ h n),by rw[r.1];exact Zx _⟩⟩;have rr:=nC r kf hb;have hx:xs[i]?=some (xs[i]'(by rw[r.1];exact hi)):=Zs _;refine⟨⟨xs,_,cY.of (kf _ _ h n),hx⟩,fun x H2 j7=>?_⟩;obtain⟨e,y⟩:=j7;subst e;have:=y xs (cY.of (kf _ _ h n));exact⟨fun _ _ z=>z,_,Zs hi,rr.2 i x _ this (Zs hi)⟩
theorem Im{K:PySem.W.Frag}{M:Addr->Prop}{H:Hp}{a:Addr}(h:H a=some (.tup xs))(n: ¬M a)(r:aA M H xs ds):Yl M H (TN K a) ds:=by
 refine⟨fun i H1 M' kf mo hb hi=>?_,fun H1 kf=>⟨xs,dG.of (kf _ _ h n),by rw[r.1];exact Zx _⟩⟩;have rr:=nC r kf hb;have hx:xs[i]?=some (xs[i]'(by rw[r.1];exact hi)):=Zs _;refine⟨⟨xs,_,dG.of (kf _ _ h n),hx⟩,fun x H2 oi=>?_⟩;obtain⟨e,y⟩:=oi;subst e;have:=y xs (dG.of (kf _ _ h n));exact⟨fun _ _ z=>z,_,Zs hi,rr.2 i x _ this (Zs hi)⟩
inductive KU(Q:List Dt->List Sl->Prop)(d:Dt)(δ':List Sl):Prop
 | mk (ds:_) (h1:d= .lst ds) (h2:Q ds δ')
def SX(t:bt):oT:=fun δ Q=>t δ fun d δ'=>KU Q d δ'
inductive KS(Q:List Dt->List Sl->Prop)(d:Dt)(δ':List Sl):Prop
 | mk (ds:_) (h1:d= .tup ds) (h2:Q ds δ')
def SW(t:bt):oT:=fun δ Q=>t δ fun d δ'=>KS Q d δ'
theorem fm(h:Ev X e t):Iv X tg e (SX t):=PI.imp (Fn h) fun σ H R pX=>(by obtain⟨W,M,α,δ,Qd,E,q,k⟩:=pX;exact(⟨W,M,α,δ,_,E,q,fun d δ' H' v oh E1 c1 r1=>(by obtain⟨ds,e,q1⟩:=oh;exact(by
 subst e;obtain⟨a,xs,rfl,ha,n,rr⟩:=r1.cO;exact⟨a,rfl,⟨xs,cY.of ha⟩,k _ _ _ _ q1 E1 c1 (EF ha n rr)⟩))⟩))
theorem Nd(h:Ev X e t):Iv X tg e (SW t):=PI.imp (Jp h) fun σ H R iQ=>(by obtain⟨W,M,α,δ,Qd,E,q,k⟩:=iQ;exact(⟨W,M,α,δ,_,E,q,fun d δ' H' v mm E1 c1 r1=>(by obtain⟨ds,e,q1⟩:=mm;exact(by
 subst e;obtain⟨a,xs,rfl,ha,n,rr⟩:=r1.bN;exact⟨a,rfl,⟨xs,dG.of ha⟩,k _ _ _ _ q1 E1 c1 (Im ha n rr)⟩))⟩))
noncomputable def bg(k:Nat)(ds:List Dt):List Dt:=ds.mapIdx fun i d=> .tup [.int ((i+k:Nat):Int),d]
theorem v9{K:PySem.W.Frag}{M:Addr->Prop}{H:Hp}{a:Addr}{k:Nat}(h:H a=some (.tup xs))(n: ¬M a)(r:aA M H xs ds):Yl M H (LS K a k) (bg k ds):=by
 have hl:(bg k ds).length=ds.length:=by unfold bg;rw[ai2]
 refine⟨fun i H1 M' kf mo hb hi=>?_,fun H1 kf=>⟨xs,dG.of (kf _ _ h n),by rw[r.1,hl]⟩⟩;rw[hl] at hi;have rr:=nC r kf hb;have hx:xs[i]?=some (xs[i]'(by rw[r.1];exact hi)):=Zs _;refine⟨⟨xs,_,dG.of (kf _ _ h n),hx⟩,fun x H2 pY=>?_⟩;obtain⟨pp,y,e1,e2,e3,e4⟩:=pY;subst e1;subst e3;have hy:=e4 xs (dG.of (kf _ _ h n));have s:aC H1 (upd H1 pp (.tup [.int ((i+k:Nat):Int),y])):=aC.new e2;refine⟨s,_,by unfold bg;rw[ag9,Zs hi];rfl,Rep.jj ag (mo.fresh e2) (.cons (.int _) (.one ((rr.2 i y _ hy (Zs hi)).same s)))⟩
inductive GI(k:Nat)(Q:List Dt->List Sl->Prop)(es:List Dt)(δ':List Sl):Prop
 | mk (ds:_) (h1:es= [.tup ds]) (h2:Q (bg k ds) δ')
def Ou(k:Nat)(t:iG):oT:=fun δ Q=>t δ fun es δ'=>GI k Q es δ'
theorem qQ{x1}(hm:X.mg "enumerate"=none)(ha:Av X [e] tA)(hg:Gl X "enumerate":=by rfl)(hs:starEach [e] X.env= [(false,eval e X.env)]:=by rfl):Iv X (.Tuple es x1 tp) (.Call (.Name "enumerate" p) [e] [] pos) (Ou 0 tA):=PI.imp (Bt hg hm ha hs) fun σ H R j9=>(by obtain⟨W,M,α,δ,Qd,E,q,k⟩:=j9;exact(
 ⟨W,M,α,δ,_,E,q,fun es δ' H' vs Ag E1 c1 r1=>(by obtain⟨ds,e,q1⟩:=Ag;exact(by
  subst e;obtain⟨x,ys,rfl,r2,r3⟩:=r1.aQ;cases r3.eQ;obtain⟨a,xs,rfl,ha,n,rr⟩:=r2.bN;exact⟨a,rfl,⟨xs,dG.of ha⟩,k _ _ _ _ q1 E1 c1 (v9 ha n rr)⟩))⟩))
noncomputable def fb(xs ys:List Dt):List Dt:=List.zipWith (fun x y=> .tup [x,y]) xs ys
noncomputable def QT(b:Bool)(ds:List Dt):Dt:=if b then .tup ds else .lst ds
theorem Rep.MT{b:Bool}(h:Rep M H v (QT b ds)): ∃a xs,v= .ref a/\oP b H a xs/\ ¬M a/\aA M H xs ds/\ ∀H1,Kf M H H1->oP b H1 a xs:=by
 cases b with
 | true=>obtain⟨a,xs,e,ha,n,r⟩:=Rep.bN h;exact⟨a,xs,e,ha,n,r,fun H1 k=>k _ _ ha n⟩
 | false=>obtain⟨a,xs,e,ha,n,r⟩:=Rep.cO h;exact⟨a,xs,e,ha,n,r,fun H1 k=>k _ _ ha n⟩
theorem Il(k1: ∀H1,Kf M H H1->oP b1 H1 a1 xs)(k2: ∀H1,Kf M H H1->oP b2 H1 a2 ys)(r:aA M H xs ds)(r2:aA M H ys es):Yl M H (OY b1 b2 a1 a2) (fb ds es):=by
 have hl:(fb ds es).length=min ds.length es.length:=by unfold fb;rw[List.length_zipWith]
 refine⟨fun i H1 M' kf mo hb hi=>?_,fun H1 kf=>⟨xs,ys,k1 _ kf,k2 _ kf,by rw[hl,r.1,r2.1];grind⟩⟩;rw[hl] at hi;have rr:=nC r kf hb;have mR:=nC r2 kf hb;have hd:ds[i]?=some (ds[i]'(by grind)):=Zs _;have he:es[i]?=some (es[i]'(by grind)):=Zs _;obtain⟨x,hx,rx⟩:=rr.get hd;obtain⟨y,hy,ry⟩:=mR.get he;refine⟨⟨xs,x,ys,y,k1 _ kf,hx,k2 _ kf,hy⟩,fun v H2 Af=>?_⟩;obtain⟨pp,x',y',e1,e2,e3,e4,e5⟩:=Af;subst e1;subst e3;have h1:=e4 xs (k1 _ kf);have h2:=e5 ys (k2 _ kf);rw[hx] at h1;cases h1;rw[hy] at h2;cases h2;have s:aC H1 (upd H1 pp (.tup [x,y])):=aC.new e2;exact⟨s,_,by unfold fb;rw[List.getElem?_zipWith,hd,he],Rep.jj ag (mo.fresh e2) (.cons (rx.same s) (.one (ry.same s)))⟩
inductive KG(Q:List Dt->List Sl->Prop)(es:List Dt)(δ':List Sl):Prop
 | mk (b1 b2 SI SH:_) (h1:es= [QT b1 SI,QT b2 SH]) (h2:Q (fb SI SH) δ')
def SK(t:iG):oT:=fun δ Q=>t δ fun es δ'=>KG Q es δ'
theorem xk{x1}(ha:Av X [e,f] tA)(hp: ∀{t:TA},PA X [e,f] t->PI X (.Tuple es x1 tp) (.Call (.Name "zip" p) [e,f] [] pos) (Nf t)):Iv X (.Tuple es x1 tp) (.Call (.Name "zip" p) [e,f] [] pos) (SK tA):=PI.imp (hp ha) fun σ H R Ae=>(by obtain⟨W,M,α,δ,Qd,E,q,k⟩:=Ae;exact(
 ⟨W,M,α,δ,_,E,q,fun es δ' H' vs uy E1 c1 r1=>(by obtain⟨b1,b2,SI,SH,e,q1⟩:=uy;exact(by
  subst e;obtain⟨x,ys,rfl,r2,r3⟩:=r1.aQ;obtain⟨y,zs,rfl,r4,r5⟩:=r3.aQ;cases r5.eQ;obtain⟨a,xs,rfl,ha,n,rr,kk⟩:=r2.MT;obtain⟨a2,VG,rfl,Xb,n2,mR,Wl⟩:=r4.MT;exact⟨b1,b2,a,a2,xs,VG,rfl,ha,Xb,k _ _ _ _ q1 E1 c1 (Il kk Wl rr mR)⟩))⟩))
abbrev rZ:=Dt->List Sl->(List Sl->Prop)->Prop
inductive lG(g:rZ)(v:V)(σ:L2.St)(H:Hp)(Q:L2.St->Hp->Prop):Prop
 | mk (W:List Wd) (M:Addr->Prop) (α:List (List Addr)) (δ:List Sl) (d:Dt) (Qd:List Sl->Prop) (h1:az W M α H σ δ) (h2:Rep M H v d) (h3:g d δ Qd) (h4: ∀α' δ' σ',Qd δ'->az W M α' H σ' δ'->(∀x∈α'.flatten,x∈α.flatten)->Q σ' H)
theorem PG.imp{X:Cx}{tg:Expr}{t t':TG}(h:PG X tg t)(i: ∀v σ H Q,t' v σ H Q->t v σ H Q):PG X tg t':=fun pins s σ H v u Q I r q=>h pins s σ H v u Q I r (i _ _ _ _ q)
abbrev Gv(X:Cx)(tg:Expr)(g:rZ):Prop:=PG X tg (lG g)
def C1(i:Nat):rZ:=fun d δ Q=>bY δ i/\Q (δ.set i (.im d))
theorem cE{α:List (List Addr)}: ∀x∈(α.set i []).flatten,x∈α.flatten:=fun x h=>(bq h).elim id fun z=>absurd z Zz
theorem a9: ∀v σ H Q,lG (C1 i) v σ H Q->cB i v σ H Q:=fun v σ H Q ux=>(by obtain⟨W,M,α,δ,d,Qd,E,r,⟨ok,q⟩,k⟩:=ux;exact(k _ _ _ q (E.gm r ok) cE))
theorem cS(i:Nat)(hN:X.N.Nodup)(hi:X.N[i]?=some x:=by rfl)(hx:Loc X.env.scope x:=by first | exact Or.inl rfl | exact Or.inr rfl)(hf:X.fn x=true\/X.env.scope.names.lookup x=some .local:=by first | exact .inl rfl | exact .inr rfl | assumption):Gv X (.Name x pos) (C1 i):=PG.imp (aE hN hi hx hf) a9
inductive C0(i:Nat)(j:Nat)(d:Dt)(δ:List Sl)(Q:List Sl->Prop):Prop
 | mk (d1 d2:_) (h1:d= .tup [d1,d2]) (h2:bY δ i) (h3:bY (δ.set i (.im d1)) j) (h4:Q ((δ.set i (.im d1)).set j (.im d2)))
theorem bB{i j:Nat}{K:PySem.W.Frag}: ∀v σ H Q,lG (C0 i j) v σ H Q->zj K 2 (eV (cB i) (eV (cB j) vp)) v σ H Q:=fun v σ H Q Ad=>(by obtain⟨W,M,α,δ,d,Qd,E,r,⟨d1,d2,e,FL,FK,q⟩,k⟩:=Ad;exact(by
 subst e;obtain⟨a,xs,rfl,ha,n,rr⟩:=r.bN;obtain⟨x,ys,rfl,r2,r3⟩:=rr.aQ;obtain⟨y,zs,rfl,r4,r5⟩:=r3.aQ;cases r5.eQ;exact⟨a,_,rfl,dG.of ha,rfl,x,_,rfl,y,_,rfl,rfl,k _ _ _ q ((E.gm r2 FL).gm r4 FK) fun x h=>cE x (cE x h)⟩))
theorem vo(i j:Nat)(hc:X.calm=true)(hN:X.N.Nodup)(hi:X.N[i]?=some x:=by rfl)(hj:X.N[j]?=some y:=by rfl)(hx:Loc X.env.scope x:=by first | exact Or.inl rfl | exact Or.inr rfl)(hy:Loc X.env.scope y:=by first | exact Or.inl rfl | exact Or.inr rfl)(hf:X.fn x=true\/X.env.scope.names.lookup x=some .local:=by first | exact .inl rfl | exact .inr rfl | assumption)(zf:X.fn y=true\/X.env.scope.names.lookup y=some .local:=by first | exact .inl rfl | exact .inr rfl | assumption)(hn:(assignEach [.Name x px, .Name y py] X.env).length=2:=by rfl)(qR:(assignEach [.Name x px, .Name y py] X.env).findIdx? (·.1)=none:=by rfl)(h1:(assignEach [.Name x px, .Name y py] X.env).map (·.2)=assign (.Name x px) X.env::(assignEach [.Name y py] X.env).map (·.2):=by rfl)(h2:(assignEach [.Name y py] X.env).map (·.2)=assign (.Name y py) X.env::(assignEach [] X.env).map (·.2):=by rfl):
  Gv X (.Tuple [.Name x px,.Name y py] kk pos) (C0 i j):=PG.imp (cM hc (aI (aE hN hi hx hf) (aI (aE hN hj hy zf) bR h2) h1) hn qR) bB
end
section
variable{X:Cx}{tg iter c:Expr}{body:List Stmt}{ti:oT}{g:rZ}{tb:j6}{u:mj}{pos:Pos}
def S2(ti:oT)(g:rZ)(tb:j6):j6:=fun Δ δ=>ti δ fun ao δ1=> ∃P:Nat->List Sl->Prop,P 0 δ1/\(∀i d δ2,ao[i]?=some d->P i δ2->g d δ2 fun δ3=>tb {Δ with nx:=P (i+1),ct:=P (i+1),bk:=Δ.nx} δ3)/\ ∀δ2,P ao.length δ2->Δ.nx δ2
theorem dN(hc:X.calm=true)(hi:Iv X tg iter ti)(hg:Gv X tg g)(hb:zL X body tb)(hp:PassesOwn (model X.prog X.w) X.A X.env X.xe)(hs: ∀x,foldedSetIterable iter X.env x=pure x:=by intro _;rfl):Ex X (.For tg iter body [] pos) (S2 ti g tb):=
 PS.imp (Jn hp hc hi hg hb hs) fun D σ H ck=>(by obtain⟨Ws,M,α,δ,Δ,E,L,q⟩:=ck;exact(⟨Ws,M,α,δ,_,E,q,fun ao δ1 H1 J dS E1 c1 yl=>(by obtain⟨P,p0,step,fin⟩:=dS;exact(by
  refine⟨fun i m σ' H'=>m=ao.length - i/\i<=ao.length/\ ∃M' α' δ',az (⟨H1,M,fun _=>False,M,none⟩::Ws) M' α' H' σ' δ'/\P i δ',⟨ao.length,by simp,Z7 _,M,α,δ1,E1.loop,p0⟩,?_⟩;rintro i m σ' H' ⟨rfl,hi,M',α',δ',E',p'⟩
  have w:=E'.w _ ZI;have kf:Kf M H1 H':=w.bs;have hb: ∀b,H1 b≠none-> ¬M b-> ¬M' b:=fun b n z y=>(w.m1 b y).elim z n;by_cases dr:i < ao.length
  . obtain⟨go,se⟩:=yl.go i H' M' kf E'.al hb dr;refine .inr ⟨go,fun σ2 H2=> ∃M2 α2 δ2,az (⟨H1,M,fun _=>False,M,none⟩::Ws) M2 α2 H2 σ2 δ2/\P (i+1) δ2,fun σ2 H2 z=>⟨ao.length - (i+1),by grind,rfl,dr,z⟩,fun x H2 y=>?_⟩;obtain⟨s,d,hd,rx⟩:=se x H2 y;refine⟨_,M',α',δ',d,_,E'.same s,rx,step i d δ' hd p',fun α3 δ3 σ3 q3 E3 _=>?_⟩;refine⟨_,M',α3,δ3,{Δ with nx:=P (i+1),ct:=P (i+1),bk:=Δ.nx},E3,⟨fun M4 α4 H4 σ4 δ4 E4 q4=>⟨M4,α4,δ4,E4,q4⟩,fun M4 α4 H4 σ4 δ4 v d E4 r4 q4=>L.rt _ _ _ _ _ _ _ E4.drop r4 q4,fun M4 α4 H4 σ4 δ4 E4 q4=>L.nx _ _ _ _ _ E4.drop q4,fun M4 α4 H4 σ4 δ4 E4 q4=>⟨M4,α4,δ4,E4,q4⟩⟩,q3⟩
  . have e:i=ao.length:=by grind
    subst e;exact .inl ⟨yl.stop H' kf,L.nx _ _ _ _ _ E'.drop (fin _ p')⟩))⟩))
def Di(u:mj)(tb:j6):j6:=fun Δ δ=> ∃P:Nat->List Sl->Prop,(∃m,P m δ)/\ ∀m δ1,P m δ1->u δ1 fun b δ2=>if b=true then tb {Δ with nx:=fun δ3=> ∃m',m' < m/\P m' δ3,ct:=fun δ3=> ∃m',m' < m/\P m' δ3,bk:=Δ.nx} δ2 else Δ.nx δ2
theorem Fb(hc:Tv X c u)(hb:zL X body tb)(hp:PassesOwn (model X.prog X.w) X.A X.env X.xe):Ex X (.While c body [] pos) (Di u tb):=
 PS.imp (Bk hp hc hb) fun D σ H j8=>(by obtain⟨Ws,M,α,δ,Δ,E,L,P,⟨m0,p0⟩,turn⟩:=j8;exact(by
  refine⟨fun m σ' H'=> ∃M' α' δ',az Ws M' α' H' σ' δ'/\P m δ',⟨m0,M,α,δ,E,p0⟩,?_⟩;rintro m σ' H' ⟨M',α',δ',E',p'⟩
  refine⟨Ws,M',α',δ',_,E',turn m δ' p',fun b δ2 H2 q2 E2 c2=>?_⟩;cases b with
  | true=>
   rw[if_pos rfl] at q2 ⊢;refine⟨fun σ3 H3=> ∃m',m' < m/\ ∃M3 α3 δ3,az Ws M3 α3 H3 σ3 δ3/\P m' δ3,fun σ3 H3 z=>z,?_⟩;exact⟨Ws,M',α',δ2,{Δ with nx:=fun δ3=> ∃m',m' < m/\P m' δ3,ct:=fun δ3=> ∃m',m' < m/\P m' δ3,bk:=Δ.nx},E2,⟨fun M4 α4 H4 σ4 δ4 E4 Ac=>(by obtain⟨m',l,q4⟩:=Ac;exact(⟨m',l,M4,α4,δ4,E4,q4⟩)),L.rt,fun M4 α4 H4 σ4 δ4 E4 q4=>L.nx _ _ _ _ _ E4 q4,fun M4 α4 H4 σ4 δ4 E4 Ie=>(by obtain⟨m',l,q4⟩:=Ie;exact(⟨m',l,M4,α4,δ4,E4,q4⟩))⟩,q2⟩
  | false=>
   rw[if_neg ZJ] at q2 ⊢;exact L.nx _ _ _ _ _ E2 q2))
end
noncomputable def seen:Sl->Sl
 | .im d=> .im d
 | .fn f=> .fn f
 | _=> .no
noncomputable def cin(nt:Nat)(js:List Nat)(δ:List Sl):List Sl:=List.replicate nt .no++js.map fun j=>seen (δ.getD j .no)
theorem jW{js:List Nat}(E:az Ws M α H σ δ):az [] M (List.replicate (nt+js.length) []) H (gA nt js σ) (cin nt js δ):=by
 have aY:(List.replicate (nt+js.length) ([]:List Addr)).flatten= []:=by simp
 refine⟨by simp [gA,cin],by simp [cin],fun i s h=>?_,by rw[aY];exact ag8,fun a ha=>by rw[aY] at ha;exact absurd ha Zz,E.al,fun W hW=>absurd hW Zz⟩;have hi:=(Zw.mp h).1;have og:i < nt+js.length:=by simpa [cin] using hi
 have ha:(List.replicate (nt+js.length) ([]:List Addr))[i]?=some []:=by rw[ZX,if_pos og]
 unfold cin at h;unfold gA;by_cases hl:i < nt
 . rw[Z3 (by simpa using hl),ZX,if_pos hl] at h;cases h;exact⟨none,[],by rw[Z3 (by simpa using hl),ZX,if_pos hl],ha,rfl⟩
 . rw[Z8 (by simpa using hl),ae4,Zy] at h;cases hj:js[i - nt]? with
   | none=>rw[hj] at h;cases h
   | some j=>
    rw[hj] at h;have hs:seen (δ.getD j .no)=s:=Option.some.inj h;refine⟨(σ[j]?).join,[],by rw[Z8 (by simpa using hl),ae4,Zy,hj];rfl,ha,?_⟩;cases hd:δ[j]? with
    | none=>
     have:δ.getD j .no= .no:=by rw[List.getD,hd];rfl
     rw[this] at hs;subst hs;rfl
    | some s'=>
     have e:δ.getD j .no=s':=by rw[List.getD,hd];rfl
     rw[e] at hs;cases s' with
     | im d=>
      subst hs;obtain⟨v,h1,r⟩:=E.im hd;exact⟨rfl,v,by rw[h1];rfl,r⟩
     | fn f=>
      subst hs;obtain⟨o2,yc,h1,_,_,h3⟩:=E.sl j _ hd;exact⟨rfl,by rw[h1,h3];rfl⟩
     | _=>subst hs;rfl
section
variable{X:Cx}{N:List Str}{nt:Nat}{js:List Nat}{scope:Scope}{elt tg iter:Expr}{ifs:List Expr}{pos:Pos}{ti:oT}{g:rZ}{tc:mj}{te:bt}
def Dy(nt:Nat)(js:List Nat)(ti:oT)(g:rZ)(tc:mj)(te:bt):z0:=fun δ Q=>ti δ fun ao δ1=>ao.length<=sizeLine/\ ∃(p:Dt->Bool) (f:Dt->Dt),(∀d∈ao,g d (cin nt js δ1) fun δ2=>tc δ2 fun b δ3=>b=p d/\(b=true->te δ3 fun r _=>r=f d))/\Q ((ao.filter p).map f) δ1
theorem zA(qT: ∀v σ H Q,lG g v σ H Q->gh v σ H Q)(E1:az W M α H1 σ δ1)(yl:Yl M H1 J ao)(hsz:ao.length<=sizeLine)(step: ∀d∈ao,g d (cin nt js δ1) fun δ2=>tc δ2 fun b δ3=>b=p d/\(b=true->te δ3 fun r _=>r=f d))(k: ∀H3 xs a,az W M α H3 σ δ1->cW α H1 H3->aA M H3 xs ((ao.filter p).map f)->H3 a=none->Q (.ref a) (upd H3 a (.lst xs)))(D:Addr)(hD:H1 D=none):Eh nt js gh (lT tc) (lE te) σ Q D J (upd H1 D (.lst [])):=by
 have s0:aC H1 (upd H1 D (.lst [])):=aC.new hD;refine⟨fun i m acc H2=>m=ao.length - i/\i<=ao.length/\H2 D=some (.lst acc)/\aA (fun b=>M b\/b=D) H2 acc (((ao.take i).filter p).map f)/\aC H1 H2/\j3 (fun b=>M b\/b=D) H2,⟨ao.length,by simp,Z7 _,ag,.nil,s0,fun a ha=>?_⟩,?_⟩
 . rcases ha with ha | ha
   . obtain⟨o,e,n⟩:=E1.al a ha;exact⟨o,s0 _ _ e,n⟩
   . subst ha;exact⟨_,ag,fun xs z=>by cases z⟩
 rintro i m acc H2 ⟨rfl,hi,uw,gB,s2,Hl⟩
 have kf:Kf M H1 H2:=fun b o e _=>s2 _ _ e;by_cases dr:i < ao.length
 . have hb: ∀b,H1 b≠none-> ¬M b-> ¬(fun b=>M b\/b=D) b:=fun b n z y=>y.elim z fun w=>n (by rw[w];exact hD);obtain⟨go,se⟩:=yl.go i H2 (fun b=>M b\/b=D) kf Hl hb dr;have hlen:acc.length < sizeLine:=by
    rw[gB.1,Zu];exact ae9 (ZZ (List.length_filter_le _ _) (by rw[ac0];omega)) (ZU dr hsz)
   refine .inr ⟨go,hlen,fun bI H'=>H' D=some (.lst bI)/\aA (fun b=>M b\/b=D) H' bI (((ao.take (i+1)).filter p).map f)/\aC H1 H'/\j3 (fun b=>M b\/b=D) H',fun bI H' j8=>(by obtain⟨z1,z2,z3,z4⟩:=j8;exact(⟨ao.length - (i+1),by omega,rfl,dr,z1,z2,z3,z4⟩)),fun x H3 y=>?_⟩;obtain⟨s3,d,hd,rx⟩:=se x H3 y;have E2:az [] (fun b=>M b\/b=D) (List.replicate (nt+js.length) []) H2 (gA nt js σ) (cin nt js δ1):=by
    have su:aC (upd H1 D (.lst acc)) H2:=fun b o e=>by
     by_cases hb:b=D
     . subst hb;rw[ag] at e;cases e;exact uw
     . rw[ah hb] at e;exact s2 _ _ e
    have Ea:az [] (fun b=>M b\/b=D) α H2 σ δ1:=⟨E1.ls,E1.la,fun i s h=>let ⟨o,as,h1,h2,h3⟩:=E1.sl i s h;⟨o,as,h1,h2,(h3.grow (u:= .lst acc) hD).same su⟩,E1.nd,fun a h=> .inl (E1.mu a h),Hl,fun W hW=>absurd hW Zz⟩
    exact jW Ea
   have E3:=E2.same s3;have aY:(List.replicate (nt+js.length) ([]:List Addr)).flatten= []:=by simp
   refine qT _ _ _ _ ⟨[],_,_,_,d,_,E3,rx,step d (ZY hd),fun α4 δ4 σ4 q4 E4 hα=>?_⟩;have Ey:α4.flatten= []:=ad8.mpr fun x hx=>by have:=hα x hx;rw[aY] at this;exact absurd this Zz
   refine⟨[],_,α4,δ4,_,E4,q4,fun b δ5 H5 iP E5 c5=>?_⟩;obtain⟨hp,q5⟩:=iP;have s5:aC H3 H5:=fun b o e=>c5 b o e (by rw[Ey];exact Zz);have Ff:aC H2 H5:=fun b o e=>s5 _ _ (s3 _ _ e);have tk:ao.take (i+1)=ao.take i++ [d]:=by rw[af3,hd];rfl
   cases b with
   | false=>
    refine bf ⟨Ff _ _ uw,?_,fun b o e=>Ff _ _ (s2 _ _ e),E5.al⟩;rw[tk,al1,ZV];simp [<-hp];exact gB.same Ff
   | true=>
    refine cu ⟨[],_,α4,δ5,_,E5,q5 rfl,fun r δ6 H6 v e6 E6 c6 r6=>?_⟩;subst e6;have s6:aC H5 H6:=fun b o e=>c6 b o e (by rw[Ey];exact Zz);have A8:aC H2 H6:=fun b o e=>s6 _ _ (Ff _ _ e);have So:=A8 _ _ uw;have up: ∀{zs:List V} {ds:List Dt},aA (fun b=>M b\/b=D) H6 zs ds->aA (fun b=>M b\/b=D) (upd H6 D (.lst (acc++ [v]))) zs ds:=fun r=>r.mono fun a o e n=>⟨by rw[ah (fun z=>n (.inr z))];exact e,n⟩
    refine⟨So,ag,?_,fun b o e=>by rw[ah (ai e hD)];exact A8 _ _ (s2 _ _ e),fun a ha=>?_⟩
    . rw[tk,al1,ZV];have e1:List.filter p [d]= [d]:=by simp [<-hp]
      rw[e1];exact up ((gB.same A8).append (.one r6))
    . by_cases hb:a=D
      . subst hb;exact⟨_,ag,fun xs z=>by cases z⟩
      . rw[ah hb];exact E6.al a ha
 . have e:i=ao.length:=by omega
   subst e;refine .inl ⟨yl.stop H2 kf,?_⟩;rw[ac9] at gB;have eH:upd (fun b=>if b=D then none else H2 b) D (.lst acc)=H2:=by
    funext b
    by_cases hb:b=D
    . subst hb;rw[ag,uw]
    . rw[ah hb,if_neg hb]
   rw[<-eH];have sH:aC H1 (fun b=>if b=D then none else H2 b):=fun b o e=>by
    show(if b=D then none else H2 b)=some o;rw[if_neg (ai e hD)];exact s2 _ _ e
   refine k _ _ _ (E1.same sH) (cW.of sH) (gB.mono fun a o e n=>⟨?_,fun z=>n (.inl z)⟩) (by show(if D=D then none else H2 D)=none;rw[if_pos rfl]);show(if a=D then none else H2 a)=some o;rw[if_neg (fun z=>n (.inr z))];exact e
theorem pL(qT: ∀v σ H Q,lG g v σ H Q->gh v σ H Q): ∀σ H Q,lO (Dy nt js ti g tc te) σ H Q->wq nt js (lI ti) gh (lT tc) (lE te) σ H Q:=fun σ H Q ck=>(by obtain⟨W,M,α,δ,Qd,E,q,k⟩:=ck;exact(by
 refine⟨W,M,α,δ,_,E,q,fun ao δ1 H1 J dS E1 c1 yl D hD=>?_⟩;obtain⟨hsz,p,f,step,q1⟩:=dS;exact zA qT E1 yl hsz step (fun H3 xs a E3 c3 r3 h3=>k _ _ _ _ _ q1 E3 (c1.tr c3) r3 h3) D hD))
theorem cQ(S:je X N nt js scope)(hc:X.calm=true)(hi:Iv X tg iter ti)(hg: ∀s H cl C ex,PG (dF X N scope s H cl C ex) tg gh)(eE:jd nt gh)(qT: ∀v σ H Q,lG g v σ H Q->gh v σ H Q)(hf: ∀s H cl C ex,PF (dF X N scope s H cl C ex) ifs (lT tc))(he: ∀s H cl C ex,Ev (dF X N scope s H cl C ex) elt te)(hs: ∀x,foldedSetIterable iter X.env x=pure x:=by intro _;rfl):Ov X (.ListComp elt [⟨tg,iter,ifs,0⟩] scope pos) (Dy nt js ti g tc te):=PE.imp (Ft S hc hi hg eE hf he hs) (pL qT)
theorem A4(i:Nat){pos' py:Pos}(hN:X.N.Nodup)(S:je X N nt js scope)(hc:X.calm=true)(hi:Iv X tg iter ti)(hg: ∀s H cl C ex,PG (dF X N scope s H cl C ex) tg gh)(eE:jd nt gh)(qT: ∀v σ H Q,lG g v σ H Q->gh v σ H Q)(hf: ∀s H cl C ex,PF (dF X N scope s H cl C ex) ifs (lT tc))(he: ∀s H cl C ex,Ev (dF X N scope s H cl C ex) elt te)(NF:X.N[i]?=some y:=by rfl)(hy:Loc X.env.scope y:=by first | exact Or.inl rfl | exact Or.inr rfl)(Nn:swapsWith (.ListComp elt [⟨tg,iter,ifs,0⟩] scope pos) (some (.Name y py)) pos'.line X.env=pure true:=by rfl)(hs: ∀x,foldedSetIterable iter X.env x=pure x:=by intro _;rfl)(F9:X.fn y=true\/X.env.scope.names.lookup y=some .local:=by first | exact .inl rfl | exact .inr rfl | assumption):
  Ex X (.Assign [.Name y py] (.ListComp elt [⟨tg,iter,ifs,0⟩] scope pos) pos') (xO i (Dy nt js ti g tc te)):=PS.imp (wN hN NF hy S hc hi hg eE hf he Nn hs F9) fun D σ H h=>by
 obtain⟨Ws,M,α,δ,Δ,E,L,q⟩:=h;exact pL qT _ _ _ ⟨Ws,M,α,δ,_,E,q,fun ds δ' H1 xs a kZ E1 c1 r1 h1=>(by obtain⟨ok,q1⟩:=kZ;exact(L.nx _ _ _ _ _ (E1.mG (s:= .ow ds) h1 (fun xs z=>by cases z) ok rfl ⟨a,xs,rfl,rfl,ag,r1.grow h1⟩) q1))⟩
def HJ:mj:=fun δ Q=>Q true δ
theorem dA:PF X [] (lT HJ):=fun pins s σ H Q I j7=>(by obtain⟨W,M,α,δ,Qd,E,q,k⟩:=j7;exact(Bv pins s σ H Q I (k _ _ _ q E cW.rf)))
theorem NU(h:Tv X c t):PF X [c] (lT t):=Jq h
theorem cw{nt i j:Nat}{K:PySem.W.Frag}(hi:i < nt:=by decide)(hj:j < nt:=by decide):jd nt (zj K 2 (eV (cB i) (eV (cB j) vp))):=Cz (pF hi (vm pE) (pF hj pE CA))
end
structure zK(Ws:List Wd)(M:Addr->Prop)(α:List (List Addr))(a:Addr):Prop where
 m:M a
 n:a∉α.flatten
 w: ∀W∈Ws,(W.A0 a\/W.H0 a=none)/\ ¬W.M0 a
def Vp(M:Addr->Prop)(H:Hp)(v:V)(s:Sl)(as:List Addr):Prop:=s.bU=false/\rP M H (some v) s as
inductive D7(Ws:List Wd)(M:Addr->Prop)(α:List (List Addr))(H:Hp):List V->List Sl->List Addr->Prop where
 | nil:D7 Ws M α H [] [] []
 | cons {v:V} {s:Sl} {as bs:List Addr} {vs:List V} {ss:List Sl}:Vp M H v s as->(∀a∈as,zK Ws M α a)->as.Nodup->(∀a∈as,a∉bs)->D7 Ws M α H vs ss bs->D7 Ws M α H (v::vs) (s::ss) (as++bs)
abbrev EE:=List Sl->(List Sl->List Sl->Prop)->Prop
inductive lH(t:EE)(σ:L2.St)(H:Hp)(Q:List V->Hp->Prop):Prop
 | mk (W:List Wd) (M:Addr->Prop) (α:List (List Addr)) (δ:List Sl) (Qd:List Sl->List Sl->Prop) (h1:az W M α H σ δ) (h2:t δ Qd) (h3: ∀ss δ' H' vs M' bs,Qd ss δ'->az W M' α H' σ δ'->cW α H H'->(∀a,M a->M' a)->(∀a,M' a->M a\/H a=none)->D7 W M' α H' vs ss bs->(∀a∈bs,¬M a)->Q vs H')
abbrev Hv(X:Cx)(es:List Expr)(t:EE):Prop:=PA X es (lH t)
theorem rP.keep(h:rP M H o s as)(k: ∀b u,H b=some u-> ¬M b->H' b=some u/\ ¬M' b)(k2: ∀a∈as,∀u,H a=some u->H' a=some u)(nb:s.bU=false):rP M' H' o s as:=by
 cases s with
 | no=>exact h
 | im d=>exact⟨h.1,let ⟨v,e,r⟩:=h.2;⟨v,e,r.mono k⟩⟩
 | ow ds=>obtain⟨a,xs,e1,e2,e3,r⟩:=h;subst e1;exact⟨a,xs,rfl,e2,k2 a (by simp) _ e3,r.mono k⟩
 | bx t=>cases nb
 | dk ks ds=>obtain⟨a,vs,e1,e2,e3,e4,r⟩:=h;subst e1;exact⟨a,vs,rfl,e2,k2 a (by simp) _ e3,e4,r.mono k⟩
 | ob R=>obtain⟨v,e,r⟩:=h;exact⟨v,e,R.st r (fun a ha u q=>k2 a ha _ q) k⟩
 | fn f=>exact h
section
variable{X:Cx}{e:Expr}{es:List Expr}{t:bt}{th:EE}
def Si:EE:=fun δ Q=>Q [] δ
def Xf(t:bt)(th:EE):EE:=fun δ Q=>t δ fun d δ1=>th δ1 fun ss δ2=>Q (.im d::ss) δ2
theorem Hz:Hv X [] Si:=PA.imp aG fun σ H Q ck=>(by obtain⟨W,M,α,δ,Qd,E,q,k⟩:=ck;exact(k _ _ _ _ _ _ q E cW.rf (fun _ z=>z) (fun _ z=> .inl z) .nil (fun a ha=>absurd ha Zz)))
theorem Gf(ha:Ev X e t)(hr:Hv X es th)(hs:starEach (e::es) X.env=(false,eval e X.env)::starEach es X.env:=by rfl):Hv X (e::es) (Xf t th):=PA.imp (af ha hr hs) fun σ H Q dS=>(by obtain⟨W,M,α,δ,Qd,E,q,k⟩:=dS;exact(
 ⟨W,M,α,δ,_,E,q,fun d δ1 H1 x q1 E1 c1 r1=>⟨W,M,α,δ1,_,E1,q1,fun ss δ2 H2 vs M' bs q2 E2 c2 m1 m2 hh hb=>
  k _ _ _ _ _ _ q2 E2 (c1.tr c2) m1 (fun a z=>(m2 a z).elim .inl fun y=>by
   cases e:H a with
   | none=>exact .inr rfl
   | some o => by_cases hf : a ∈ α.flatten
               . exact .inl (E.mu a hf)
               . rw[c1 _ _ e hf] at y;cases y)
   (D7.cons (as:= []) ⟨rfl,rfl,x,rfl,r1.mono fun a o e n=>⟨c2 _ _ e fun z=>n (E1.mu a z),fun z=>(m2 a z).elim n fun y=>by rw[e] at y;cases y⟩⟩ (fun a ha=>absurd ha Zz) ag8 (fun a ha=>absurd ha Zz) hh) hb⟩⟩))
theorem az.hold(E:az W M α H σ δ)(hp:H p=none)(hu: ∀xs,u≠ .tup xs):az W (fun b=>M b\/b=p) α (upd H p u) σ δ/\zK W (fun b=>M b\/b=p) α p:=by
 have sm:aC H (upd H p u):=aC.new hp;have np:p∉α.flatten:=fun z=>E.fresh hp (E.mu p z);have h0: ∀W'∈W,W'.H0 p=none:=fun W' hW=>by
  cases e:W'.H0 p with
  | none=>rfl
  | some o=>exact absurd hp ((E.w W' hW).ex p (by rw[e];intro z;cases z))
 refine⟨⟨E.ls,E.la,fun j s hj=>let ⟨o,as,h1,h2,h3⟩:=E.sl j s hj;⟨o,as,h1,h2,h3.grow hp⟩,E.nd,fun a h=> .inl (E.mu a h),fun a ha=>?_,fun W' hW=>?_⟩,⟨.inr rfl,np,fun W' hW=>⟨.inr (h0 W' hW),fun z=>E.fresh hp ((E.w W' hW).m0 p z)⟩⟩⟩
 . rcases ha with ha | ha
   . obtain⟨o,e,n⟩:=E.al a ha;exact⟨o,sm _ _ e,n⟩
   . subst ha;exact⟨u,ag,hu⟩
 . have k:=E.w W' hW;exact⟨fun b o e n=>sm _ _ (k.bs b o e n),fun b n y=>k.ex b n (LW.aC.none sm y),k.fr,fun a h=> .inl (k.m0 a h),fun a h=>h.elim (k.m1 a) fun z=> .inr (by rw[z];exact h0 W' hW),k.bx,k.fz⟩
end
theorem az.wB(E:az Ws M α H σ δ)(h:Vp M H v s as)(hh: ∀a∈as,zK Ws M α a)(nd:as.Nodup)(ok:bY δ i):az Ws M (α.set i as) H (σ.set i (some v)) (δ.set i s):=by
 have hi:=ok.lt;obtain⟨s0,LA,nb⟩:=ok;refine⟨by rw[Z4,Z4,E.ls],by rw[Z4,Z4,E.la],fun j s' hj=>?_,bZ E.nd nd (fun x hx=>(hh x hx).n),fun a ha=>(bq ha).elim (E.mu a) fun z=>(hh a z).m,E.al,fun W hW=>?_⟩
 . by_cases cj:i=j
   . subst cj;rw[ZN hi] at hj;cases hj;exact⟨some v,as,by rw[ZN (by rw[E.ls];exact hi)],by rw[ZN (by rw[E.la];exact hi)],h.2⟩
   . rw[ZE cj] at hj;obtain⟨o,as,h1,h2,h3⟩:=E.sl j s' hj;exact⟨o,as,by rw[ZE cj];exact h1,by rw[ZE cj];exact h2,h3⟩
 . have k:=E.w W hW;refine⟨k.bs,k.ex,fun a ha=>(bq ha).elim (k.fr a) fun z=>((hh a z).w W hW).1,k.m0,k.m1,fun d c e=>?_,fun j s XH h1 h2 nb'=>?_⟩
   . obtain⟨t,e1,e2⟩:=k.bx d c e;have:i≠0:=fun z=>by subst z;rw[LA] at e1;cases e1;cases nb
     exact⟨t,by rw[ZE this];exact e1,by rw[ZE this];exact e2⟩
   . by_cases cj:i=j
     . subst cj;rw[ZN (by rw[E.la];exact hi)] at h2;cases h2;exact fun a ha=>((hh a ha).w W hW).2
     . rw[ZE cj] at h1 h2;exact k.fz j s XH h1 h2 nb'
theorem zK.set(h:zK Ws M α a)(n:a∉as):zK Ws M (α.set i as) a:=⟨h.m,fun z=>(bq z).elim h.n n,h.w⟩
section
variable{X:Cx}{a b c:Expr}{pos:Pos}{th:EE}
inductive GF(i:Nat)(j:Nat)(Δ:dE)(ss:List Sl)(δ':List Sl):Prop
 | mk (s1 s2:_) (h1:ss= [s1,s2]) (h2:bY δ' i) (h3:bY (δ'.set i s1) j) (h4:Δ.nx ((δ'.set i s1).set j s2))
def Oh(i j:Nat)(th:EE):j6:=fun Δ δ=>th δ fun ss δ'=>GF i j Δ ss δ'
theorem IT(i j:Nat){kt k2 Bj}(hc:X.calm=true)(hN:X.N.Nodup)(ha:Hv X [a,b] th)(hi:X.N[i]?=some x:=by rfl)(hj:X.N[j]?=some y:=by rfl)(cj:i≠j:=by decide)(hx:X.env.scope.names.lookup x=some .local:=by rfl)(hy:X.env.scope.names.lookup y=some .local:=by rfl)(hw:swappedStores [.Tuple [.Name x px, .Name y py] kt pt] (.Tuple [a,b] k2 Bj) X.env=pure (some [x,y]):=by rfl)(hs:swapsWithSole [.Tuple [.Name x px, .Name y py] kt pt] (.Tuple [a,b] k2 Bj) pos.line X.env=pure false:=by rfl):
  Ex X (.Assign [.Tuple [.Name x px,.Name y py] kt pt] (.Tuple [a,b] k2 Bj) pos) (Oh i j th):=PS.imp (Jm hc hN hi hj cj hx hy ha hw hs) fun D σ H kZ=>(by obtain⟨Ws,M,α,δ,Δ,E,L,q⟩:=kZ;exact(
 ⟨Ws,M,α,δ,_,E,q,fun ss δ' H' vs M' bs j7 E1 c1 m1 m2 hh hb=>(by obtain⟨s1,s2,e,FL,FK,q1⟩:=j7;exact(by
  subst e;cases hh with
  | cons h1 h2 h3 h4 h5=>
   cases h5 with
   | cons g1 g2 g3 g4 g5=>
    cases g5;rename_i v1 XG v2 yc;have Ea:=E1.wB h1 h2 h3 FL;have Eb:=Ea.wB (i:=j) g1 (fun a ha=>(g2 a ha).set fun z=>h4 a z (by simpa using ha)) g3 FK;exact⟨_,_,rfl,L.nx _ _ _ _ _ Eb q1⟩))⟩))
end
noncomputable def Nb:Dt->Option Key
 | .int i=>some (.inl i)
 | .str x=>some (.inr x)
 | _=>none
theorem FZ(r:Rep M H v d)(h:Nb d=some k):v=kV k:=by
 cases r <;> first | (cases h;rfl) | cases h
instance {k:Key} {ks:List Key}:Decidable (k∈ks):=decidable_of_iff ((ks.any fun x=>decide (x=k))=true) (by simp)
theorem DF(E:az Ws M α H σ δ)(hb:δ[jb]?=some (.bx t))(hn:nt<=ib)(hj:js[ib - nt]?=some jb):
  ∃d c,σ[jb]?=some (some (.ref d))/\α[jb]?=some [d,c]/\ur H d c t/\(gA nt js σ)[ib]?=some (some (.ref d))/\az [] M ((List.replicate (nt+js.length) []).set ib [d,c]) H (gA nt js σ) ((cin nt js δ).set ib (.bx t)):=by
 obtain⟨d,c,h1,h2,B⟩:=E.box hb;have E0:=jW (nt:=nt) (js:=js) E;have Pu:=(Zw.mp hj).1;have hlen:ib < (cin nt js δ).length:=by simp [cin];omega
 have hσ:(gA nt js σ)[ib]?=some (some (.ref d)):=by
  unfold gA;rw[Z8 (by simpa using hn),ae4,Zy,hj];show some ((σ[jb]?).join)=_;rw[h1];rfl
 have aY:(List.replicate (nt+js.length) ([]:List Addr)).flatten= []:=by simp
 have WO:ib < (List.replicate (nt+js.length) ([]:List Addr)).length:=by rw[E0.la];exact hlen
 refine⟨d,c,h1,h2,B,hσ,⟨by rw[Z4,E0.ls],by rw[Z4,Z4,E0.la],fun i s hs=>?_,bZ E0.nd (by simp [B.ne]) (fun x hx=>by rw[aY];exact Zz),fun a ha=>?_,E.al,fun W hW=>absurd hW Zz⟩⟩
 . by_cases hi:ib=i
   . subst hi;rw[ZN hlen] at hs;cases hs;exact⟨_,_,hσ,by rw[ZN WO],d,c,rfl,rfl,B⟩
   . rw[ZE hi] at hs;obtain⟨o,as,g1,g2,g3⟩:=E0.sl i s hs;exact⟨o,as,g1,by rw[ZE hi];exact g2,g3⟩
 . rcases bq ha with z | z
   . rw[aY] at z;exact absurd z Zz
   . exact E.mu a (aM h2 z)
theorem az.grow(E:az Ws M α H σ δ)(hD:H D=none)(hu: ∀xs,u≠ .tup xs):az Ws (fun b=>M b\/b=D) α (upd H D u) σ δ:=(E.hold hD hu).1
section
variable{X:Cx}{N:List Str}{nt:Nat}{js:List Nat}{scope:Scope}{elt tg iter:Expr}{ifs:List Expr}{pos:Pos}{ti:oT}{g:rZ}{tc:mj}{te:bt}{ib jb:Nat}
def Dv(nt:Nat)(js:List Nat)(ib jb:Nat)(ti:oT)(g:rZ)(te:bt):z0:=fun δ Q=>ti δ fun ao δ1=> ∃(t0:Int) (P:Nat->List Dt->Int->Prop),δ1[jb]?=some (.bx t0)/\P 0 [] t0/\
 (∀i d acc t,ao[i]?=some d->P i acc t->acc.length < sizeLine/\g d ((cin nt js δ1).set ib (.bx t)) fun δ2=>δ2[ib]?=some (.bx t)/\te δ2 fun r δ3=> ∃t',δ3[ib]?=some (.bx t')/\P (i+1) (acc++ [r]) t')/\ ∀acc t,P ao.length acc t->Q acc (δ1.set jb (.bx t))
theorem GS(E:az Ws M α H σ δ)(hb:δ[jb]?=some (.bx t))(h1:σ[jb]?=some (some (.ref d)))(h2:α[jb]?=some [d,c])(Ei:az [] M αi H' σi δi)(hi:δi[ib]?=some (.bx t'))(hσ:σi[ib]?=some (some (.ref d)))(hα: ∀x∈αi.flatten,x=d\/x=c)(ch: ∀b o,H b=some o->b≠d->b≠c->H' b=some o):az Ws M α H' σ (δ.set jb (.bx t'))/\cW α H H'/\ur H' d c t':=by
 obtain⟨d',c',g1,g2,B⟩:=Ei.box hi;rw[hσ] at g1;cases g1;have hc:c'=c:=by
  rcases hα c' (aM g2 (by simp)) with z | z
  . exact absurd z.symm B.ne
  . exact z
 subst hc;obtain⟨E',XC⟩:=xZ E hb h1 h2 (H':=H') (fun b o e n1 n2=>ch b o e n1 n2) B;exact⟨E',XC,B⟩
theorem az.Iu(E:az Ws (fun b=>M b\/b=D) α H σ δ)(nM: ¬M D)(nα:D∉α.flatten)(nW: ∀W∈Ws,W.H0 D=none/\ ¬W.M0 D):az Ws M α (fun b=>if b=D then none else H b) σ δ:=by
 have rep: ∀{v:V} {d:Dt},Rep (fun b=>M b\/b=D) H v d->Rep M (fun b=>if b=D then none else H b) v d:=fun r=>r.mono fun a o e n=>⟨by show(if a=D then none else H a)=some o;rw[if_neg (fun z=>n (.inr z))];exact e,fun z=>n (.inl z)⟩
 have Bb: ∀{v:List V} {d:List Dt},aA (fun b=>M b\/b=D) H v d->aA M (fun b=>if b=D then none else H b) v d:=fun r=>r.mono fun a o e n=>⟨by show(if a=D then none else H a)=some o;rw[if_neg (fun z=>n (.inr z))];exact e,fun z=>n (.inl z)⟩
 have nd: ∀{a:Addr} {o:HO},H a=some o->a≠D->(fun b=>if b=D then none else H b) a=some o:=fun{a o} e n=>by show(if a=D then none else H a)=some o;rw[if_neg n];exact e
 refine⟨E.ls,E.la,fun i s h=>?_,E.nd,fun a ha=>(E.mu a ha).elim id fun z=>by subst z;exact absurd ha nα,fun a ha=>?_,fun W hW=>?_⟩
 . obtain⟨o,as,h1,h2,h3⟩:=E.sl i s h;have na: ∀a∈as,a≠D:=fun a ha z=>nα (z▸aM h2 ha);refine⟨o,as,h1,h2,?_⟩;cases s with
   | no=>exact h3
   | im d=>exact⟨h3.1,let ⟨v,e,r⟩:=h3.2;⟨v,e,rep r⟩⟩
   | ow ds=>obtain⟨a,xs,e1,e2,e3,r⟩:=h3;subst e1;exact⟨a,xs,rfl,e2,nd e3 (na a (by simp)),Bb r⟩
   | bx t=>
    obtain⟨d,c,e1,e2,r⟩:=h3;subst e1;obtain⟨ns,h,q⟩:=r.cs;exact⟨d,c,rfl,e2,nd r.dc (na d (by simp)),⟨ns,nd h (na c (by simp)),q⟩,r.t0,r.t1⟩
   | dk ks ds=>obtain⟨a,vs,e1,e2,e3,e4,r⟩:=h3;subst e1;exact⟨a,vs,rfl,e2,nd e3 (na a (by simp)),e4,Bb r⟩
   | ob R=>obtain⟨v,e,r⟩:=h3;exact⟨v,e,R.st r (fun a ha u q=>nd q (na a ha)) fun a o q n=>⟨nd q fun z=>n (.inr z),fun z=>n (.inl z)⟩⟩
   | fn f=>exact h3
 . obtain⟨o,e,n⟩:=E.al a (.inl ha);exact⟨o,nd e (fun z=>nM (z▸ha)),n⟩
 . have k:=E.w W hW;obtain⟨w1,w2⟩:=nW W hW;refine⟨fun b o e n=>nd (k.bs b o e n) (fun z=>by subst z;rw[w1] at e;cases e),fun b n y=>?_,k.fr,fun a h=>(k.m0 a h).elim id fun z=>by subst z;exact absurd h w2,fun a h=>k.m1 a (.inl h),k.bx,k.fz⟩;have hb:b≠D:=fun z=>n (by rw[z];exact w1);have y':(if b=D then none else H b)=none:=y;rw[if_neg hb] at y';exact k.ex b n y'
theorem vG(qT: ∀v σ H Q,lG g v σ H Q->gh v σ H Q)(hn:nt<=ib)(hj:js[ib - nt]?=some jb): ∀σ H Q,lO (Dv nt js ib jb ti g te) σ H Q->wq nt js (lI ti) gh AG (lE te) σ H Q:=fun σ H Q ck=>(by obtain⟨W,M,α,δ,Qd,E,q,k⟩:=ck;exact(by
 refine⟨W,M,α,δ,_,E,q,fun ao δ1 H1 J dS E1 c1 yl D hD=>?_⟩;obtain⟨t0,P,Pz,p0,step,fin⟩:=dS;have nM: ¬M D:=E1.fresh hD;have nα:D∉α.flatten:=fun z=>nM (E1.mu D z);have nW: ∀W'∈W,W'.H0 D=none/\ ¬W'.M0 D:=fun W' hW=>⟨by
  cases e:W'.H0 D with
  | none=>rfl
  | some o=>exact absurd hD ((E1.w W' hW).ex D (by rw[e];intro z;cases z)),fun z=>nM ((E1.w W' hW).m0 D z)⟩
 obtain⟨d,c,h1,h2,B0⟩:=E1.box Pz;have Pu:=(Zw.mp Pz).1;have e0:δ1.set jb (.bx t0)=δ1:=by
  refine ad2 fun i=>?_;by_cases hi:jb=i
  . subst hi;rw[ZN Pu,Pz]
  . rw[ZE hi]
 have GN: ∀t,cin nt js (δ1.set jb (.bx t))=cin nt js δ1:=fun t=>by
  unfold cin;congr 1
  refine Z0 fun j _=>?_;by_cases UB:jb=j
  . subst UB;rw[List.getD,List.getD,ZN Pu,Pz];rfl
  . rw[List.getD,List.getD,ZE UB]
 refine⟨fun i m acc H2=>m=ao.length - i/\i<=ao.length/\ ∃ds t,H2 D=some (.lst acc)/\aA (fun b=>M b\/b=D) H2 acc ds/\P i ds t/\az W (fun b=>M b\/b=D) α H2 σ (δ1.set jb (.bx t))/\ ∀b o,H1 b=some o->b≠d->b≠c->H2 b=some o,⟨ao.length,by simp,Z7 _,[],t0,ag,.nil,p0,?_,fun b o e _ _=>by rw[ah (ai e hD)];exact e⟩,?_⟩
 . rw[e0];exact E1.grow hD (fun xs z=>by cases z)
 rintro i m acc H2 ⟨rfl,hi,ds,t,uw,gB,pi,E2,Tf⟩
 have kf:Kf M H1 H2:=fun b o e n=>Tf b o e (fun z=>n (by rw[z];exact E1.mu d (aM h2 (by simp)))) (fun z=>n (by rw[z];exact E1.mu c (aM h2 (by simp))));by_cases dr:i < ao.length
 . have Sa: ∀b,H1 b≠none-> ¬M b-> ¬(fun b=>M b\/b=D) b:=fun b n z y=>y.elim z fun w=>n (by rw[w];exact hD);obtain⟨go,se⟩:=yl.go i H2 (fun b=>M b\/b=D) kf E2.al Sa dr;have Nx:acc.length < sizeLine:=by
    rw[gB.1];exact(step i _ ds t (Zs dr) pi).1
   refine .inr ⟨go,Nx,fun bI H'=> ∃ds t,H' D=some (.lst bI)/\aA (fun b=>M b\/b=D) H' bI ds/\P (i+1) ds t/\az W (fun b=>M b\/b=D) α H' σ (δ1.set jb (.bx t))/\ ∀b o,H1 b=some o->b≠d->b≠c->H' b=some o,fun bI H' z=>⟨ao.length - (i+1),by omega,rfl,dr,z⟩,fun x H3 y=>?_⟩;obtain⟨s3,x',Cu,rx⟩:=se x H3 y;have uv:(δ1.set jb (.bx t))[jb]?=some (.bx t):=by rw[ZN Pu]
   have E3:=E2.same s3;obtain⟨d3,c3,g1,g2,B3,gσ,Ei⟩:=DF (nt:=nt) (js:=js) E3 uv hn hj;rw[h1] at g1;cases g1;rw[h2] at g2;cases g2;rw[GN] at Ei;refine qT _ _ _ _ ⟨[],_,_,_,x',_,Ei,rx,(step i x' ds t Cu pi).2,fun α4 δ4 σ4 j8 E4 hα=>?_⟩;obtain⟨b4,q4⟩:=j8;have aY:(List.replicate (nt+js.length) ([]:List Addr)).flatten= []:=by simp
   have JZ: ∀x∈α4.flatten,x=d\/x=c:=fun x hx=>by
    rcases bq (hα x hx) with z | z
    . rw[aY] at z;exact absurd z Zz
    . simpa using z
   have Ry:σ4[ib]?=some (some (.ref d)):=by
    obtain⟨d',c',f1,f2,B4⟩:=E4.box b4;rcases JZ d' (aM f2 (by simp)) with z | z
    . rw[<-z];exact f1
    . obtain⟨ns,hc,_⟩:=B3.cs;have:=B4.dc;rw[z,hc] at this;cases this
   unfold AG;dsimp only;refine cu ⟨[],_,α4,δ4,_,E4,q4,fun r δ5 H5 v iP E5 c5 r5=>?_⟩;obtain⟨t',b5,p5⟩:=iP;have LN: ∀b o,H3 b=some o->b≠d->b≠c->H5 b=some o:=fun b o e n1 n2=>c5 b o e fun z=>(JZ b z).elim n1 n2;have Wb:D≠d:=fun z=>nα (z▸aM h2 (by simp));have Wc:D≠c:=fun z=>nα (z▸aM h2 (by simp));have Xg:H5 D=some (.lst acc):=LN D _ (s3 _ _ uw) Wb Wc;obtain⟨Eo,Zp,Bo⟩:=GS E3 uv h1 h2 E5 b5 Ry JZ LN;have e5:(δ1.set jb (.bx t)).set jb (.bx t')=δ1.set jb (.bx t'):=List.set_set ..;rw[e5] at Eo;have Mz:aA (fun b=>M b\/b=D) H5 acc ds:=(gB.same s3).mono fun a o e n=>⟨LN a o e (fun z=>n (.inl (by rw[z];exact E1.mu d (aM h2 (by simp))))) (fun z=>n (.inl (by rw[z];exact E1.mu c (aM h2 (by simp))))),n⟩
   have up: ∀{zs:List V} {es:List Dt},aA (fun b=>M b\/b=D) H5 zs es->aA (fun b=>M b\/b=D) (upd H5 D (.lst (acc++ [v]))) zs es:=fun r=>r.mono fun a o e n=>⟨by rw[ah (fun z=>n (.inr z))];exact e,n⟩
   refine⟨Xg,ds++ [r],t',ag,up (Mz.append (.one r5)),p5,?_,fun b o e n1 n2=>by rw[ah (ai e hD)];exact LN _ _ (s3 _ _ (Tf b o e n1 n2)) n1 n2⟩;refine⟨Eo.ls,Eo.la,fun i2 s2 jf=>?_,Eo.nd,Eo.mu,fun a ha=>?_,fun W' hW=>?_⟩
   . obtain⟨o,as,f1,f2,f3⟩:=Eo.sl i2 s2 jf;have na: ∀a∈as,a≠D:=fun a ha z=>nα (z▸aM f2 ha);have nd: ∀{a:Addr} {o:HO},H5 a=some o->a≠D->(upd H5 D (.lst (acc++ [v]))) a=some o:=fun e n=>by rw[ah n];exact e
     refine⟨o,as,f1,f2,?_⟩;cases s2 with
     | no=>exact f3
     | im d=>exact⟨f3.1,let ⟨w,e,r⟩:=f3.2;⟨w,e,r.mono fun a o e n=>⟨by rw[ah (fun z=>n (.inr z))];exact e,n⟩⟩⟩
     | ow ds=>obtain⟨a,xs,e1,e2,e3,r⟩:=f3;subst e1;exact⟨a,xs,rfl,e2,nd e3 (na a (by simp)),up r⟩
     | bx t=>
      obtain⟨d,c,e1,e2,r⟩:=f3;subst e1;obtain⟨ns,h,q⟩:=r.cs;exact⟨d,c,rfl,e2,nd r.dc (na d (by simp)),⟨ns,nd h (na c (by simp)),q⟩,r.t0,r.t1⟩
     | dk ks ds=>obtain⟨a,vs,e1,e2,e3,e4,r⟩:=f3;subst e1;exact⟨a,vs,rfl,e2,nd e3 (na a (by simp)),e4,up r⟩
     | ob R=>obtain⟨w,e,r⟩:=f3;exact⟨w,e,R.st r (fun a ha u q=>nd q (na a ha)) fun a o q n=>⟨by rw[ah (fun z=>n (.inr z))];exact q,n⟩⟩
     | fn f=>exact f3
   . by_cases hb:a=D
     . subst hb;exact⟨_,ag,fun xs z=>by cases z⟩
     . rw[ah hb];exact Eo.al a ha
   . have kk:=Eo.w W' hW;obtain⟨w1,w2⟩:=nW W' hW;refine⟨fun b o e n=>?_,fun b n y=>?_,kk.fr,kk.m0,kk.m1,kk.bx,kk.fz⟩
     . have hb:b≠D:=fun z=>by subst z;rw[w1] at e;cases e
       rw[ah hb];exact kk.bs b o e n
     . by_cases hb:b=D
       . subst hb;rw[ag] at y;cases y
       . rw[ah hb] at y;exact kk.ex b n y
 . have e:i=ao.length:=by omega
   subst e;refine .inl ⟨yl.stop H2 kf,?_⟩;have eH:upd (fun b=>if b=D then none else H2 b) D (.lst acc)=H2:=by
    funext b
    by_cases hb:b=D
    . subst hb;rw[ag,uw]
    . rw[ah hb,if_neg hb]
   rw[<-eH];have ch:cW α H1 (fun b=>if b=D then none else H2 b):=fun b o e n=>by
    show(if b=D then none else H2 b)=some o;rw[if_neg (ai e hD)];exact Tf b o e (fun z=>n (by rw[z];exact aM h2 (by simp))) (fun z=>n (by rw[z];exact aM h2 (by simp)))
   refine k _ _ _ _ _ (fin ds t pi) (E2.Iu nM nα nW) (c1.tr ch) (gB.mono fun a o e n=>⟨?_,fun z=>n (.inl z)⟩) (by show(if D=D then none else H2 D)=none;rw[if_pos rfl]);show(if a=D then none else H2 a)=some o;rw[if_neg (fun z=>n (.inr z))];exact e))
end
section
variable{X:Cx}{N:List Str}{nt:Nat}{js:List Nat}{scope:Scope}{elt tg iter e f a b:Expr}{ifs:List Expr}{pos:Pos}{ti:oT}{g:rZ}{tc:mj}{te t tv tb:bt}{ib jb:Nat}{gh:TG}
theorem Fd(i ib jb:Nat){pos' py:Pos}(hN:X.N.Nodup)(S:je X N nt js scope)(hc:X.calm=true)(hi:Iv X tg iter ti)(hg: ∀s H cl C ex,PG (dF X N scope s H cl C ex) tg gh)(eE:jd nt gh)(qT: ∀v σ H Q,lG g v σ H Q->gh v σ H Q)(he: ∀s H cl C ex,Ev (dF X N scope s H cl C ex) elt te)(hn:nt<=ib:=by decide)(hj:js[ib - nt]?=some jb:=by rfl)(NF:X.N[i]?=some y:=by rfl)(hy:Loc X.env.scope y:=by first | exact Or.inl rfl | exact Or.inr rfl)(Nn:swapsWith (.ListComp elt [⟨tg,iter,[],0⟩] scope pos) (some (.Name y py)) pos'.line X.env=pure true:=by rfl)(hs: ∀x,foldedSetIterable iter X.env x=pure x:=by intro _;rfl)(F9:X.fn y=true\/X.env.scope.names.lookup y=some .local:=by first | exact .inl rfl | exact .inr rfl | assumption):
  Ex X (.Assign [.Name y py] (.ListComp elt [⟨tg,iter,[],0⟩] scope pos) pos') (xO i (Dv nt js ib jb ti g te)):=PS.imp (wN hN NF hy S hc hi hg eE (fun _ _ _ _ _=>Bv) he Nn hs F9) fun D σ H h=>by
 obtain⟨Ws,M,α,δ,Δ,E,L,q⟩:=h;exact vG qT hn hj _ _ _ ⟨Ws,M,α,δ,_,E,q,fun ds δ' H1 xs a ck E1 c1 r1 h1=>(by obtain⟨ok,q1⟩:=ck;exact(L.nx _ _ _ _ _ (E1.mG (s:= .ow ds) h1 (fun xs z=>by cases z) ok rfl ⟨a,xs,rfl,rfl,ag,r1.grow h1⟩) q1))⟩
def S7(t:bt)(g:rZ):j6:=fun Δ δ=>t δ fun d δ'=>g d δ' Δ.nx
theorem A5(he:Ev X e t)(hg:Gv X tg g)(hs:swapsWithSole [tg] e pos.line X.env=pure false:=by rfl)(hw:swappedStores [tg] e X.env=pure none:=by rfl)(h1:(assignEach [tg] X.env).map (·.2)= [assign tg X.env]:=by rfl):Ex X (.Assign [tg] e pos) (S7 t g):=
 PS.imp (qB he hg hs hw h1) fun D σ H dS=>(by obtain⟨Ws,M,α,δ,Δ,E,L,q⟩:=dS;exact(⟨Ws,M,α,δ,_,E,q,fun d δ' H' v q1 E1 c1 r1=>⟨Ws,M,α,δ',d,_,E1,r1,q1,fun α' δ2 σ2 q2 E2 _=>L.nx _ _ _ _ _ E2 q2⟩⟩))
end
def sP(K:PySem.W.Frag):Sp:=fun vs H Q _=> ∃(a:Addr) (ns:List Int),vs= [.ref a]/\cY K H a (ns.map V.int)/\ns.length<=63/\ ∀H',Q (.bl true) H'
def sM:DB:=fun t ds Q=> ∃m,ds= [.int m]/\t < 1000000/\0 < m/\m < 2^64/\ ∀r,0<=r->r < m->Q (.int r) (t+1)
theorem ER(h:zN sM vs H Q E):AO vs H Q E:=by
 obtain⟨M,d,c,t,ws,ds,Qd,rfl,al,md,mc,B,r,⟨m,rfl,t1,m0,m1,q⟩,k⟩:=h;obtain⟨x,ys,rfl,r1,r2⟩:=r.aQ;cases r2.eQ;cases r1.ofInt;exact⟨d,c,t,m,rfl,B,t1,m0,m1,fun r H' r0 r1 B' kp=>k _ _ _ _ (q r r0 r1) kp B' (.int r)⟩
section
variable{P:Program}{w:World}{K:PySem.W.Frag}{mg:Str->Option Value}{base:Heap}
theorem Na {st : Stmt} {k : Nat} (F : fA K "law" "law" st f fd) (sc : aH N ["_law_script"] (ab st)) (hN : 2 <= N.length) (fH : ∀ (bJ : Value) (A : Around) (outer : List Env) (s : Shared) (H : Hp) (E : XK), bD k (A.deeper (envOfC "law" (ab st) s.heap.objs.size f bJ)) ->
   ∃s1 rest T,cz st=s1::rest/\PS (lC di P w K mg base N "law" (ab st) f bJ A outer s H E).BW s1 (AM (AL (qe K) [] E0 (kG (gy 0) p7)) (cB 1))/\zL (lC di P w K mg base N "law" (ab st) f bJ A outer s H E).BW rest T/\
    T {nx:=fun _=>False,rt:=fun d _=>d= .bl true} (.no:: .bx 0::List.replicate (N.length - 2) .no)):aX P w K mg base di (k+1) f fd ["_law_script"] (sP K):=by
 refine F.ok sc (fun vs H Q E h=>?_) (fun bJ A outer s H vs Q E hr h=>?_)
 . obtain⟨a,ns,rfl,_⟩:=h;rfl
 . obtain⟨a,ns,rfl,hS,hlen,q⟩:=h;obtain⟨s1,rest,T,e,h1,h2,hT⟩:=fH bJ A outer s H E hr;rw[e];refine⟨_,bM h1 h2,?_⟩;have es:L2.start N [V.ref a]=some (.ref a)::none::List.replicate (N.length - 2) none:=by
    unfold L2.start;rw[show N.length - [V.ref a].length=(N.length - 2)+1 by show N.length - 1=_;omega,List.replicate_succ];rfl
   rw[es];refine⟨_,rfl,a,ns,rfl,hS,hlen,fun d c H1 B1 Yk=>?_⟩;have aY:(([]:List Addr):: [d,c]::List.replicate (N.length - 2) []).flatten= [d,c]:=by simp
   refine⟨[],fun b=>b=d\/b=c,[]:: [d,c]::List.replicate (N.length - 2) [],.no:: .bx 0::List.replicate (N.length - 2) .no,_,?_,?_,hT⟩
   . refine⟨by simp,by simp,fun i s' hi=>?_,by rw[aY];simp [B1.ne],fun b hb=>by rw[aY] at hb;simpa using hb,fun b hb=>?_,fun W hW=>absurd hW Zz⟩
     . match i with
       | 0=>cases hi;exact⟨_,_,rfl,rfl,rfl⟩
       | 1=>cases hi;exact⟨_,_,rfl,rfl,d,c,rfl,rfl,B1⟩
       | i+2=>
        have og:(List.replicate (N.length - 2) Sl.no)[i]?=some s':=by simpa using hi
        rw[ZX] at og;split at og
        . rename_i dr;cases og;refine⟨none,[],?_,?_,rfl⟩
          . show(List.replicate (N.length - 2) (none:Option V))[i]?=_;rw[ZX,if_pos dr]
          . show(List.replicate (N.length - 2) ([]:List Addr))[i]?=_;rw[ZX,if_pos dr]
        . cases og
     . rcases hb with rfl | rfl
       . exact⟨_,B1.dc,fun xs z=>by cases z⟩
       . obtain⟨ns,h,_⟩:=B1.cs;exact⟨_,h,fun xs z=>by cases z⟩
   . exact⟨fun _ _ _ _ _ _ z=>z.elim,fun M' α' H' σ' δ' v dd E' r' z=>by subst z;rw[r'.BS];exact q H',fun _ _ _ _ _ _ z=>z.elim,fun _ _ _ _ _ _ z=>z.elim⟩
end
section
variable{X:Cx}{a b c e:Expr}{es:List Expr}{ta tb tc t:bt}{tA:iG}{pos p:Pos}
theorem ints_rep: ∀{xs:List V} {ns:List Int},aA M H xs (ns.map .int)->xs=ns.map V.int
 | [],[],_=>rfl
 | [],_::_,h=>by have:=h.1;simp at this
 | _::_,[],h=>by have:=h.1;simp at this
 | x::xs,n::ns,h=>by
  rw[ZT] at h;obtain⟨y,ys,e,r1,r2⟩:=h.aQ;cases e;rw[r1.ofInt,ints_rep r2,ZT]
theorem zF:bootBuiltins "all"=some (.builtin "all"):=by decide+kernel
theorem fR(h:aA M H xs [d]): ∃x,xs= [x]/\Rep M H x d:=by
 obtain⟨x,ys,rfl,r1,r2⟩:=h.aQ;cases r2.eQ;exact⟨x,rfl,r1⟩
theorem pP: ∀{xs:List V} {ns:List Bool},aA M H xs (ns.map .bl)->xs=ns.map V.bl
 | [],[],_=>rfl
 | [],_::_,h=>by have:=h.1;simp at this
 | _::_,[],h=>by have:=h.1;simp at this
 | x::xs,n::ns,h=>by
  rw[ZT] at h;obtain⟨y,ys,e,r1,r2⟩:=h.aQ;cases e;rw[r1.BS,pP r2,ZT]
inductive O8(ds:List Dt)(Q:Dt->Prop):Prop
 | mk (bs:List Bool) (h1:ds= [.lst (bs.map .bl)]) (h2:Q (.bl (bs.all id)))
theorem Dh(hc:X.calm=true)(hm:X.mg "all"=none)(ha:Av X [e] tA)(hg:Gl X "all":=by rfl)(he:starEach [e] X.env=(false,eval e X.env)::starEach [] X.env:=by rfl)(dq:(backTo pos (starEach [] X.env)).any (·.1)=false:=by rfl):
  Ev X (.Call (.Name "all" p) [e] [] pos) (Dz O8 tA):=jT (DI hc) (fun M H xs ds Qd Q al r j7 k=>(by obtain⟨bs,e,q⟩:=j7;exact(by
 subst e;obtain⟨x,rfl,r1⟩:=fR r;obtain⟨a,zs,rfl,ha,n,rr⟩:=r1.cO;rw[pP rr] at ha;exact⟨a,bs,rfl,cY.of ha,k H _ _ q (fun _ _ z=>z) (.bl _)⟩))) hg hm zF ha (by decide) (by decide) he dq
end
section
variable{X:Cx}{a b c e:Expr}{es:List Expr}{ta tb tc t:bt}{tA:iG}{pos p apos dM:Pos}
inductive KZ(i:Nat)(Q:Dt->List Sl->Prop)(es:List Dt)(δ':List Sl):Prop
 | mk (ds zs:_) (h1:es= [.lst zs]) (h2:δ'[i]?=some (.ow ds)) (h3:ds.length+zs.length<=sizeLine) (h4:Q .aD (δ'.set i (.ow (ds++zs))))
def S5(i:Nat)(t:iG):bt:=fun δ Q=>(∃xC,δ[i]?=some (.ow xC))/\t δ fun es δ'=>KZ i Q es δ'
theorem nH(i:Nat)(ho:PE X (.Name x xp) (gy i))(ha:Av X [e] tA)(jG:attributeBase (.Name x xp) "extend" X.env (eval (.Name x xp) X.env)=eval (.Name x xp) X.env:=by rfl)(Cs:((backTo dM (starEach [e] X.env)).all (fun x=>!x.1) && (backToKw dM (keywordEach [] X.env)).all (fun x=>x.1.isSome) && decide ([e].length+([]:List Keyword).length+(if ([]:List Keyword).isEmpty then 0 else 1) < 30))=true:=by rfl)(jF:(apos.endLine==dM.line)=true:=by rfl)(hs:starEach [e] X.env=(false,eval e X.env)::starEach [] X.env:=by rfl)(nv:(backTo dM (starEach [] X.env)).any (·.1)=false:=by rfl):
  Ev X (.Call (.Attribute (.Name x xp) "extend" apos) [e] [] dM) (S5 i tA):=
 PE.imp (He am9 PySem.F.slot_list_extend PySem.F.type_list_extend yU ho ha jG Cs jF hs nv) fun σ H Q iP=>(by obtain⟨W,M,α,δ,Qd,E,⟨⟨xC,h0⟩,q⟩,k⟩:=iP;exact(by
  obtain⟨a,QC,h1,h2,h3,r3⟩:=E.ow h0;refine⟨_,h1,.inl ⟨rfl,_,cY.of h3⟩,W,M,α,δ,_,E,q,fun es δ' H' vs j7 E1 c1 r1=>?_⟩;obtain⟨ds,zs,e,hd,l,q1⟩:=j7;subst e;obtain⟨y,rfl,ry⟩:=fR r1;obtain⟨b,ws,rfl,hb,nb,rb⟩:=ry.cO;obtain⟨a',xs,pC,vi,Gh,zO⟩:=E1.ow hd;rw[h1] at pC;cases pC;refine⟨a,b,xs,ws,rfl,rfl,Gh,hb,by rw[zO.1,rb.1];exact l,?_⟩;obtain⟨E2,c2⟩:=lN E1 hd h1 vi (zO.append rb);exact k _ _ _ _ q1 E2 (c1.tr c2) .aD))
inductive Dq(Q:List Dt->List Sl->Prop)(es:List Dt)(ks:List Dt)(δ2:List Sl):Prop
 | mk (ds:_) (h1:es= [.tup ds]) (h2:ks= [.int 1]) (h3:Q (bg 1 ds) δ2)
def Dr(tA tk:iG):oT:=fun δ Q=>tA δ fun es δ1=>tk δ1 fun ks δ2=>Dq Q es ks δ2
theorem F5{x1}(hm:X.mg "enumerate"=none)(ha:Av X [e] tA)(hk:PK X kN tk)(WR: ∀σ H Q,lA VO σ H Q->tk σ H Q)(hg:Gl X "enumerate":=by rfl)(xr:(backToKw pos (keywordEach kN X.env)).filterMap (·.1)=(["start"]:List Str):=by rfl)(k1:backTo pos (starEach [e] X.env)=(false,eval e X.env)::backTo pos (starEach [] X.env):=by rfl)(k2:(backTo pos (starEach [e] X.env)).any (·.1)=false:=by rfl)(k3:(backToKw pos (keywordEach kN X.env)).all (·.1.isSome)=true:=by rfl)(k4:(backToKw pos (keywordEach kN X.env)).any (·.1.isNone)=false:=by rfl):Iv X (.Tuple es x1 tp) (.Call (.Name "enumerate" p) [e] kN pos) (Dr tA VO):=
 PI.imp (Bs hg hm ha hk xr k1 k2 k3 k4) fun σ H R oi=>(by obtain⟨W,M,α,δ,Qd,E,q,k⟩:=oi;exact(⟨W,M,α,δ,_,E,q,fun es δ1 H1 vs q1 E1 c1 r1=>WR _ _ _ ⟨W,M,α,δ1,_,E1,q1,fun ks δ2 H2 zs pX E2 c2 r2=>(by obtain⟨ds,e1,e2,q2⟩:=pX;exact(by
  subst e1;subst e2;obtain⟨x,rfl,rx⟩:=fR (r1.chg E1 c2);obtain⟨y,rfl,ry⟩:=fR r2;cases ry.ofInt;obtain⟨a,xs,rfl,ha,n,rr⟩:=rx.bN;exact⟨a,rfl,rfl,⟨xs,dG.of ha⟩,k _ _ _ _ q2 E2 (c1.tr c2) (v9 ha n rr)⟩))⟩⟩))
theorem zy: ∀σ H Q,lA (Ds t KN) σ H Q->kG (lE t) p7 σ H Q:=fun σ H Q oh=>(by obtain⟨W,M,α,δ,Qd,E,q,k⟩:=oh;exact(⟨W,M,α,δ,_,E,q,fun d δ1 H1 x q1 E1 c1 r1=>k _ _ _ _ q1 E1 c1 (.one r1)⟩))
theorem qP{x1}(hm:X.mg "enumerate"=none)(ha:Av X [e] tA)(hf:Ev X f t)(hg:Gl X "enumerate":=by rfl)(xr:(backToKw pos (keywordEach [⟨nm,f,qM⟩] X.env)).filterMap (·.1)=(["start"]:List Str):=by rfl)(k1:backTo pos (starEach [e] X.env)=(false,eval e X.env)::backTo pos (starEach [] X.env):=by rfl)(k2:(backTo pos (starEach [e] X.env)).any (·.1)=false:=by rfl)(k3:(backToKw pos (keywordEach [⟨nm,f,qM⟩] X.env)).all (·.1.isSome)=true:=by rfl)(k4:(backToKw pos (keywordEach [⟨nm,f,qM⟩] X.env)).any (·.1.isNone)=false:=by rfl):Iv X (.Tuple es x1 tp) (.Call (.Name "enumerate" p) [e] [⟨nm,f,qM⟩] pos) (Dr tA (Ds t KN)):=
 F5 hm ha (wR hf Bp) zy hg xr k1 k2 k3 k4
end
section
variable{X:Cx}{a b c:Expr}{pos:Pos}{th:EE}
inductive Dp(i:Nat)(j:Nat)(Δ:dE)(ss:List Sl)(δ':List Sl):Prop
 | mk (s1 s2:_) (h1:ss= [s1,s2]) (h2:bY δ' i) (h3:bY (δ'.set i s1) j) (h4:Δ.nx ((δ'.set i s1).set j s2))
def KL(i j:Nat)(th:EE):j6:=fun Δ δ=>th δ fun ss δ'=>Dp i j Δ ss δ'
theorem Fc(i j:Nat){kt k2 Bj}(hc:X.calm=true)(hN:X.N.Nodup)(ha:Hv X [a,b] th)(hi:X.N[i]?=some x:=by rfl)(hj:X.N[j]?=some y:=by rfl)(hx:Loc X.env.scope x:=by first | exact Or.inl rfl | exact Or.inr rfl)(hy:Loc X.env.scope y:=by first | exact Or.inl rfl | exact Or.inr rfl)(WZ:X.fn x=true\/X.env.scope.names.lookup x=some .local:=by first | exact .inl rfl | exact .inr rfl | assumption)(WY:X.fn y=true\/X.env.scope.names.lookup y=some .local:=by first | exact .inl rfl | exact .inr rfl | assumption)(hw:swappedStores [.Tuple [.Name x px, .Name y py] kt pt] (.Tuple [a,b] k2 Bj) X.env=pure none:=by rfl)(hs:swapsWithSole [.Tuple [.Name x px, .Name y py] kt pt] (.Tuple [a,b] k2 Bj) pos.line X.env=pure false:=by rfl):
  Ex X (.Assign [.Tuple [.Name x px,.Name y py] kt pt] (.Tuple [a,b] k2 Bj) pos) (KL i j th):=
 PS.imp (qB (Bx ha) (cM hc (aI (aE (i:=i) hN hi hx WZ) (aI (aE (i:=j) hN hj hy WY) bR))) hs hw) fun D σ H ck=>(by obtain⟨Ws,M,α,δ,Δ,E,L,q⟩:=ck;exact(
 ⟨Ws,M,α,δ,_,E,q,fun ss δ' H' vs M' bs dS E1 c1 m1 m2 hh hb=>(by obtain⟨s1,s2,e,FL,FK,q1⟩:=dS;exact(by
  subst e;cases hh with
  | cons h1 h2 h3 h4 h5=>
   cases h5 with
   | cons g1 g2 g3 g4 g5=>
    cases g5;rename_i v1 XG v2 yc;refine⟨by show 2<=sizeLine;decide,fun p hp=>?_⟩;have sm:aC H' (upd H' p (.tup [v1,v2])):=aC.new hp;have Ea:=(E1.same sm).wB (i:=i) ⟨h1.1,h1.2.same sm⟩ h2 h3 FL;have Eb:=Ea.wB (i:=j) ⟨g1.1,g1.2.same sm⟩ (fun a ha=>(g2 a ha).set fun z=>h4 a z (by simpa using ha)) g3 FK;exact⟨p,_,rfl,dG.of ag,rfl,_,_,rfl,_,_,rfl,rfl,L.nx _ _ _ _ _ Eb q1⟩))⟩))
end
end LD
namespace L2
open PySem PySem.Spec PyProof.Rows
theorem oH(it acc:Value)(env:Env):
  compTurn (.ListComp elt [⟨tg,iter,ifs,0⟩,⟨gN,iter2,cX,0⟩] scope pos) 0 it acc env=(do
   standAt iter.pos
   match<-pyNext it with
   | none=>pure (.done .next)
   | some v=>
    letOwnedTupleGo tg it v
    assign tg env v
    let mut ok:=true
    for c in ifs do
     if ok then ok<-isTrue c env (eval c env)
    if ok then
     let x<-eval iter2 env
     standAt iter2.pos
     let x<-foldedSetIterable iter2 env x
     let _<-runOwn (.compStart (.ListComp elt [⟨tg,iter,ifs,0⟩,⟨gN,iter2,cX,0⟩] scope pos) 1 (<-holding [x] (pyIter x)) acc env) env
    again (.compLoop (.ListComp elt [⟨tg,iter,ifs,0⟩,⟨gN,iter2,cX,0⟩] scope pos) 0 it acc env)):=by rfl
theorem oG(it acc:Value)(env:Env):
  compTurn (.ListComp elt [⟨tg,iter,ifs,0⟩,⟨gN,iter2,cX,0⟩] scope pos) 1 it acc env=(do
   standAt iter2.pos
   match<-pyNext it with
   | none=>pure (.done .next)
   | some v=>
    letOwnedTupleGo gN it v
    assign gN env v
    let mut ok:=true
    for c in cX do
     if ok then ok<-isTrue c env (eval c env)
    if ok then
     (do let _<-call (.builtin "list.append") [acc,<-eval elt env])
    again (.compLoop (.ListComp elt [⟨tg,iter,ifs,0⟩,⟨gN,iter2,cX,0⟩] scope pos) 1 it acc env)):=by rfl
theorem oK (I : Nat -> Shared -> Prop) (turn : ∀ n s, I n s -> wpAny (model prog w) A (pyNext it) (fun r s₁ => match r with
   | none=>R (.ok .next) s₁
   | some v=>wpAny (model prog w) A (letOwnedTupleGo gN it v) (fun _ s₀=>wpAny (model prog w) A (assign gN env v) (fun _ s₂=>
     wpAny (model prog w) A (forIn cX true fun c r=>if r=true then do let ok<-isTrue c env (eval c env);pure (ForInStep.yield ok) else pure (ForInStep.yield r)) (fun ok s₃=>
      if ok=true then wpAny (model prog w) A (eval elt env) (fun x s₄=>
       wpAny (model prog w) A (call (.builtin "list.append") [acc,x]) (fun _ s₅=> ∃m,m < n/\I m s₅) (fun _ _=>False) s₄) (fun _ _=>False) s₃
      else∃m,m < n/\I m s₃) (fun _ _=>False) s₂) (fun _ _=>False) s₀) (fun _ _=>False) s₁) (fun _ _=>False) s) (n:Nat) (h:I n s):codeAny (model prog w) A (.compLoop (.ListComp elt [⟨tg,iter,ifs,0⟩,⟨gN,iter2,cX,0⟩] scope pos) 1 it acc env) R s:=by
 refine codeAny_loop rfl I (fun n s hI=>?_) n h;show wpAny _ A ((compTurn (.ListComp elt [⟨tg,iter,ifs,0⟩,⟨gN,iter2,cX,0⟩] scope pos) 1 it acc env).onRaise (fun x=>do noteFrame x env;theTreesLotGoes x)) _ _ s;refine wpAny_noted ?_;rw[oG];refine Zt (ae2 (Zt (Z6 (turn n s hI) (fun r s₁ h₁=>?_) fun _ _ h'=>h'.elim)));cases r with
 | none=>exact ZD h₁
 | some v=>
  refine Zt (Z6 h₁ (fun _ s₀ h₀=>?_) fun _ _ h'=>h'.elim);refine Zt (Z6 h₀ (fun _ s₂ h₂=>Zt (Z6 h₂ (fun ok s₃ h₃=>?_) fun _ _ h'=>h'.elim)) fun _ _ h'=>h'.elim);cases ok with
  | false=>exact ZD ⟨rfl,h₃⟩
  | true=>
   exact Zt (Zt (Z6 h₃ (fun x s₄ h₄=>Zt (Z6 h₄ (fun _ s₅ h₅=>ZD (ZD ⟨rfl,h₅⟩)) fun _ _ h'=>h'.elim)) fun _ _ h'=>h'.elim))
theorem nI (h0 : codeAny (model prog w) A (.compLoop (.ListComp elt [⟨tg, iter, ifs, 0⟩, ⟨gN, iter2, cX, 0⟩] scope pos) 1 it acc env) R s) (h : wpAny (model prog w) A (pyIter it) (fun Ru s' => codeAny (model prog w) A (.compLoop (.ListComp elt [⟨tg, iter, ifs, 0⟩, ⟨gN, iter2, cX, 0⟩] scope pos) 1 Ru acc env) R s')
   (notedBy (model prog w) A env fun x s'=>R (.error x) s') s):
  codeAny (model prog w) A (.compStart (.ListComp elt [⟨tg,iter,ifs,0⟩,⟨gN,iter2,cX,0⟩] scope pos) 1 it acc env) R s:=by
 refine codeAny_of_tree ?_;show wpAny _ _ ((compStart (.ListComp elt [⟨tg,iter,ifs,0⟩,⟨gN,iter2,cX,0⟩] scope pos) 1 it acc env).onRaise (fun x=>do noteFrame x env;standAt theWindowsPlace)) _ _ s;refine wpAny_notedAt ?_;unfold compStart;show wpAny _ _ (ask >>=_) _ _ s;refine Zt (wpAny_askSetting (wpAny_ite ?_));split
 . first
     | exact Zt (ZD (ZD (And.intro rfl h0)))
     | exact ZD (And.intro rfl h0)
 . first
     | exact Zt (af6 (Zt (ae2 (Zt (Z6 h (fun Ru s' h'=>ZD (And.intro rfl h')) fun _ _ x=>x)))))
     | (refine Zt (af6 ?_);show wpAny _ _ (standAt iter2.pos >>=_) _ _ s;exact Zt (ae2 (Zt (Z6 h (fun Ru s' h'=>ZD (And.intro rfl h')) fun _ _ x=>x))))
theorem oM (I : Nat -> Shared -> Prop) (hs : ∀ x, foldedSetIterable iter2 env x = pure x) (turn : ∀ n s, I n s -> wpAny (model prog w) A (pyNext it) (fun r s₁ => match r with
   | none=>R (.ok .next) s₁
   | some v=>wpAny (model prog w) A (letOwnedTupleGo tg it v) (fun _ s₀=>wpAny (model prog w) A (assign tg env v) (fun _ s₂=>
     wpAny (model prog w) A (forIn ifs true fun c r=>if r=true then do let ok<-isTrue c env (eval c env);pure (ForInStep.yield ok) else pure (ForInStep.yield r)) (fun ok s₃=>
      if ok=true then wpAny (model prog w) A (eval iter2 env) (fun x s₄=>wpAny (model prog w) A (pyIter x) (fun Rt s₅=>
       codeAny (model prog w) A (.compStart (.ListComp elt [⟨tg,iter,ifs,0⟩,⟨gN,iter2,cX,0⟩] scope pos) 1 Rt acc env) (fun r s₆=>r= .ok .next/\ ∃m,m < n/\I m s₆) s₅) (fun _ _=>False) s₄) (fun _ _=>False) s₃
      else∃m,m < n/\I m s₃) (fun _ _=>False) s₂) (fun _ _=>False) s₀) (fun _ _=>False) s₁) (fun _ _=>False) s) (n:Nat) (h:I n s):codeAny (model prog w) A (.compLoop (.ListComp elt [⟨tg,iter,ifs,0⟩,⟨gN,iter2,cX,0⟩] scope pos) 0 it acc env) R s:=by
 refine codeAny_loop rfl I (fun n s hI=>?_) n h;show wpAny _ A ((compTurn (.ListComp elt [⟨tg,iter,ifs,0⟩,⟨gN,iter2,cX,0⟩] scope pos) 0 it acc env).onRaise (fun x=>do noteFrame x env;theTreesLotGoes x)) _ _ s;refine wpAny_noted ?_;rw[oH];refine Zt (ae2 (Zt (Z6 (turn n s hI) (fun r s₁ h₁=>?_) fun _ _ h'=>h'.elim)));cases r with
 | none=>exact ZD h₁
 | some v=>
  refine Zt (Z6 h₁ (fun _ s₀ h₀=>?_) fun _ _ h'=>h'.elim);refine Zt (Z6 h₀ (fun _ s₂ h₂=>Zt (Z6 h₂ (fun ok s₃ h₃=>?_) fun _ _ h'=>h'.elim)) fun _ _ h'=>h'.elim);cases ok with
  | false=>exact ZD ⟨rfl,h₃⟩
  | true=>
   refine Zt (Z6 h₃ (fun x s₄ h₄=>Zt (ae2 ?_)) fun _ _ h'=>h'.elim);rw[hs];refine Zt (ZD ?_);refine Zt (ad4 (Z6 h₄ (fun Rt s₅ h₅=>?_) fun _ _ h'=>h'.elim));refine Zt (wpAny_runOwn (al7 h₅ fun r s₆ h₆=>?_));obtain⟨rfl,h₆⟩:=h₆;exact ZD ⟨rfl,h₆⟩
def D8(n1 nt:Nat)(g:TG):Prop:= ∀v σ H (Q:St->Hp->Prop),g v σ H Q->g v σ H fun σ' H'=>Q σ' H'/\σ'.length=σ.length/\ ∀k,k < n1\/nt<=k->σ'[k]?=σ[k]?
theorem zi(h1:n1<=i:=by decide)(h:i < nt:=by decide):D8 n1 nt (cB i):=fun v σ H Q q=>⟨q,by simp,fun k hk=>by rw[ZE (by omega)]⟩
def Vo(g2:TG)(oZ:TT)(te:TE)(σ:St)(B:List V->Hp->Prop)(D:Addr)(J2:It)(K7:List V)(H0:Hp):Prop:=
 ∃W2:Nat->Nat->List V->Hp->Prop,(∃m,W2 0 m K7 H0)/\ ∀i m acc H,W2 i m acc H->
  (J2.stop i H/\B acc H)\/(J2.go i H/\acc.length < sizeLine/\ ∃B2:List V->Hp->Prop,(∀bI H',B2 bI H'-> ∃m',m' < m/\W2 (i+1) m' bI H')/\ ∀x H',J2.se i H x H'->g2 x σ H' fun σ2 H2=>
   oZ σ2 H2 fun b H3=>if b=true then te σ2 H3 fun v H4=>H4 D=some (.lst acc)/\B2 (acc++ [v]) (upd H4 D (.lst (acc++ [v]))) else B2 acc H3)
def Eg(nt:Nat)(js:List Nat)(g:TG)(tc:TT)(EI:TI)(g2:TG)(oZ:TT)(te:TE)(σ:St)(Q:VK)(D:Addr)(J:It)(H0:Hp):Prop:=
 ∃W:Nat->Nat->List V->Hp->Prop,(∃m,W 0 m [] H0)/\ ∀i m acc H,W i m acc H->
  (J.stop i H/\Q (.ref D) H)\/(J.go i H/\ ∃B:List V->Hp->Prop,(∀bI H',B bI H'-> ∃m',m' < m/\W (i+1) m' bI H')/\ ∀x H',J.se i H x H'->g x (gA nt js σ) H' fun σ2 H2=>
   tc σ2 H2 fun b H3=>if b=true then EI σ2 H3 fun J2 H4=>Vo g2 oZ te σ2 B D J2 acc H4 else B acc H3)
def AK(nt:Nat)(js:List Nat)(wi:TI)(g:TG)(tc:TT)(EI:TI)(g2:TG)(oZ:TT)(te:TE):TE:=fun σ H Q=>wi σ H fun J H1=> ∀D,H1 D=none->Eg nt js g tc EI g2 oZ te σ Q D J (upd H1 D (.lst []))
theorem ve{Y:Cx}(hc:Y.calm=true)(rY:Y.xe=fun _ _=>False)(Kb:PG Y gN g2)(vf:D8 n1 nt g2)(zf:PF Y cX oZ)(he:PE Y elt te)(I:Inv Y pins σ H s)(T:Turn Y.prog Y.w Y.K gN J fp it tn)(st:tn 0 s.heap)(ff: ∀b∈fp,cV Y pins H b)(aD: ∀k,n1<=k->k < nt-> ∀v,σ[k]?≠some (some v))(R:Vo g2 oZ te σ B D J K7 H)(fin: ∀acc H' s',Inv Y pins σ H' s'->B acc H'->RR (.ok .next) s'):
  codeAny (model Y.prog Y.w) Y.A (.compLoop (.ListComp elt [⟨tg,iter,ifs,0⟩,⟨gN,iter2,cX,0⟩] scope pos) 1 (.ref it) (.ref D) Y.env) RR s:=by
 obtain⟨W,⟨m0,w0⟩,turn⟩:=R;have uJ: ∀{H':Hp},(∀b∈fp,H' b=none)-> ∀b∈fp,cV Y pins H' b:=fun hn b hb=>⟨hn b hb,(ff b hb).2⟩
 refine oK (fun n s'=> ∃i acc H',Inv Y pins σ H' s'/\tn i s'.heap/\(∀b∈fp,H' b=none)/\W i n acc H') ?_ m0 ⟨0,K7,H,I,st,fun b hb=>(ff b hb).1,w0⟩;rintro n s5 ⟨i,acc,H5,I5,uL,zm,w5⟩
 rcases turn i n acc H5 w5 with ⟨stop,q⟩ | ⟨go,hlen,B2,hB,step⟩
 . refine aU (T.done Y rfl rfl rfl hc i pins s5 _ H5 (fun _ _=>False) I5 (uJ zm) uL stop) fun r s6 ⟨hr,I6⟩=>?_;subst hr;exact fin _ _ _ I6 q
 . refine aU (T.item Y rfl rfl rfl hc i pins s5 _ H5 (fun _ _=>False) I5 (uJ zm) uL go) fun r s6 ⟨u,hr,h6⟩=>?_;subst hr;refine aU h6 fun _ s7 j8=>?_;obtain⟨x,H7,I7,r7,y7,uK,Kn⟩:=j8;have Lh:=I7.pinned (uJ Kn) (T.obj _ _ uK);have g7:=vf _ _ _ _ (step x H7 y7);have h7:=Kb _ s7 _ H7 x u _ Lh r7 g7;rw[rY] at h7;refine aU h7 fun _ s8 iP=>?_;obtain⟨σ8,H8,I8,q8,l8,k8⟩:=iP;have h8:=zf _ s8 σ8 H8 _ I8 q8;rw[rY] at h8;refine aU h8 fun b s9 kZ=>?_;obtain⟨H9,I9,q9⟩:=kZ;have again: ∀{kY:Hp} {n6:Shared} {bI:List V},Inv Y (pins++iW fp s7.heap) σ8 kY n6->B2 bI kY-> ∃m,m < n/\ ∃i acc H',Inv Y pins σ H' n6/\tn i n6.heap/\(∀b∈fp,H' b=none)/\W i m acc H':=fun{kY n6 bI} uq OF=>by
    obtain⟨m',J7,Iq⟩:=hB bI kY OF;refine⟨m',J7,i+1,bI,kY,uq.eh.weak l8.symm fun k v e=>?_,T.keep _ _ _ uK fun b hb o e=>(uq.pin (b,o) (ZS _ (ZS _ (bA hb e)))).1,fun b hb=>?_,Iq⟩
    . by_cases hk:n1<=k/\k < nt
      . exact absurd e (aD k hk.1 hk.2 v)
      . rw[k8 k (by omega)];exact e
    . obtain⟨o,e,d⟩:=T.obj _ _ uK b hb;exact(uq.pin (b,o) (ZS _ (ZS _ (bA hb e)))).2.1
   cases b with
   | false=>
    rw[if_neg ZJ] at q9 ⊢;exact again I9 q9
   | true=>
    rw[if_pos rfl] at q9 ⊢;have h9:=he _ s9 σ8 H9 _ I9 q9;rw[rY] at h9;refine aU h9 fun y n6 j7=>?_;obtain⟨v,kY,uq,MF,Kj,Ji⟩:=j7;have Gi:=(km (X:=Y) _ n6 σ8 kY (.ref D) [v] (.ref D) [y] (fun _ H'=>B2 (acc++ [v]) H') uq rfl (.cons MF .nil) ⟨_,acc,v,rfl,rfl,Kj,hlen,Ji⟩)
    rw[rY] at Gi;refine aU Gi fun _ Mu oi=>?_;obtain⟨_,ED,G1,_,QY⟩:=oi;exact again G1 QY
theorem vE{elt tg iter gN iter2:Expr}{ifs cX:List Expr}{pos:Pos}{g g2:TG}{EI:TI}{tc oZ:TT}{te:TE}{n1:Nat}{cl:List (Str × Addr)}{Q:VK}{E:Value->Shared->Prop}{RR:Value->Addr->Result->Shared->Prop}
  (S:je X N nt js scope) (hc:X.calm=true)
  (hg: ∀s H cl C ex,PG (dF X N scope s H cl C ex) tg g) (eE:jd n1 g) (NP:n1<=nt) (LG: ∀s H cl C ex,PI (dF X N scope s H cl C ex) gN iter2 EI) (jf: ∀s H cl C ex x,foldedSetIterable iter2 (dF X N scope s H cl C ex).env x=pure x) (Kb: ∀s H cl C ex,PG (dF X N scope s H cl C ex) gN g2) (vf:D8 n1 nt g2) (zf: ∀s H cl C ex,PF (dF X N scope s H cl C ex) cX oZ) (hf: ∀s H cl C ex,PF (dF X N scope s H cl C ex) ifs tc) (he: ∀s H cl C ex,PE (dF X N scope s H cl C ex) elt te)
  {it:Addr} {fp:List Addr} {tn:Nat->Heap->Prop} {J:It} (I:Inv X pins σ H s) (T:Turn X.prog X.w X.K tg J fp it tn) (st:tn 0 s.heap) (ff: ∀b∈fp,cV X pins H b)
  (c1: ∀x c,(x,c)∈cl->X.env.cells.lookup x=some c) (c2: ∀x,(x,NameKind.free)∈scope.names-> ∃c,(x,c)∈cl)
  (R: ∀D,H D=none->Eg nt js g tc EI g2 oZ te σ Q D J (upd H D (.lst [])))
  (fin: ∀(D C:Addr) (s':Shared) (H':Hp),Inv X pins σ H' s'->cV X pins H' C->(∃m,s'.heap.Ns C m)->Q (.ref D) H'->RR (.ref D) C (.ok .next) s'):
  wpAny (model X.prog X.w) X.A (newList []) (fun acc s₃=>wpAny (model X.prog X.w) X.A (newFunctionEnv scope X.env.globals cl [] X.env.qual none .none (some X.env)) (fun ja s₄=>
   codeAny (model X.prog X.w) X.A (.compStart (.ListComp elt [⟨tg,iter,ifs,0⟩,⟨gN,iter2,cX,0⟩] scope pos) 0 (.ref it) acc {ja with scope:=relabel scope X.env}) (RR acc ja.locals) s₄) E s₃) E s:=by
 refine ad1 (fe fun ja tZ CQ=>?_);rw[tZ,CQ];dsimp only;have hD:H s.heap.objs.size=none:=I.aT.fresh (Zx _);obtain⟨W,⟨m0,w0⟩,turn⟩:=R s.heap.objs.size hD;have kD: ∀b u,s.heap.get? b=some u->(s.heap.push {cls:= .type "list",data:= .seq ([]:List Value).toArray}).get? b=some u:=fun b u e=>Zv _ e;have I3:Inv X pins σ (upd H s.heap.objs.size (.lst [])) {s with heap:=s.heap.push {cls:= .type "list",data:= .seq ([]:List Value).toArray},toks:=s.toks}:=
  I.laid kD (Zx _) ⟨Z7 _,[],_,.nil,ZP _ rfl⟩
 have fs: ∀b∈fp,b < s.heap.objs.size:=fun b hb=>by
  obtain⟨o,e,_⟩:=T.obj _ _ st b hb;exact ZW e
 have HD: ∀b∈fp,cV X pins (upd H s.heap.objs.size (.lst [])) b:=fun b hb=>⟨by rw[ah (aa8 (fs b hb))];exact(ff b hb).1,(ff b hb).2⟩
 have I4:=kC (tk:=s.toks) S hc I3 HD (fun b hb=>by show b < (s.heap.push _).objs.size;rw[ac4];exact ah2 (fs b hb)) c1 c2;dsimp only at I4;have NQ:(s.heap.push {cls:= .type "list",data:= .seq ([]:List Value).toArray}).objs.size=s.heap.objs.size+1:=ac4 ..;generalize hY:dF X N scope {s with heap:=s.heap.push {cls:= .type "list",data:= .seq ([]:List Value).toArray},toks:=s.toks} (upd H s.heap.objs.size (.lst [])) cl (s.heap.push {cls:= .type "list",data:= .seq ([]:List Value).toArray}).objs.size fp=Y at I4;have UG:=hY;have nS:Y.env=nL scope cl (s.heap.push {cls:= .type "list",data:= .seq ([]:List Value).toArray}).objs.size X.env:=by rw[<-hY];rfl
 have cf:Y.prog=X.prog:=by rw[<-hY];rfl
 have Yw:Y.w=X.w:=by rw[<-hY];rfl
 have YA:Y.A=X.A:=by rw[<-hY];rfl
 have YK:Y.K=X.K:=by rw[<-hY];rfl
 have jZ:Y.calm=true:=by rw[<-hY];exact hc
 have rY:Y.xe=fun _ _=>False:=by rw[<-hY];rfl
 have um:Y.ex=fp:=by rw[<-hY];rfl
 have OI:Y.pn= []:=by rw[<-hY];rfl
 have OJ:Y.fs=kR X.stack:=by rw[<-hY];rfl
 have HW:Y.s₀={s with heap:=s.heap.push {cls:= .type "list",data:= .seq ([]:List Value).toArray},toks:=s.toks}:=by rw[<-hY];rfl
 have OK:Y.H₀=upd H s.heap.objs.size (.lst []):=by rw[<-hY];rfl
 have NG:PG Y tg g:=by rw[<-hY];exact hg _ _ _ _ _
 have R1:PF Y ifs tc:=by rw[<-hY];exact hf _ _ _ _ _
 have R0:PF Y cX oZ:=by rw[<-hY];exact zf _ _ _ _ _
 have RY:PG Y gN g2:=by rw[<-hY];exact Kb _ _ _ _ _
 have RX:PI Y gN iter2 EI:=by rw[<-hY];exact LG _ _ _ _ _
 have RK: ∀x,foldedSetIterable iter2 Y.env x=pure x:=by rw[<-hY];exact jf _ _ _ _ _
 have R6:PE Y elt te:=by rw[<-hY];exact he _ _ _ _ _
 have hm:(Y.N.length:Nat)=(gA nt js σ).length:=I4.len.symm;rw[<-nS,<-cf,<-Yw,<-YA];have CD: ∀{H':Hp} (_: ∀b∈fp,H' b=none),∀b∈fp,cV Y [] H' b:=fun{H'} hn b hb=>by
  refine⟨hn b hb,(I4.ok.HE b (by rw[um];exact hb)).1,I4.ok.vw b (by rw[um];exact hb),.inl (by rw[um];exact hb),(I4.ok.HE b (by rw[um];exact hb)).2,fun p hp=>?_⟩;rw[OI] at hp;simp at hp
 have back: ∀{H':Hp} {s':Shared} {σ':St},Inv Y [] σ' H' s'->Inv X pins σ H' s'/\cV X pins H' Y.env.locals/\ ∃m,s'.heap.Ns Y.env.locals m:=fun{H' s' σ'} J=>by
  have hb:Un (kR X.stack) fp (upd H s.heap.objs.size (.lst [])) H' (s.heap.push {cls:= .type "list",data:= .seq ([]:List Value).toArray}) s'.heap:=by
   have:=J.base;rw[OJ,um,OK,HW] at this;exact this
  have loc:Y.env.locals=s.heap.objs.size+1:=by rw[nS];exact NQ
  have os:s'.os=s.os:=by
   have:=J.os;rw[HW] at this;exact this
  have aT:gI X.prog X.w H' s'.heap:=by
   have:=J.aT;rw[cf,Yw] at this;exact this
  refine⟨I3.xW (ch:=fp) os hb aT J.bare fun b hb=>⟨(ff b hb).2.2.2.1,(ff b hb).2.1,(ff b hb).2.2.2.2.1,(ff b hb).2.2.2.2.2⟩,?_,let ⟨m,q,_⟩:=J.loc;⟨m,q⟩⟩;exact I.gE (by rw[loc];exact al3 _) J.free
 have loop:codeAny (model Y.prog Y.w) Y.A (.compLoop (.ListComp elt [⟨tg,iter,ifs,0⟩,⟨gN,iter2,cX,0⟩] scope pos) 0 (.ref it) (.ref s.heap.objs.size) Y.env) (RR (.ref s.heap.objs.size) Y.env.locals)
   {s with heap:=pushCells ((s.heap.push {cls:= .type "list",data:= .seq ([]:List Value).toArray}).push {cls:= .type "dict",data:= .dict #[]}) scope.names}:=by
  refine oM (fun n s'=> ∃i acc H',Inv Y [] (gA nt js σ) H' s'/\tn i s'.heap/\(∀b∈fp,H' b=none)/\W i n acc H') RK ?_ m0
   ⟨0,[],_,I4,T.keep _ _ _ st fun b _ o e=>ai5 _ _ b o (Zv _ (kD b o e)),fun b hb=>(HD b hb).1,w0⟩
  rintro n s5 ⟨i,acc,H5,I5,uL,zm,w5⟩
  rcases turn i n acc H5 w5 with ⟨stop,q⟩ | ⟨go,B,hB,step⟩
  . have hd:=T.done Y cf Yw YK jZ i [] s5 _ H5 (fun _ _=>False) I5 (CD zm) uL stop;rw[<-cf,<-Yw] at hd;refine aU hd fun r s6 pX=>?_;obtain⟨hr,I6⟩:=pX;subst hr;obtain⟨b1,b2,b3⟩:=back I6;exact fin _ _ _ _ b1 b2 b3 q
  . have hd:=T.item Y cf Yw YK jZ i [] s5 _ H5 (fun _ _=>False) I5 (CD zm) uL go;rw[<-cf,<-Yw] at hd;refine aU hd fun r s6 oh=>?_;obtain⟨u,hr,h6⟩:=oh;subst hr;refine aU h6 fun _ s7 iQ=>?_;obtain⟨x,H7,I7,r7,y7,uK,Kn⟩:=iQ;have Lh:=I7.pinned (CD Kn) (T.obj _ _ uK);have g7:=eE _ _ _ _ (step x H7 y7);have h7:=NG _ s7 _ H7 x u _ Lh r7 g7;rw[rY] at h7;refine aU h7 fun _ s8 mm=>?_;obtain⟨σ8,H8,I8,q8,l8,k8⟩:=mm;have h8:=R1 _ s8 σ8 H8 _ I8 q8;rw[rY] at h8;refine aU h8 fun b s9 pY=>?_;obtain⟨H9,I9,q9⟩:=pY;have again: ∀{kY:Hp} {n6:Shared} {bI:List V},Inv Y ([]++iW fp s7.heap) σ8 kY n6->B bI kY-> ∃m,m < n/\ ∃i acc H',Inv Y [] (gA nt js σ) H' n6/\tn i n6.heap/\(∀b∈fp,H' b=none)/\W i m acc H':=fun{kY n6 bI} uq OF=>by
     obtain⟨m',J7,Iq⟩:=hB bI kY OF;refine⟨m',J7,i+1,bI,kY,uq.eh.weak l8.symm fun k v e=>?_,T.keep _ _ _ uK fun b hb o e=>(uq.pin (b,o) (ZS _ (ZS _ (bA hb e)))).1,fun b hb=>?_,Iq⟩
     . by_cases hk:nt<=k
       . rw[k8 k (ZZ NP hk)];exact e
       . exfalso;unfold gA at e;rw[Z3 (by simp;omega),ZX,if_pos (by omega)] at e;cases e
     . obtain⟨o,e,d⟩:=T.obj _ _ uK b hb;exact(uq.pin (b,o) (ZS _ (ZS _ (bA hb e)))).2.1
    cases b with
    | false=>
     rw[if_neg ZJ] at q9 ⊢;exact again I9 q9
    | true=>
     rw[if_pos rfl] at q9 ⊢;have h9:=RX _ s9 σ8 H9 _ I9 q9;rw[rY] at h9;refine aU h9 fun y n6 Gi=>aU Gi fun Rt Mu Xm=>?_;obtain⟨i2,YI,Yi,J2,ED,rfl,G1,T2,Mp,Sx,R2⟩:=Xm;have Q8: ∀k,n1<=k->k < nt-> ∀v,σ8[k]?≠some (some v):=fun k a1 a2 v e=>by
      rw[k8 k a1] at e;unfold gA at e;rw[Z3 (by simp;omega),ZX,if_pos (by omega)] at e;cases e
     have lp:=ve (elt:=elt) (tg:=tg) (iter:=iter) (ifs:=ifs) (iter2:=iter2) (scope:=scope) (pos:=pos) jZ rY RY vf R0 R6 G1 T2 Mp Sx Q8 R2 (RR:=fun r s₆=>r= .ok .next/\ ∃m,m < n/\ ∃i acc H',Inv Y [] (gA nt js σ) H' s₆/\tn i s₆.heap/\(∀b∈fp,H' b=none)/\W i m acc H') fun bI H' s' I' b'=>⟨rfl,again I' b'⟩
     exact nI lp (T2.self _ 0 _ _ _ Mp lp)
 have tY:(s.heap.push {cls:= .type "list",data:= .seq ([]:List Value).toArray}).objs.size=Y.env.locals:=by rw[nS];rfl
 rw[tY];exact codeAny_compStart_list (rest:= [⟨gN,iter2,cX,0⟩]) loop (by rw[cf,Yw,YA] at*;exact T.self _ 0 _ _ _ (T.keep _ _ _ st fun b _ o e=>ai5 _ _ b o (Zv _ (kD b o e))) loop)
theorem BD(S:je X N nt js scope)(hc:X.calm=true)(hi:PI X tg iter wi)(hg: ∀s H cl C ex,PG (dF X N scope s H cl C ex) tg g)(eE:jd n1 g)(NP:n1<=nt)(LG: ∀s H cl C ex,PI (dF X N scope s H cl C ex) gN iter2 EI)(jf: ∀s H cl C ex x,foldedSetIterable iter2 (dF X N scope s H cl C ex).env x=pure x)(Kb: ∀s H cl C ex,PG (dF X N scope s H cl C ex) gN g2)(vf:D8 n1 nt g2)(zf: ∀s H cl C ex,PF (dF X N scope s H cl C ex) cX oZ)(hf: ∀s H cl C ex,PF (dF X N scope s H cl C ex) ifs tc)(he: ∀s H cl C ex,PE (dF X N scope s H cl C ex) elt te)(hs: ∀x,foldedSetIterable iter X.env x=pure x:=by intro _;rfl):PE X (.ListComp elt [⟨tg,iter,ifs,0⟩,⟨gN,iter2,cX,0⟩] scope pos) (AK nt js wi g tc EI g2 oZ te):=by
 intro pins s σ H Q I h;obtain⟨cl,Es,c1,c2⟩:=eK (scope:=scope) (env:=X.env) fun x hx e=>I.ok.has x.1 (S.EZ x hx e);rw[eval_ListComp];refine ak7 (use:=none) rfl hs Es S.kind S.names (aU (hi pins s σ H _ I h) fun v s1 h1=>aU h1 fun Lu s2 h2=>?_);obtain⟨it,fp,tn,J,H2,rfl,I2,T,gG,f2,R⟩:=h2;refine vE (RR:=fun acc C=>compPost (model X.prog X.w) X.A X.xe none (EP X pins σ Q) acc C) S hc hg eE NP LG jf Kb vf zf hf he I2 T gG f2 c1 c2 R fun D C s' H' I' fo j9 q=>?_;obtain⟨m,hn⟩:=j9;refine⟨m,hn,fun h' sb=>⟨.ref D,H',?_,rfl,q⟩⟩;obtain⟨f0,f1,_,f3,f4,f5⟩:=fo;exact I'.turned (t':=s'.toks) (fun b o hb e=>(sb.2 b hb).trans e) f0 f1 f3 f4 f5
end L2
namespace LD
open PySem PySem.Spec L2 LB PyProof.Rows
theorem az.Mn(E:az [] M α H σ δ)(fl:α.flatten= [])(keep: ∀b u,H b=some u-> ¬M b->H' b=some u)(mo:j3 M H'):az [] M α H' σ δ:=by
 refine⟨E.ls,E.la,fun i s h=>?_,E.nd,E.mu,mo,fun W hW=>absurd hW Zz⟩;obtain⟨o,as,h1,h2,h3⟩:=E.sl i s h;have hn:as= []:=ad8.mpr fun a ha=>by
  have:=aM h2 ha;rw[fl] at this;exact Zz this
 subst hn;refine⟨o,[],h1,h2,h3.keep (fun b u e n=>⟨keep b u e n,n⟩) (fun a ha=>absurd ha Zz) ?_⟩;cases s with
 | bx t=>
  obtain⟨d,c,e,_⟩:=h3;first | cases e | (obtain⟨_,e,_⟩:=h3;cases e)
 | _=>rfl
section
variable{X:Cx}{N:List Str}{nt n1:Nat}{js:List Nat}{scope:Scope}{elt tg iter gN iter2:Expr}{ifs cX:List Expr}{pos:Pos}{ti Lq:oT}{g g2:rZ}{tc oZ:mj}{te:bt}
def Dw(nt:Nat)(js:List Nat)(ti:oT)(g:rZ)(tc:mj)(Lq:oT)(g2:rZ)(oZ:mj)(te:bt):z0:=fun δ Q=>ti δ fun ao δ1=> ∃F:Dt->List Dt,(ao.flatMap F).length < sizeLine/\
 (∀d∈ao,g d (cin nt js δ1) fun δ2=>tc δ2 fun b δ3=>if b=true then Lq δ3 fun cq δ4=> ∃(p:Dt->Bool) (f:Dt->Dt),(∀e∈cq,g2 e δ4 fun δ5=>oZ δ5 fun b δ6=>b=p e/\(b=true->te δ6 fun r _=>r=f e))/\F d=(cq.filter p).map f else F d= [])/\Q (ao.flatMap F) δ1
theorem vH(qT: ∀v σ H Q,lG g v σ H Q->gh v σ H Q)(J9: ∀v σ H Q,lG g2 v σ H Q->PB v σ H Q): ∀σ H Q,lO (Dw nt js ti g tc Lq g2 oZ te) σ H Q->AK nt js (lI ti) gh (lT tc) (lI Lq) PB (lT oZ) (lE te) σ H Q:=fun σ H Q ck=>(by obtain⟨W,M,α,δ,Qd,E,q,k⟩:=ck;exact(by
 refine⟨W,M,α,δ,_,E,q,fun ao δ1 H1 J dS E1 c1 yl D hD=>?_⟩;obtain⟨F,hsz,step,q1⟩:=dS;have s0:aC H1 (upd H1 D (.lst [])):=aC.new hD;refine⟨fun i m acc H2=>m=ao.length - i/\i<=ao.length/\H2 D=some (.lst acc)/\aA (fun b=>M b\/b=D) H2 acc ((ao.take i).flatMap F)/\aC H1 H2/\j3 (fun b=>M b\/b=D) H2,⟨ao.length,by simp,Z7 _,ag,.nil,s0,fun a ha=>?_⟩,?_⟩
 . rcases ha with ha | ha
   . obtain⟨o,e,n⟩:=E1.al a ha;exact⟨o,s0 _ _ e,n⟩
   . subst ha;exact⟨_,ag,fun xs z=>by cases z⟩
 rintro i m acc H2 ⟨rfl,hi,uw,gB,s2,Hl⟩
 have kf:Kf M H1 H2:=fun b o e _=>s2 _ _ e;by_cases dr:i < ao.length
 . have hb: ∀b,H1 b≠none-> ¬M b-> ¬(fun b=>M b\/b=D) b:=fun b n z y=>y.elim z fun w=>n (by rw[w];exact hD);obtain⟨go,se⟩:=yl.go i H2 (fun b=>M b\/b=D) kf Hl hb dr;refine .inr ⟨go,fun bI H'=>H' D=some (.lst bI)/\aA (fun b=>M b\/b=D) H' bI ((ao.take (i+1)).flatMap F)/\aC H1 H'/\j3 (fun b=>M b\/b=D) H',fun bI H' j8=>(by obtain⟨z1,z2,z3,z4⟩:=j8;exact(⟨ao.length - (i+1),by grind,rfl,dr,z1,z2,z3,z4⟩)),fun x H3 y=>?_⟩;obtain⟨s3,d,hd,rx⟩:=se x H3 y;have E2:az [] (fun b=>M b\/b=D) (List.replicate (nt+js.length) []) H2 (gA nt js σ) (cin nt js δ1):=by
    have su:aC (upd H1 D (.lst acc)) H2:=fun b o e=>by
     by_cases hb:b=D
     . subst hb;rw[ag] at e;cases e;exact uw
     . rw[ah hb] at e;exact s2 _ _ e
    have Ea:az [] (fun b=>M b\/b=D) α H2 σ δ1:=⟨E1.ls,E1.la,fun i s h=>let ⟨o,as,h1,h2,h3⟩:=E1.sl i s h;⟨o,as,h1,h2,(h3.grow (u:= .lst acc) hD).same su⟩,E1.nd,fun a h=> .inl (E1.mu a h),Hl,fun W hW=>absurd hW Zz⟩
    exact jW Ea
   have E3:=E2.same s3;have aY:(List.replicate (nt+js.length) ([]:List Addr)).flatten= []:=by simp
   refine qT _ _ _ _ ⟨[],_,_,_,d,_,E3,rx,step d (ZY hd),fun α4 δ4 σ4 q4 E4 hα=>?_⟩;have Ey:α4.flatten= []:=ad8.mpr fun x hx=>by have:=hα x hx;rw[aY] at this;exact absurd this Zz
   refine⟨[],_,α4,δ4,_,E4,q4,fun b δ5 H5 q5 E5 c5=>?_⟩;have s5:aC H3 H5:=fun b o e=>c5 b o e (by rw[Ey];exact Zz);have Ff:aC H2 H5:=fun b o e=>s5 _ _ (s3 _ _ e);have tk:ao.take (i+1)=ao.take i++ [d]:=by rw[af3,hd];rfl
   have QH:(ao.take (i+1)).flatMap F=(ao.take i).flatMap F++F d:=by rw[tk,ai8];simp
   cases b with
   | false=>
    have q5:F d= []:=by simpa using q5
    refine bf ⟨Ff _ _ uw,?_,fun b o e=>Ff _ _ (s2 _ _ e),E5.al⟩;rw[QH,q5,ab2];exact gB.same Ff
   | true=>
    rw[if_pos rfl] at q5;refine cu ⟨[],_,α4,δ5,_,E5,q5,fun cq δ6 H6 J2 iP E6 c6 TZ=>?_⟩;obtain⟨p,f,Mo,hF⟩:=iP;have s6:aC H5 H6:=fun b o e=>c6 b o e (by rw[Ey];exact Zz);have A8:aC H2 H6:=fun b o e=>s6 _ _ (Ff _ _ e);have Wi:((ao.take i).flatMap F).length+(F d).length<=(ao.flatMap F).length:=by
     have e:ao.flatMap F=(ao.take (i+1)).flatMap F++(ao.drop (i+1)).flatMap F:=by rw[<-ai8,ae3]
     rw[e,QH,ZK,ZK];grind
    refine⟨fun i2 m2 DV H7=>m2=cq.length - i2/\i2<=cq.length/\H7 D=some (.lst DV)/\aA (fun b=>M b\/b=D) H7 DV ((ao.take i).flatMap F++((cq.take i2).filter p).map f)/\(∀b o,H6 b=some o->b≠D->H7 b=some o)/\j3 (fun b=>M b\/b=D) H7,⟨cq.length,by simp,Z7 _,A8 _ _ uw,by simpa using gB.same A8,fun b o e _=>e,E6.al⟩,?_⟩;rintro i2 m2 DV H7 ⟨rfl,LG,Sn,sX,k7,Rg⟩
    have Rn:Kf (fun b=>M b\/b=D) H6 H7:=fun b o e n=>k7 b o e fun z=>n (.inr z);by_cases Nu:i2 < cq.length
    . obtain⟨go2,QB⟩:=TZ.go i2 H7 (fun b=>M b\/b=D) Rn Rg (fun b _ n=>n) Nu;have hlen:DV.length < sizeLine:=by
       rw[sX.1,ZK,Zu];have:((cq.take i2).filter p).length<=(F d).length:=by
        rw[hF,Zu];have e:cq.filter p=(cq.take i2).filter p++(cq.drop i2).filter p:=by rw[<-al1,ae3]
        rw[e,ZK];grind
       grind
      refine .inr ⟨go2,hlen,fun bI H'=>H' D=some (.lst bI)/\aA (fun b=>M b\/b=D) H' bI ((ao.take i).flatMap F++((cq.take (i2+1)).filter p).map f)/\(∀b o,H6 b=some o->b≠D->H' b=some o)/\j3 (fun b=>M b\/b=D) H',fun bI H' kZ=>(by obtain⟨z1,z2,z3,z4⟩:=kZ;exact(⟨cq.length - (i2+1),by grind,rfl,Nu,z1,z2,z3,z4⟩)),fun x2 H8 y2=>?_⟩;obtain⟨s8,d2,hd2,V2⟩:=QB x2 H8 y2;have E7:=(E6.Mn Ey (fun b u e n=>Rn b u e n) Rg).same s8;refine J9 _ _ _ _ ⟨[],_,_,_,d2,_,E7,V2,Mo d2 (ZY hd2),fun α9 δ9 σ9 q9 E9 Rz=>?_⟩;have UN:α9.flatten= []:=ad8.mpr fun x hx=>by have:=Rz x hx;rw[Ey] at this;exact absurd this Zz
      refine⟨[],_,α9,δ9,_,E9,q9,fun b P4 kY j7 Vr XF=>?_⟩;obtain⟨hp,Ji⟩:=j7;have n6:aC H8 kY:=fun b o e=>XF b o e (by rw[UN];exact Zz);have Fe:aC H7 kY:=fun b o e=>n6 _ _ (s8 _ _ e);have AB:cq.take (i2+1)=cq.take i2++ [d2]:=by rw[af3,hd2];rfl
      cases b with
      | false=>
       refine bf ⟨Fe _ _ Sn,?_,fun b o e n=>Fe _ _ (k7 b o e n),Vr.al⟩;rw[AB,al1,ZV];simp [<-hp];exact sX.same Fe
      | true=>
       refine cu ⟨[],_,α9,P4,_,Vr,Ji rfl,fun r Vv ED v US X7 XE V3=>?_⟩;subst US;have Mu:aC kY ED:=fun b o e=>XE b o e (by rw[UN];exact Zz);have IX:aC H7 ED:=fun b o e=>Mu _ _ (Fe _ _ e);have up: ∀{zs:List V} {ds:List Dt},aA (fun b=>M b\/b=D) ED zs ds->aA (fun b=>M b\/b=D) (upd ED D (.lst (DV++ [v]))) zs ds:=fun r=>r.mono fun a o e n=>⟨by rw[ah (fun z=>n (.inr z))];exact e,n⟩
       refine⟨IX _ _ Sn,ag,?_,fun b o e n=>by rw[ah n];exact IX _ _ (k7 b o e n),fun a ha=>?_⟩
       . rw[AB,al1,ZV,<-aa1];have e1:List.filter p [d2]= [d2]:=by simp [<-hp]
         rw[e1];exact up ((sX.same IX).append (.one V3))
       . by_cases hb:a=D
         . subst hb;exact⟨_,ag,fun xs z=>by cases z⟩
         . rw[ah hb];exact X7.al a ha
    . have e:i2=cq.length:=by grind
      subst e;refine .inl ⟨TZ.stop H7 Rn,Sn,?_,fun b o e=>k7 b o (A8 _ _ (s2 _ _ e)) (ai e hD),Rg⟩;rw[ac9] at sX;rw[QH,hF];exact sX
 . have e:i=ao.length:=by grind
   subst e;refine .inl ⟨yl.stop H2 kf,?_⟩;rw[ac9] at gB;have eH:upd (fun b=>if b=D then none else H2 b) D (.lst acc)=H2:=by
    funext b
    by_cases hb:b=D
    . subst hb;rw[ag,uw]
    . rw[ah hb,if_neg hb]
   rw[<-eH];have sH:aC H1 (fun b=>if b=D then none else H2 b):=fun b o e=>by
    show(if b=D then none else H2 b)=some o;rw[if_neg (ai e hD)];exact s2 _ _ e
   refine k _ _ _ _ _ q1 (E1.same sH) (c1.tr (cW.of sH)) (gB.mono fun a o e n=>⟨?_,fun z=>n (.inl z)⟩) (by show(if D=D then none else H2 D)=none;rw[if_pos rfl]);show(if a=D then none else H2 a)=some o;rw[if_neg (fun z=>n (.inr z))];exact e))
theorem FT(n1:Nat)(S:je X N nt js scope)(hc:X.calm=true)(hi:Iv X tg iter ti)(hg: ∀s H cl C ex,PG (dF X N scope s H cl C ex) tg gh)(eE:jd n1 gh)(qT: ∀v σ H Q,lG g v σ H Q->gh v σ H Q)(hf: ∀s H cl C ex,PF (dF X N scope s H cl C ex) ifs (lT tc))(LG: ∀s H cl C ex,Iv (dF X N scope s H cl C ex) gN iter2 Lq)(Kb: ∀s H cl C ex,PG (dF X N scope s H cl C ex) gN PB)(vf:D8 n1 nt PB)(J9: ∀v σ H Q,lG g2 v σ H Q->PB v σ H Q)(zf: ∀s H cl C ex,PF (dF X N scope s H cl C ex) cX (lT oZ))(he: ∀s H cl C ex,Ev (dF X N scope s H cl C ex) elt te)(NP:n1<=nt:=by decide)(hs: ∀x,foldedSetIterable iter X.env x=pure x:=by intro _;rfl)(jf: ∀s H cl C ex x,foldedSetIterable iter2 (dF X N scope s H cl C ex).env x=pure x:=by intro _ _ _ _ _ _;rfl):
  Ov X (.ListComp elt [⟨tg,iter,ifs,0⟩,⟨gN,iter2,cX,0⟩] scope pos) (Dw nt js ti g tc Lq g2 oZ te):=PE.imp (BD S hc hi hg eE NP LG jf Kb vf zf hf he hs) (vH qT J9)
end
end LD
namespace fL
open PySem PySem.Spec L2 LB PyProof.Rows
theorem mz: ∀{l:List Nat},(∀i∈l,RelV (f i) (g i))->Vals (l.map f) (l.map g)
 | [],_=> .nil
 | i::l,h=> .cons (h i (by simp)) (mz fun j hj=>h j (by simp [hj]))
end fL
namespace HY
open PySem PySem.Spec L2 PyProof.Rows
theorem mZ:mroOf (.type "dict")=pure [.type "dict",.type "object"]:=by rw[mroOf_type];kernel_rfl
theorem k9:typeLookup (.type "dict") "__new__"=pure (some (.builtin "dict.__new__")):=by rw[typeLookup_type,builtinLookup_eq_fast];kernel_rfl
theorem uc:TypeCalled "dict" "dict.__new__" "dict.__init__":=
 ⟨by decide+kernel,by decide+kernel,⟨_,_,mZ⟩,madeBy_type mZ k9 (by decide+kernel),by decide+kernel,by rw[isSubtype_type];kernel_rfl,F.slot_dict_init⟩
theorem k6(a:Value):checkTypeCall "dict" ⟨[a],[]⟩=pure ():=by kernel_rfl
theorem mY(a:Value):checkBuiltinCall "dict.__new__" ⟨[.type "dict",a],[]⟩=pure ():=by kernel_rfl
theorem nE:entryFor table "dict.__new__"=some Builtin.«dict.__new__» :=entryFor_of_tree (by kernel_rfl)
theorem g0:plainId "dict.__new__"=true:=by decide+kernel
theorem oq:isSubtype (.type "dict") (.type "dict")=pure true:=by rw[isSubtype_type];kernel_rfl
theorem oN{s:Shared}(a:Value)(h:Q₁ (.ref s.heap.objs.size) {s with heap:=s.heap.push {cls:= .type "dict",data:= .dict #[]}}):
  codeAny (model prog w) A (.call (.builtin "dict.__new__") ⟨[.type "dict",a],[]⟩) (wants Q₁ E) s:=by
 refine codeAny_of_tree ?_;show wpAny _ A.in1 (do checkBuiltinCall "dict.__new__" ⟨[.type "dict",a],[]⟩;again (.builtin "dict.__new__" ⟨[.type "dict",a],[]⟩)) _ _ s;refine Zt (wpAny_of_eq (mY a) (ZD ⟨an4 g0 _,codeAny_builtin nE ?_⟩));rw[Around.under_plainId g0 _];have F6:=oq;have RT:=mZ;obtain⟨hp,g,d,tk,os⟩:=s;unfold Builtin.«dict.__new__»;repeat (any_goals (first | assumption | wp_step))
end HY
namespace LD
open PySem PySem.Spec L2 LB HY PyProof.Rows
section
variable{X:Cx}{a b e f:Expr}{ta tb t:bt}{tA:iG}{pos p p2:Pos}
noncomputable def Us(T:String):Dt->Option Bool
 | .aD=>some false
 | .bl _=>some (T=="bool" || T=="int")
 | .int _=>some (T=="int")
 | .str _=>some (T=="str")
 | .lst _=>some (T=="list")
 | .tup _=>some (T=="tuple")
 | _=>none
theorem F2{b:Bool}(r:Rep M H v d)(h:Us T d=some b):tP T H v=some b:=by
 cases r with
 | aD=>exact h
 | bl c=>exact h
 | int c=>exact h
 | str c=>exact h
 | lst e n l r=>simp only [tP,e];exact h
 | tup e n l r=>simp only [tP,e];exact h
 | xE e n k l r=>cases h
 | l7 e n k l r=>cases h
inductive KW(T:String)(Q:Dt->List Sl->Prop)(d:Dt)(δ':List Sl):Prop
 | mk (b:_) (h1:Us T d=some b) (h2:Q (.bl b) δ')
def SY(T:String)(t:bt):bt:=fun δ Q=>t δ fun d δ'=>KW T Q d δ'
theorem zE:bootBuiltins "isinstance"=some (.builtin "isinstance"):=by decide+kernel
theorem aW(hT:T="int"\/T="bool"\/T="tuple"\/T="list"\/T="str")(hm:X.mg "isinstance"=none)(ha:PA X [e,f] (kG (lE t) (kG (tC (.ty T)) p7)))(hg:Gl X "isinstance":=by rfl)(he:starEach [e,f] X.env=(false,eval e X.env)::starEach [f] X.env:=by rfl)(dq:(backTo pos (starEach [f] X.env)).any (·.1)=false:=by rfl):
  Ev X (.Call (.Name "isinstance" p) [e,f] [] pos) (SY T t):=PE.imp (g6 (JW hT) hg hm zE ha (by decide) (by decide) he dq) fun σ H Q kZ=>(by obtain⟨W,M,α,δ,Qd,E,q,k⟩:=kZ;exact(
 ⟨W,M,α,δ,_,E,q,fun d δ' H' v j7 E1 c1 r1=>(by obtain⟨b,hb,q1⟩:=j7;exact(⟨v,b,rfl,F2 r1 hb,k _ _ _ _ q1 E1 c1 (.bl _)⟩))⟩))
end
end LD
namespace LD
open PySem PySem.Spec L2 LB HY PyProof.Rows LW
section
variable{X:Cx}{a b e f:Expr}{ta tb t t':bt}{tA:iG}{pos p p2:Pos}
theorem aA.rev(h:aA M H xs ds):aA M H xs.reverse ds.reverse:=by
 induction xs generalizing ds with
 | nil=>
  cases ds with
  | nil=>exact .nil
  | cons=>have:=h.1;simp at this
 | cons x xs ih=>
  cases ds with
  | nil=>have:=h.1;simp at this
  | cons d ds=>
   obtain⟨y,ys,e,r1,r2⟩:=h.aQ;cases e;rw[an2,an2];exact(ih r2).append (.one r1)
def Vu:Dt->Prop
 | .aD=>True
 | .bl _=>True
 | .int i=>i.natAbs < 2^140
 | .str x=>x.length<=15/\ ∀c∈x.cps.toList,c < 16^8
 | _=>False
def Lv:Nat->Nat->Dt->Prop
 | 0,w,d=>Vu d/\200<=w
 | k+1,w,d=>Lv k w d\/ ∃es n w',(d= .lst es\/d= .tup es)/\es.length<=n/\3+n*(w'+2)<=w/\ ∀e∈es,Lv k w' e
theorem Lv.le{w:Nat}: ∀{j k:Nat},Lv j w d->j<=k->Lv k w d
 | j, 0, h, e => by have : j = 0 := by omega
                    subst this;exact h
 | j,k+1,h,e=>by
  by_cases z:j=k+1
  . subst z;exact h
  . exact .inl (Lv.le h (by omega))
noncomputable def t6:Nat->Dt->PyData
 | _,.aD=> .none
 | _,.bl b=> .bool b
 | _,.int i=> .int i
 | _,.str x=> .str x
 | m+1,.lst es=> .list (es.map (t6 m))
 | m+1,.tup es=> .tuple (es.map (t6 m))
 | _,_=> .none
theorem x9{M:Addr->Prop}{H:Hp}{v:V}{d:Dt}(r:Rep M H v d)(h:Vu d):v7 v:=by
 cases r <;> first | exact h | exact h.elim
theorem uI{α:Type}{f:α->Nat}{w:Nat}: ∀{l:List α},(∀x∈l,f x<=w)->(l.map fun x=>f x+2).sum<=l.length*(w+2)
 | [],_=>by simp
 | x::l,h=>by
  have:=uI (l:=l) fun y hy=>h y (ZF _ hy);have:=h x ZI;rw[ZT,List.sum_cons,ZG,Nat.succ_mul];omega
theorem aA.mem(h:aA M H xs ds)(hx:x∈xs): ∃d∈ds,Rep M H x d:=by
 obtain⟨i,hi,e⟩:=af5 hx;have og:i < ds.length:=by rw[<-h.1];exact hi
 exact⟨ds[i],ad9 _,h.2 i _ _ (by rw[Zs hi,e]) (Zs og)⟩
theorem Lv.td: ∀{k m w:Nat} {v:V} {d:Dt},Lv k w d->Rep M H v d->k<=m->Td (fun _=>True) H k v/\wt H m v<=w
 | 0,m,w,v,d,h,r,_=>⟨x9 r h.1,by rw[Al (x9 r h.1)];exact h.2⟩
 | k+1,0,_,_,_,_,_,hk=>absurd hk (by omega)
 | k+1,m+1,w,v,d,h,r,hk=>by
  rcases h with h | ⟨es,n,w1,h1,h2,h3,h4⟩
  . have:=Lv.td (m:=m+1) h r (by omega);exact⟨.inl this.1,this.2⟩
  . rcases h1 with rfl | rfl
    . obtain⟨a,xs,rfl,ha,_,rr⟩:=r.cO;have all: ∀x∈xs,Td (fun _=>True) H k x/\wt H m x<=w1:=fun x hx=>by
       obtain⟨e,he,re⟩:=rr.mem hx;exact Lv.td (h4 e he) re (by omega)
      refine⟨Td.lst ha trivial fun x hx=>(all x hx).1,?_⟩;rw[Ak ha];have s:=uI (f:=wt H m) (l:=xs) fun x hx=>(all x hx).2;have:xs.length*(w1+2)<=n*(w1+2):=Nat.mul_le_mul_right _ (by rw[rr.1];exact h2);omega
    . obtain⟨a,xs,rfl,ha,_,rr⟩:=r.bN;have all: ∀x∈xs,Td (fun _=>True) H k x/\wt H m x<=w1:=fun x hx=>by
       obtain⟨e,he,re⟩:=rr.mem hx;exact Lv.td (h4 e he) re (by omega)
      refine⟨Td.tup ha fun x hx=>(all x hx).1,?_⟩;rw[Aj ha];have s:=uI (f:=wt H m) (l:=xs) fun x hx=>(all x hx).2;have:xs.length*(w1+2)<=n*(w1+2):=Nat.mul_le_mul_right _ (by rw[rr.1];exact h2);omega
theorem xK{M:Addr->Prop}{H:Hp}: ∀{m:Nat} {v:V} {d:Dt},Rep M H v d->((∀ks es,d≠ .xE ks es)/\ ∀ks es,d≠ .l7 ks es)->(∀es,d= .lst es\/d= .tup es-> ∀e∈es,∀v,Rep M H v e->1<=m->dat H (m - 1) v=t6 (m - 1) e)->dat H m v=t6 m d:=fun{m v d} r nd h=>by
 cases r with
 | aD=>cases m <;> rfl
 | bl b=>cases m <;> rfl
 | int b=>cases m <;> rfl
 | str b=>cases m <;> rfl
 | @lst a xs ds e n l r=>
  cases m with
  | zero=>rfl
  | succ m=>
   rw[qZ e];show PyData.list _=PyData.list _;congr 1
   refine af0 (by simp [l]) fun i h1 h2=>?_;rw[List.getElem_map,List.getElem_map];rw[Zu] at h1 h2;exact h ds (.inl rfl) _ (ad9 h2) _ (r i _ _ (Zs h1) (Zs h2)) (by omega)
 | @tup a xs ds e n l r=>
  cases m with
  | zero=>rfl
  | succ m=>
   rw[qY e];show PyData.tuple _=PyData.tuple _;congr 1
   refine af0 (by simp [l]) fun i h1 h2=>?_;rw[List.getElem_map,List.getElem_map];rw[Zu] at h1 h2;exact h ds (.inr rfl) _ (ad9 h2) _ (r i _ _ (Zs h1) (Zs h2)) (by omega)
 | xE=>exact absurd rfl (nd.1 _ _)
 | l7=>exact absurd rfl (nd.2 _ _)
theorem Lv.dat{M:Addr->Prop}{H:Hp}: ∀{k m w:Nat} {v:V} {d:Dt},Lv k w d->Rep M H v d->dat H m v=t6 m d
 | 0,m,w,v,d,h,r=>xK r ⟨(fun ks es z=>by subst z;exact h.1),(fun ks es z=>by subst z;exact h.1)⟩ fun es z=>by rcases z with rfl | rfl <;> exact h.1.elim
 | k+1,m,w,v,d,h,r=>by
  rcases h with h | ⟨es,n,w1,h1,h2,h3,h4⟩
  . exact Lv.dat h r
  . exact xK r ⟨(fun ks es z => by subst z; rcases h1 with z | z <;> cases z), (fun ks es z => by subst z; rcases h1 with z | z <;> cases z)⟩ fun HF z e he v re _ => by
      have:HF=es:=by rcases h1 with rfl | rfl <;> rcases z with z | z <;> first | (injection z with z;exact z.symm) | cases z
      subst this;exact Lv.dat (h4 e he) re
end
end LD
namespace LD
open PySem PySem.Spec L2 LB PyProof.Rows LW
theorem rh:Ev X e (fun _ _=>False):=fun pins s σ H Q I uz=>(by obtain⟨_,_,_,_,_,_,q,_⟩:=uz;exact(q.elim))
end LD
namespace LD
open PySem PySem.Spec L2 LB HY PyProof.Rows
inductive yf:Dt->Prop where
 | aD:yf .aD
 | bl (b:Bool):yf (.bl b)
 | int (i:Int):yf (.int i)
 | str (x:Str):yf (.str x)
 | tup {ds:List Dt}:(∀d∈ds,yf d)->yf (.tup ds)
theorem Rep.zV(r:Rep M H v d)(f:yf d)(al:j3 M' H):Rep M' H v d:=by
 induction r with
 | aD=>exact .aD
 | bl b=>exact .bl b
 | int i=>exact .int i
 | str x=>exact .str x
 | lst h n l r ih=>cases f
 | tup h n l r ih=>
  cases f with
  | tup f=>exact .tup h (al.tup h) l fun i x d h1 h2=>ih i x d h1 h2 (f d (ZY h2))
 | xE h n e l r ih=>cases f
 | l7 h n e l r ih=>cases f
theorem aA.zV(r:aA M H v d)(f: ∀x∈d,yf x)(al:j3 M' H):aA M' H v d:=⟨r.1,fun i x e h1 h2=>(r.2 i x e h1 h2).zV (f e (ZY h2)) al⟩
inductive v7:Dt->Prop where
 | aD:v7 .aD
 | bl (b:Bool):v7 (.bl b)
 | int (i:Int):v7 (.int i)
 | str (x:Str):v7 (.str x)
theorem Rep.LO(r:Rep M H v d)(f:v7 d):Rep M' H' v d:=by
 cases f <;> cases r
 . exact .aD
 . exact .bl _
 . exact .int _
 . exact .str _
section
variable{X:Cx}{a b c e:Expr}{es:List Expr}{ta tb t:bt}{pos p:Pos}{x:Str}{k:Nat}{ps:List Str}
theorem az.OC{W:List Wd}{M:Addr->Prop}{α:List (List Addr)}{H H':Hp}{σ:L2.St}{δ:List Sl}{i:Nat}{ds:List Dt}(E:az W M α H σ δ)(hi:δ[i]?=some (.ow ds))(hs: ∀j s,j≠i->δ[j]?=some s->s= .no\/(∃d,s= .im d)\/ ∃t,s= .bx t){a:Addr}(ha:α[i]?=some [a])
  (E1:az W (fun b=>M b/\b≠a) (α.set i []) H' σ (δ.set i (.im (.lst ds)))) (c1:cW (α.set i []) H H'):az W M α H' σ δ/\cW α H H':=by
 obtain⟨a',vs,h1,h2,h3,r⟩:=E.ow hi;rw[ha] at h2;cases h2;have E':=E.CC hi ha;have sub: ∀b,b∈(α.set i []).flatten->b∈α.flatten/\b≠a:=fun b hb=>⟨(bq hb).elim id fun z=>absurd z Zz,(E'.mu b hb).2⟩
 have na:a∉(α.set i []).flatten:=fun z=>(sub a z).2 rfl;have vg:H' a=some (.lst vs):=c1 _ _ h3 na;have cg:cW α H H':=fun b o e n=>c1 b o e fun z=>n (sub b z).1;have keep: ∀b o,H b=some o-> ¬M b->H' b=some o/\ ¬M b:=fun b o e n=>⟨cg b o e fun z=>n (E.mu b z),n⟩
 refine⟨⟨E.ls,E.la,fun j s hj=>?_,E.nd,E.mu,fun b hb=>?_,fun Wd hW=>?_⟩,cg⟩
 . by_cases cj:j=i
   . subst cj;rw[hi] at hj;cases hj;exact⟨_,_,h1,ha,a,vs,rfl,rfl,vg,r.mono keep⟩
   . obtain⟨o,as,g1,g2,g3⟩:=E.sl j s hj;rcases hs j s cj hj with rfl | ⟨d,rfl⟩ | ⟨t,rfl⟩
     . exact⟨o,as,g1,g2,g3⟩
     . exact⟨o,as,g1,g2,g3.1,let ⟨u,e,ru⟩:=g3.2;⟨u,e,ru.mono keep⟩⟩
     . obtain⟨o2,yc,f1,f2,f3⟩:=E1.sl j (.bx t) (by rw[ZE (Ne.symm cj)];exact hj);rw[ZE (Ne.symm cj)] at f2;exact⟨o2,yc,f1,f2,f3⟩
 . by_cases z:b=a
   . subst z;exact⟨_,vg,fun xs z=>by cases z⟩
   . exact E1.al b ⟨hb,z⟩
 . have k0:=E.w Wd hW;have k1:=E1.w Wd hW;exact⟨k1.bs,k1.ex,k0.fr,k0.m0,k0.m1,k0.bx,k0.fz⟩
def KQ(i:Nat)(t:bt):bt:=fun δ Q=> ∃ds,δ[i]?=some (.ow ds)/\(∀j s,j≠i->δ[j]?=some s->s= .no\/(∃d,s= .im d)\/ ∃t,s= .bx t)/\t (δ.set i (.im (.lst ds))) fun d δ'=>δ'=δ.set i (.im (.lst ds))/\yf d/\Q d δ
theorem Gy(i:Nat)(h:Ev X e t):Ev X e (KQ i t):=PE.imp h fun σ H Q j8=>(by obtain⟨W,M,α,δ,Qd,E,⟨ds,hi,hs,q⟩,k⟩:=j8;exact(by
 obtain⟨a,xs,h1,h2,h3,r⟩:=E.ow hi;refine⟨W,_,α.set i [],_,_,E.CC hi h2,q,fun d δ' H' v oh E1 c1 r1=>?_⟩;obtain⟨eδ,fl,q1⟩:=oh;subst eδ;obtain⟨E2,c2⟩:=E.OC hi hs h2 E1 c1;exact k _ _ _ _ q1 E2 c2 (r1.zV fl E2.al)))
end
section
variable{X:Cx}{a b e:Expr}{t ta tk:bt}{tA:iG}{pos p apos dM:Pos}
inductive O2(ds:List Dt)(Q:Dt->Prop):Prop
 | mk (ns:List Int) (h1:ds= [.lst (ns.map .int)]) (h2:Q (.int ns.sum))
theorem HH(hc:X.calm=true)(hm:X.mg "sum"=none)(ha:Av X [e] tA)(hg:Gl X "sum":=by rfl)(he:starEach [e] X.env=(false,eval e X.env)::starEach [] X.env:=by rfl)(dq:(backTo pos (starEach [] X.env)).any (·.1)=false:=by rfl):
  Ev X (.Call (.Name "sum" p) [e] [] pos) (Dz O2 tA):=jT (DH hc) (fun M H xs ds Qd Q al r ck k=>(by
 obtain⟨ns,e,q⟩:=ck;subst e;obtain⟨x,rfl,r1⟩:=fR r;obtain⟨a,zs,rfl,ha,n,rr⟩:=r1.cO;rw[ints_rep rr] at ha;exact⟨a,ns,rfl,cY.of ha,k H _ _ q (fun _ _ z=>z) (.int _)⟩)) hg hm zC ha (by decide) (by decide) he dq
end
end LD
namespace L2
open PySem PySem.Spec PyProof.Rows
inductive v3(H:Hp):Nat->V->V->Bool->Prop
 | flat {k:Nat} {v w:V}:eF v=true->eF w=true->v3 H k v w (zW v w)
 | tup {k:Nat} {p q:Addr} {xs ys:List V} {e:Nat->Bool}:H p=some (.tup xs)->H q=some (.tup ys)->(∀(j:Nat) x y,xs[j]?=some x->ys[j]?=some y->v3 H k x y (e j))->v3 H (k+1) (.ref p) (.ref q) ((List.range (min xs.length ys.length)).all e && xs.length==ys.length)
 | lst {k:Nat} {p q:Addr} {xs ys:List V} {e:Nat->Bool}:H p=some (.lst xs)->H q=some (.lst ys)->(∀(j:Nat) x y,xs[j]?=some x->ys[j]?=some y->v3 H k x y (e j))->v3 H (k+1) (.ref p) (.ref q) ((List.range (min xs.length ys.length)).all e && xs.length==ys.length)
theorem CK(h:eF v=true):zW v v=true:=by cases v <;> first | rfl | (show(_==_)=true;exact ai9 _) | cases h
theorem uk(h: ∀j,j < n->e j=true):((List.range (min n n)).all e && n==n)=true:=by
 rw[Nat.min_self,ai9,Bool.and_true,ag4];exact fun j hj=>h j (ab3.mp hj)
theorem v3.self: ∀{k:Nat} {v w:V} {b:Bool},v3 H k v w b->v=w->b=true:=by
 intro k v w b h;induction h with
 | flat f1 f2=>intro e;subst e;exact CK f1
 | tup h1 h2 _ ih=>
  intro e;cases e;rw[h1] at h2;cases h2;exact uk fun j hj=>ih j _ _ (Zs hj) (Zs hj) rfl
 | lst h1 h2 _ ih=>
  intro e;cases e;rw[h1] at h2;cases h2;exact uk fun j hj=>ih j _ _ (Zs hj) (Zs hj) rfl
theorem item_at(r:Vals xs ao)(h:j < ao.toArray.size): ∃x,xs[j]?=some x/\RelV x ao.toArray[j]:=by
 have hl:=r.length;have hj:j < ao.length:=by simpa using h
 obtain⟨u,e,ru⟩:=r.get (i:=j) (x:=xs[j]'(by lia)) (Zs _);refine⟨_,Zs (by lia),?_⟩;have:ao.toArray[j]=u:=by have:=(Zw.mp e).2;simpa using this
 rw[this];exact ru
theorem v3.at(I:Inv X pins σ H s): ∀{k:Nat} {v w:V} {b:Bool},v3 H k v w b-> ∀{A:Around} {u u':Value},A.units+k < cLine->RelV v u->RelV w u'->SeqAt.EqAt A s u u' b:=by
 intro k v w b h;induction h with
 | flat f1 f2=>intro A u u' _ r1 r2;exact CM r1 r2 f1 f2
 | @tup k p q xs ys e h1 h2 hc ih=>
  intro A u u' hu r1 r2;cases r1;cases r2;by_cases c:p=q
  . subst c;rw[(v3.tup h1 h2 hc).self rfl];exact SeqAt.EqAt.same _
  . obtain⟨ao,rv,pl,_⟩:=I.tuple (dG.of h1);obtain⟨cq,n8,Fm,_⟩:=I.tuple (dG.of h2);have g:=SeqAt.RcAt.tuples (A:=A) (s:=s) (e:=e) (show s.heap.IsTuple p _ from pl) (show s.heap.IsTuple q _ from Fm) (by lia) fun j j1 j2=>by
     obtain⟨x,hx,rx⟩:=item_at rv j1;obtain⟨y,hy,ry⟩:=item_at n8 j2;exact ih j x y hx hy (by show A.units+1+k < cLine;lia) rx ry
    rw[ZH,ZH,<-rv.length,<-n8.length] at g;exact SeqAt.EqAt.of_refs c g
 | @lst k p q xs ys e h1 h2 hc ih=>
  intro A u u' hu r1 r2;cases r1;cases r2;by_cases c:p=q
  . subst c;rw[(v3.lst h1 h2 hc).self rfl];exact SeqAt.EqAt.same _
  . obtain⟨ao,rv,pl,_⟩:=I.list (cY.of h1);obtain⟨cq,n8,Fm,_⟩:=I.list (cY.of h2);refine SeqAt.EqAt.of_refs c ?_;by_cases l:xs.length=ys.length
    . have g := SeqAt.RcAt.lists (A := A) (s := s) (e := e) pl.isList Fm.isList (by rw[ZH, ZH, <- rv.length, <- n8.length]; exact l) (by lia) fun j j1 j2 => by
        obtain⟨x,hx,rx⟩:=item_at rv j1;obtain⟨y,hy,ry⟩:=item_at n8 j2;exact ih j x y hx hy (by show A.units+1+k < cLine;lia) rx ry
      rw[ZH,<-rv.length] at g;rw[<-l,Nat.min_self,ai9,Bool.and_true];exact g
    . have n:(xs.length==ys.length)=false:=by simpa using l
      rw[n,Bool.and_false];exact SeqAt.RcAt.lists_lengths pl.isList Fm.isList (by rw[ZH,ZH,<-rv.length,<-n8.length];simpa using l) (by lia)
end L2
namespace LD
open PySem PySem.Spec L2 LB PyProof.Rows
noncomputable def xx:Nat->Dt->Dt->Bool
 | k+1,.lst ds,.lst es=>(List.range (min ds.length es.length)).all (fun j=>xx k (ds.getD j .aD) (es.getD j .aD)) && ds.length==es.length
 | k+1,.tup ds,.tup es=>(List.range (min ds.length es.length)).all (fun j=>xx k (ds.getD j .aD) (es.getD j .aD)) && ds.length==es.length
 | _,d,e=>Ku d e
inductive HX:Nat->Dt->Dt->Prop
 | flat {k:Nat} {d e:Dt}:eG d=true->eG e=true->HX k d e
 | tup {k:Nat} {ds es:List Dt}:(∀(j:Nat) d e,ds[j]?=some d->es[j]?=some e->HX k d e)->HX (k+1) (.tup ds) (.tup es)
 | lst {k:Nat} {ds es:List Dt}:(∀(j:Nat) d e,ds[j]?=some d->es[j]?=some e->HX k d e)->HX (k+1) (.lst ds) (.lst es)
theorem CJ(h:eG d=true)(h2:eG e=true):xx k d e=Ku d e:=by
 cases k with
 | zero=>unfold xx;rfl
 | succ k=>cases d <;> cases e <;> first | (unfold xx;rfl) | cases h | cases h2
theorem K3(z:HX k d e): ∀{v w:V},Rep M H v d->Rep M H w e->v3 H k v w (xx k d e):=by
 induction z with
 | flat f1 f2=>
  intro v w r1 r2;rw[CJ f1 f2,<-xy r1 r2 f1 f2];exact .flat (jM r1 f1) (jM r2 f2)
 | @tup k ds es _ ih=>
  intro v w r1 r2;obtain⟨p,xs,rfl,h1,_,rr⟩:=r1.bN;obtain⟨q,ys,rfl,h2,_,mR⟩:=r2.bN;show v3 H (k+1) _ _ ((List.range (min ds.length es.length)).all (fun j=>xx k (ds.getD j .aD) (es.getD j .aD)) && ds.length==es.length);rw[<-rr.1,<-mR.1];refine .tup h1 h2 fun j x y hx hy=>?_;have l1:j < ds.length:=by rw[<-rr.1];exact(Zw.mp hx).1
  have l2:j < es.length:=by rw[<-mR.1];exact(Zw.mp hy).1
  rw[show ds.getD j .aD=ds[j] by simp [List.getD,l1],show es.getD j .aD=es[j] by simp [List.getD,l2]];exact ih j _ _ (Zs l1) (Zs l2) (rr.2 j _ _ hx (Zs l1)) (mR.2 j _ _ hy (Zs l2))
 | @lst k ds es _ ih=>
  intro v w r1 r2;obtain⟨p,xs,rfl,h1,_,rr⟩:=r1.cO;obtain⟨q,ys,rfl,h2,_,mR⟩:=r2.cO;show v3 H (k+1) _ _ ((List.range (min ds.length es.length)).all (fun j=>xx k (ds.getD j .aD) (es.getD j .aD)) && ds.length==es.length);rw[<-rr.1,<-mR.1];refine .lst h1 h2 fun j x y hx hy=>?_;have l1:j < ds.length:=by rw[<-rr.1];exact(Zw.mp hx).1
  have l2:j < es.length:=by rw[<-mR.1];exact(Zw.mp hy).1
  rw[show ds.getD j .aD=ds[j] by simp [List.getD,l1],show es.getD j .aD=es[j] by simp [List.getD,l2]];exact ih j _ _ (Zs l1) (Zs l2) (rr.2 j _ _ hx (Zs l1)) (mR.2 j _ _ hy (Zs l2))
end LD
namespace LD
open PySem PySem.Spec L2 PyProof.Rows
section
variable{X:Cx}{pos:Pos}
def CY(i j l:Nat):rZ:=fun d δ Q=> ∃d1 d2 d3,d= .tup [d1,d2,d3]/\bY δ i/\bY (δ.set i (.im d1)) j/\bY ((δ.set i (.im d1)).set j (.im d2)) l/\Q (((δ.set i (.im d1)).set j (.im d2)).set l (.im d3))
theorem vj{i j l:Nat}{K:PySem.W.Frag}: ∀v σ H Q,lG (CY i j l) v σ H Q->zj K 3 (eV (cB i) (eV (cB j) (eV (cB l) vp))) v σ H Q:=fun v σ H Q dS=>(by obtain⟨W,M,α,δ,d,Qd,E,r,⟨d1,d2,d3,e,FL,FK,Q5,q⟩,k⟩:=dS;exact(by
 subst e;obtain⟨a,xs,rfl,ha,n,rr⟩:=r.bN;obtain⟨x,ys,rfl,r2,r3⟩:=rr.aQ;obtain⟨y,zs,rfl,r4,r5⟩:=r3.aQ;obtain⟨z,ws,rfl,r6,r7⟩:=r5.aQ;cases r7.eQ;exact⟨a,_,rfl,dG.of ha,rfl,x,_,rfl,y,_,rfl,z,_,rfl,rfl,k _ _ _ q (((E.gm r2 FL).gm r4 FK).gm r6 Q5) fun x h=>cE x (cE x (cE x h))⟩))
theorem Kk(i j l:Nat)(hc:X.calm=true)(hN:X.N.Nodup)(hi:X.N[i]?=some x:=by rfl)(hj:X.N[j]?=some y:=by rfl)(hl:X.N[l]?=some z:=by rfl)(hx:Loc X.env.scope x:=by first | exact Or.inl rfl | exact Or.inr rfl)(hy:Loc X.env.scope y:=by first | exact Or.inl rfl | exact Or.inr rfl)(hz:Loc X.env.scope z:=by first | exact Or.inl rfl | exact Or.inr rfl)(hf:X.fn x=true\/X.env.scope.names.lookup x=some .local:=by first | exact .inl rfl | exact .inr rfl | assumption)(zf:X.fn y=true\/X.env.scope.names.lookup y=some .local:=by first | exact .inl rfl | exact .inr rfl | assumption)(R3:X.fn z=true\/X.env.scope.names.lookup z=some .local:=by first | exact .inl rfl | exact .inr rfl | assumption)(hn:(assignEach [.Name x px, .Name y py, .Name z pz] X.env).length=3:=by rfl)(qR:(assignEach [.Name x px, .Name y py, .Name z pz] X.env).findIdx? (·.1)=none:=by rfl)(h1:(assignEach [.Name x px, .Name y py, .Name z pz] X.env).map (·.2)=assign (.Name x px) X.env::(assignEach [.Name y py, .Name z pz] X.env).map (·.2):=by rfl)(h2:(assignEach [.Name y py, .Name z pz] X.env).map (·.2)=assign (.Name y py) X.env::(assignEach [.Name z pz] X.env).map (·.2):=by rfl)(h3:(assignEach [.Name z pz] X.env).map (·.2)=assign (.Name z pz) X.env::(assignEach [] X.env).map (·.2):=by rfl):
  Gv X (.Tuple [.Name x px,.Name y py,.Name z pz] kk pos) (CY i j l):=PG.imp (cM hc (aI (aE hN hi hx hf) (aI (aE hN hj hy zf) (aI (aE hN hl hz R3) bR h3) h2) h1) hn qR) vj
end
end LD
namespace L2
open PySem PySem.Spec PyProof.Rows HT
def oR(A:Around)(s:Shared)(y x:Value)(b:Bool):Prop:=
 ∀(prog:Program) (w:World) (E:Value->Shared->Prop) (Q:Value->Shared->Prop),Q (.bool b) s->wpAny (model prog w) A (richCompare .Lt y x) Q E s
noncomputable def i6(n m:Nat)(e l:Nat->Bool):Nat->Nat->Bool
 | 0,_=>decide (n < m)
 | f+1,i=>if e i then i6 n m e l f (i+1) else l i
section
open PySem.AutoSeq1 (wpAny_loadPart')
open PySem.MeetsSeq PySem.MeetsSeq2 PySem.MeetsSeq3
theorem om(l b:Addr)(items aR:Array Value)(n n2:Nat)(dd LM:Option Addr)(sl IP:Array (Option Value))(e lo:Nat->Bool):
  Meets (Builtin.«tuple.__lt__» ⟨[.ref l,.ref b],[]⟩)
   (fun A R s=>s.heap.get? l=some {cls:= .type "tuple",dict:=dd,data:= .seq items n,slots:=sl}/\s.heap.get? b=some {cls:= .type "tuple",dict:=LM,data:= .seq aR n2,slots:=IP}/\
    (∀j (h1:j < items.size) (h2:j < aR.size),SeqAt.EqAt A.in1 s items[j] aR[j] (e j))/\(∀j (h1:j < items.size) (h2:j < aR.size),e j=false->oR A.in1 s items[j] aR[j] (lo j))/\
    R (.ok (.ret (.bool (i6 items.size aR.size e lo (min items.size aR.size) 0)))) s):=
 .of_wp fun prog w A R s h=>by
  obtain⟨hp,g,d,tk,os⟩:=s;obtain⟨hl,hb,he,ho,h⟩:=h;have f2:=AutoSeq1.sub_tuple_tuple;have zl:(items.toList.zip aR.toList).length=min items.size aR.size:=by rw[List.length_zip,ZQ,ZQ]
  wp_walk using ac8 hl,ac8 hb,wpAny_forIn_list _ (fun rest b s'=>b.1=none/\s'=⟨hp,g,d,tk,os⟩/\ ∃i,i<=min items.size aR.size/\rest=(items.toList.zip aR.toList).drop i/\
   R (.ok (.ret (.bool (i6 items.size aR.size e lo (min items.size aR.size - i) i)))) ⟨hp,g,d,tk,os⟩) _
  case turn=>
   rintro⟨y,x⟩ rest b s' ⟨xu,rfl,i,hi,hz,hR⟩
   have il:i < (items.toList.zip aR.toList).length:=by
    rcases Nat.lt_or_ge i (items.toList.zip aR.toList).length with c | c
    . exact c
    . rw[List.drop_eq_nil_of_le c] at hz;cases hz
   rw[ac7 il] at hz;injection hz with Ut Np
   rw[zl] at il;have i1:i < items.size:=by lia
   have i2:i < aR.size:=by lia
   rw[List.getElem_zip] at Ut;injection Ut with hy hx
   have hy:y=items[i]:=by rw[hy];simp
   have hx:x=aR[i]:=by rw[hx];simp
   subst hy hx;obtain⟨f,ef⟩: ∃f,min items.size aR.size - i=f+1:=⟨min items.size aR.size - i - 1,by lia⟩
   rw[ef,i6] at hR;refine Zt (he i i1 i2 prog w _ _ ?_);cases c:e i with
   | true=>
    rw[c,if_pos rfl] at hR;wp_walk
    exact⟨rfl,rfl,i+1,by lia,Np,by rw[show min items.size aR.size - (i+1)=f by lia];exact hR⟩
   | false=>
    rw[c,if_neg ZJ] at hR;have WG:=ho i i1 i2 c prog w;wp_walk using WG
    exact⟨_,rfl,by simpa using hR⟩
  case fin=>
   rintro⟨b1,b2⟩ s' ⟨xu,rfl,i,hi,hz,hR⟩
   simp only at xu;subst xu;have il:min items.size aR.size<=i:=by
    rw[<-zl];exact List.drop_eq_nil_iff.mp hz.symm
   rw[show min items.size aR.size - i=0 by lia,i6] at hR;wp_walk
   exact⟨_,rfl,by simpa [Builtin.Tuple.tupleCompareSizes] using hR⟩
  case h=>
   exact⟨rfl,rfl,0,Z7 _,rfl,h⟩
end
theorem oR.int(A:Around)(s:Shared)(a:Int)(t:Tok)(c:Int)(u:Tok):oR A s (.int a t) (.int c u) (decide (a < c)):=fun prog w E Q h=>Bd A s a t c u prog w E Q h
theorem oR.tuples{A:Around}{s:Shared}{e lo:Nat->Bool}(hl:IsTup s.heap l items)(hb:IsTup s.heap b aR)(hu:A.units < cLine)(he: ∀j (h1:j < items.size) (h2:j < aR.size),SeqAt.EqAt A.in1 s items[j] aR[j] (e j))(ho: ∀j (h1:j < items.size) (h2:j < aR.size),e j=false->oR A.in1 s items[j] aR[j] (lo j)):
  oR A s (.ref l) (.ref b) (i6 items.size aR.size e lo (min items.size aR.size) 0):=fun prog w E Q h=>by
 obtain⟨⟨cls,dd,data,sl⟩,h1,hc,n,hd⟩:=id hl;obtain⟨⟨Te,LM,data2,IP⟩,h2,Eu,n2,hd2⟩:=id hb;simp only at hc hd Eu hd2;subst hc hd Eu hd2;exact richCompare_meets_room (op:= .Lt) ⟨_,h1,rfl⟩ ⟨_,h2,rfl⟩ PySem.F.slot_tuple_lt PySem.F.entry_tuple_lt (PySem.F.args_tuple_lt_2 _ _) (om l b items aR n n2 dd LM sl IP e lo)
  ⟨h1,h2,he,ho,show Value.bool _≠Value.notImplemented/\Q (.bool _) s from⟨(fun x=>nomatch x),h⟩⟩ hu
inductive zY(H:Hp):Nat->V->V->Bool->Prop
 | int {k:Nat} {i j:Int}:zY H k (.int i) (.int j) (decide (i < j))
 | tup {k:Nat} {p q:Addr} {xs ys:List V} {e l:Nat->Bool}:H p=some (.tup xs)->H q=some (.tup ys)->(∀(j:Nat) x y,xs[j]?=some x->ys[j]?=some y->v3 H k x y (e j))->(∀(j:Nat) x y,xs[j]?=some x->ys[j]?=some y->e j=false->zY H k x y (l j))->zY H (k+1) (.ref p) (.ref q) (i6 xs.length ys.length e l (min xs.length ys.length) 0)
theorem zY.at(I:Inv X pins σ H s): ∀{k:Nat} {v w:V} {b:Bool},zY H k v w b-> ∀{A:Around} {u u':Value},A.units+k < cLine->RelV v u->RelV w u'->oR A s u u' b:=by
 intro k v w b h;induction h with
 | int=>
  intro A u u' _ r1 r2;obtain⟨t,rfl⟩:=r1;obtain⟨t2,rfl⟩:=r2;exact oR.int A s _ t _ t2
 | @tup k p q xs ys e l h1 h2 hc ho ih=>
  intro A u u' hu r1 r2;cases r1;cases r2;obtain⟨ao,rv,pl,_⟩:=I.tuple (dG.of h1);obtain⟨cq,n8,Fm,_⟩:=I.tuple (dG.of h2);have g:=oR.tuples (A:=A) (s:=s) (e:=e) (lo:=l) pl Fm (by lia) (fun j j1 j2=>by
   obtain⟨x,hx,rx⟩:=item_at rv j1;obtain⟨y,hy,ry⟩:=item_at n8 j2;exact(hc j x y hx hy).at I (by show A.units+1+k < cLine;lia) rx ry) fun j j1 j2 ej=>by
   obtain⟨x,hx,rx⟩:=item_at rv j1;obtain⟨y,hy,ry⟩:=item_at n8 j2;exact ih j x y hx hy ej (by show A.units+1+k < cLine;lia) rx ry
  rw[ZH,ZH,<-rv.length,<-n8.length] at g;exact g
end L2
namespace L2
open PySem PySem.Spec PyProof.Rows
noncomputable def held:Option Value->Array Value
 | none=> #[]
 | some v=> #[v,v]
def v5(val:Nat->Int)(j:Nat):Option Value->Prop
 | none=>j=0
 | some v=> ∃i t,i < j/\v= .int (val i) t/\ ∀k,k < j->val k<=val i
theorem DQ(a v:Value):argsOk "max" ⟨[a],[("default",v)]⟩:=by unfold argsOk;kernel_rfl
section
variable{prog:Program}{w:World}{A:Around}{R:Result->Shared->Prop}{I S:Addr}{fp wr:List Addr}{n:Nat}{P:Nat->Value->Prop}{St:Nat->Heap->Prop}{val:Nat->Int}{d:Value}
theorem yW(W:Walks prog w A.in1 I fp wr n P St)(hv: ∀i v,P i v-> ∃t,v= .int (val i) t)(hS:S∉fp): ∀(k j:Nat) (s:Shared) (b:Option Value) (c:Nat),n - j=k->j<=n->St j s.heap->v5 val j b->
  s.heap.get? S=some {cls:= .type "list",dict:=none,data:= .seq (held b) c,slots:= #[]}->
  (∀b h' tk,v5 val n b->(∀x o,x∉wr->x≠S->s.heap.get? x=some o->h'.get? x=some o)->R (.ok (.ret (b.getD d))) {s with heap:=h',toks:=tk})->
  codeAny (model prog w) A (.builtin "max.loop" ⟨[.ref I,.none,.ref S],[("default",d)]⟩) R s:=by
 have nw:S∉wr:=fun z=>hS (W.sub _ z);have nm:(toString "max"++toString ".loop":String)="max.loop":=by decide
 intro k;induction k with
 | zero=>
  intro j s b c e1 e2 st g hs hR;have e3:j=n:=by omega
  subst e3;refine codeAny_builtin F.entry_max_loop ?_;rw[Around.under_plainId ak5 _];show wpAny _ A.in1 (seqItems? (.ref S) >>=_) _ _ s;refine Zt (ag7 hs rfl ?_);show wpAny _ A.in1 (tryCatch (pyNext (.ref I)) _ >>=_) _ _ s;refine Zt (wpAny_tryCatch (W.done s _ _ st fun h' tk hk=>?_));have kP:=hk S _ nw hs;cases b with
  | none=>exact Zt (af6 (ZD (hR none _ tk g fun x o n1 n2 e=>hk x o n1 e)))
  | some v=>
   have jf:h'.get? S=some {cls:= .type "list",dict:=none,data:= .seq #[v,v] c,slots:= #[]}:=kP;show wpAny _ A.in1 (updateSeq S (fun _=> #[]) >>=_) _ _ _;refine Zt (wpAny_updateSeq jf rfl (Zt (al2 (ZD ?_))));exact hR (some v) _ tk g fun x o n1 n2 e=>(af2 _ _ (Ne.symm n2)).trans (hk x o n1 e)
 | succ k ih=>
  intro j s b c e1 e2 st g hs hR;have lt:j < n:=by omega
  refine codeAny_builtin F.entry_max_loop ?_;rw[Around.under_plainId ak5 _];show wpAny _ A.in1 (seqItems? (.ref S) >>=_) _ _ s;refine Zt (ag7 hs rfl ?_);show wpAny _ A.in1 (tryCatch (pyNext (.ref I)) _ >>=_) _ _ s;refine Zt (wpAny_tryCatch (W.item j s _ _ lt st fun v h' tk hP av hk=>?_));have kP:=hk S _ nw hs;obtain⟨t,rfl⟩:=hv _ _ hP;cases b with
  | none=>
   have e3:j=0:=g;subst e3;show wpAny _ A.in1 (updateSeq S (fun _=> #[_,_]) >>=_) _ _ _;refine Zt (wpAny_updateSeq kP rfl ?_);rw[nm];refine ZD ⟨an4 ak5 _,ih 1 _ (some (.int (val 0) t)) _ (by omega) lt (W.frame _ _ _ av fun x hx o e=>?_) ⟨0,t,Nat.one_pos,rfl,fun k hk=>?_⟩ (aj5 _ kP rfl) fun b h2 AB g2 k2=>?_⟩
   . exact(af2 _ _ (fun z:S=x=>hS (by rw[z];exact hx))).trans e
   . rw[show k=0 by omega];exact ae6 _
   . exact hR b h2 AB g2 fun x o n1 n2 e=>k2 x o n1 n2 ((af2 _ _ (Ne.symm n2)).trans (hk x o n1 e))
  | some u=>
   obtain⟨i,t2,i1,rfl,i2⟩:=g;have jf:h'.get? S=some {cls:= .type "list",dict:=none,data:= .seq #[.int (val i) t2,.int (val i) t2] c,slots:= #[]}:=kP;show wpAny _ A.in1 (tryCatch (holding [_,_] (richCompare .Gt (.int (val j) t) (.int (val i) t2) >>=_)) _ >>=_) _ _ _;refine Zt (wpAny_tryCatch (ad4 (Zt (CmpOf.ints_gt (P:=fun i v=> ∃t,v= .int (val i) t) val (fun _ _ z=>z) j i _ _ _ _ _ ⟨t,rfl⟩ ⟨t2,rfl⟩ ?_))));refine Zt (ad4 (ah1 ?_));refine Zt (al2 (ZD ?_));by_cases c1:val j > val i
   . rw[if_pos (show(fun i j=>decide (val i > val j)) j i=true from Z9 c1)];refine Zt (wpAny_updateSeq jf rfl (Zt (al2 ?_)));rw[nm];refine ZD ⟨an4 ak5 _,ih (j+1) _ (some (.int (val j) t)) _ (by omega) lt (W.frame _ _ _ av fun x hx o e=>?_) ⟨j,t,ag2 _,rfl,fun k hk=>?_⟩ (aj5 _ jf rfl) fun b h2 AB g2 k2=>?_⟩
     . exact(af2 _ _ (fun z:S=x=>hS (by rw[z];exact hx))).trans e
     . rcases Nat.lt_succ_iff_lt_or_eq.mp hk with z | z
       . have:=i2 k z;omega
       . rw[z];exact ae6 _
     . exact hR b h2 AB g2 fun x o n1 n2 e=>k2 x o n1 n2 ((af2 _ _ (Ne.symm n2)).trans (hk x o n1 e))
   . rw[if_neg (show¬(fun i j=>decide (val i > val j)) j i=true from fun z=>c1 (ab4 z))];refine Zt (al2 ?_);rw[nm];refine ZD ⟨an4 ak5 _,ih (j+1) _ (some (.int (val i) t2)) c (by omega) lt av ⟨i,t2,by omega,rfl,fun k hk=>?_⟩ kP fun b h2 AB g2 k2=>?_⟩
     . rcases Nat.lt_succ_iff_lt_or_eq.mp hk with z | z
       . exact i2 k z
       . rw[z];omega
     . exact hR b h2 AB g2 fun x o n1 n2 e=>k2 x o n1 n2 (hk x o n1 e)
end
theorem yX(hh:A.handled=none)(hl:s.heap.IsList l (intItems xs))(h: ∀b h' tk,v5 (numAt xs) xs.size b->(∀x o,s.heap.get? x=some o->h'.get? x=some o)->Q (b.getD d) {s with heap:=h',toks:=tk}):
  wpAny (model prog w) A (call (.builtin "max") [.ref l] [("default",d)]) Q E s:=by
 have nm:(toString "max"++toString ".loop":String)="max.loop":=by decide
 refine kmb_tree F.kind_max F.plain_max F.entry_max (DQ _ _) ?_;show wpAny _ A.in1 (Builtin.Builtins.bindParams "max" ["key","default"] 0 ⟨[],[("default",d)]⟩ >>=_) _ _ s;refine Zt (wpAny_of_eq (show Builtin.Builtins.bindParams "max" ["key","default"] 0 ⟨[],[("default",d)]⟩=pure [none,some d] from rfl) ?_);refine Zt (ZD ?_);refine Zt (iter_intList hl fun s2 e st fr ne=>?_);subst e;refine Zt (ad1 ?_);rw[nm];have hz:(intItems xs).size=xs.size:=by simp [intItems]
 have W:=Walks.list (prog:=prog) (w:=w) (A:=A.in1) hh s.heap.objs.size l ne (intItems xs);refine ZD ⟨an4 ak5 _,yW (val:=numAt xs) W (fun _ _=>intItems_at) (fun hm=>ab5 _ (fr _ hm)) _ 0 _ none 0 rfl (Z7 _) (W.frame _ _ _ st fun x _ o e=>Zv _ e) rfl (ZP _ rfl) fun b h' tk g hk=>?_⟩;refine h b h' tk (hz▸g) (old_kept fun x o n e=>hk x o n (aa8 (ZW e)) (Zv _ e))
section
variable{X:Cx}{e:Expr}{kN:List Keyword}{t tk:TA}{p pos:Pos}
def X3(ns:List Int)(d:V)(v:V):Prop:=(ns= []/\v=d)\/ ∃M,v= .int M/\M∈ns/\ ∀a∈ns,a<=M
def Mi(t tk:TA):TE:=fun σ H Q=>t σ H fun vs H1=>tk σ H1 fun ks H2=> ∃(a:Addr) (ns:List Int) (d:V),vs= [.ref a]/\ks= [d]/\H2 a=some (.lst (ns.map V.int))/\ ∀v,X3 ns d v->Q v H2
theorem zD:bootBuiltins "max"=some (.builtin "max"):=by decide+kernel
theorem Fp(hc:X.calm=true)(hg:Gl X "max")(hm:X.mg "max"=none)(ha:PA X [e] t)(hk:PK X kN tk)
  (xr:(backToKw pos (keywordEach kN X.env)).filterMap (·.1)=(["default"]:List Str):=by rfl) (k1:backTo pos (starEach [e] X.env)=(false,eval e X.env)::backTo pos (starEach [] X.env):=by rfl) (k2:(backTo pos (starEach [e] X.env)).any (·.1)=false:=by rfl)
  (k3:(backToKw pos (keywordEach kN X.env)).all (·.1.isSome)=true:=by rfl) (k4:(backToKw pos (keywordEach kN X.env)).any (·.1.isNone)=false:=by rfl):
  PE X (.Call (.Name "max" p) [e] kN pos) (Mi t tk):=by
 intro pins s σ H Q I h;refine ag5 (eC I hg hm zD (callWith_kw (aU (ha pos pins s σ H _ I h) fun us s1 zz=>?_) k1 k2 k3 k4));obtain⟨vs,H1,I1,r1,q1⟩:=zz;refine aU (hk pos pins s1 σ H1 _ I1 q1) fun ws s2 zz=>?_;obtain⟨zs,H2,I2,rz,q2⟩:=zz;obtain⟨a,ns,d,rfl,rfl,hq,q⟩:=q2;obtain⟨u,rfl,ru⟩:=vals1 r1;cases ru;obtain⟨ud,rfl,rd⟩:=vals1 rz;rw[xr];obtain⟨ao,rv,pl,_⟩:=I2.list (cY.of hq);have hi:=intsAre_of rv;obtain⟨xs,hx⟩:=hi.allInts.items;have F8:s2.heap.IsList a (intItems xs):=hx▸pl.isList;have Em:ns=xs.toList.map (·.1):=by
  rw[<-nums_intItems,<-hx];exact(show numsOf ao.toArray.toList=ns from hi.numsOf).symm
 refine yX (I2.ok.hd hc) F8 fun b h' tk g hk=>?_;have hlen:ns.length=xs.size:=by rw[Em,Zu,ZQ]
 cases b with
 | none=>exact⟨d,H2,I2.kept hk,rd,q d (.inl ⟨List.eq_nil_of_length_eq_zero (hlen.trans g),rfl⟩)⟩
 | some v=>
  obtain⟨i,t2,g1,rfl,g2⟩:=g;refine⟨.int _,H2,I2.kept hk,⟨_,rfl⟩,q _ (.inr ⟨_,rfl,?_,fun m hm=>?_⟩)⟩
  . rw[numAt_eq,<-Em];exact getD_mem (by omega)
  . rw[Em] at hm;obtain⟨j,hj,rfl⟩:=mem_getD hm;rw[Zu,ZQ] at hj;rw[<-numAt_eq];exact g2 j hj
end
end L2
namespace LD
open PySem PySem.Spec L2 LB PyProof.Rows
noncomputable def zR:Nat->Dt->Dt->Bool
 | _,.int i,.int j=>decide (i < j)
 | k+1,.tup ds,.tup es=>i6 ds.length es.length (fun j=>xx k (ds.getD j .aD) (es.getD j .aD)) (fun j=>zR k (ds.getD j .aD) (es.getD j .aD)) (min ds.length es.length) 0
 | _,_,_=>false
inductive GX:Nat->Dt->Dt->Prop
 | int {k:Nat} {i j:Int}:GX k (.int i) (.int j)
 | tup {k:Nat} {ds es:List Dt}:(∀(j:Nat) d e,ds[j]?=some d->es[j]?=some e->HX k d e)->(∀(j:Nat) d e,ds[j]?=some d->es[j]?=some e->GX k d e)->GX (k+1) (.tup ds) (.tup es)
theorem qJ:zR k (.int i) (.int j)=decide (i < j):=by cases k <;> rfl
theorem B8: ∀{k:Nat} {d e:Dt},GX k d e-> ∀{v w:V},Rep M H v d->Rep M H w e->zY H k v w (zR k d e):=by
 intro k;induction k with
 | zero=>
  intro d e z v w r1 r2;cases z with
  | int=>rw[qJ];cases r1.ofInt;cases r2.ofInt;exact .int
 | succ k ih=>
  intro d e z v w r1 r2;cases z with
  | int=>rw[qJ];cases r1.ofInt;cases r2.ofInt;exact .int
  | @tup _ ds es hs jf=>
   obtain⟨p,xs,rfl,h1,_,rr⟩:=r1.bN;obtain⟨q,ys,rfl,h2,_,mR⟩:=r2.bN;show zY H (k+1) _ _ (i6 ds.length es.length (fun j=>xx k (ds.getD j .aD) (es.getD j .aD)) (fun j=>zR k (ds.getD j .aD) (es.getD j .aD)) (min ds.length es.length) 0);rw[<-rr.1,<-mR.1];have at': ∀{j x y},xs[j]?=some x->ys[j]?=some y-> ∃d e,ds[j]?=some d/\es[j]?=some e/\ds.getD j .aD=d/\es.getD j .aD=e/\Rep M H x d/\Rep M H y e:=fun{j x y} hx hy=>by
    have l1:j < ds.length:=by rw[<-rr.1];exact(Zw.mp hx).1
    have l2:j < es.length:=by rw[<-mR.1];exact(Zw.mp hy).1
    exact⟨ds[j],es[j],Zs l1,Zs l2,by simp [List.getD,l1],by simp [List.getD,l2],rr.2 j _ _ hx (Zs l1),mR.2 j _ _ hy (Zs l2)⟩
   refine .tup h1 h2 (fun j x y hx hy=>?_) (fun j x y hx hy _=>?_)
   . obtain⟨d,e,e1,e2,e3,e4,ra,rb⟩:=at' hx hy;rw[e3,e4];exact K3 (hs j d e e1 e2) ra rb
   . obtain⟨d,e,e1,e2,e3,e4,ra,rb⟩:=at' hx hy;rw[e3,e4];exact ih (jf j d e e1 e2) ra rb
end LD
namespace fL
open PySem PySem.Spec L2 LB PyProof.Rows PySem.W
theorem pe: ∀(us vs:List Value) (i:Nat),
  (∀j u v,us[j]?=some u->vs[j]?=some v->SeqAt.EqAt A s u v (e (i+j)))->(∀j u v,us[j]?=some u->vs[j]?=some v->e (i+j)=false->oR A s u v (l (i+j)))->
  (i=0-> ∀u v,us[0]?=some u->vs[0]?=some v->e 0=false-> ∃a t b t',u= .int a t/\v= .int b t'/\l 0=decide (a < b))->
  Q (i6 n m e l (min us.length vs.length) i) s->KatLex prog w A true (decide (n < m)) Q (us.zip vs) i s
 | [],_,_,_,_,_,q=>kat_nil (by rw[ah3,Nat.zero_min] at q;exact q)
 | _::_,[],_,_,_,_,q=>kat_nil (by rw[ah3,Nat.min_zero] at q;exact q)
 | u::us,v::vs,i,he,hl,h0,q=>by
  rw[List.zip_cons_cons];have e1:=he 0 u v rfl rfl;rw[ZG,ZG,show min (us.length+1) (vs.length+1)=min us.length vs.length+1 by lia,i6] at q;refine kat_cons (e1 prog w _ _ (kat_go (fun c=>?_) fun c=>?_))
  . rw[ag1] at c;rw[if_pos c] at q;refine kat_yes (pe us vs (i+1) (fun j a b h1 h2=>?_) (fun j a b h1 h2 h3=>?_) (fun z=>by lia) q)
    . have:=he (j+1) a b (by simpa using h1) (by simpa using h2);rw[show i+(j+1)=i+1+j by lia] at this;exact this
    . have:=hl (j+1) a b (by simpa using h1) (by simpa using h2);rw[show i+(j+1)=i+1+j by lia] at this;exact this h3
  . rw[ag1] at c;rw[if_neg (by rw[c];exact ZJ)] at q;refine kat_no ?_;cases i with
    | zero=>
     obtain⟨a,t,b,t',rfl,rfl,e3⟩:=h0 rfl u v rfl rfl c;rw[e3] at q;exact oneLt_int q
    | succ i=>
     have:=hl 0 u v rfl rfl (by rw[ag1];exact c);rw[ag1] at this;exact kat_one _ _ (this prog w _ _ q)
theorem uD(I:Inv X pins σ H s)(h:H t=some (.tup ys)): ∃(o:Obj) (us:List Value) (n:Nat),s.heap.get? t=some o/\o.cls= .type "tuple"/\o.data= .seq us.toArray n/\Vals ys us:=by
 obtain⟨js,rj,pj,_⟩:=I.tuple (dG.of h);obtain⟨o,ho,hc,n,hd⟩:=(show s.heap.IsTuple t js.toArray from pj)
 exact⟨o,js,n,ho,hc,hd,rj⟩
theorem xw(I:Inv X pins σ H s): ∀{xs:List V} {us:List Value},Vals xs us->(∀x∈xs,∃t n ys,x= .ref t/\H t=some (.tup (.int n::ys)))-> ∃fs,KatTups s.heap us fs/\fs.length=us.length/\ ∀v∈fs,∃x t,v=Value.int x t
 | _,_,.nil,_=>⟨[],.nil,rfl,fun v hv=>absurd hv Zz⟩
 | _,_,.cons r rs,hp=>by
  obtain⟨fs,t,lf,hi⟩:=xw I rs fun x hx=>hp x (ZF _ hx);obtain⟨a,n,ys,e,ha⟩:=hp _ ZI;subst e;cases r;obtain⟨o,us,m,ho,hc,hd,ru⟩:=uD I ha;cases ru with
  | cons r1 _=>
   obtain⟨tk,rfl⟩:=r1;refine⟨.int n tk::fs,.cons ho hc hd rfl t,by rw[ZG,ZG,lf],fun v hv=>?_⟩;rcases ZR.mp hv with e | hv
   . exact⟨_,_,e⟩
   . exact hi v hv
theorem yb{A:Around}{k:Nat}{K:Nat->Int}(I:Inv X pins σ H s)(hu:A.units+k < cLine)(rv:Vals xs us)(h2:2<=us.length)(hp: ∀x∈xs,∃t n ys,x= .ref t/\H t=some (.tup (.int n::ys)))(hl: ∀i j x y,xs[i]?=some x->xs[j]?=some y->zY H (k+1) x y (decide (K i < K j))): ∃κ,Ask prog w A us K s κ:=by
 obtain⟨fs,t,lf,hi⟩:=xw I rv hp;refine⟨tuples' true,fun Q q=>kat_kind (T:= .type "int") t (by lia) (fun v hv=>?_) (by rfl) q,fun i j og J8 C q=>?_⟩
 . obtain⟨x,tk,rfl⟩:=hi v hv;exact Looks.of_pure rfl
 . have fi:us.getD i Value.none=us[i]:=by simp [List.getD,og]
   have fj:us.getD j Value.none=us[j]:=by simp [List.getD,J8]
   have li:i < xs.length:=by rw[rv.length];exact og
   have lj:j < xs.length:=by rw[rv.length];exact J8
   have L:=hl i j _ _ (Zs li) (Zs lj);obtain⟨u1,g1,r1⟩:=rv.get (Zs li);obtain⟨u2,g2,r2⟩:=rv.get (Zs lj);rw[Zs og] at g1;rw[Zs J8] at g2;have g1:us[i]=u1:=Option.some.inj g1;have g2:us[j]=u2:=Option.some.inj g2;obtain⟨t1,n1,Ye,e1,h1⟩:=hp _ (ad9 li);obtain⟨t2,n2,Yd,e2,h2⟩:=hp _ (ad9 lj);rw[e1] at r1 L;rw[e2] at r2 L;cases r1;cases r2;unfold kas_ask;rw[fi,fj,g1,g2];generalize decide (K i < K j)=b at L q;cases L with
   | @tup _ _ _ Yc Yb e l a1 a2 hc ho=>
    rw[h1] at a1;cases a1;rw[h2] at a2;cases a2;obtain⟨o1,Yh,m1,Po,_,LI,Pf⟩:=uD I h1;obtain⟨o2,Yg,m2,LF,_,hd2,n8⟩:=uD I h2;refine kat_lt Po LI LF hd2 ?_;rw[ZH,ZH];have l1:=Pf.length;have l2:=n8.length;rw[l1,l2] at q;have LP: ∀{ys:List V} {us:List Value},Vals ys us-> ∀(j:Nat) u,us[j]?=some u-> ∃y,ys[j]?=some y/\RelV y u:=fun{ys us} r j u h=>by
     have hj:j < ys.length:=by rw[r.length];exact(Zw.mp h).1
     obtain⟨u',Hw,ru⟩:=r.get (Zs hj);rw[h] at Hw;cases Hw;exact⟨_,Zs hj,ru⟩
    refine pe (e:=e) (l:=l) _ _ 0 (fun j u v g1 g2=>?_) (fun j u v g1 g2 hf=>?_) (fun _ u v g1 g2 hf=>?_) q
    . obtain⟨y1,y2,y3⟩:=LP Pf j u g1;obtain⟨x1,x2,x3⟩:=LP n8 j v g2;rw[am4];exact(hc j y1 x1 y2 x2).at I hu y3 x3
    . obtain⟨y1,y2,y3⟩:=LP Pf j u g1;obtain⟨x1,x2,x3⟩:=LP n8 j v g2;rw[am4] at hf ⊢;exact(ho j y1 x1 y2 x2 hf).at I hu y3 x3
    . obtain⟨y1,y2,y3⟩:=LP Pf 0 u g1;obtain⟨x1,x2,x3⟩:=LP n8 0 v g2;cases y2;cases x2;have:=ho 0 _ _ rfl rfl hf;obtain⟨Yj,rfl⟩:=y3;obtain⟨AB,rfl⟩:=x3;generalize l 0=b0 at this;cases this;exact⟨_,_,_,_,rfl,rfl,rfl⟩
end fL
namespace LD
open PySem PySem.Spec L2 LB PyProof.Rows fL
inductive EC:Dt->Prop
 | int (i:Int):EC (.int i)
 | tup {ds:List Dt}:(∀d∈ds,EC d)->EC (.tup ds)
theorem EC.one(n:EC d): ∀{e:Dt} {v:V},EC e->Rep M H v d->Rep M H v e->d=e:=by
 induction n with
 | int i=>
  intro e v n2 r1 r2;cases r1.ofInt;cases n2 with
  | int j=>cases r2;rfl
  | tup h=>cases r2
 | @tup ds h ih=>
  intro e v n2 r1 r2;obtain⟨a,xs,rfl,h1,_,rr⟩:=r1.bN;cases n2 with
  | int j=>cases r2
  | @tup es h'=>
   obtain⟨a',Pb,e1,pC,_,Ua⟩:=r2.bN;cases e1;rw[h1] at pC;cases pC;have ll:ds.length=es.length:=rr.1.symm.trans Ua.1;rw[show ds=es from af0 ll fun i g1 g2=>ih _ (ad9 g1) (h' _ (ad9 g2)) (rr.2 i _ _ (Zs (by rw[rr.1];exact g1)) (Zs g1)) (Ua.2 i _ _ (Zs (by rw[rr.1];exact g1)) (Zs g2))]
end LD
namespace L2
open PySem PySem.Spec PyProof.Rows
section
variable{X:Cx}{pins:List (Addr × Obj)}{σ:St}{H:Hp}{s:Shared}
theorem Inv.tabAt(I:Inv X pins σ H s)(hx:x∈bb)(ht:PySem.W.tabIn X.K x=some (c,P)):
  ∃ps es,H P=some (.uE ps)/\ps[0]?=some (.str (hV x) 0)/\s.heap.get? P=some (PySem.W.tabObj es)/\pV H ps es:=by
 obtain⟨ps,e1,e2⟩:=I.tab x hx c P ht;obtain⟨es,e3,e4⟩:=I.aT P _ e1;exact⟨ps,es,e1,e2,e3,e4⟩
structure j4(X:Cx)(x:Str)(params:Arguments)(body:Expr)(scope:Scope)(f c':Addr)(cb:List (Str × Addr))(pm rq:Value)(H:Hp)(h:Heap):Prop where
 fn:h.get? f=some (PySem.W.kla_obj "<lambda>" (hV x) params body scope cb pm c' rq)
 nf:H f=none
 Rb:f∉kR X.stack
 code: ∃oc vs t,H c'=some (.lZ oc (.own c'))/\oc.data= .fields vs/\vs[1]?=some (.str (hV x) t)
 c1: ∀y c,(y,c)∈cb->X.env.cells.lookup y=some c
 c2: ∀y,(y,NameKind.free)∈scope.names-> ∃c,(y,c)∈cb
theorem j4.cr(L:j4 X x params body scope f c' cb pm rq H h)(aT:gI P w H h):h.CodeRec (.ref c') (hV x):=by
 obtain⟨oc,vs,t,e1,e2,e3⟩:=L.code;obtain⟨e4,_⟩:=aT _ _ e1;exact⟨c',oc,vs,t,rfl,e4,e2,e3⟩
theorem j4.on(L:j4 X x params body scope f c' cb pm rq H h)(u:Un (kR X.stack) [] H H' h h'):j4 X x params body scope f c' cb pm rq H' h':=by
 obtain⟨oc,vs,t,e1,e2,e3⟩:=L.code;exact⟨u.keep _ _ L.fn L.nf L.Rb (by simp),u.free _ _ L.fn L.nf (by simp),L.Rb,⟨oc,vs,t,u.oF _ _ _ e1,e2,e3⟩,L.c1,L.c2⟩
theorem Inv.FU(I:Inv X pins σ H s)(h:s.heap.objs.size<=a):a∉kR X.stack:=fun hb=>by
 rcases ZR.mp (I.p8 a hb) with e | e
 . exact absurd (ZU I.lt (by rw[<-e];exact h)) (ab5 _)
 . exact I.MX h e
theorem Cd{scope:Scope}(I:Inv X pins σ H s)(hx:x∈bb)(ht:PySem.W.tabIn X.K x=some (c,P))(hC:PySem.W.codeHdIn X.K c P=true)(pB:X.env.code= .ref c)(hq:X.env.qual++("<lambda>":Str)=hV x)(Ct:defaultsOf params X.env=([],[]))(RJ: ∀y∈scope.names,y.2= .free->X.env.kindOf y.1=some .cell\/X.env.kindOf y.1=some .free)(k: ∀f c' cb pm rq s' H',Inv X pins σ H' s'->aC H H'->j4 X x params body scope f c' cb pm rq H' s'.heap->Q (.ref f) s'):wpAny M A (eval (.Lambda params body scope pos) X.env) Q E s:=by
 obtain⟨ps,es,e1,e2,e3,tk,e4⟩:=I.tabAt hx ht;have UI:PySem.W.CodeHd s.heap c P:=PySem.W.codeHd_of_K I.pf hC;obtain⟨cb,Es,c1,c2⟩:=eK (scope:=scope) (env:=X.env) fun y hy e=>I.ok.has y.1 (RJ y hy e);have hg:s.heap.Ns mainGlobals X.mg:=I.ok.mod.glob.keeps I.bk;obtain⟨bm,ob,b1,b2,b3,b4,b5,b6⟩:=I.ok.mod.bm;have OE:=I.bk _ _ b3;have WX:mainGlobals≠P:=fun q=>by
  obtain⟨o,HF,ep,e,hd,_⟩:=hg;rw[q,e3] at e;cases e;cases hd
 have NK:bm≠P:=fun q=>by
  rw[q,e3] at OE;cases OE;cases b4
 have W9:bm≠mainGlobals:=fun q=>by
  obtain⟨o,HF,ep,e,hd,_⟩:=hg;rw[q,e] at OE;cases OE;rw[hd] at b6;cases b6
 have hB:s.heap.BuiltinsAt X.mg P:=⟨bm,ob,b1,b2,W9,NK,OE,b4,b5,b6⟩
 refine PySem.W.kla_eval Ct ?_;rw[hq];cases hm:codeAmong pos es.toList with
 | none=>
  refine PySem.W.kla_makeFunction (mg:=X.mg) Es I.ok.glob hg pB UI e3 tk hm WX hB fun c' rq h' VP RB Ka dr RL Uw=>?_;obtain⟨c₂,oc,vs,t,z,Nr,hd,hv⟩:=RL;cases z;have Sh:P < s.heap.objs.size:=ZW e3;have W8:H c'=none:=I.aT.fresh Ka;have YF:c'≠P:=aj1 (ZU Sh Ka);have Xd: ∀b o,H b=some o->b=P->o= .uE ps:=fun b o e q=>by subst q;rw[e1] at e;cases e;rfl
  have hs:aC H (upd H c' (.lZ oc (.own c'))):=fun b o e=>by rw[ah (ai e W8)];exact e
  have Nm:s.heap.objs.size<=h'.objs.size:=ZZ Ka (Nat.le_of_lt dr);have RQ:gI X.prog X.w (upd H c' (.lZ oc (.own c'))) (h'.push (PySem.W.kla_obj "<lambda>" (hV x) params body scope cb ((X.mg "__name__").getD .none) c' rq)):=fun b o e=>by
   by_cases hb:b=c'
   . subst hb;rw[ag] at e;cases e;exact⟨Zv _ Nr,⟨oc,Zv _ Nr⟩⟩
   . rw[ah hb] at e;by_cases NK:b=P
     . have:=Xd b o e NK;subst this;subst NK;refine⟨_,Zv _ Uw,by rw[aa6];exact TriplesOk_snoc _ _ _ _ tk,fun pos' cv z=>?_⟩;rw[aa6] at z;have app: ∀(l:List Value),TriplesOk l->codeAmong pos' (l++ [rawInt pos.line,rawInt pos.col, .ref c'])=some cv->codeAmong pos' l=some cv\/cv= .ref c':=by
        intro l;fun_induction TriplesOk l with
        | case1=>
         intro _ z;simp only [List.nil_append,codeAmong,rawInt] at z;split at z
         . cases z;exact .inr rfl
         . cases z
        | case2 a' t' b' u' y' rest ih=>
         intro h z;simp only [List.cons_append,codeAmong] at z ⊢;split at z
         . rename_i hc;rw[if_pos hc];exact .inl z
         . rename_i hc;rw[if_neg hc];exact ih h z
        | case3 l h1 h2=>intro h;exact h.elim
       rcases app _ tk z with z | z
       . obtain⟨c3,V7,VJ,q3,t3,VW,f1,f2,f3⟩:=e4 pos' cv z;exact⟨c3,V7,VJ,q3,t3,VW,f1,hs _ _ f2,f3⟩
       . exact⟨c',oc,vs,hV x,t,0,z,ag,hd,hv,e2⟩
     . refine(I.aT b o e).qc (fun d v Cu q=>Zv _ (RB d v (fun y=>?_) q)) (fun d q=>hs _ _ q) (fun d xs q=>hs _ _ q) fun d o u q=>hs _ _ q;rcases Cu with rfl | Cu
       . exact NK y
       . rw[y,e1] at Cu;cases Cu
  have VN:Un X.fs [] H (upd H c' (.lZ oc (.own c'))) s.heap (h'.push (PySem.W.kla_obj "<lambda>" (hV x) params body scope cb ((X.mg "__name__").getD .none) c' rq)):=by
   have keep: ∀b o,s.heap.get? b=some o->H b=none->(h'.push (PySem.W.kla_obj "<lambda>" (hV x) params body scope cb ((X.mg "__name__").getD .none) c' rq)).get? b=some o:=fun b o q n=>Zv _ (RB b o (fun y=>by rw[y,e1] at n;cases n) q);have V5: ∀b o,s.heap.get? b=some o->b≠c':=fun b o q=>aa8 (ZU (ZW q) Ka);refine⟨fun b o q n _ _=>keep b o q n,fun b o q n _ _=>⟨o.slots,keep b o q n⟩,fun b o q n _=>by rw[ah (V5 b o q)];exact n,fun b o q _=>?_,fun b xs q=>hs _ _ q,fun b o u q=>hs _ _ q,fun b Ym q=>⟨#[],by rw[hs _ _ q];simp⟩⟩;by_cases hb:b=P
   . subst hb;exact⟨_,Zv _ Uw⟩
   . exact⟨o,Zv _ (RB b o hb q)⟩
  refine k h'.objs.size c' cb _ rq _ _ (I.un VN RQ) hs ⟨ZP _ rfl,?_,I.FU Nm,⟨oc,vs,t,ag,hd,hv⟩,c1,c2⟩;rw[ah (aj1 dr)];exact I.aT.fresh Nm
 | some cv=>
  obtain⟨c',oc,vs,q,t,t',f1,f2,f3,f4,f5⟩:=e4 pos cv hm;subst f1;rw[e2] at f5;cases f5;refine PySem.W.kla_makeFunctionHit (mg:=X.mg) Es I.ok.glob hg pB UI e3 tk hm hB fun rq h' VP hk hsz=>?_;have hn:H h'.objs.size=none:=I.aT.fresh hsz;refine k h'.objs.size c' cb _ rq _ _ (I.kept fun b o e=>Zv _ (hk b o e)) (aC.refl _) ⟨ZP _ rfl,hn,I.FU hsz,⟨oc,vs,t,f2,f3,f4⟩,c1,c2⟩
structure D6(X:Cx)(p:Str)(caps:List Str)(js:List Nat)(params:Arguments)(body:Expr)(scope:Scope):Prop where
 kind:scope.kind= .function
 co:scope.isCoroutine=false
 gen:scope.isGenerator=false
 BZ: ∀y∈scope.names,y.2≠ .cell
 par:scope.names.lookup p=some .local
 OA:js.map (fun j=>X.N[j]?)=caps.map some
 fr: ∀y∈caps,scope.names.lookup y=some .free
 EZ: ∀y∈scope.names,y.2= .free->X.env.kindOf y.1=some .cell\/X.env.kindOf y.1=some .free
 bind: ∀(x:Str) (cb:List (Str × Addr)) (pm bJ rq u:Value),bindArgs (PySem.W.kla_fn "<lambda>" x params body scope cb pm bJ rq) ⟨[u],[]⟩=pure [(p,u)]
noncomputable abbrev vb (x:Str) (scope:Scope) (L f c':Addr) (cb:List (Str × Addr)):Env:=PySem.W.envX (hV x) scope L f (.ref c') cb
noncomputable def tL(X:Cx)(A:Around)(N:List Str)(x:Str)(scope:Scope)(f c':Addr)(cb:List (Str × Addr))(s:Shared)(H:Hp):Cx:=
 {X with A:=A.deeper (vb x scope s.heap.objs.size f c' cb),N:=N,s₀:=s,H₀:=H,env:=vb x scope s.heap.objs.size f c' cb,outer:=X.stack,stack:=(vb x scope s.heap.objs.size f c' cb)::X.stack,ex:= [],fn:=fun _=>false,calm:=true,pn:= [],xe:=fun _ _=>False}
noncomputable def o9(js:List Nat)(σ:St)(v:V):St:=some v::js.map fun j=>(σ[j]?).join
theorem Ce{A:Around}(S:D6 X p caps js params body scope)(I:Inv X pins σ H s)(L:j4 X x params body scope f c' cb pm rq H s.heap)(hd:A.handled=none)(RZ:A.frames=some X.stack)(W6:A.depth < recursionLimit)(r:RelV v u)(hb:PE (tL X A (p::caps) x scope f c' cb s H) body te)(hq:te (o9 js σ v) H Q):
  wpAny (model X.prog X.w) A (call (.ref f) [u]) (fun r s'=> ∃v' H',Inv X pins σ H' s'/\RelV v' r/\Q v' H'/\j4 X x params body scope f c' cb pm rq H' s'.heap/\Un (kR X.stack) [] H H' s.heap s'.heap) (fun _ _=>False) s:=by
 refine wpAny_call (PySem.W.kla_callFunE W6 L.fn rfl S.co S.gen rfl (L.cr I.aT) ?_);rw[S.bind];refine ZD (wpAny_newFunctionEnv S.BZ (fun y hy=>by rw[ZM.mp hy];exact S.par) (fun h₁ Em Lz=>⟨?_,?_⟩) S.kind)
 . exact I.nolimit.fresh _ Lz
 have xq: ∀b o,s.heap.get? b=some o->h₁.get? b=some o:=fun b o e=>Lz.extBut b o (aa8 (ZW e)) (Zv _ e);have ub: ∀y,scope.names.lookup y=some .free-> ∃d,cb.lookup y=some d:=fun y hy=>by
  obtain⟨d,hd⟩:=L.c2 y (ab0 hy);cases e:cb.lookup y with
  | some d=>exact⟨d,rfl⟩
  | none=>
   exfalso;have: ∀{l:List (Str × Addr)},(y,d)∈l->l.lookup y≠none:=fun{l}=>by
    induction l with
    | nil=>intro h;simp at h
    | cons q r ih=>
     intro h;obtain⟨k,w⟩:=q;rw[aa9];cases hb:y==k with
     | true=>simp
     | false=>
      rcases ZR.mp h with z | z
      . cases z;simp at hb
      . exact ih z
   exact this hd e
 have cx: ∀y d,cb.lookup y=some d->X.env.cells.lookup y=some d:=fun y d e=>L.c1 y d (ab0 e);have I1:Inv (tL X A (p::caps) x scope f c' cb s H) [] (o9 js σ v) H {s with heap:=h₁,toks:=s.toks+ [(p,u)].length}:=by
  refine⟨⟨I.ok.mod,S.kind,rfl,rfl,Zx _,fun y z c e1 e2=>I.ok.inj y z c (cx y c e1) (cx z c e2),fun y hy=>?_,fun y c h _=>absurd h (by simp [tL]),fun _=>hd,Around.frames_deeper RZ,.inr ⟨rfl,rfl⟩,fun b hb=>absurd (show b∈([]:List Addr) from hb) (by simp),fun b o e=>⟨I.bk b o e,(I.bs b o e).2⟩,ZZ I.ok.GR I.sz,fun b _ _ hb=>absurd (show b∈([]:List Addr) from hb) (by simp),fun b hb=>absurd (show b∈([]:List Addr) from hb) (by simp),I.stack,I.p9,I.tab⟩,
   rfl,I.bare,Un.kept xq,⟨_,Em,fun i y w e1 e2 e3=>?_⟩,fun y c e=>?_,I.aT.fresh (Zx _),fun y c e=>I.gq y c (cx y c e),fun q hq=>absurd (show q∈([]:List (Addr × Obj)) from hq) (by simp),I.aT.kept xq,?_⟩
  . rcases hy with hy | hy
    . exact absurd rfl (S.BZ _ (ab0 (show scope.names.lookup y=some .cell from hy)))
    . exact ub y hy
  . cases i with
    | zero=>
     have Kx:p=y:=Option.some.inj e1;have zr:v=w:=Option.some.inj (Option.some.inj e2);subst Kx;subst zr;exact⟨u,r,.inl ⟨S.par,by simp [List.lookup]⟩⟩
    | succ i=>
     have Kx:caps[i]?=some y:=e1;have zr:(js.map fun j=>(σ[j]?).join)[i]?=some (some w):=e2;rw[Zy] at zr;cases hj:js[i]? with
     | none=>rw[hj] at zr;cases zr
     | some j=>
      rw[hj] at zr;have qX:(σ[j]?).join=some w:=by simpa using zr
      have hσ:σ[j]?=some (some w):=by
       cases q:σ[j]? with
       | none=>rw[q] at qX;cases qX
       | some o=>rw[q] at qX;simpa using qX
      have hX:X.N[j]?=some y:=by
       have:=ab9 (fun l=>l[i]?) S.OA;simp only [Zy,hj,Kx,ak8] at this;exact Option.some.inj this
      have iN:=S.fr y (ZY Kx);have hk:=S.EZ _ (ab0 iN) rfl;obtain⟨m,_,hl⟩:=I.loc;obtain⟨u',ru,lk⟩:=hl j y w hX hσ (by rcases hk with q | q;exact .inr (.inl q);exact .inr (.inr q));refine⟨u',ru,?_⟩;rcases lk with ⟨Er,_⟩ | ⟨_,c,Gb,kQ⟩
      . rcases hk with q | q <;> rw[q] at Er <;> cases Er
      . obtain⟨d,Cu⟩:=ub y iN;have:=cx y d Cu;rw[Gb] at this;cases this;exact .inr ⟨.inr iN,c,Cu,kQ.keeps xq⟩
  . obtain⟨w,q⟩:=I.cell y c (cx y c e);exact⟨w,q.keeps xq⟩
  . show(o9 js σ v).length=(p::caps).length;unfold o9;have:=ab9 List.length S.OA;simp only [Zu] at this;simp [this]
 refine PySem.W.kla_codeExpr (Z6 (hb [] _ _ H Q I1 hq) (fun w s' he=>?_) fun e s' hF=>hF.elim);obtain⟨v',H',I2,rv,q⟩:=he;have un:Un (kR X.stack) [] H H' s.heap s'.heap:=I2.base;exact⟨v',H',I.xW I2.os un I2.aT I2.bare (fun b z=>absurd z (by simp)),rv,q,L.on un,un⟩
end
end L2
namespace LD
open PySem PySem.Spec L2 LB PyProof.Rows
theorem FY{js:List Nat}(E:az Ws M α H σ δ)(r:Rep M H v d):az [] M (List.replicate (1+js.length) []) H (o9 js σ v) (.im d::js.map fun j=>seen (δ.getD j .no)):=by
 have E1:=jW (nt:=1) (js:=js) E;have E2:=E1.gm (i:=0) r ⟨.no,rfl,rfl⟩;have e1:(List.replicate (1+js.length) ([]:List Addr)).set 0 []=List.replicate (1+js.length) []:=by
  rw[Nat.add_comm,List.replicate_succ];rfl
 rw[e1] at E2;exact E2
end LD
namespace L2
open PySem PySem.Spec PyProof.Rows fL
theorem Inv.taken{X:Cx}{pins:List (Addr × Obj)}{σ:St}{H:Hp}{s:Shared}{h':Heap}{t':Nat}{ch:List Addr}(I:Inv X pins σ H s)(hc: ∀b∈ch,cV X pins H b)(hT:T∈ch)(k: ∀b u,b∉ch->s.heap.get? b=some u->h'.get? b=some u)(new:a0 X.prog X.w (upd H T o) h' T o):Inv X pins σ (upd H T o) {s with heap:=h',toks:=t'}:=by
 have nT:H T=none:=(hc T hT).1;have yw: ∀b u,H b=some u->b∉ch:=fun b u e z=>by rw[(hc b z).1] at e;cases e
 refine I.step (g':=s.gens) (d':=s.drawn) (ch:=ch) (fun b hb=>?_) (fun b u _ _ hn e _=>k b u hn e) (fun b u _ _ hn e _=>⟨u.slots,k b u hn e⟩) (fun b u hn e n=>by rw[ah (fun z=>hn (by rw[z];exact hT))];exact n)
  (fun b u hn e=>⟨u,k b u hn e⟩) (fun b xs e=>by rw[ah (ai e nT)];exact e) (fun b ob u e=>by rw[ah (ai e nT)];exact e) (fun b ps e=>⟨#[],by rw[ah (ai e nT),e];simp⟩) (fun m hm=>?_) (fun b u e=>?_) I.bare
 . obtain⟨f0,f1,f2,f3,f4,f5⟩:=hc b hb;exact⟨f3,f1,f4,f5⟩
 . obtain⟨ob,es,ep,ho,r⟩:=hm;exact⟨ob,es,ep,k _ ob (fun z=>(hc _ z).2.1 rfl) ho,r⟩
 . by_cases hb:b=T
   . subst hb;rw[ag] at e;cases e;exact new
   . rw[ah hb] at e;refine(I.aT b u e).qc (fun c v Ew q=>k c v ?_ q) (fun c q=>by rw[ah (ai q nT)];exact q) fun c xs q=>by rw[ah (ai q nT)];exact q
     rcases Ew with z | z
     . rw[z];exact yw b u e
     . exact yw c _ z
inductive jq(js:List Nat)(m:Nat)(te:TE)(σ:St)(Q:V->Hp->Prop)(v:V)(H1:Hp):Prop
 | mk (l:Addr) (xs:List V) (KP:Nat->Hp->V->Prop) (K:Nat->Int) (h1:v= .ref l) (h2:H1 l=some (.lst xs)) (h3:xs.length<=100000) (h4: ∀i x H2 H3,aC H2 H3->KP i H2 x->KP i H3 x)
  (h5: ∀i x,xs[i]?=some x-> ∀H2,aC H1 H2->te (o9 js σ x) H2 fun r H3=>KP i H3 r/\aC H2 H3)
  (h6: ∀i H2 y,KP i H2 y-> ∃t n ys,y= .ref t/\H2 t=some (.tup (.int n::ys)))
  (h7: ∀i j H2 x y,KP i H2 x->KP j H2 y->zY H2 (m+1) x y (decide (K i < K j))) (h8: ∀i j H2 x,KP i H2 x->KP j H2 x->K i=K j)
  (h9: ∀(p:Addr) (q:List Nat) H2,aC H1 H2->H2 p=none->q.Perm (List.range xs.length)->q.Pairwise (fun i j=>K i<=K j)->Q (.ref p) (upd H2 p (.lst (q.map fun i=>xs.getD i .aD))))
def AH(js:List Nat)(m:Nat)(ta te:TE):TE:=fun σ H Q=>ta σ H fun v H1=>jq js m te σ Q v H1
section
variable{X:Cx}{x p:Str}{c P:Addr}{caps:List Str}{js:List Nat}{params:Arguments}{e body:Expr}{scope:Scope}{np lp kp pos:Pos}{k m:Nat}{ta te:TE}
theorem uS(ha:PE X e ta)(S:D6 X p caps js params body scope)(hc:X.calm=true)(hr:bD k X.A)(hu:X.A.units+2+m < cLine)(hx:x∈bb)(ht:PySem.W.tabIn X.K x=some (c,P))(hC:PySem.W.codeHdIn X.K c P=true)
  (pB:X.env.code= .ref c) (hq:X.env.qual++("<lambda>":Str)=hV x) (Ct:defaultsOf params X.env=([],[]))
  (hb: ∀A f c' cb s H,PE (tL X A (p::caps) x scope f c' cb s H) body te) (hg:Gl X "sorted") (hm:X.mg "sorted"=none)
  (qR:starEach [e] X.env=(false,eval e X.env)::starEach [] X.env:=by rfl):
  PE X (.Call (.Name "sorted" np) [e] [⟨some "key",.Lambda params body scope lp,kp⟩] pos) (AH js m ta te):=by
 intro pins s σ H Q I h;refine ag5 (eC (u:= .builtin "sorted") I hg hm (by first | rfl | kernel_rfl) ?_);refine callWith_kw (env:=X.env) ?_ (by rw[qR];rfl) (by rw[qR];rfl);refine aU ((af ha aG qR) pos pins s σ H (fun vs H1=> ∃v,vs= [v]/\jq js m te σ Q v H1) I ?_) fun us s1 he=>?_
 . have : (fun (v : V) H1 => p7 σ H1 fun xs H2 => ∃ v', v :: xs = [v'] /\ jq js m te σ Q v' H2) = (fun (v : V) H1 => jq js m te σ Q v H1) := by
     funext v H1
     unfold p7;refine propext ⟨fun z=>?_,fun z=>⟨v,rfl,z⟩⟩;obtain⟨v',e1,z⟩:=z;cases e1;exact z
   unfold kG;rw[this];exact h
 obtain⟨vs,H1,I1,r1,v,e1,l,xs,KP,K,e2,hl,h3,h4,RG,h6,h7,h8,h9⟩:=he;subst e1;subst e2;obtain⟨u,rfl,ru⟩:=vals1 r1;obtain rfl:u=Value.ref l:=ru;refine kws_cons (Cd I1 hx ht hC pB hq Ct S.EZ fun f c' cb pm rq s2 H2 I2 jf L2=>?_);refine kws_nil ?_;show wpAny _ _ (call (.builtin "sorted") [.ref l] [(Str.ofString "key",.ref f)]) _ _ s2;have Sj:H2 l=some (.lst xs):=jf _ _ hl;obtain⟨_,ao,n,rv,eo⟩:=I2.aT l _ Sj;have hlen:ao.length=xs.length:=rv.length.symm;have gE: ∀b H',s2.heap.objs.size<=b->H' b=none->cV X pins H' b:=fun b H' hb hn=>I2.gE hb hn;have Q7: ∀b,s2.heap.objs.size<=b->b∉kR X.stack:=fun b hb=>I2.FU hb;have Xo: ∀b,s2.heap.objs.size<=b->f≠b:=fun b hb z=>absurd (ZW L2.fn) (Nat.not_lt.mpr (by rw[z];exact hb));refine kH (vs:=ao) (K:=K)
  (fun ks s'=>(∃H' kv,Inv X pins σ H' s'/\aC H2 H'/\(∀b,s2.heap.objs.size<=b->b < s2.heap.objs.size+4->H' b=none)/\Vals kv ks/\(∀i y,kv[i]?=some y->KP i H' y)/\j4 X x params body scope f c' cb pm rq H' s'.heap)/\ ∀b,s2.heap.objs.size<=b->b < s2.heap.objs.size+4-> ∃o,s'.heap.get? b=some o)
  ⟨_,eo,rfl,_,rfl⟩ (by rw[hlen];exact h3) ?_ ?_ ?_ ?_ ?_ ?_
 . intro h' hk hex;exact⟨⟨H2,[],I2.kept (t':=s2.toks) hk,aC.refl _,fun b hb _=>I2.aT.fresh hb,.nil,(fun i y z=>by cases z),L2.on (Un.kept hk)⟩,hex⟩
 . rintro ks s' h' ⟨⟨H',kv,I',kP,hf,rk,nA,L'⟩,hex⟩ hk R9
   have n3:=ak4 s2.heap.objs.size 3;have l3:s2.heap.objs.size+3 < s2.heap.objs.size+4:=ag2 _;obtain⟨h0,h1,h2,h3,h4,h5⟩:=gE _ H' n3 (hf _ n3 l3);refine⟨⟨H',kv,I'.turned (t':=s'.toks) (it:=s2.heap.objs.size+3) (fun c o hc e=>hk c o hc e) h0 h1 h3 h4 h5,kP,hf,rk,nA,⟨hk _ _ (Xo _ n3) L'.fn,L'.nf,L'.Rb,L'.code,L'.c1,L'.c2⟩⟩,fun d hd hd2=>?_⟩;by_cases i8:d=s2.heap.objs.size+3
   . rw[i8];exact R9
   . obtain⟨o,e⟩:=hex d hd hd2;exact⟨o,hk d o i8 e⟩
 . rintro v ks s' dr hv ⟨⟨H',kv,I',kP,hf,rk,nA,L'⟩,hex⟩
   have lx:ks.length < xs.length:=by rw[<-hlen];exact dr
   obtain⟨u,Hw,IY⟩:=rv.get (Zs lx);rw[hv] at Hw;cases Hw;refine Z6 (Ce S I' L' (I2.ok.hd hc) I2.ok.frames hr.depth IY (hb _ _ _ _ _ _) (RG ks.length _ (Zs lx) H' fun b o e=>kP _ _ (jf _ _ e))) (fun r rX z=>?_) fun _ _ z=>z;obtain⟨v',TR,O0,IY,⟨e1,Co⟩,X1,un⟩:=z;refine⟨⟨⟨TR,kv++ [v'],O0,fun b o e=>Co _ _ (kP _ _ e),fun b hb uv=>?_,?_,fun i y hy=>?_,X1⟩,fun b hb uv=>?_⟩,fun b o hb uv e=>?_⟩
   . obtain⟨o,e⟩:=hex b hb uv;exact un.free b o e (hf b hb uv) (by simp)
   . exact rk.append (.cons IY .nil)
   . have lk:=rk.length;by_cases hi:i < kv.length
     . rw[Z3 hi] at hy;exact h4 _ _ _ _ Co (nA i y hy)
     . rw[Z8 (by omega)] at hy;have:i - kv.length=0:=by
        have:=(Zw.mp hy).1;simpa using this
       rw[this] at hy;cases hy;have:i=ks.length:=by omega
       rw[this];exact e1
   . obtain⟨o,e⟩:=hex b hb uv;exact un.there b o e (by simp)
   . exact un.keep b o e (hf b hb uv) (Q7 b hb) (by simp)
 . rintro ks s' ⟨⟨H',kv,I',kP,hf,rk,nA,L'⟩,hex⟩ Nw i j hi hj e1 _
   have lk:=rk.length;have li:i < kv.length:=by omega
   have lj:j < kv.length:=by omega
   obtain⟨u1,g1,r1⟩:=rk.get (Zs li);obtain⟨u2,g2,r2⟩:=rk.get (Zs lj);rw[show ks.getD i Value.none=u1 by rw[List.getD,g1];rfl,show ks.getD j Value.none=u2 by rw[List.getD,g2];rfl] at e1;subst e1;have p1:=nA i _ (Zs li);have p2:=nA j _ (Zs lj);obtain⟨t1,n1,y1,e1,_⟩:=h6 _ _ _ p1;obtain⟨t2,n2,y2,e2,_⟩:=h6 _ _ _ p2;rw[e1] at r1 p1;rw[e2] at r2 p2;cases r1;cases r2;exact h8 i j H' _ p1 p2
 . rintro ks s' ⟨⟨H',kv,I',kP,hf,rk,nA,L'⟩,hex⟩ Nw h2
   refine yb I' (k:=m) (by show X.A.units+1+1+m < cLine;omega) rk (by omega) (fun y hy=>?_) fun i j a b ga gb=>h7 i j H' _ _ (nA i a ga) (nA j b gb);obtain⟨i,hi⟩:=List.getElem?_of_mem hy;exact h6 i H' y (nA i y hi)
 . rintro ks s' p h' ⟨⟨H',kv,I',kP,hf,rk,nA,L'⟩,hex⟩ Nw hp hu Cp ⟨e,he⟩
   have n1:=al3 s2.heap.objs.size;have n3:=ak4 s2.heap.objs.size 3;have f1:=hf _ n1 (by show s2.heap.objs.size+1 < s2.heap.objs.size+4;omega);have f3:=hf _ n3 (ag2 _);have dq:p.toList.Perm (List.range xs.length):=by have:=ad5.mp hp.pm;rw[<-hlen];simpa using this
   have lt: ∀i∈p.toList,i < xs.length:=fun i hi=>by have:=dq.mem_iff.mp hi;simpa using this
   have so:p.toList.Pairwise (fun i j=>K i<=K j):=by
    rw[af8];intro i j hi hj cj;rw[ZQ,hp.sz,hlen] at hi hj;have:=hu i j (by omega) (by omega);have gi:p.getD i 0=p[i]'(by rw[hp.sz];omega):=by simp [Array.getD,hp.sz,hlen,hi]
    have gj:p.getD j 0=p[j]'(by rw[hp.sz];omega):=by simp [Array.getD,hp.sz,hlen,hj]
    unfold fL.kp at this;rw[gi,gj] at this;simpa using this
   refine⟨.ref (s2.heap.objs.size+1),_,I'.taken (t':=s'.toks) (h':=h') (ch:= [s2.heap.objs.size+3,s2.heap.objs.size+1]) (T:=s2.heap.objs.size+1) (o:= .lst (p.toList.map fun i=>xs.getD i .aD)) (fun b hb=>?_) (by simp) (fun b o hb q=>Cp b o (fun z=>hb (by simp [z])) (fun z=>hb (by simp [z])) q) ?_,rfl,h9 _ _ H' (fun b o e=>kP _ _ (jf _ _ e)) f1 dq so⟩
   . rcases ZR.mp hb with rfl | hb
     . exact gE _ _ n3 f3
     . rcases ZR.mp hb with rfl | hb
       . exact gE _ _ n1 f1
       . cases hb
   . refine⟨by rw[Zu,dq.length_eq,Z1,ag6];omega,p.toList.map (fun i=>ao.getD i Value.none),e,?_,he⟩;refine mz fun i hi=>?_;have li:=lt i hi;obtain⟨u1,g1,r1⟩:=rv.get (Zs li);rw[show ao.getD i Value.none=u1 by rw[List.getD,g1];rfl,show xs.getD i .aD=xs[i] by simp [List.getD,li]];exact r1
end
end L2
namespace LD
open PySem PySem.Spec L2 LB PyProof.Rows fL
section
variable{X:Cx}{x p:Str}{c P:Addr}{caps:List Str}{js:List Nat}{params:Arguments}{e body:Expr}{scope:Scope}{np lp kp pos:Pos}{k m:Nat}{ta te:bt}
inductive Dl(js:List Nat)(m:Nat)(te:bt)(Q:Dt->List Sl->Prop)(d:Dt)(δ1:List Sl):Prop
 | mk (es:List Dt) (kd:Dt->Dt) (key:Dt->Int) (h1:d= .lst es) (h2:es.length<=100000) (h3: ∀d'∈es,te (.im d'::js.map fun j=>seen (δ1.getD j .no)) fun r _=>r=kd d')
  (h4: ∀d'∈es,EC (kd d')/\ ∃n rs,kd d'= .tup (.int n::rs)) (h5: ∀d'∈es,∀d2∈es,GX (m+1) (kd d') (kd d2)/\zR (m+1) (kd d') (kd d2)=decide (key (kd d') < key (kd d2)))
  (h6: ∀ms:List Dt,ms.Perm es->ms.Pairwise (fun a b=>key (kd a)<=key (kd b))->Q (.lst ms) δ1)
def Dm(js:List Nat)(m:Nat)(ta te:bt):bt:=fun δ Q=>ta δ fun d δ1=>Dl js m te Q d δ1
theorem uM: ∀σ H Q,lE (Dm js m ta te) σ H Q->AH js m (lE ta) (lE te) σ H Q:=fun σ H Q zz=>by
 obtain⟨W,M,α,δ,Qd,E,q,k⟩:=zz;refine⟨W,M,α,δ,_,E,q,fun d δ1 H1 v ck E1 c1 r1=>?_⟩;obtain⟨es,kd,key,rfl,h2,h3,h4,h5,h6⟩:=ck;obtain⟨a,xs,rfl,ha,nM,rs⟩:=r1.cO;have aY:(List.replicate (1+js.length) ([]:List Addr)).flatten= []:=by simp
 have dat: ∀{i:Nat},i < es.length->es.getD i .aD∈es/\es[i]?=some (es.getD i .aD):=fun{i} hi=>by
  have:es.getD i .aD=es[i]:=by simp [List.getD,hi]
  rw[this];exact⟨ad9 hi,Zs hi⟩
 refine⟨a,xs,fun i H y=>i < es.length/\Rep M H y (kd (es.getD i .aD)),fun i=>key (kd (es.getD i .aD)),rfl,ha,by rw[rs.1];exact h2,fun i y H2 H3 s zz=>⟨zz.1,zz.2.same s⟩,fun i x' zT H2 s2=>?_,fun i H2 y zz=>?_,fun i j H2 y z ck dS=>?_,fun i j H2 y ck dS=>?_,fun p q' H2 s2 hp pm pw=>?_⟩
 . have hi:i < es.length:=by rw[<-rs.1];exact(Zw.mp zT).1
   obtain⟨dm,dg⟩:=dat hi;have rx:=rs.2 i x' _ zT dg;refine⟨[],M,_,_,_,FY (E1.same s2) (rx.same s2),h3 _ dm,fun d2 δ2 H3 v2 e2 E2 c2 r2=>?_⟩;rw[e2] at r2;exact⟨⟨hi,r2⟩,fun b o e=>c2 b o e (by rw[aY];exact Zz)⟩
 . obtain⟨hi,r⟩:=zz;obtain⟨_,n,l,e1⟩:=h4 _ (dat hi).1;rw[e1] at r;obtain⟨t,ys,rfl,ht,_,ry⟩:=r.bN;obtain⟨y,QA,rfl,r2,_⟩:=ry.aQ;cases r2.ofInt;exact⟨t,n,QA,rfl,ht⟩
 . obtain⟨sh,lt⟩:=h5 _ (dat ck.1).1 _ (dat dS.1).1;show zY H2 (m+1) y z (decide (key (kd (es.getD i .aD)) < key (kd (es.getD j .aD))));rw[<-lt];exact B8 sh ck.2 dS.2
 . show key (kd (es.getD i .aD))=key (kd (es.getD j .aD));rw[(h4 _ (dat ck.1).1).1.one (h4 _ (dat dS.1).1).1 ck.2 dS.2]
 . have s:aC H2 (upd H2 p (.lst (q'.map fun i=>xs.getD i .aD))):=aC.new hp;have Q0:(q'.map fun i=>es.getD i .aD).Perm es:=by
    have:=pm.map fun i=>es.getD i .aD;rw[rs.1] at this;refine this.trans (List.Perm.of_eq ?_);apply af0
    . simp
    . intro i g1 g2;simp [List.getD,g2]
   refine k _ _ _ _ (h6 _ Q0 (List.pairwise_map.mpr pw)) ((E1.same s2).same s) ((c1.tr (cW.of s2)).tr (cW.of s)) (Rep.oY ag ((E1.same s2).fresh hp) ⟨by rw[Zu,Zu],fun i x d hx hd=>?_⟩);rw[Zy] at hx hd;cases hi:q'[i]? with
   | none=>rw[hi] at hx;cases hx
   | some j=>
    rw[hi] at hx hd;have lj:j < xs.length:=by have:=pm.mem_iff.mp (ZY hi);simpa using this
    have hz:xs[j]?=some (xs[j]):=Zs lj;obtain⟨_,dg⟩:=dat (i:=j) (by rw[<-rs.1];exact lj);rw[ak8] at hd;cases hd;rw[ak8,show xs.getD j .aD=xs[j] by simp [List.getD,lj]] at hx;cases hx;exact((rs.2 j _ _ hz dg).same s2).same s
theorem zt(ha:Ev X e ta)(S:D6 X p caps js params body scope)(hc:X.calm=true)(hr:bD k X.A)(hu:X.A.units+2+m < cLine)(hx:x∈bb)(ht:PySem.W.tabIn X.K x=some (c,P))(hC:PySem.W.codeHdIn X.K c P=true)
  (pB:X.env.code= .ref c) (hq:X.env.qual++("<lambda>":Str)=hV x) (Ct:defaultsOf params X.env=([],[]))
  (hb: ∀A f c' cb s H,Ev (tL X A (p::caps) x scope f c' cb s H) body te) (hg:Gl X "sorted") (hm:X.mg "sorted"=none)
  (qR:starEach [e] X.env=(false,eval e X.env)::starEach [] X.env:=by rfl):
  Ev X (.Call (.Name "sorted" np) [e] [⟨some "key",.Lambda params body scope lp,kp⟩] pos) (Dm js m ta te):=
 PE.imp (uS ha S hc hr hu hx ht hC pB hq Ct hb hg hm qR) uM
end
end LD
namespace LD
open PySem PySem.Spec L2 LB PyProof.Rows LW
def rO(M:Addr->Prop)(H:Hp)(vs:List V)(ss:List Sl):Prop:=vs.length=ss.length/\ ∀(i:Nat) v s,vs[i]?=some v->ss[i]?=some s->rP M H (some v) s []/\s.bU=false
theorem rO.nil:rO M H [] []:=⟨rfl,fun i v s h=>by simp at h⟩
theorem rO.cons{M:Addr->Prop}{H:Hp}{v:V}{s:Sl}{vs:List V}{ss:List Sl}(h:rP M H (some v) s [])(nb:s.bU=false)(r:rO M H vs ss):rO M H (v::vs) (s::ss):=
 ⟨by rw[ZG,ZG,r.1],fun i y t h1 h2=>by
  cases i with
  | zero=>cases h1;cases h2;exact⟨h,nb⟩
  | succ j=>exact r.2 j y t (by simpa using h1) (by simpa using h2)⟩
abbrev DS:=List Sl->(Dt->Prop)->Prop
def spS(S:DS):Sp:=fun vs H Q _=> ∃M ss Qd,j3 M H/\rO M H vs ss/\S ss Qd/\ ∀r H' v',Qd r->aC H H'->Rep M H' v' r->Q v' H'
theorem vy(al:j3 M H)(r:rO M H vs ss)(w: ∀W∈Ws,PQ W M (List.replicate (ss.length+n) []) H (ss++List.replicate n .no)):
  az Ws M (List.replicate (ss.length+n) []) H (vs.map some++List.replicate n none) (ss++List.replicate n .no):=by
 have aY:(List.replicate (ss.length+n) ([]:List Addr)).flatten= []:=by simp
 refine⟨by simp [r.1],by simp,fun i s h=>?_,by rw[aY];exact ag8,fun a ha=>by rw[aY] at ha;exact absurd ha Zz,al,w⟩;have hi:=(Zw.mp h).1;rw[ZK,ae4] at hi;have ha:(List.replicate (ss.length+n) ([]:List Addr))[i]?=some []:=by rw[ZX,if_pos hi]
 by_cases hl:i < ss.length
 . rw[Z3 hl] at h;have hv:vs[i]?=some (vs[i]'(by rw[r.1];exact hl)):=Zs _;exact⟨_,[],by rw[Z3 (by rw[Zu,r.1];exact hl),Zy,hv];rfl,ha,(r.2 i _ s hv h).1⟩
 . rw[Z8 (by omega),ZX] at h;split at h
   . rename_i hn;cases h;exact⟨none,[],by rw[Z8 (by rw[Zu,r.1];omega),ZX,if_pos (by rw[Zu,r.1];exact hn)],ha,rfl⟩
   . cases h
theorem ym:PQ ⟨H,fun _=>False,M,M,none⟩ M (List.replicate k []) H δ:=by
 have aY:(List.replicate k ([]:List Addr)).flatten= []:=by simp
 refine⟨fun b o e _=>e,fun b n=>n,fun a ha=>by rw[aY] at ha;exact absurd ha Zz,fun a h=>h,fun a h=> .inl h,fun d c e=>(by cases e),fun j s as h1 h2 _ a ha=>?_⟩;rw[ZX] at h2;split at h2
 . cases h2;exact absurd ha Zz
 . cases h2
section
variable{P:Program}{w:World}{K:PySem.W.Frag}{mg:Str->Option Value}{base:Heap}
theorem AN{N ps:List Str}(r:rO M H vs ss)(l:ss.length=ps.length):L2.start N vs=vs.map some++List.replicate (N.length - ps.length) none:=by unfold L2.start;rw[r.1,l]
theorem PJ {x qual : Str} {st : Stmt} {k : Nat} (F : fA K x qual st f fd) (sc : aH N ps (ab st)) (len : ∀ ss Qd, S ss Qd -> ss.length = ps.length) (fH : ∀ (bJ : Value) (A : Around) (outer : List Env) (s : Shared) (H : Hp) (E : XK), bD k (A.deeper (envOfC qual (ab st) s.heap.objs.size f bJ)) ->
   ∃T,zL (lC di P w K mg base N qual (ab st) f bJ A outer s H E).BW (cz st) T/\ ∀ss Qd,S ss Qd->T {nx:=fun _=>Qd .aD,rt:=fun d _=>Qd d} (ss++List.replicate (N.length - ps.length) .no)):
  aX P w K mg base di (k+1) f fd ps (spS S):=by
 refine F.ok sc (fun vs H Q E h=>?_) (fun bJ A outer s H vs Q E hr h=>?_)
 . obtain⟨M,ss,Qd,al,r,q,_⟩:=h;rw[r.1];exact len ss Qd q
 . obtain⟨M,ss,Qd,al,r,q,kk⟩:=h;obtain⟨T,hT,hq⟩:=fH bJ A outer s H E hr;refine⟨lS T,hT,[⟨H,fun _=>False,M,M,none⟩],M,List.replicate (ss.length+(N.length - ps.length)) [],ss++List.replicate (N.length - ps.length) .no,_,?_,?_,hq ss Qd q⟩
   . rw[AN r (len ss Qd q)];exact vy al r fun W hW=>by rw[ZM.mp hW];exact ym
   . have same : ∀ {M' α' H' σ' δ'}, az [⟨H, fun _ => False, M, M, none⟩] M' α' H' σ' δ' -> aC H H' /\ ∀ a, M a -> M' a := fun E' => by
       have k:=E'.w _ (ZM.mpr rfl);exact⟨fun b o e=>k.bs b o e (fun z=>z),k.m0⟩
     refine⟨fun M' α' H' σ' δ' E' q=>kk _ _ _ q (same E').1 .aD,fun M' α' H' σ' δ' v d E' r' q=>kk _ _ _ q (same E').1 (r'.mono fun a o e n=>⟨e,fun z=>n ((same E').2 a z)⟩),fun _ _ _ _ _ _ z=>z.elim,fun _ _ _ _ _ _ z=>z.elim⟩
end
end LD
namespace L2
open PySem PySem.Spec PyProof.Rows
def iI(P:Program)(w:World)(K:PySem.W.Frag)(mg:Str->Option Value)(base:Heap)(f:Addr)(k:Nat)(ps:List Str)(sp:Sp):Prop:=
 ∃fd,PySem.W.keepIn K (.ref f)=true/\Binds K fd ps []/\aX P w K mg base di k f fd ps sp
section
variable{X:Cx}{f:Addr}{k i:Nat}{ps:List Str}{sp:Sp}{x:Str}{p pos:Pos}{e:Expr}{es:List Expr}{t:TA}
def IK(f:Addr)(sp:Sp)(i:Nat)(t:TA):TE:=fun σ H Q=>σ[i]?=some (some (.ref f))/\t σ H fun vs H1=>sp vs H1 Q E0
theorem BE(h:iI X.prog X.w X.K X.mg X.base f k ps sp)(hr:bD k X.A)(hn:PE X (.Name x p) (gy i))(ha:PA X (e::es) t)
  (he:starEach (e::es) X.env=(false,eval e X.env)::starEach es X.env:=by rfl) (dq:(backTo pos (starEach es X.env)).any (·.1)=false:=by rfl):
  PE X (.Call (.Name x p) (e::es) [] pos) (IK f sp i t):=by
 obtain⟨fd,hk,hb,F⟩:=h;intro pins s σ H Q I hh;obtain⟨hσ,q⟩:=hh;refine ag5 (aU (hn pins s σ H (fun v H1=>v= .ref f/\t σ H1 fun vs H2=>sp vs H2 Q E0) I ⟨_,hσ,rfl,q⟩) fun u s1 zz=>?_);obtain⟨v,H1,I1,rv,ev,q1⟩:=zz;subst ev;obtain rfl:u=Value.ref f:=rv;refine PySem.W.callWith_K (h₀:=X.base) I.ok.mod.Pn hk (aU (ha pos pins s1 σ H1 _ I1 q1) fun us s2 dS=>?_) he dq;obtain⟨vs,H2,I2,r,q2⟩:=dS;refine⟨I2.pf,?_⟩;exact Ba (dvs:= []) (ds:= []) F hr hb .nil Hf I2 r (by rw[ab2];exact q2)
end
end L2
namespace LD
open PySem PySem.Spec L2 LB PyProof.Rows LW
abbrev Ed:=List Sl->(List Sl->List Sl->Prop)->Prop
inductive lW(t:Ed)(σ:L2.St)(H:Hp)(Q:List V->Hp->Prop):Prop
 | mk (W:List Wd) (M:Addr->Prop) (α:List (List Addr)) (δ:List Sl) (Qd:List Sl->List Sl->Prop) (h1:az W M α H σ δ) (h2:t δ Qd) (h3: ∀ss δ' H' vs,Qd ss δ'->az W M α H' σ δ'->cW α H H'->rO M H' vs ss->Q vs H')
abbrev Wv(X:Cx)(es:List Expr)(t:Ed):Prop:=PA X es (lW t)
section
variable{X:Cx}{e:Expr}{es:List Expr}{te:bt}{t:Ed}{tA:iG}{y x:Str}{yp p pos:Pos}{f:Addr}{k:Nat}{ps:List Str}{S:DS}{S1:DN}
def L3:Ed:=fun δ Q=>Q [] δ
def T1(te:bt)(t:Ed):Ed:=fun δ Q=>te δ fun d δ1=>t δ1 fun ss δ2=>Q (.im d::ss) δ2
def T3(f:Addr)(i:Nat)(t:Ed):Ed:=fun δ Q=>δ[i]?=some (.fn f)/\t δ fun ss δ2=>Q (.fn f::ss) δ2
def VI(f:Addr)(t:Ed):Ed:=fun δ Q=>t δ fun ss δ2=>Q (.fn f::ss) δ2
theorem sD:Wv X [] L3:=PA.imp aG fun σ H Q zz=>(by obtain⟨W,M,α,δ,Qd,E,q,k⟩:=zz;exact k _ _ _ _ q E cW.rf .nil)
theorem yo(he:Ev X e te)(hr:Wv X es t)(hs:starEach (e::es) X.env=(false,eval e X.env)::starEach es X.env:=by rfl):Wv X (e::es) (T1 te t):=PA.imp (af he hr hs) fun σ H Q zz=>(by
 obtain⟨W,M,α,δ,Qd,E,q,k⟩:=zz;exact⟨W,M,α,δ,_,E,q,fun d δ1 H1 v q1 E1 c1 r1=>⟨W,M,α,δ1,_,E1,q1,fun ss δ2 H2 vs q2 E2 c2 r2=>k _ _ _ _ q2 E2 (c1.tr c2) (.cons (s:= .im d) ⟨rfl,v,rfl,r1.chg E1 c2⟩ rfl r2)⟩⟩)
theorem EK(i:Nat)(ho:PE X (.Name y yp) (gy i))(hr:Wv X es t)(hs:starEach (.Name y yp::es) X.env=(false,eval (.Name y yp) X.env)::starEach es X.env:=by rfl):Wv X (.Name y yp::es) (T3 f i t):=PA.imp (af ho hr hs) fun σ H Q zz=>(by
 obtain⟨W,M,α,δ,Qd,E,⟨h,q⟩,k⟩:=zz;obtain⟨o,as,s1,s2,ea,eo⟩:=E.sl i _ h;subst eo;exact⟨_,s1,W,M,α,δ,_,E,q,fun ss δ2 H2 vs q2 E2 c2 r2=>k _ _ _ _ q2 E2 c2 (.cons (s:= .fn f) ⟨rfl,rfl⟩ rfl r2)⟩)
theorem Ip(hg:Gl X x)(hm:X.mg x=some (.ref f))(hr:Wv X es t)(i8:(x==("__debug__":Str))=false:=by decide)(hs:starEach (.Name x p::es) X.env=(false,eval (.Name x p) X.env)::starEach es X.env:=by rfl):Wv X (.Name x p::es) (VI f t):=PA.imp (af (Fq (v:= .ref f) hg hm rfl i8) hr hs) fun σ H Q zz=>(by
 obtain⟨W,M,α,δ,Qd,E,q,k⟩:=zz;exact⟨W,M,α,δ,_,E,q,fun ss δ2 H2 vs q2 E2 c2 r2=>k _ _ _ _ q2 E2 c2 (.cons (s:= .fn f) ⟨rfl,rfl⟩ rfl r2)⟩)
def UW(S:DS)(t:Ed):bt:=fun δ Q=>t δ fun ss δ'=>S ss fun r=>Q r δ'
theorem t7(h:fB X.prog X.w X.K X.mg X.base x k ps (spS S))(hr:bD k X.A)(ha:Wv X (e::es) t)(hg:Gl X x:=by rfl)
  (i8:(x==("__debug__":Str))=false:=by decide) (he:starEach (e::es) X.env=(false,eval e X.env)::starEach es X.env:=by rfl) (dq:(backTo pos (starEach es X.env)).any (·.1)=false:=by rfl):
  Ev X (.Call (.Name x p) (e::es) [] pos) (UW S t):=PE.imp (mW h hr hg ha i8 he dq) fun σ H Q zz=>(by
 obtain⟨W,M,α,δ,Qd,E,q,k⟩:=zz;refine⟨W,M,α,δ,_,E,q,fun ss δ' H' vs q1 E1 c1 r1=>?_⟩;show spS S (vs++ []) H' Q E0;rw[ab2];exact⟨M,ss,_,E1.al,r1,q1,fun r H2 v2 q2 s r2=>k _ _ _ _ q2 (E1.same s) (c1.tr (cW.of s)) r2⟩)
def S3(f:Addr)(S1:DN)(i:Nat)(tA:iG):bt:=fun δ Q=>δ[i]?=some (.fn f)/\tA δ fun ds δ'=>S1 ds fun r=>Q r δ'
theorem gu(i:Nat)(h:iI X.prog X.w X.K X.mg X.base f k ps (bT S1))(hr:bD k X.A)(ho:PE X (.Name y yp) (gy i))(ha:Av X (e::es) tA)
  (he:starEach (e::es) X.env=(false,eval e X.env)::starEach es X.env:=by rfl) (dq:(backTo pos (starEach es X.env)).any (·.1)=false:=by rfl):
  Ev X (.Call (.Name y yp) (e::es) [] pos) (S3 f S1 i tA):=PE.imp (BE h hr ho ha he dq) fun σ H Q zz=>(by
 obtain⟨W,M,α,δ,Qd,E,⟨hf,q⟩,k⟩:=zz;obtain⟨o,as,s1,s2,ea,eo⟩:=E.sl i _ hf;subst eo;refine⟨s1,W,M,α,δ,_,E,q,fun ds δ' H' vs q1 E1 c1 r1=>?_⟩;exact⟨M,ds,_,E1.al,r1,q1,fun r H2 v2 q2 s r2=>k _ _ _ _ q2 (E1.same s) (c1.tr (cW.of s)) r2⟩)
end
end LD
namespace L2
open PySem PySem.Spec PyProof.Rows fL
theorem CF(h:iI X.prog X.w X.K X.mg X.base f k ps sp)(hr:bD k A)(RZ:A.frames=some X.stack)(I:Inv X pins σ H s)(r:Vals vs us)(hq:sp vs H Q E0):
  wpAny (model X.prog X.w) A (call (.ref f) us) (fun r s'=> ∃v' H',Inv X pins σ H' s'/\RelV v' r/\Q v' H'/\Un (kR X.stack) [] H H' s.heap s'.heap) (fun _ _=>False) s:=by
 obtain⟨fd,hk,hb,F⟩:=h;have hl:us.length=ps.length:=by rw[<-r.length];exact F.len _ _ _ _ hq
 have e0:=I.NX;refine wpAny_call (al7 (F.run A X.stack s H ⟨us,[]⟩ us vs Q E0 hr {e0 with frames:=RZ} (by have:=hb s us I.pf (by simpa using hl);simpa using this) r hq) fun r' s' hq=>?_);cases r' with
 | error e=>exact(show False from hq).elim
 | ok fl=>
  cases fl with
  | ret u=>
   obtain⟨v,H',os,bare,un,aT,r2,q⟩:=hq;obtain⟨hh,g,d,t,Q3⟩:=s';obtain rfl:Q3=s.os:=os;exact⟨v,H',I.call (h':=hh) (g':=g) (d':=d) (t':=t) (ch:= []) un aT bare (fun b z=>absurd z (by simp)),r2,q,un⟩
  | next=>exact False.elim hq
  | brk=>exact False.elim hq
  | cont=>exact False.elim hq
inductive ju(m:Nat)(sp:Sp)(σ:St)(Q:V->Hp->Prop)(v:V)(H1:Hp):Prop
 | mk (l:Addr) (xs:List V) (KP:Nat->Hp->V->Prop) (K:Nat->Int) (h1:v= .ref l) (h2:H1 l=some (.lst xs)) (h3:xs.length<=100000) (h4: ∀i x H2 H3,aC H2 H3->KP i H2 x->KP i H3 x)
  (h5: ∀i x,xs[i]?=some x-> ∀H2,aC H1 H2->sp [x] H2 (fun r H3=>KP i H3 r/\aC H2 H3) E0)
  (h6: ∀i H2 y,KP i H2 y-> ∃t n ys,y= .ref t/\H2 t=some (.tup (.int n::ys)))
  (h7: ∀i j H2 x y,KP i H2 x->KP j H2 y->zY H2 (m+1) x y (decide (K i < K j))) (h8: ∀i j H2 x,KP i H2 x->KP j H2 x->K i=K j)
  (h9: ∀(p:Addr) (q:List Nat) H2,aC H1 H2->H2 p=none->q.Perm (List.range xs.length)->q.Pairwise (fun i j=>K i<=K j)->Q (.ref p) (upd H2 p (.lst (q.map fun i=>xs.getD i .aD))))
def AI(m:Nat)(ta:TE)(sp:Sp):TE:=fun σ H Q=>ta σ H fun v H1=>ju m sp σ Q v H1
section
variable{X:Cx}{x y:Str}{f:Addr}{e:Expr}{np lp kp pos:Pos}{k m:Nat}{ta:TE}{sp:Sp}
theorem yL(ha:PE X e ta)(hF:iI X.prog X.w X.K X.mg X.base f k [y] sp)(hr:bD (k+2) X.A)(hu:X.A.units+2+m < cLine)(hx:Gl X x)(RA:X.mg x=some (.ref f))(hg:Gl X "sorted")(hm:X.mg "sorted"=none)(i8:(x==("__debug__":Str))=false:=by decide)
  (qR:starEach [e] X.env=(false,eval e X.env)::starEach [] X.env:=by rfl):
  PE X (.Call (.Name "sorted" np) [e] [⟨some "key",.Name x lp,kp⟩] pos) (AI m ta sp):=by
 intro pins s σ H Q I h;refine ag5 (eC (u:= .builtin "sorted") I hg hm (by first | rfl | kernel_rfl) ?_);refine callWith_kw (env:=X.env) ?_ (by rw[qR];rfl) (by rw[qR];rfl);refine aU ((af ha aG qR) pos pins s σ H (fun vs H1=> ∃v,vs= [v]/\ju m sp σ Q v H1) I ?_) fun us s1 he=>?_
 . have : (fun (v : V) H1 => p7 σ H1 fun xs H2 => ∃ v', v :: xs = [v'] /\ ju m sp σ Q v' H2) = (fun (v : V) H1 => ju m sp σ Q v H1) := by
     funext v H1
     unfold p7;refine propext ⟨fun z=>?_,fun z=>⟨v,rfl,z⟩⟩;obtain⟨v',e1,z⟩:=z;cases e1;exact z
   unfold kG;rw[this];exact h
 obtain⟨vs,H1,I1,r1,v,e1,l,xs,KP,K,e2,hl,h3,h4,RG,h6,h7,h8,h9⟩:=he;subst e1;subst e2;obtain⟨u,rfl,ru⟩:=vals1 r1;obtain rfl:u=Value.ref l:=ru;refine kws_cons (qL I1 hx RA ?_ i8);refine kws_nil ?_;obtain⟨s2,UP⟩: ∃s2,s2=s1:=⟨_,rfl⟩
 obtain⟨H2,UR⟩: ∃H2,H2=H1:=⟨_,rfl⟩
 have I2:=I1;rw[<-UP,<-UR] at I2;have jf:aC H1 H2:=by rw[UR];exact aC.refl _
 rw[<-UP];show wpAny _ _ (call (.builtin "sorted") [.ref l] [(Str.ofString "key",.ref f)]) _ _ s2;have Sj:H2 l=some (.lst xs):=jf _ _ hl;obtain⟨_,ao,n,rv,eo⟩:=I2.aT l _ Sj;have hlen:ao.length=xs.length:=rv.length.symm;have gE: ∀b H',s2.heap.objs.size<=b->H' b=none->cV X pins H' b:=fun b H' hb hn=>I2.gE hb hn;have Q7: ∀b,s2.heap.objs.size<=b->b∉kR X.stack:=fun b hb=>I2.FU hb;refine kH (vs:=ao) (K:=K)
  (fun ks s'=>(∃H' kv,Inv X pins σ H' s'/\aC H2 H'/\(∀b,s2.heap.objs.size<=b->b < s2.heap.objs.size+4->H' b=none)/\Vals kv ks/\(∀i y,kv[i]?=some y->KP i H' y))/\ ∀b,s2.heap.objs.size<=b->b < s2.heap.objs.size+4-> ∃o,s'.heap.get? b=some o)
  ⟨_,eo,rfl,_,rfl⟩ (by rw[hlen];exact h3) ?_ ?_ ?_ ?_ ?_ ?_
 . intro h' hk hex;exact⟨⟨H2,[],I2.kept (t':=s2.toks) hk,aC.refl _,fun b hb _=>I2.aT.fresh hb,.nil,fun i y z=>by cases z⟩,hex⟩
 . rintro ks s' h' ⟨⟨H',kv,I',kP,hf,rk,nA⟩,hex⟩ hk R9
   have n3:=ak4 s2.heap.objs.size 3;have l3:s2.heap.objs.size+3 < s2.heap.objs.size+4:=ag2 _;obtain⟨h0,h1,h2,h3,h4,h5⟩:=gE _ H' n3 (hf _ n3 l3);refine⟨⟨H',kv,I'.turned (t':=s'.toks) (it:=s2.heap.objs.size+3) (fun c o hc e=>hk c o hc e) h0 h1 h3 h4 h5,kP,hf,rk,nA⟩,fun d hd hd2=>?_⟩;by_cases i8:d=s2.heap.objs.size+3
   . rw[i8];exact R9
   . obtain⟨o,e⟩:=hex d hd hd2;exact⟨o,hk d o i8 e⟩
 . rintro v ks s' dr hv ⟨⟨H',kv,I',kP,hf,rk,nA⟩,hex⟩
   have lx:ks.length < xs.length:=by rw[<-hlen];exact dr
   obtain⟨u,Hw,IY⟩:=rv.get (Zs lx);rw[hv] at Hw;cases Hw;refine Z6 (CF hF hr.in1.in1 I2.ok.frames I' (.cons IY .nil) (RG ks.length _ (Zs lx) H' fun b o e=>kP _ _ (jf _ _ e))) (fun r rX z=>?_) fun _ _ z=>z;obtain⟨v',TR,O0,IY,⟨e1,Co⟩,un⟩:=z;refine⟨⟨⟨TR,kv++ [v'],O0,fun b o e=>Co _ _ (kP _ _ e),fun b hb uv=>?_,?_,fun i y hy=>?_⟩,fun b hb uv=>?_⟩,fun b o hb uv e=>?_⟩
   . obtain⟨o,e⟩:=hex b hb uv;exact un.free b o e (hf b hb uv) (by simp)
   . exact rk.append (.cons IY .nil)
   . have lk:=rk.length;by_cases hi:i < kv.length
     . rw[Z3 hi] at hy;exact h4 _ _ _ _ Co (nA i y hy)
     . rw[Z8 (by omega)] at hy;have:i - kv.length=0:=by
        have:=(Zw.mp hy).1;simpa using this
       rw[this] at hy;cases hy;have:i=ks.length:=by omega
       rw[this];exact e1
   . obtain⟨o,e⟩:=hex b hb uv;exact un.there b o e (by simp)
   . exact un.keep b o e (hf b hb uv) (Q7 b hb) (by simp)
 . rintro ks s' ⟨⟨H',kv,I',kP,hf,rk,nA⟩,hex⟩ Nw i j hi hj e1 _
   have lk:=rk.length;have li:i < kv.length:=by omega
   have lj:j < kv.length:=by omega
   obtain⟨u1,g1,r1⟩:=rk.get (Zs li);obtain⟨u2,g2,r2⟩:=rk.get (Zs lj);rw[show ks.getD i Value.none=u1 by rw[List.getD,g1];rfl,show ks.getD j Value.none=u2 by rw[List.getD,g2];rfl] at e1;subst e1;have p1:=nA i _ (Zs li);have p2:=nA j _ (Zs lj);obtain⟨t1,n1,y1,e1,_⟩:=h6 _ _ _ p1;obtain⟨t2,n2,y2,e2,_⟩:=h6 _ _ _ p2;rw[e1] at r1 p1;rw[e2] at r2 p2;cases r1;cases r2;exact h8 i j H' _ p1 p2
 . rintro ks s' ⟨⟨H',kv,I',kP,hf,rk,nA⟩,hex⟩ Nw h2
   refine yb I' (k:=m) (by show X.A.units+1+1+m < cLine;omega) rk (by omega) (fun y hy=>?_) fun i j a b ga gb=>h7 i j H' _ _ (nA i a ga) (nA j b gb);obtain⟨i,hi⟩:=List.getElem?_of_mem hy;exact h6 i H' y (nA i y hi)
 . rintro ks s' p h' ⟨⟨H',kv,I',kP,hf,rk,nA⟩,hex⟩ Nw hp hu Cp ⟨e,he⟩
   have n1:=al3 s2.heap.objs.size;have n3:=ak4 s2.heap.objs.size 3;have f1:=hf _ n1 (by show s2.heap.objs.size+1 < s2.heap.objs.size+4;omega);have f3:=hf _ n3 (ag2 _);have dq:p.toList.Perm (List.range xs.length):=by have:=ad5.mp hp.pm;rw[<-hlen];simpa using this
   have lt: ∀i∈p.toList,i < xs.length:=fun i hi=>by have:=dq.mem_iff.mp hi;simpa using this
   have so:p.toList.Pairwise (fun i j=>K i<=K j):=by
    rw[af8];intro i j hi hj cj;rw[ZQ,hp.sz,hlen] at hi hj;have:=hu i j (by omega) (by omega);have gi:p.getD i 0=p[i]'(by rw[hp.sz];omega):=by simp [Array.getD,hp.sz,hlen,hi]
    have gj:p.getD j 0=p[j]'(by rw[hp.sz];omega):=by simp [Array.getD,hp.sz,hlen,hj]
    unfold fL.kp at this;rw[gi,gj] at this;simpa using this
   refine⟨.ref (s2.heap.objs.size+1),_,I'.taken (t':=s'.toks) (h':=h') (ch:= [s2.heap.objs.size+3,s2.heap.objs.size+1]) (T:=s2.heap.objs.size+1) (o:= .lst (p.toList.map fun i=>xs.getD i .aD)) (fun b hb=>?_) (by simp) (fun b o hb q=>Cp b o (fun z=>hb (by simp [z])) (fun z=>hb (by simp [z])) q) ?_,rfl,h9 _ _ H' (fun b o e=>kP _ _ (jf _ _ e)) f1 dq so⟩
   . rcases ZR.mp hb with rfl | hb
     . exact gE _ _ n3 f3
     . rcases ZR.mp hb with rfl | hb
       . exact gE _ _ n1 f1
       . cases hb
   . refine⟨by rw[Zu,dq.length_eq,Z1,ag6];omega,p.toList.map (fun i=>ao.getD i Value.none),e,?_,he⟩;refine mz fun i hi=>?_;have li:=lt i hi;obtain⟨u1,g1,r1⟩:=rv.get (Zs li);rw[show ao.getD i Value.none=u1 by rw[List.getD,g1];rfl,show xs.getD i .aD=xs[i] by simp [List.getD,li]];exact r1
end
end L2
namespace LD
open PySem PySem.Spec L2 LB PyProof.Rows fL
section
variable{X:Cx}{x y:Str}{f:Addr}{e:Expr}{np lp kp pos:Pos}{k m:Nat}{ta:bt}{S:DN}
inductive Dn(m:Nat)(S:DN)(Q:Dt->List Sl->Prop)(d:Dt)(δ1:List Sl):Prop
 | mk (es:List Dt) (kd:Dt->Dt) (key:Dt->Int) (h1:d= .lst es) (h2:es.length<=100000) (h3: ∀d'∈es,S [d'] fun r=>r=kd d')
  (h4: ∀d'∈es,EC (kd d')/\ ∃n rs,kd d'= .tup (.int n::rs)) (h5: ∀d'∈es,∀d2∈es,GX (m+1) (kd d') (kd d2)/\zR (m+1) (kd d') (kd d2)=decide (key (kd d') < key (kd d2)))
  (h6: ∀ms:List Dt,ms.Perm es->ms.Pairwise (fun a b=>key (kd a)<=key (kd b))->Q (.lst ms) δ1)
def vC(m:Nat)(ta:bt)(S:DN):bt:=fun δ Q=>ta δ fun d δ1=>Dn m S Q d δ1
theorem uN: ∀σ H Q,lE (vC m ta S) σ H Q->AI m (lE ta) (bT S) σ H Q:=fun σ H Q zz=>by
 obtain⟨W,M,α,δ,Qd,E,q,k⟩:=zz;refine⟨W,M,α,δ,_,E,q,fun d δ1 H1 v ck E1 c1 r1=>?_⟩;obtain⟨es,kd,key,rfl,h2,h3,h4,h5,h6⟩:=ck;obtain⟨a,xs,rfl,ha,nM,rs⟩:=r1.cO;have dat: ∀{i:Nat},i < es.length->es.getD i .aD∈es/\es[i]?=some (es.getD i .aD):=fun{i} hi=>by
  have:es.getD i .aD=es[i]:=by simp [List.getD,hi]
  rw[this];exact⟨ad9 hi,Zs hi⟩
 refine⟨a,xs,fun i H y=>i < es.length/\Rep M H y (kd (es.getD i .aD)),fun i=>key (kd (es.getD i .aD)),rfl,ha,by rw[rs.1];exact h2,fun i y H2 H3 s zz=>⟨zz.1,zz.2.same s⟩,fun i x' zT H2 s2=>?_,fun i H2 y zz=>?_,fun i j H2 y z ck dS=>?_,fun i j H2 y ck dS=>?_,fun p q' H2 s2 hp pm pw=>?_⟩
 . have hi:i < es.length:=by rw[<-rs.1];exact(Zw.mp zT).1
   obtain⟨dm,dg⟩:=dat hi;have rx:=rs.2 i x' _ zT dg;exact⟨M,[es.getD i .aD],_,(E1.same s2).al,.cons (rx.same s2) .nil,h3 _ dm,fun d2 H3 v2 e2 s3 r2=>by rw[e2] at r2;exact⟨⟨hi,r2⟩,s3⟩⟩
 . obtain⟨hi,r⟩:=zz;obtain⟨_,n,l,e1⟩:=h4 _ (dat hi).1;rw[e1] at r;obtain⟨t,ys,rfl,ht,_,ry⟩:=r.bN;obtain⟨y,QA,rfl,r2,_⟩:=ry.aQ;cases r2.ofInt;exact⟨t,n,QA,rfl,ht⟩
 . obtain⟨sh,lt⟩:=h5 _ (dat ck.1).1 _ (dat dS.1).1;show zY H2 (m+1) y z (decide (key (kd (es.getD i .aD)) < key (kd (es.getD j .aD))));rw[<-lt];exact B8 sh ck.2 dS.2
 . show key (kd (es.getD i .aD))=key (kd (es.getD j .aD));rw[(h4 _ (dat ck.1).1).1.one (h4 _ (dat dS.1).1).1 ck.2 dS.2]
 . have s:aC H2 (upd H2 p (.lst (q'.map fun i=>xs.getD i .aD))):=aC.new hp;have Q0:(q'.map fun i=>es.getD i .aD).Perm es:=by
    have:=pm.map fun i=>es.getD i .aD;rw[rs.1] at this;refine this.trans (List.Perm.of_eq ?_);apply af0
    . simp
    . intro i g1 g2;simp [List.getD,g2]
   refine k _ _ _ _ (h6 _ Q0 (List.pairwise_map.mpr pw)) ((E1.same s2).same s) ((c1.tr (cW.of s2)).tr (cW.of s)) (Rep.oY ag ((E1.same s2).fresh hp) ⟨by rw[Zu,Zu],fun i x d hx hd=>?_⟩);rw[Zy] at hx hd;cases hi:q'[i]? with
   | none=>rw[hi] at hx;cases hx
   | some j=>
    rw[hi] at hx hd;have lj:j < xs.length:=by have:=pm.mem_iff.mp (ZY hi);simpa using this
    have hz:xs[j]?=some (xs[j]):=Zs lj;obtain⟨_,dg⟩:=dat (i:=j) (by rw[<-rs.1];exact lj);rw[ak8] at hd;cases hd;rw[ak8,show xs.getD j .aD=xs[j] by simp [List.getD,lj]] at hx;cases hx;exact((rs.2 j _ _ hz dg).same s2).same s
theorem C4(ha:Ev X e ta)(hF:iI X.prog X.w X.K X.mg X.base f k [y] (bT S))(hr:bD (k+2) X.A)(hu:X.A.units+2+m < cLine)(hx:Gl X x)(RA:X.mg x=some (.ref f))(hg:Gl X "sorted")(hm:X.mg "sorted"=none)(i8:(x==("__debug__":Str))=false:=by decide)
  (qR:starEach [e] X.env=(false,eval e X.env)::starEach [] X.env:=by rfl):
  Ev X (.Call (.Name "sorted" np) [e] [⟨some "key",.Name x lp,kp⟩] pos) (vC m ta S):=
 PE.imp (yL ha hF hr hu hx RA hg hm i8 qR) uN
end
end LD
namespace HY
open PySem PySem.Spec L2 PyProof.Rows
def Jh(P:Program)(w:World):List V->Hp->VK->Prop:=fun xs H Q=> ∃l aK,xs= [.ref l]/\H l=some (.dT aK)/\aK≠ []/\(aK.map fun kv=>tupleKeyHash (aV P w) kv.1).Nodup/\ ∀d,H d=none->Q (.ref d) (upd H d (.dT aK))
theorem yr: ∀{L:List DictEntry},(L.map (·.hash)).Nodup->(∀x∈L,x.hash=h)->L.length > 1->False
 | x::y::r,nd,al,_=>by
  rw[ZT,ZT,af7] at nd;exact nd.1 (by rw[al x ZI,al y (by simp)];exact ZI)
theorem NZ{prog:Program}{w:World}{A:Around}{E:Value->Shared->Prop}{s:Shared}{id:String}{ep:Nat}(ho:s.heap.get? d=some o)(hd:o.data= .dict es ep)(hk: ∀e∈es.toList,∃a,e.key= .ref a/\s.TypeIs (.ref a) "tuple")(hn:(es.toList.map (·.hash)).Nodup)(h:Q es s):wpAny (model prog w) A (Builtin.Dict.entriesForEmpty id d) Q E s:=by
 unfold Builtin.Dict.entriesForEmpty;refine Zt (wpAny_dictEntries ho hd (Zt (wpAny_forIn_array' _ (fun rest _ s'=>s'=s/\ ∀e∈rest,e∈es.toList) (fun _ s'=>wpAny (model prog w) A (pure es) Q E s') (fun e rest b s' hI=>?_) (fun b s' hI=>?_) es _ ⟨rfl,fun _ z=>z⟩)))
 . obtain⟨rfl,hm⟩:=hI;obtain⟨a,ek,hT⟩:=hk e (hm e ZI);have one: ¬(es.filter (·.hash==e.hash)).size > 1:=fun z=>by
    have nd:((es.toList.filter (·.hash==e.hash)).map (·.hash)).Nodup:=hn.sublist (List.Sublist.map _ List.filter_sublist);have al: ∀x∈es.toList.filter (·.hash==e.hash),x.hash=e.hash:=fun x hx=>by have:=(List.mem_filter.mp hx).2;rwa [ZO] at this
    rw[<-ZQ,Array.toList_filter] at z;exact yr nd al z
   rw[ek];have f1:typeLookup (.type "tuple") "__eq__"=pure (some (.builtin "tuple.__eq__")):=F.slot_tuple_eq.lookup;unfold Builtin.Dict.quietEq;repeat (any_goals (first | assumption | wp_step))
   exact⟨rfl,fun e he=>hm e (ZF _ he)⟩
 . obtain⟨rfl,_⟩:=hI;exact ZD h
theorem tS: ∀{aK:List (List Key × V)} {xs:List (List Key × Addr × Value)},KT H aK xs->xs.map ((fun x=>x.hash) ∘ entryOfKey (tupleKind (aV P w)))=aK.map fun kv=>tupleKeyHash (aV P w) kv.1
 | _,_,.nil=>rfl
 | _,_,.cons r t=>by
  rw[ZT,ZT,tS t,r.1];rfl
theorem vJ{X:Cx}(hA:X.A.handled=none):fM X (.type "dict") (Jh X.prog X.w):=by
 intro pins s σ H xs us Q I rs h;obtain⟨l,aK,rfl,hl,ne,hh,q⟩:=h;obtain⟨u,rfl,ru⟩:=vals1 rs;cases (show u=Value.ref l from ru);have hD:H s.heap.objs.size=none:=I.aT.fresh (Zx _);refine callType_codes (Q₁:=fun obj s₁=>obj= .ref s.heap.objs.size/\s₁={s with heap:=s.heap.push {cls:= .type "dict",data:= .dict #[]}}) uc (k6 _) F.entry_dict_init (oN _ ⟨rfl,rfl⟩) fun obj s₁ h₁=>?_;obtain⟨rfl,rfl⟩:=h₁;have I0:Inv X pins σ (upd H s.heap.objs.size (.dT [])) {s with heap:=s.heap.push {cls:= .type "dict",data:= .dict #[]}}:=I.laid (a:=s.heap.objs.size) (o:= .dT []) (t':=s.toks) (fun _ _ q=>Zv _ q) (Zx _) (nF s.heap I.big);have nl:l≠s.heap.objs.size:=ai hl hD;have WQ:(upd H s.heap.objs.size (.dT [])) l=some (.dT aK):=by rw[ah nl];exact hl
 obtain⟨zz,Kd,xs,rel,ol,es,ep,RP,hex,UD,Pw,WV,WK⟩:=xA I0.aT WQ;have hS:(s.heap.push {cls:= .type "dict",data:= .dict #[]}).get? s.heap.objs.size=some {cls:= .type "dict",data:= .dict #[]}:=ZP _ rfl;have hT:({s with heap:=s.heap.push {cls:= .type "dict",data:= .dict #[]}}:Shared).TypeIs (.ref s.heap.objs.size) "dict":=⟨_,hS,rfl⟩
 have YD:({s with heap:=s.heap.push {cls:= .type "dict",data:= .dict #[]}}:Shared).TypeIs (.ref l) "dict":=⟨_,RP,hex.1⟩
 have qq:=q _ hD;generalize LA:s.heap.objs.size=D at*;generalize WE:({s with heap:=s.heap.push {cls:= .type "dict",data:= .dict #[]}}:Shared)=s0 at*;have Sg:s0.heap.get? D=some {cls:= .type "dict",data:= .dict #[]}:=by rw[<-WE];exact hS
 refine⟨hT,F.args_dict_init_2 _ _,?_⟩;have sub:isSubtype (.type "dict") (.type "dict")=pure true:=by rw[isSubtype_type];kernel_rfl
 have f3:=F.slot_dict_iter.lookup;unfold Builtin.«dict.__init__»;repeat (any_goals (first | assumption | wp_step))
 have xl:xs.length=aK.length:=(Paired.length rel).symm;have NW:es.toList.length=aK.length:=by rw[Pw,Zu,xl]
 have Yt:0 < aK.length:=List.length_pos_iff.mpr ne;have lq: ∀e∈es.toList,∃a,e.key= .ref a/\s0.TypeIs (.ref a) "tuple":=fun e he=>by
  rw[Pw] at he;obtain⟨x,hx,rfl⟩:=ZL.mp he;obtain⟨o,items,n,h1,h2,h3,h4⟩:=WV x hx;exact⟨x.2.1,rfl,o,h1,h2⟩
 have Xp:(decide (es.size<=8) && es.all fun e=>(keyPart e.key).isSome)=false:=by
  rw[Bool.and_eq_false_iff];refine .inr ?_;rw[<-Array.all_toList];cases hL:es.toList with
  | nil=>rw[hL] at NW;simp at NW;omega
  | cons e r=>
   obtain⟨a,ea,_⟩:=lq e (by rw[hL];exact ZI);rw[an5,ea];rfl
 have hashes:(es.toList.map (·.hash)).Nodup:=by
  rw[Pw,ab1];have:xs.map ((fun x=>x.hash) ∘ entryOfKey (tupleKind (aV X.prog X.w)))=aK.map fun kv=>tupleKeyHash (aV X.prog X.w) kv.1:=by
   exact tS rel
  rw[this];exact hh
 rw[if_neg (by rw[ZO];exact fun z=>nl z.symm)];unfold Builtin.Dict.showsAll;rw[if_neg (by rw[Kd];exact ZJ)];refine Zt (ZD (Zt (wpAny_dictEntries RP UD ?_)));dsimp only;rw[Xp];rw[if_pos (by decide)];refine Zt (wpAny_dictEntries Sg rfl ?_);rw[if_pos (by decide)];refine Zt (NZ RP UD lq hashes ?_);have V9:(!es.isEmpty)=true:=by
  cases hL:es.toList with
  | nil=>rw[hL] at NW;simp at NW;omega
  | cons e r=>rw[<-Array.isEmpty_toList,hL];rfl
 rw[if_pos V9];have sz:es.size<=sizeLine+1:=by rw[<-ZQ,NW];omega
 refine Zt (wpAny_updateDictKeysTo Sg rfl (ZD ?_) sz);have sb:Heap.SameBut D s0.heap (s0.heap.update D (Obj.mapDictKeys fun _=>es)):=ah6 ..;have gD:(s0.heap.update D (Obj.mapDictKeys fun _=>es)).get? D=some (Obj.mapDictKeys (fun _=>es) {cls:= .type "dict",data:= .dict #[]}):=aj5 _ Sg (Obj.isFreed_of_dict (Obj.data_mapDictKeys rfl _));have Sk:upd H D (.dT []) D=some (.dT []):=ag;have I3:=iC (t':=s0.toks) I0 (by rw[Sk];exact True.intro) sb ⟨_,gD⟩ (ob:= .dT aK) ⟨zz,(xA I0.aT Sk).2.1,xs,rel.keeps fun c ys ec=>by rw[ah (wY ec Sk (fun z=>nomatch z))];exact ec,_,es,_,gD,⟨rfl,rfl,rfl⟩,Obj.data_mapDictKeys rfl _,Pw,WK⟩;have WB:upd (upd H D (.dT [])) D (.dT aK)=upd H D (.dT aK):=by
  funext b
  by_cases hb:b=D
  . subst hb;rw[ag,ag]
  . rw[ah hb,ah hb,ah hb]
 rw[WB] at I3;unfold Builtin.Dict.addKeywords;repeat (any_goals (first | assumption | wp_step))
 exact⟨rfl,.ref D,_,I3,rfl,qq⟩
end HY
namespace LW
open PySem PySem.Spec L2 PyProof.Rows
theorem vI(hr:bD k X.A):fM X (.builtin "repr") (fun xs H Q=> ∃x c,xs= [x]/\Td c H 9 x/\wt H 9 x<=sizeLine/\Q (.str (dat H 9 x).shown) H):=by
 intro pins s σ H xs us Q I r h;obtain⟨x,c,rfl,td,hw,q⟩:=h;obtain⟨u,rfl,ru⟩:=vals1 r;have sh:=td.QU (Zx 9);have hsz:(dat H 9 x).shown.length<=sizeLine:=ZZ sh.len hw;obtain⟨as,rd⟩:=td.reads I.aT (Zx 9) ru;have un:=hr.un;have fin: ∀(h':Heap) (tk:Tok) (n:Nat),(∀b o,s.heap.get? b=some o->h'.get? b=some o)->EP X pins σ Q (.str (dat H 9 x).shown tk) {s with heap:=h',toks:=n}:=fun h' tk n kk=>⟨.str _,H,I.kept kk,⟨_,rfl⟩,q⟩
 cases x with
 | ref a=>
  cases (show u=Value.ref a from ru);exact repr_of_reads' rd sh.ok (fun z=>by rw[sh.nd] at z;cases z) hr.gd (by have:=sh.dp;lia) (fun _ _ e=>e) (fun h' u tk kk=>fin h' u tk kk) hsz
 | aD=>cases (show u=Value.none from ru);exact PySem.P.repr_of_none (fin s.heap _ _ fun _ _ e=>e)
 | bl b=>cases (show u=Value.bool b from ru);exact PySem.P.repr_of_bool (fin s.heap _ _ fun _ _ e=>e)
 | int i=>obtain⟨t,rfl⟩:=(show∃t,u=Value.int i t from ru);exact PySem.P.repr_of_int (ab4 sh.ok) (fin s.heap _ _ fun _ _ e=>e)
 | str y=>obtain⟨t,rfl⟩:=(show∃t,u=Value.str y t from ru);exact PySem.P.repr_of_str (fin s.heap _ _ fun _ _ e=>e) hsz
 | _=>
  rcases td.kind with z | ⟨a,_,z,_⟩
  . exact z.elim
  . cases z
end LW
namespace LD
open PySem PySem.Spec L2 LB LW PyProof.Rows
section
variable{X:Cx}{e:Expr}{tA:iG}{pos p:Pos}
inductive Lj(ds:List Dt)(Q:Dt->Prop):Prop
 | mk (d w:_) (h1:ds= [d]) (h2:Lv 9 w d) (h3:w<=sizeLine) (h4:Q (.str (t6 9 d).shown))
theorem C6(hr:bD k X.A)(hm:X.mg "repr"=none)(ha:Av X [e] tA)(hg:Gl X "repr":=by rfl)(he:starEach [e] X.env=(false,eval e X.env)::starEach [] X.env:=by rfl)(dq:(backTo pos (starEach [] X.env)).any (·.1)=false:=by rfl):
  Ev X (.Call (.Name "repr" p) [e] [] pos) (Dz Lj tA):=jT (vI hr) (fun M H xs ds Qd Q al r j7 k=>(by
 obtain⟨d,w,e,l,lw,q⟩:=j7;subst e;obtain⟨x,rfl,r1⟩:=fR r;obtain⟨td,tw⟩:=l.td r1 (Zx 9);refine⟨x,_,rfl,td,ZZ tw lw,?_⟩;rw[l.dat (m:=9) r1];exact k H _ _ q (fun _ _ z=>z) (.str _))) hg hm vK ha (by decide) (by decide) he dq
end
end LD
namespace LD
open PySem PySem.Spec L2 LB PyProof.Rows LW
noncomputable def xc:List Dt->Option (List Key)
 | []=>some []
 | d::ds=>match Nb d,xc ds with
  | some k,some ks=>some (k::ks)
  | _,_=>none
noncomputable def F0:Dt->Option (List Key)
 | .tup ds=>xc ds
 | _=>none
theorem tM: ∀{ds:List Dt} {vs:List V} {ks:List Key},aA M H vs ds->xc ds=some ks->vs=ks.map kV
 | [],vs,ks,r,h=>by cases h;cases r.eQ;rfl
 | d::ds,vs,ks,r,h=>by
  obtain⟨x,ys,rfl,rx,ry⟩:=r.aQ;unfold xc at h;split at h
  . rename_i k Wk h1 h2;cases h;rw[FZ rx h1,tM ry h2];rfl
  . cases h
theorem nj(r:Rep M H v d)(h:F0 d=some k): ∃b,v= .ref b/\H b=some (.tup (k.map kV)):=by
 cases d with
 | tup ds=>
  obtain⟨b,xs,rfl,hb,n,rr⟩:=r.bN;rw[tM rr h] at hb;exact⟨b,rfl,hb⟩
 | _=>cases h
noncomputable def yq:List (List Key)->List Dt->List Key->Option Dt
 | k'::ks,d::ds,k=>if k'=k then some d else yq ks ds k
 | _,_,_=>none
theorem sF: ∀{vs:List (List Key × V)} {ds:List Dt} {d:Dt},aA M H (vs.map (·.2)) ds->yq (vs.map (·.1)) ds k=some d-> ∃v,fP vs k=some v/\Rep M H v d
 | [],ds,d,r,h=>by cases ds <;> cases h
 | (k',v)::vs,[],d,r,h=>by cases h
 | (k',v)::vs,d'::ds,d,r,h=>by
  obtain⟨x,ys,e,rx,ry⟩:=r.aQ;rw[ZT] at e;injection e with e1 e2
  have e1:v=x:=e1;subst e1 e2;rw[ZT,yq] at h;by_cases c:k'=k
  . rw[if_pos c] at h;cases h;exact⟨v,by unfold fP;rw[List.find?_cons_of_pos (by simpa using c)];rfl,rx⟩
  . rw[if_neg c] at h;obtain⟨u,hu,ru⟩:=sF ry h;exact⟨u,by unfold fP at hu ⊢;rw[List.find?_cons_of_neg (by simpa using c)];exact hu,ru⟩
theorem sZ [DecidableEq κ]{aK:List (κ × V)}(h:k∉aK.map (·.1)):putK aK k v=aK++ [(k,v)]:=by
 unfold putK;rw[if_neg];intro z;obtain⟨kv,m,e⟩:=List.any_eq_true.mp z;exact h (ZL.mpr ⟨kv,m,by simpa using e⟩)
noncomputable def TD(ks:List (List Key))(ds:List Dt):Vk where
 rel:=fun M H v as=> ∃a vs,as= [a]/\v= .ref a/\H a=some (.dT vs)/\vs.map (·.1)=ks/\aA M H (vs.map (·.2)) ds
 st:=fun z ka k=>by
  obtain⟨a,vs,rfl,ev,h,e,r⟩:=z;exact⟨a,vs,rfl,ev,ka a (by simp) _ h,e,r.mono k⟩
noncomputable abbrev td (ks:List (List Key)) (ds:List Dt):Sl:= .ob (TD ks ds)
section
variable{X:Cx}{a b e:Expr}{ta tb tv t:bt}{x:Str}{xp pos pos':Pos}
inductive Gz(Q:Dt->List Sl->Prop)(d1 d2:Dt)(δ2:List Sl):Prop
 | mk (ks:List (List Key)) (ds:List Dt) (k:List Key) (d:Dt) (h1:d1= .l7 ks ds) (h2:F0 d2=some k) (h3:yq ks ds k=some d) (h4:Q d δ2)
def N9(ta tb:bt):bt:=fun δ Q=>ta δ fun d1 δ1=>tb δ1 fun d2 δ2=>Gz Q d1 d2 δ2
theorem ip(hu:X.A.units+1 < cLine)(ha:Ev X a ta)(hb:Ev X b tb)(hs:Lc b:=by exact fun _ _=>rfl):Ev X (.Subscript a b pos) (N9 ta tb):=PE.imp (jC hu ha hb hs) fun σ H Q zz=>(by
 obtain⟨W,M,α,δ,Qd,E,q,k⟩:=zz;refine⟨W,M,α,δ,_,E,q,fun d1 δ1 H1 x q1 E1 c1 r1=>⟨W,M,α,δ1,_,E1,q1,fun d2 δ2 H2 y zz E2 c2 r2=>?_⟩⟩;obtain⟨ks,ds,kk,d,e,hk,hv,q2⟩:=zz;subst e;obtain⟨a,vs,rfl,ha,n,e2,rr⟩:=(r1.chg E1 c2).MU;subst e2;obtain⟨v,Wz,rv⟩:=sF rr hv;obtain⟨kb,rfl,NA⟩:=nj r2 hk;exact⟨a,v,rfl,by rw[<-Wz];exact lJ.t ha NA,k _ _ _ _ q2 E2 (c1.tr c2) rv⟩)
inductive N8(i:Nat)(Δ:dE)(δ:List Sl):Prop
 | mk (h1:bY δ i) (h2:Δ.nx (δ.set i (td [] [])))
theorem AZ(i:Nat)(hN:X.N.Nodup)(hi:X.N[i]?=some x:=by rfl)(hx:Loc X.env.scope x:=by first | exact Or.inl rfl | exact Or.inr rfl)(hs:swapsWith (.Dict [] [] pos') (some (.Name x xp)) pos.line X.env=pure false:=by rfl)(hf:X.fn x=true\/X.env.scope.names.lookup x=some .local:=by first | exact .inl rfl | exact .inr rfl | assumption):
  Ex X (.Assign [.Name x xp] (.Dict [] [] pos') pos) (N8 i):=PS.imp (dJ hN hi hx BB hs hf) fun D σ H zz=>(by
 obtain⟨Ws,M,α,δ,Δ,E,L,ok,q⟩:=zz;intro p hp;exact L.nx _ _ _ _ _ (E.mG (s:=td [] []) hp (fun xs z=>by cases z) ok rfl ⟨_,rfl,p,[],rfl,rfl,ag,rfl,.nil⟩) q)
theorem sL{i:Nat}(E:az W M α H σ δ)(h:δ[i]?=some (td ks ds)): ∃a vs,σ[i]?=some (some (.ref a))/\α[i]?=some [a]/\H a=some (.dT vs)/\vs.map (·.1)=ks/\aA M H (vs.map (·.2)) ds:=by
 obtain⟨o,as,s1,s2,v,rfl,a,vs,rfl,rfl,h1,h2,h3⟩:=E.sl i _ h;exact⟨a,vs,s1,s2,h1,h2,h3⟩
inductive xN(i:Nat)(Δ:dE)(d d2:Dt)(δ2:List Sl):Prop
 | mk (k:List Key) (ks:List (List Key)) (ds:List Dt) (h1:F0 d2=some k) (h2:δ2[i]?=some (td ks ds)) (h3:ks.length < sizeLine) (h4:k∉ks) (h5:Δ.nx (δ2.set i (td (ks++ [k]) (ds++ [d]))))
def N7(i:Nat)(tb tv:bt):j6:=fun Δ δ=>tv δ fun d δ1=>(∃Uq xC,δ1[i]?=some (td Uq xC))/\tb δ1 fun d2 δ2=>xN i Δ d d2 δ2
theorem qk(i:Nat)(hu:X.A.units+1 < cLine)(ho:PE X (.Name x xp) (gy i))(hb:Ev X b tb)(hv:Ev X e tv)(hs:swapsWith e (some (.Subscript (.Name x xp) b pos')) pos.line X.env=pure false:=by rfl):
  Ex X (.Assign [.Subscript (.Name x xp) b pos'] e pos) (N7 i tb tv):=PS.imp (wM hu ho hb hv hs) fun D σ H zz=>(by
 obtain⟨Ws,M,α,δ,Δ,E,L,q⟩:=zz;refine⟨Ws,M,α,δ,_,E,q,fun d δ1 H1 v zz E1 c1 r1=>?_⟩;obtain⟨⟨Uq,xC,h0⟩,q1⟩:=zz;obtain⟨a,VL,h1,h2,h3,h4,r3⟩:=sL E1 h0;refine⟨_,h1,Ws,M,α,δ1,_,E1,q1,fun d2 δ2 H2 y zz E2 c2 r2=>?_⟩;obtain⟨k,ks,ds,hk,hd,l,nk,q2⟩:=zz;obtain⟨a',vs,pC,vi,Gh,Xk,zO⟩:=sL E2 hd;rw[h1] at pC;cases pC;obtain⟨kb,rfl,NA⟩:=nj r2 hk;subst Xk;refine⟨a,_,rfl,n4.t Gh NA (by rw[Zu] at l;exact l),?_⟩;rw[sZ nk];have ma:M a:=E2.mu a (aM vi (by simp));have mo: ∀b u,H2 b=some u-> ¬M b->upd H2 a (.dT (vs++ [(k,v)])) b=some u/\ ¬M b:=fun b u e n=>⟨by rw[ah (fun z=>n (by rw[z];exact ma))];exact e,n⟩
 obtain⟨E3,_⟩:=E2.mod (s':=td (vs.map (·.1)++ [k]) (ds++ [d])) (H':=upd H2 a (.dT (vs++ [(k,v)]))) hd h1 vi rfl ⟨_,rfl,a,vs++ [(k,v)],rfl,rfl,ag,by rw[ZV];rfl,by
   rw[ZV];exact(zO.mono mo).append (.one ((r1.chg E1 c2).mono mo))⟩ (fun b u e n=>by rw[ah (fun z=>n (by rw[z];simp))];exact e) (fun b hb=>by rw[ZM.mp hb];exact⟨_,ag,fun xs z=>by cases z⟩)
 exact L.nx _ _ _ _ _ E3 q2)
inductive eO:List Sl->List Sl->Prop
 | nil:eO [] []
 | no {δ δ0:List Sl}:eO δ δ0->eO (.no::δ) (.no::δ0)
 | im {d:Dt} {δ δ0:List Sl}:eO δ δ0->eO (.im d::δ) (.im d::δ0)
 | fn {f:Addr} {δ δ0:List Sl}:eO δ δ0->eO (.fn f::δ) (.fn f::δ0)
 | td {ks:List (List Key)} {ds:List Dt} {δ δ0:List Sl}:eO δ δ0->eO (td ks ds::δ) (.im (.l7 ks ds)::δ0)
theorem eO.len(h:eO δ δ0):δ.length=δ0.length:=by induction h <;> simp_all
theorem eO.at(h:eO δ δ0): ∀{i:Nat} {s0:Sl},δ0[i]?=some s0->(δ[i]?=some s0/\(s0= .no\/(∃d,s0= .im d)\/ ∃f,s0= .fn f))\/ ∃ks ds,δ[i]?=some (LD.td ks ds)/\s0= .im (.l7 ks ds):=by
 induction h with
 | nil=>intro i s0 h;simp at h
 | no _ ih=>intro i s0 h;cases i with
  | zero=>cases h;exact .inl ⟨rfl,.inl rfl⟩
  | succ i=>simpa using ih (by simpa using h)
 | im _ ih=>intro i s0 h;cases i with
  | zero=>cases h;exact .inl ⟨rfl,.inr (.inl ⟨_,rfl⟩)⟩
  | succ i=>simpa using ih (by simpa using h)
 | fn _ ih=>intro i s0 h;cases i with
  | zero=>cases h;exact .inl ⟨rfl,.inr (.inr ⟨_,rfl⟩)⟩
  | succ i=>simpa using ih (by simpa using h)
 | td _ ih=>intro i s0 h;cases i with
  | zero=>cases h;exact .inr ⟨_,_,rfl,rfl⟩
  | succ i=>simpa using ih (by simpa using h)
inductive KO(t:bt)(δ:List Sl)(Q:Dt->List Sl->Prop):Prop
 | mk (δ0:List Sl) (h1:eO δ δ0) (h2:t δ0 fun d _=>v7 d/\Q d δ)
theorem y6(E:az W M α H σ δ)(h:eO δ δ0):az [] (fun a=>M a/\a∉α.flatten) (List.replicate δ0.length []) H σ δ0:=by
 have aY:(List.replicate δ0.length ([]:List Addr)).flatten= []:=by simp
 have mo: ∀a u,H a=some u-> ¬M a->H a=some u/\ ¬(M a/\a∉α.flatten):=fun a u e n=>⟨e,fun z=>n z.1⟩
 refine⟨by rw[E.ls,h.len],by simp,fun i s0 hi=>?_,by rw[aY];exact ag8,fun a ha=>by rw[aY] at ha;exact absurd ha Zz,fun a ha=>E.al a ha.1,fun W hW=>absurd hW Zz⟩;have hl:=(Zw.mp hi).1;have ha:(List.replicate δ0.length ([]:List Addr))[i]?=some []:=by rw[ZX,if_pos hl]
 rcases h.at hi with ⟨hd,hs⟩ | ⟨ks,ds,hd,rfl⟩
 . obtain⟨o,as,h1,h2,h3⟩:=E.sl i _ hd;refine⟨o,[],h1,ha,?_⟩;rcases hs with rfl | ⟨d,rfl⟩ | ⟨f,rfl⟩
   . rfl
   . exact⟨rfl,let ⟨v,e,r⟩:=h3.2;⟨v,e,r.mono mo⟩⟩
   . exact⟨rfl,h3.2⟩
 . obtain⟨a,vs,h1,h2,h3,h4,r⟩:=sL E hd;have rm:=r.mono mo;exact⟨_,[],h1,ha,rfl,_,rfl,.l7 h3 (fun z=>z.2 (aM h2 (by simp))) h4 rm.1 rm.2⟩
theorem rp(h:Ev X e t):Ev X e (KO t):=PE.imp h fun σ H Q zz=>(by
 obtain⟨W,M,α,δ,Qd,E,⟨δ0,fr,q⟩,k⟩:=zz;refine⟨[],_,_,δ0,_,y6 E fr,q,fun d δ' H' v zz E1 c1 r1=>?_⟩;obtain⟨at',q1⟩:=zz;have sm:aC H H':=fun b u e=>c1 b u e (by simp);exact k _ _ _ _ q1 (E.same sm) (cW.of sm) (r1.LO at'))
end
theorem az.Su(E:az Ws M α H σ δ)(hi:δ[i]?=some (td ks ds)): ∃M' α',az Ws M' α' H σ (δ.set i (.im (.l7 ks ds))):=by
 have dr:=(Zw.mp hi).1;obtain⟨a,xs,h1,h2,h3,h4,r⟩:=sL E hi;have mono: ∀{v:V} {d:Dt},Rep M H v d->Rep (fun b=>M b/\b≠a) H v d:=fun r=>r.mono fun b u e n=>⟨e,fun z=>n z.1⟩
 have m4: ∀{v:List V} {d:List Dt},aA M H v d->aA (fun b=>M b/\b≠a) H v d:=fun r=>r.mono fun b u e n=>⟨e,fun z=>n z.1⟩
 refine⟨fun b=>M b/\b≠a,α.set i [],⟨by rw[Z4,E.ls],by rw[Z4,Z4,E.la],fun j s hj=>?_,bZ E.nd ag8 (fun x hx=>absurd hx Zz),fun b hb=>?_,fun b hb=>E.al b hb.1,fun W hW=>?_⟩⟩
 . by_cases cj:i=j
   . subst cj;rw[ZN dr] at hj;cases hj;have rm:=m4 r;exact⟨some (.ref a),[],h1,by rw[ZN (by rw[E.la];exact dr)],rfl,_,rfl,.l7 h3 (fun z=>z.2 rfl) h4 rm.1 rm.2⟩
   . rw[ZE cj] at hj;obtain⟨o2,yc,g1,g2,g3⟩:=E.sl j s hj;refine⟨o2,yc,g1,by rw[ZE cj];exact g2,?_⟩;cases s with
     | no=>exact g3
     | im d=>exact⟨g3.1,let ⟨v,e,r⟩:=g3.2;⟨v,e,mono r⟩⟩
     | ow ds=>obtain⟨b,xs,e1,e2,e3,r⟩:=g3;exact⟨b,xs,e1,e2,e3,m4 r⟩
     | bx t=>exact g3
     | dk ks ds=>obtain⟨b,vs,e1,e2,e3,e4,r⟩:=g3;exact⟨b,vs,e1,e2,e3,e4,m4 r⟩
     | ob R=>obtain⟨v,e,r⟩:=g3;exact⟨v,e,R.st r (fun _ _ _ q=>q) fun b u q n=>⟨q,fun z=>n z.1⟩⟩
     | fn f=>exact g3
 . obtain⟨l,hl,hx⟩:=al9.mp hb;obtain⟨j,hj,e⟩:=af5 hl;have ej:(α.set i [])[j]?=some l:=by rw[Zs hj,e]
   by_cases cj:i=j
   . subst cj;rw[ZN (by rw[E.la];exact dr)] at ej;cases ej;exact absurd hx Zz
   . rw[ZE cj] at ej;refine⟨E.mu b (aM ej hx),fun z=>?_⟩;subst z;exact fV E.nd ej h2 (Ne.symm cj) hx (by simp)
 . have k:=E.w W hW;refine⟨k.bs,k.ex,fun b hb=>(bq hb).elim (k.fr b) fun z=>absurd z Zz,fun b z=>⟨k.m0 b z,fun y=>?_⟩,fun b z=>k.m1 b z.1,fun d c e=>?_,fun j s as g1 g2 nb=>?_⟩
   . subst y;exact k.fz i _ _ hi h2 rfl b (by simp) z
   . obtain⟨t,e1,e2⟩:=k.bx d c e;have:i≠0:=fun z=>by subst z;rw[hi] at e1;cases e1
     exact⟨t,by rw[ZE this];exact e1,by rw[ZE this];exact e2⟩
   . by_cases cj:i=j
     . subst cj;rw[ZN (by rw[E.la];exact dr)] at g2;cases g2;exact fun b hb=>absurd hb Zz
     . rw[ZE cj] at g1 g2;exact k.fz j s as g1 g2 nb
section
variable{X:Cx}{st:Stmt}{rest:List Stmt}{T:j6}
inductive HN(i:Nat)(T:j6)(Δ:dE)(δ:List Sl):Prop
 | mk (ks:List (List Key)) (ds:List Dt) (h1:δ[i]?=some (td ks ds)) (h2:T Δ (δ.set i (.im (.l7 ks ds))))
theorem zk: ∀D σ H,lS (HN i T) D σ H->lS T D σ H:=fun D σ H ck=>(by obtain⟨Ws,M,α,δ,Δ,E,L,ks,ds,h,q⟩:=ck;exact(by
 obtain⟨M',α',E'⟩:=az.Su E h;exact⟨Ws,M',α',_,Δ,E',L,q⟩))
theorem ql(i:Nat)(h:Ex X st T):Ex X st (HN i T):=PS.imp h zk
end
end LD
namespace L2
open PySem PySem.Spec PyProof.Rows
theorem oI (I : Nat -> Shared -> Prop) (turn : ∀ n s, I n s -> wpAny (model prog w) A (pyNext it) (fun r s₁ => match r with
   | none=>R (.ok .next) s₁
   | some v=>wpAny (model prog w) A (letOwnedTupleGo target it v) (fun _ s₀=>wpAny (model prog w) A (assign target env v) (fun _ s₂=>
     wpAny (model prog w) A (eval kx env) (fun kv s₄=>wpAny (model prog w) A (eval vx env) (fun vv s₅=>
       wpAny (model prog w) A (dictSet D kv vv) (fun _ s₆=> ∃m,m < n/\I m s₆) (fun _ _=>False) s₅) (fun _ _=>False) s₄) (fun _ _=>False) s₂) (fun _ _=>False) s₀) (fun _ _=>False) s₁) (fun _ _=>False) s) (n:Nat) (h:I n s):codeAny (model prog w) A (.compLoop (.DictComp kx vx [⟨target,iter,[],0⟩] scope pos) 0 it (.ref D) env) R s:=by
 refine codeAny_loop rfl I (fun n s hI=>?_) n h;show wpAny _ A ((compTurn (.DictComp kx vx [⟨target,iter,[],0⟩] scope pos) 0 it (.ref D) env).onRaise (fun x=>do noteFrame x env;theTreesLotGoes x)) _ _ s;refine wpAny_noted ?_;rw[compTurn_dict];refine Zt (ae2 (Zt (Z6 (turn n s hI) (fun r s₁ h₁=>?_) fun _ _ h'=>h'.elim)));cases r with
 | none=>exact ZD h₁
 | some v=>
  refine Zt (Z6 h₁ (fun _ s₀ h₀=>?_) fun _ _ h'=>h'.elim);refine Zt (Z6 h₀ (fun _ s₂ h₂=>Zt (wpAny_tests_nil ?_)) fun _ _ h'=>h'.elim);refine Zt (Zt (Z6 h₂ (fun kv s₄ h₄=>Zt (ad4 (Z6 h₄ (fun vv s₅ h₅=>Zt (ae2 (ad4 (Z6 h₅ (fun _ s₆ h₆=>ZD ⟨rfl,h₆⟩) fun _ _ h'=>h'.elim)))) fun _ _ h'=>h'.elim))) fun _ _ h'=>h'.elim))
def Ef(nt:Nat)(js:List Nat)(g:TG)(tk tv:TE)(σ:St)(Q:VK)(D:Addr)(J:It)(H0:Hp):Prop:=
 ∃W:Nat->Nat->Hp->Prop,(∃m,W 0 m H0)/\ ∀i m H,W i m H->
  (J.stop i H/\Q (.ref D) H)\/(J.go i H/\ ∃B:Hp->Prop,(∀H',B H'-> ∃m',m' < m/\W (i+1) m' H')/\ ∀x H',J.se i H x H'->g x (gA nt js σ) H' fun σ2 H2=>
   tk σ2 H2 fun kv H3=>tv σ2 H3 fun v H4=> ∃H5,n4 H4 D kv v H5/\B H5)
def AJ(nt:Nat)(js:List Nat)(wi:TI)(g:TG)(tk tv:TE):TE:=fun σ H Q=>wi σ H fun J H1=> ∀D,H1 D=none->Ef nt js g tk tv σ Q D J (upd H1 D (.dT []))
theorem mv(h:Q (.ref s.heap.objs.size) {s with heap:=s.heap.push {cls:= .type "dict",data:= .dict #[]}}):wpAny M A newDict Q E s:=by
 unfold newDict;exact ad1 h
theorem zw(hu:A.units < cLine)(I:Inv X pins σ H s)(g:n4 H a y v H')(ry:RelV y u)(rv:RelV v r)(h: ∀s',Inv X pins σ H' s'->Q () s'):
  wpAny (model X.prog X.w) A (dictSet a u r) Q E s:=by
 rcases g with ⟨aK,k,e,ey,l,eH⟩ | ⟨aK,k,b,e,ey,eb,l,eH⟩
 . subst ey eH;obtain⟨z,hd,vs,rel,dd⟩:=CU I.aT e;have hz:vs.length<=sizeLine:=by rw[<-rel.length];exact z
   have hl:(putK aK k v).length<=sizeLine:=by have:=dz aK k v;lia
   refine wpAny_dictSet_pairs (hsz:=hz) (tN ry) dd fun h' zX hs=>h _ ?_;have he: ∃q,h'.get? a=some q:=let ⟨q,_,_,hq,_⟩:=zX;⟨q,hq⟩;exact iC I (by rw[e];exact True.intro) hs he (vA hl hd (rel.put k rv) zX)
 . subst ey eH;cases (show u=Value.ref b from ry);obtain⟨z,hd,xs,rel,dd⟩:=xA I.aT e;have hz:xs.length<=sizeLine:=by rw[<-Paired.length rel];exact z
   have hl:(putK aK k v).length<=sizeLine:=by have:=dz aK k v;lia
   refine wpAny_dictSet_heap (hsz:=hz) hu (qN I.aT eb) dd fun h' zX hs=>h _ ?_;obtain⟨q,es,ep,hq,h2,h3,h4,_,h5⟩:=zX;refine iC I (by rw[e];exact True.intro) hs ⟨q,hq⟩ ⟨hl,hd,_,(rel.put k eb rv).keeps fun c ys ec=>?_,q,es,ep,hq,h2,h3,h4,h5⟩;rw[ah (wY ec e (fun z=>nomatch z))];exact ec
theorem vD{kx vx tg iter:Expr}{pos:Pos}{g:TG}{tk tv:TE}{cl:List (Str × Addr)}{Q:VK}{E:Value->Shared->Prop}{RR:Value->Addr->Result->Shared->Prop}(S:je X N nt js scope)(hc:X.calm=true)(hg: ∀s H cl C ex,PG (dF X N scope s H cl C ex) tg g)(eE:jd nt g)(hk: ∀s H cl C ex,PE (dF X N scope s H cl C ex) kx tk)(hv: ∀s H cl C ex,PE (dF X N scope s H cl C ex) vx tv)(hu:X.A.units < cLine){tn:Nat->Heap->Prop}(I:Inv X pins σ H s)(T:Turn X.prog X.w X.K tg J fp it tn)(st:tn 0 s.heap)(ff: ∀b∈fp,cV X pins H b)(c1: ∀x c,(x,c)∈cl->X.env.cells.lookup x=some c)(c2: ∀x,(x,NameKind.free)∈scope.names-> ∃c,(x,c)∈cl)(R: ∀D,H D=none->Ef nt js g tk tv σ Q D J (upd H D (.dT [])))(fin: ∀(D C:Addr) (s':Shared) (H':Hp),Inv X pins σ H' s'->cV X pins H' C->(∃m,s'.heap.Ns C m)->Q (.ref D) H'->RR (.ref D) C (.ok .next) s'):
  wpAny (model X.prog X.w) X.A newDict (fun acc s₃=>wpAny (model X.prog X.w) X.A (newFunctionEnv scope X.env.globals cl [] X.env.qual none .none (some X.env)) (fun ja s₄=>
   codeAny (model X.prog X.w) X.A (.compStart (.DictComp kx vx [⟨tg,iter,[],0⟩] scope pos) 0 (.ref it) acc {ja with scope:=relabel scope X.env}) (RR acc ja.locals) s₄) E s₃) E s:=by
 refine mv (fe fun ja tZ CQ=>?_);rw[tZ,CQ];dsimp only;have hD:H s.heap.objs.size=none:=I.aT.fresh (Zx _);obtain⟨W,⟨m0,w0⟩,turn⟩:=R s.heap.objs.size hD;have kD: ∀b u,s.heap.get? b=some u->(s.heap.push {cls:= .type "dict",data:= .dict #[]}).get? b=some u:=fun b u e=>Zv _ e;have I3:Inv X pins σ (upd H s.heap.objs.size (.dT [])) {s with heap:=s.heap.push {cls:= .type "dict",data:= .dict #[]},toks:=s.toks}:=
  I.laid kD (Zx _) (nF s.heap I.big)
 have fs: ∀b∈fp,b < s.heap.objs.size:=fun b hb=>by
  obtain⟨o,e,_⟩:=T.obj _ _ st b hb;exact ZW e
 have HD: ∀b∈fp,cV X pins (upd H s.heap.objs.size (.dT [])) b:=fun b hb=>⟨by rw[ah (aa8 (fs b hb))];exact(ff b hb).1,(ff b hb).2⟩
 have I4:=kC (tk:=s.toks) S hc I3 HD (fun b hb=>by show b < (s.heap.push _).objs.size;rw[ac4];exact ah2 (fs b hb)) c1 c2;dsimp only at I4;have NQ:(s.heap.push {cls:= .type "dict",data:= .dict #[]}).objs.size=s.heap.objs.size+1:=ac4 ..;generalize hY:dF X N scope {s with heap:=s.heap.push {cls:= .type "dict",data:= .dict #[]},toks:=s.toks} (upd H s.heap.objs.size (.dT [])) cl (s.heap.push {cls:= .type "dict",data:= .dict #[]}).objs.size fp=Y at I4;have UG:=hY;have nS:Y.env=nL scope cl (s.heap.push {cls:= .type "dict",data:= .dict #[]}).objs.size X.env:=by rw[<-hY];rfl
 have cf:Y.prog=X.prog:=by rw[<-hY];rfl
 have Yw:Y.w=X.w:=by rw[<-hY];rfl
 have YA:Y.A=X.A:=by rw[<-hY];rfl
 have YK:Y.K=X.K:=by rw[<-hY];rfl
 have jZ:Y.calm=true:=by rw[<-hY];exact hc
 have rY:Y.xe=fun _ _=>False:=by rw[<-hY];rfl
 have um:Y.ex=fp:=by rw[<-hY];rfl
 have OI:Y.pn= []:=by rw[<-hY];rfl
 have OJ:Y.fs=kR X.stack:=by rw[<-hY];rfl
 have HW:Y.s₀={s with heap:=s.heap.push {cls:= .type "dict",data:= .dict #[]},toks:=s.toks}:=by rw[<-hY];rfl
 have OK:Y.H₀=upd H s.heap.objs.size (.dT []):=by rw[<-hY];rfl
 have NG:PG Y tg g:=by rw[<-hY];exact hg _ _ _ _ _
 have WT:PE Y kx tk:=by rw[<-hY];exact hk _ _ _ _ _
 have Wy:PE Y vx tv:=by rw[<-hY];exact hv _ _ _ _ _
 have WC:Y.A.units < cLine:=by rw[YA];exact hu
 have hm:(Y.N.length:Nat)=(gA nt js σ).length:=I4.len.symm;rw[<-nS,<-cf,<-Yw,<-YA];have CD: ∀{H':Hp} (_: ∀b∈fp,H' b=none),∀b∈fp,cV Y [] H' b:=fun{H'} hn b hb=>by
  refine⟨hn b hb,(I4.ok.HE b (by rw[um];exact hb)).1,I4.ok.vw b (by rw[um];exact hb),.inl (by rw[um];exact hb),(I4.ok.HE b (by rw[um];exact hb)).2,fun p hp=>?_⟩;rw[OI] at hp;simp at hp
 have back: ∀{H':Hp} {s':Shared} {σ':St},Inv Y [] σ' H' s'->Inv X pins σ H' s'/\cV X pins H' Y.env.locals/\ ∃m,s'.heap.Ns Y.env.locals m:=fun{H' s' σ'} J=>by
  have hb:Un (kR X.stack) fp (upd H s.heap.objs.size (.dT [])) H' (s.heap.push {cls:= .type "dict",data:= .dict #[]}) s'.heap:=by
   have:=J.base;rw[OJ,um,OK,HW] at this;exact this
  have loc:Y.env.locals=s.heap.objs.size+1:=by rw[nS];exact NQ
  have os:s'.os=s.os:=by
   have:=J.os;rw[HW] at this;exact this
  have aT:gI X.prog X.w H' s'.heap:=by
   have:=J.aT;rw[cf,Yw] at this;exact this
  refine⟨I3.xW (ch:=fp) os hb aT J.bare fun b hb=>⟨(ff b hb).2.2.2.1,(ff b hb).2.1,(ff b hb).2.2.2.2.1,(ff b hb).2.2.2.2.2⟩,?_,let ⟨m,q,_⟩:=J.loc;⟨m,q⟩⟩;exact I.gE (by rw[loc];exact al3 _) J.free
 have loop:codeAny (model Y.prog Y.w) Y.A (.compLoop (.DictComp kx vx [⟨tg,iter,[],0⟩] scope pos) 0 (.ref it) (.ref s.heap.objs.size) Y.env) (RR (.ref s.heap.objs.size) Y.env.locals)
   {s with heap:=pushCells ((s.heap.push {cls:= .type "dict",data:= .dict #[]}).push {cls:= .type "dict",data:= .dict #[]}) scope.names}:=by
  refine oI (fun n s'=> ∃i H',Inv Y [] (gA nt js σ) H' s'/\tn i s'.heap/\(∀b∈fp,H' b=none)/\W i n H') ?_ m0
   ⟨0,_,I4,T.keep _ _ _ st fun b _ o e=>ai5 _ _ b o (Zv _ (kD b o e)),fun b hb=>(HD b hb).1,w0⟩
  rintro n s5 ⟨i,H5,I5,uL,zm,w5⟩
  rcases turn i n H5 w5 with ⟨stop,q⟩ | ⟨go,B,hB,step⟩
  . have hd:=T.done Y cf Yw YK jZ i [] s5 _ H5 (fun _ _=>False) I5 (CD zm) uL stop;rw[<-cf,<-Yw] at hd;refine aU hd fun r s6 j7=>?_;obtain⟨hr,I6⟩:=j7;subst hr;obtain⟨b1,b2,b3⟩:=back I6;exact fin _ _ _ _ b1 b2 b3 q
  . have hd:=T.item Y cf Yw YK jZ i [] s5 _ H5 (fun _ _=>False) I5 (CD zm) uL go;rw[<-cf,<-Yw] at hd;refine aU hd fun r s6 oi=>?_;obtain⟨u,hr,h6⟩:=oi;subst hr;refine aU h6 fun _ s7 pX=>?_;obtain⟨x,H7,I7,r7,y7,uK,Kn⟩:=pX;have Lh:=I7.pinned (CD Kn) (T.obj _ _ uK);have g7:=eE _ _ _ _ (step x H7 y7);have h7:=NG _ s7 _ H7 x u _ Lh r7 g7;rw[rY] at h7;refine aU h7 fun _ s8 oh=>?_;obtain⟨σ8,H8,I8,q8,l8,k8⟩:=oh;have h8:=WT _ s8 σ8 H8 _ I8 q8;rw[rY] at h8;refine aU h8 fun Ys s9 iQ=>?_;obtain⟨kv,H9,I9,r9,q9⟩:=iQ;have h9:=Wy _ s9 σ8 H9 _ I9 q9;rw[rY] at h9;refine aU h9 fun Yf n6 mm=>?_;obtain⟨vv,kY,uq,MF,ED,dp,Ji⟩:=mm;have Gi:=zw (E:=fun _ _=>False) (Q:=fun _ s'=> ∃m,m < n/\ ∃i H',Inv Y [] (gA nt js σ) H' s'/\tn i s'.heap/\(∀b∈fp,H' b=none)/\W i m H') WC uq dp r9 MF fun Mu G1=>by
     obtain⟨m',J7,Iq⟩:=hB ED Ji;refine⟨m',J7,i+1,ED,G1.eh.weak l8.symm fun k v e=>?_,T.keep _ _ _ uK fun b hb o e=>(G1.pin (b,o) (ZS _ (ZS _ (bA hb e)))).1,fun b hb=>?_,Iq⟩
     . by_cases hk:nt<=k
       . rw[k8 k hk];exact e
       . exfalso;unfold gA at e;rw[Z3 (by simp;lia),ZX,if_pos (by lia)] at e;cases e
     . obtain⟨o,e,d⟩:=T.obj _ _ uK b hb;exact(G1.pin (b,o) (ZS _ (ZS _ (bA hb e)))).2.1
    exact Gi
 have tY:(s.heap.push {cls:= .type "dict",data:= .dict #[]}).objs.size=Y.env.locals:=by rw[nS];rfl
 rw[tY];exact codeAny_compStart_dict loop (by rw[cf,Yw,YA] at*;exact T.self _ 0 _ _ _ (T.keep _ _ _ st fun b _ o e=>ai5 _ _ b o (Zv _ (kD b o e))) loop)
theorem BC(S:je X N nt js scope)(hc:X.calm=true)(hi:PI X tg iter wi)(hg: ∀s H cl C ex,PG (dF X N scope s H cl C ex) tg g)(eE:jd nt g)(hk: ∀s H cl C ex,PE (dF X N scope s H cl C ex) kx tk)(hv: ∀s H cl C ex,PE (dF X N scope s H cl C ex) vx tv)(hu:X.A.units < cLine)(hs: ∀x,foldedSetIterable iter X.env x=pure x:=by intro _;rfl):PE X (.DictComp kx vx [⟨tg,iter,[],0⟩] scope pos) (AJ nt js wi g tk tv):=by
 intro pins s σ H Q I h;obtain⟨cl,Es,c1,c2⟩:=eK (scope:=scope) (env:=X.env) fun x hx e=>I.ok.has x.1 (S.EZ x hx e);rw[arm_eval_DictComp];refine ak7 (use:=none) rfl hs Es S.kind S.names (aU (hi pins s σ H _ I h) fun v s1 h1=>aU h1 fun Lu s2 h2=>?_);obtain⟨it,fp,tn,J,H2,rfl,I2,T,gG,f2,R⟩:=h2;refine vD (RR:=fun acc C=>compPost (model X.prog X.w) X.A X.xe none (EP X pins σ Q) acc C) S hc hg eE hk hv hu I2 T gG f2 c1 c2 R fun D C s' H' I' fo j9 q=>?_;obtain⟨m,hn⟩:=j9;refine⟨m,hn,fun h' sb=>⟨.ref D,H',?_,rfl,q⟩⟩;obtain⟨f0,f1,_,f3,f4,f5⟩:=fo;exact I'.turned (t':=s'.toks) (fun b o hb e=>(sb.2 b hb).trans e) f0 f1 f3 f4 f5
end L2
namespace LD
open PySem PySem.Spec L2 LB PyProof.Rows LW
abbrev Ee:=List Sl->(List (List Key)->List Dt->List Sl->Prop)->Prop
inductive Uo(t:Ee)(σ:L2.St)(H:Hp)(Q:VK):Prop
 | mk (W:List Wd) (M:Addr->Prop) (α:List (List Addr)) (δ:List Sl) (Qd:List (List Key)->List Dt->List Sl->Prop) (h1:az W M α H σ δ) (h2:t δ Qd) (h3: ∀ks ds δ' H1 vs a,Qd ks ds δ'->az W M α H1 σ δ'->cW α H H1->vs.map (·.1)=ks->aA M H1 (vs.map (·.2)) ds->H1 a=none->Q (.ref a) (upd H1 a (.dT vs)))
abbrev Tt(X:Cx)(e:Expr)(t:Ee):Prop:=PE X e (Uo t)
section
variable{X:Cx}{N:List Str}{nt:Nat}{js:List Nat}{scope:Scope}{kx vx tg iter e:Expr}{pos pos':Pos}{ti:oT}{g:rZ}{tk tv:bt}{t:Ee}{x:Str}{xp:Pos}
def Ob(i:Nat)(t:Ee):j6:=fun Δ δ=>t δ fun ks ds δ'=>bY δ' i/\Δ.nx (δ'.set i (td ks ds))
theorem A3(i:Nat)(hN:X.N.Nodup)(he:Tt X e t)(hi:X.N[i]?=some x:=by rfl)(hx:Loc X.env.scope x:=by first | exact Or.inl rfl | exact Or.inr rfl)(hs:swapsWith e (some (.Name x xp)) pos.line X.env=pure false:=by rfl)(hf:X.fn x=true\/X.env.scope.names.lookup x=some .local:=by first | exact .inl rfl | exact .inr rfl | assumption):
  Ex X (.Assign [.Name x xp] e pos) (Ob i t):=PS.imp (dJ hN hi hx he hs hf) fun D σ H zz=>(by
 obtain⟨Ws,M,α,δ,Δ,E,L,q⟩:=zz;refine⟨Ws,M,α,δ,_,E,q,fun ks ds δ' H1 vs a zz E1 c1 e1 r1 h1=>?_⟩;obtain⟨ok,q1⟩:=zz;have mo: ∀b u,H1 b=some u-> ¬M b->upd H1 a (.dT vs) b=some u/\ ¬(M b\/b=a):=fun b u e n=>⟨by rw[ah (ai e h1)];exact e,fun z=>z.elim n (ai e h1)⟩
 exact L.nx _ _ _ _ _ (E1.mG (s:=td ks ds) h1 (fun xs z=>by cases z) ok rfl ⟨_,rfl,a,vs,rfl,rfl,ag,e1,r1.mono mo⟩) q1)
def Du(nt:Nat)(js:List Nat)(ti:oT)(g:rZ)(tk tv:bt):Ee:=fun δ Q=>ti δ fun ao δ1=>ao.length<=sizeLine/\ ∃(fk:Dt->List Key) (fv:Dt->Dt),(∀d∈ao,g d (cin nt js δ1) fun δ2=>tk δ2 fun dk δ3=>F0 dk=some (fk d)/\tv δ3 fun r _=>r=fv d)/\(ao.map fk).Nodup/\Q (ao.map fk) (ao.map fv) δ1
theorem vF(qT: ∀v σ H Q,lG g v σ H Q->gh v σ H Q): ∀σ H Q,Uo (Du nt js ti g tk tv) σ H Q->AJ nt js (lI ti) gh (lE tk) (lE tv) σ H Q:=fun σ H Q zz=>(by
 obtain⟨W,M,α,δ,Qd,E,q,k⟩:=zz;refine⟨W,M,α,δ,_,E,q,fun ao δ1 H1 J dS E1 c1 yl D hD=>?_⟩;obtain⟨hsz,fk,fv,step,nd,q1⟩:=dS;have s0:aC H1 (upd H1 D (.dT [])):=aC.new hD;refine⟨fun i m H2=>m=ao.length - i/\i<=ao.length/\ ∃vs,H2 D=some (.dT vs)/\vs.map (·.1)=(ao.take i).map fk/\aA (fun b=>M b\/b=D) H2 (vs.map (·.2)) ((ao.take i).map fv)/\aC H1 H2/\j3 (fun b=>M b\/b=D) H2,⟨ao.length,by simp,Z7 _,[],ag,rfl,.nil,s0,fun a ha=>?_⟩,?_⟩
 . rcases ha with ha | ha
   . obtain⟨o,e,n⟩:=E1.al a ha;exact⟨o,s0 _ _ e,n⟩
   . subst ha;exact⟨_,ag,fun xs z=>by cases z⟩
 rintro i m H2 ⟨rfl,hi,vs,uw,NV,gB,s2,Hl⟩
 have kf:Kf M H1 H2:=fun b o e _=>s2 _ _ e;by_cases dr:i < ao.length
 . have hb: ∀b,H1 b≠none-> ¬M b-> ¬(fun b=>M b\/b=D) b:=fun b n z y=>y.elim z fun w=>n (by rw[w];exact hD);obtain⟨go,se⟩:=yl.go i H2 (fun b=>M b\/b=D) kf Hl hb dr;refine .inr ⟨go,fun H'=> ∃vs,H' D=some (.dT vs)/\vs.map (·.1)=(ao.take (i+1)).map fk/\aA (fun b=>M b\/b=D) H' (vs.map (·.2)) ((ao.take (i+1)).map fv)/\aC H1 H'/\j3 (fun b=>M b\/b=D) H',fun H' j8=>⟨ao.length - (i+1),by omega,rfl,dr,j8⟩,fun x H3 y=>?_⟩;obtain⟨s3,d,hd,rx⟩:=se x H3 y;have E2:az [] (fun b=>M b\/b=D) (List.replicate (nt+js.length) []) H2 (gA nt js σ) (cin nt js δ1):=by
    have su:aC (upd H1 D (.dT vs)) H2:=fun b o e=>by
     by_cases hb:b=D
     . subst hb;rw[ag] at e;cases e;exact uw
     . rw[ah hb] at e;exact s2 _ _ e
    have Ea:az [] (fun b=>M b\/b=D) α H2 σ δ1:=⟨E1.ls,E1.la,fun i s h=>let ⟨o,as,h1,h2,h3⟩:=E1.sl i s h;⟨o,as,h1,h2,(h3.grow (u:= .dT vs) hD).same su⟩,E1.nd,fun a h=> .inl (E1.mu a h),Hl,fun W hW=>absurd hW Zz⟩
    exact jW Ea
   have E3:=E2.same s3;have aY:(List.replicate (nt+js.length) ([]:List Addr)).flatten= []:=by simp
   refine qT _ _ _ _ ⟨[],_,_,_,d,_,E3,rx,step d (ZY hd),fun α4 δ4 σ4 q4 E4 hα=>?_⟩;have Ey:α4.flatten= []:=ad8.mpr fun x hx=>by have:=hα x hx;rw[aY] at this;exact absurd this Zz
   refine⟨[],_,α4,δ4,_,E4,q4,fun dk δ5 H5 kv iP E5 c5 rk=>?_⟩;obtain⟨hk,q5⟩:=iP;have s5:aC H3 H5:=fun b o e=>c5 b o e (by rw[Ey];exact Zz);refine⟨[],_,α4,δ5,_,E5,q5,fun r δ6 H6 v e6 E6 c6 r6=>?_⟩;subst e6;have s6:aC H5 H6:=fun b o e=>c6 b o e (by rw[Ey];exact Zz);have A8:aC H2 H6:=fun b o e=>s6 _ _ (s5 _ _ (s3 _ _ e));have So:=A8 _ _ uw;have QG:ao.take (i+1)=ao.take i++ [d]:=by rw[af3,hd];rfl
   obtain⟨kb,Xs,NA⟩:=nj (rk.same s6) hk;subst Xs;have nk:fk d∉vs.map (·.1):=by
    rw[NV];have:(ao.map fk).Nodup:=nd;rw[<-ae3 (i+1) ao,QG,ZV,ZV] at this;have:=(ai7.mp (ai7.mp this).1).2.2;exact fun z=>this _ z _ ZI rfl
   have lv:vs.length < sizeLine:=by
    have:vs.length=(ao.take i).length:=by rw[<-Zu (f:=(·.1)),NV,Zu]
    rw[this,ac0];exact ZU (by omega) hsz
   refine⟨_,n4.t So NA lv,?_⟩;rw[sZ nk];have up: ∀{zs:List V} {ds:List Dt},aA (fun b=>M b\/b=D) H6 zs ds->aA (fun b=>M b\/b=D) (upd H6 D (.dT (vs++ [(fk d,v)]))) zs ds:=fun r=>r.mono fun a o e n=>⟨by rw[ah (fun z=>n (.inr z))];exact e,n⟩
   refine⟨vs++ [(fk d,v)],ag,by rw[QG,ZV,ZV,NV];rfl,?_,fun b o e=>by rw[ah (ai e hD)];exact A8 _ _ (s2 _ _ e),fun a ha=>?_⟩
   . rw[QG,ZV,ZV];exact up ((gB.same A8).append (.one r6))
   . by_cases hb:a=D
     . subst hb;exact⟨_,ag,fun xs z=>by cases z⟩
     . rw[ah hb];exact E6.al a ha
 . have e:i=ao.length:=by omega
   subst e;refine .inl ⟨yl.stop H2 kf,?_⟩;rw[ac9] at gB NV;have eH:upd (fun b=>if b=D then none else H2 b) D (.dT vs)=H2:=by
    funext b
    by_cases hb:b=D
    . subst hb;rw[ag,uw]
    . rw[ah hb,if_neg hb]
   rw[<-eH];have sH:aC H1 (fun b=>if b=D then none else H2 b):=fun b o e=>by
    show(if b=D then none else H2 b)=some o;rw[if_neg (ai e hD)];exact s2 _ _ e
   refine k _ _ _ _ _ _ q1 (E1.same sH) (c1.tr (cW.of sH)) NV (gB.mono fun a o e n=>⟨?_,fun z=>n (.inl z)⟩) (by show(if D=D then none else H2 D)=none;rw[if_pos rfl]);show(if a=D then none else H2 a)=some o;rw[if_neg (fun z=>n (.inr z))];exact e)
theorem FR(S:je X N nt js scope)(hc:X.calm=true)(hi:Iv X tg iter ti)(hg: ∀s H cl C ex,PG (dF X N scope s H cl C ex) tg gh)(eE:jd nt gh)(qT: ∀v σ H Q,lG g v σ H Q->gh v σ H Q)(hk: ∀s H cl C ex,Ev (dF X N scope s H cl C ex) kx tk)(hv: ∀s H cl C ex,Ev (dF X N scope s H cl C ex) vx tv)(hu:X.A.units < cLine)(hs: ∀x,foldedSetIterable iter X.env x=pure x:=by intro _;rfl):Tt X (.DictComp kx vx [⟨tg,iter,[],0⟩] scope pos) (Du nt js ti g tk tv):=PE.imp (BC S hc hi hg eE hk hv hu hs) (vF qT)
end
section
variable{X:Cx}{x:Str}{xp p pos:Pos}
noncomputable def tT(P:Program)(w:World)(k:List Key):Int:=tupleKeyHash (aV P w) k
inductive K0(P:Program)(w:World)(i:Nat)(δ:List Sl)(Q:List (List Key)->List Dt->List Sl->Prop):Prop
 | mk (ks:List (List Key)) (ds:List Dt) (h1:δ[i]?=some (td ks ds)) (h2:ks≠ []) (h3:(ks.map (tT P w)).Nodup) (h4:Q ks ds δ)
theorem vL:bootBuiltins "dict"=some (.type "dict"):=by decide+kernel
theorem FQ(i:Nat)(hA:X.A.handled=none)(hm:X.mg "dict"=none)(ho:PE X (.Name x xp) (gy i))(hg:Gl X "dict":=by rfl)(he:starEach [.Name x xp] X.env=(false,eval (.Name x xp) X.env)::starEach [] X.env:=by rfl)(dq:(backTo pos (starEach [] X.env)).any (·.1)=false:=by rfl):
  Tt X (.Call (.Name "dict" p) [.Name x xp] [] pos) (K0 X.prog X.w i):=PE.imp (iB (HY.vJ hA) hg hm vL (af ho aG he) (by decide) (by decide) he dq) fun σ H Q zz=>(by
 obtain⟨W,M,α,δ,Qd,E,⟨ks,ds,h1,h2,h3,q⟩,k⟩:=zz;obtain⟨a,vs,s1,s2,s3,s4,s5⟩:=sL E h1;subst s4;refine⟨_,s1,a,vs,rfl,s3,fun z=>h2 (by rw[z];rfl),by rw[ab1] at h3;exact h3,fun d hd=>k _ _ _ _ _ _ q E cW.rf rfl s5 hd⟩)
end
section
variable{X:Cx}{e:Expr}{tA:iG}{p pos qM cp:Pos}{j:Nat}{nm:Option Str}
inductive Ll(ds:List Dt)(Q:Dt->Prop):Prop
 | mk (ns:List Int) (h1:ds= [.lst (ns.map .int)]) (h2:ns= []->Q .aD) (h3: ∀m,m∈ns->(∀a∈ns,a<=m)->Q (.int m))
theorem KC(hc:X.calm=true)(hm:X.mg "max"=none)(ha:Av X [e] tA)(hg:Gl X "max":=by rfl)
  (xr:(backToKw pos (keywordEach [⟨nm,.Constant .none j cp,qM⟩] X.env)).filterMap (·.1)=(["default"]:List Str):=by rfl) (k1:backTo pos (starEach [e] X.env)=(false,eval e X.env)::backTo pos (starEach [] X.env):=by rfl) (k2:(backTo pos (starEach [e] X.env)).any (·.1)=false:=by rfl)
  (k3:(backToKw pos (keywordEach [⟨nm,.Constant .none j cp,qM⟩] X.env)).all (·.1.isSome)=true:=by rfl) (k4:(backToKw pos (keywordEach [⟨nm,.Constant .none j cp,qM⟩] X.env)).any (·.1.isNone)=false:=by rfl):
  Ev X (.Call (.Name "max" p) [e] [⟨nm,.Constant .none j cp,qM⟩] pos) (Dz Ll tA):=PE.imp (Fp hc hg hm ha (wR By Bp) xr k1 k2 k3 k4) fun σ H Q zz=>(by
 obtain⟨W,M,α,δ,Qd,E,q,k⟩:=zz;refine⟨W,M,α,δ,_,E,q,fun es δ1 H1 vs zz E1 c1 r1=>?_⟩;obtain⟨ns,e1,q2,q3⟩:=zz;subst e1;obtain⟨x,rfl,rx⟩:=fR r1;obtain⟨a,zs,rfl,ha,n,rr⟩:=rx.cO;rw[ints_rep rr] at ha;refine⟨a,ns,.aD,rfl,rfl,ha,fun v hv=>?_⟩;rcases hv with ⟨h1,rfl⟩ | ⟨m,rfl,h1,h2⟩
 . exact k _ _ _ _ (q2 h1) E1 c1 .aD
 . exact k _ _ _ _ (q3 m h1 h2) E1 c1 (.int _))
end
section
variable{X:Cx}{a b e f:Expr}{ta tb:bt}{tA:iG}{p pos:Pos}
inductive D9(ds:List Dt)(Q:Dt->Prop):Prop
 | mk (i j:Int) (h1:ds= [.int i,.int j]) (h2:0 < j) (h3:j < 2^64) (h4:Q (.tup [.int (i / j),.int (i % j)]))
theorem rD:bootBuiltins "divmod"=some (.builtin "divmod"):=by decide+kernel
theorem Df(hm:X.mg "divmod"=none)(ha:Av X [e,f] tA)(hg:Gl X "divmod":=by rfl)(he:starEach [e,f] X.env=(false,eval e X.env)::starEach [f] X.env:=by rfl)(dq:(backTo pos (starEach [f] X.env)).any (·.1)=false:=by rfl):
  Ev X (.Call (.Name "divmod" p) [e,f] [] pos) (Dz D9 tA):=jT jY (fun M H xs ds Qd Q al r zz k=>(by
 obtain⟨i,j,e1,h2,h3,q⟩:=zz;subst e1;obtain⟨x,ys,rfl,r2,r3⟩:=r.aQ;obtain⟨y,zs,rfl,r4,r5⟩:=r3.aQ;cases r5.eQ;cases r2.ofInt;cases r4.ofInt;refine⟨i,j,rfl,⟨h2,h3⟩,fun q1 hq=>?_⟩;exact k _ _ _ q (aC.new hq) (Rep.jj ag (al.fresh hq) (.cons (.int _) (.cons (.int _) .nil))))) hg hm rD ha (by decide) (by decide) he dq
end
section
variable{X:Cx}{pos:Pos}
inductive CZ(i j l m:Nat)(d:Dt)(δ:List Sl)(Q:List Sl->Prop):Prop
 | mk (d1 d2 d3 d4:Dt) (h1:d= .tup [d1,d2,d3,d4]) (h2:bY δ i) (h3:bY (δ.set i (.im d1)) j) (h4:bY ((δ.set i (.im d1)).set j (.im d2)) l) (h5:bY (((δ.set i (.im d1)).set j (.im d2)).set l (.im d3)) m) (h6:Q ((((δ.set i (.im d1)).set j (.im d2)).set l (.im d3)).set m (.im d4)))
theorem vk{i j l m:Nat}{K:PySem.W.Frag}: ∀v σ H Q,lG (CZ i j l m) v σ H Q->zj K 4 (eV (cB i) (eV (cB j) (eV (cB l) (eV (cB m) vp)))) v σ H Q:=fun v σ H Q zz=>(by
 obtain⟨W,M,α,δ,d,Qd,E,r,⟨d1,d2,d3,d4,e,FL,FK,Q5,V6,q⟩,k⟩:=zz;subst e;obtain⟨a,xs,rfl,ha,n,rr⟩:=r.bN;obtain⟨x,ys,rfl,r2,r3⟩:=rr.aQ;obtain⟨y,zs,rfl,r4,r5⟩:=r3.aQ;obtain⟨z,ws,rfl,r6,r7⟩:=r5.aQ;obtain⟨u,us,rfl,r8,r9⟩:=r7.aQ;cases r9.eQ;exact⟨a,_,rfl,dG.of ha,rfl,x,_,rfl,y,_,rfl,z,_,rfl,u,_,rfl,rfl,k _ _ _ q ((((E.gm r2 FL).gm r4 FK).gm r6 Q5).gm r8 V6) fun x h=>cE x (cE x (cE x (cE x h)))⟩)
theorem Kl(i j l m:Nat)(hc:X.calm=true)(hN:X.N.Nodup)(hi:X.N[i]?=some x:=by rfl)(hj:X.N[j]?=some y:=by rfl)(hl:X.N[l]?=some z:=by rfl)(hm:X.N[m]?=some u:=by rfl)(hx:Loc X.env.scope x:=by first | exact Or.inl rfl | exact Or.inr rfl)(hy:Loc X.env.scope y:=by first | exact Or.inl rfl | exact Or.inr rfl)(hz:Loc X.env.scope z:=by first | exact Or.inl rfl | exact Or.inr rfl)(hu:Loc X.env.scope u:=by first | exact Or.inl rfl | exact Or.inr rfl)(hf:X.fn x=true\/X.env.scope.names.lookup x=some .local:=by first | exact .inl rfl | exact .inr rfl | assumption)(zf:X.fn y=true\/X.env.scope.names.lookup y=some .local:=by first | exact .inl rfl | exact .inr rfl | assumption)(R3:X.fn z=true\/X.env.scope.names.lookup z=some .local:=by first | exact .inl rfl | exact .inr rfl | assumption)(W3:X.fn u=true\/X.env.scope.names.lookup u=some .local:=by first | exact .inl rfl | exact .inr rfl | assumption)(hn:(assignEach [.Name x px, .Name y py, .Name z pz, .Name u pu] X.env).length=4:=by rfl)(qR:(assignEach [.Name x px, .Name y py, .Name z pz, .Name u pu] X.env).findIdx? (·.1)=none:=by rfl)(h1:(assignEach [.Name x px, .Name y py, .Name z pz, .Name u pu] X.env).map (·.2)=assign (.Name x px) X.env::(assignEach [.Name y py, .Name z pz, .Name u pu] X.env).map (·.2):=by rfl)(h2:(assignEach [.Name y py, .Name z pz, .Name u pu] X.env).map (·.2)=assign (.Name y py) X.env::(assignEach [.Name z pz, .Name u pu] X.env).map (·.2):=by rfl)(h3:(assignEach [.Name z pz, .Name u pu] X.env).map (·.2)=assign (.Name z pz) X.env::(assignEach [.Name u pu] X.env).map (·.2):=by rfl)(h4:(assignEach [.Name u pu] X.env).map (·.2)=assign (.Name u pu) X.env::(assignEach [] X.env).map (·.2):=by rfl):
  Gv X (.Tuple [.Name x px,.Name y py,.Name z pz,.Name u pu] kk pos) (CZ i j l m):=PG.imp (cM hc (aI (aE hN hi hx hf) (aI (aE hN hj hy zf) (aI (aE hN hl hz R3) (aI (aE hN hm hu W3) bR h4) h3) h2) h1) hn qR) vk
end
section
variable{X:Cx}
inductive Og(i:Nat)(δ:List Sl)(Q:Dt->List Sl->Prop):Prop
 | mk (ds:List Dt) (h1:δ[i]?=some (.ow ds)) (h2:Q .aD (δ.set i (.ow ds.reverse)))
theorem kA(i:Nat){xp apos dM:Pos}(ho:PE X (.Name x xp) (gy i))(jG:attributeBase (.Name x xp) "reverse" X.env (eval (.Name x xp) X.env)=eval (.Name x xp) X.env:=by rfl)(jF:(apos.endLine==dM.line)=true:=by rfl):
  Ev X (.Call (.Attribute (.Name x xp) "reverse" apos) [] [] dM) (Og i):=
 PE.imp (Ju am9 PySem.F.slot_list_reverse PySem.F.type_list_reverse u4 ho jG jF) fun σ H Q zz=>(by
  obtain⟨W,M,α,δ,Qd,E,⟨ds,hd,q⟩,k⟩:=zz;obtain⟨a,xs,h1,h2,h3,r3⟩:=E.ow hd;refine⟨_,h1,.inl ⟨rfl,_,cY.of h3⟩,a,xs,rfl,rfl,h3,?_⟩;obtain⟨E2,c2⟩:=lN E hd h1 h2 r3.rev;exact k _ _ _ _ q E2 c2 .aD)
end
theorem Rep.Sw(f:yf d)(t: ∀b ys,H b=some (.tup ys)->H' b=some (.tup ys))(al:j3 M' H'): ∀{v:V},Rep M H v d->Rep M' H' v d:=by
 induction f with
 | aD=>intro v r;cases r;exact .aD
 | bl b=>intro v r;cases r;exact .bl b
 | int i=>intro v r;cases r;exact .int i
 | str x=>intro v r;cases r;exact .str x
 | @tup ds _ ih=>
  intro v r;obtain⟨a,xs,rfl,ha,_,rr⟩:=r.bN;exact Rep.jj (t _ _ ha) (al.tup (t _ _ ha)) ⟨rr.1,fun i x d h1 h2=>ih d (ZY h2) (rr.2 i x d h1 h2)⟩
section
variable{X:Cx}{x:Str}{k:Nat}{ps:List Str}{e:Expr}{es:List Expr}{p pos:Pos}
def S6(S:DN)(t:iG):z0:=fun δ Q=>t δ fun ds δ'=>(∀d∈ds,yf d)/\S ds fun r=> ∃es,r= .lst es/\(∀d∈es,yf d)/\Q es δ'
theorem MV(h:fB X.prog X.w X.K X.mg X.base x k ps (bT S))(hr:bD k X.A)(ha:Av X (e::es) t)(hg:Gl X x:=by rfl)(i8:(x==("__debug__":Str))=false:=by decide)(he:starEach (e::es) X.env=(false,eval e X.env)::starEach es X.env:=by rfl)(dq:(backTo pos (starEach es X.env)).any (·.1)=false:=by rfl):
  Ov X (.Call (.Name x p) (e::es) [] pos) (S6 S t):=PE.imp (mW h hr hg ha i8 he dq) fun σ H Q ck=>(by
 obtain⟨W,M,α,δ,Qd,E,q,k⟩:=ck;refine⟨W,M,α,δ,_,E,q,fun ds δ' H' vs dS E1 c1 r1=>?_⟩;obtain⟨fl,q1⟩:=dS;show bT S (vs++ []) H' Q E0;rw[ab2];have al:j3 (fun a=>M a\/ ∃o,H' a=some o/\ ∀xs,o≠ .tup xs) H':=fun a z=>z.elim (E1.al a) id;refine⟨_,ds,_,al,r1.zV fl al,q1,fun r H2 v2 oi s r2=>?_⟩;obtain⟨es,er,at',q2⟩:=oi;subst er;obtain⟨a,xs,rfl,h2,n,rr⟩:=r2.cO;have fr:H' a=none:=by
  cases e:H' a with
  | none=>rfl
  | some o=>
   have:=s _ _ e;rw[h2] at this;cases this;exact absurd (.inr ⟨_,e,fun xs z=>by cases z⟩) n
 have e2:H2=upd (fun b=>if b=a then none else H2 b) a (.lst xs):=by
  funext b
  by_cases c:b=a
  . subst c;rw[ag];exact h2
  . rw[ah c,if_neg c]
 have s2:aC H' (fun b=>if b=a then none else H2 b):=fun b o e=>by
  have:b≠a:=fun z=>by subst z;rw[fr] at e;cases e
  show(if b=a then none else H2 b)=some o;rw[if_neg this];exact s _ _ e
 have E2:=E1.same s2;have mR:aA M (fun b=>if b=a then none else H2 b) xs es:=⟨rr.1,fun i x d g1 g2=>Rep.Sw (at' d (ZY g2)) (fun b ys hb=>by
  have:b≠a:=fun z=>by subst z;rw[h2] at hb;cases hb
  show(if b=a then none else H2 b)=_;rw[if_neg this];exact hb) E2.al (rr.2 i x d g1 g2)⟩
 rw[e2];exact k _ _ _ _ _ q2 E2 (c1.tr (cW.of s2)) mR (if_pos rfl))
end
end LD
namespace jc
open PySem PySem.Spec L2 LB LD PyProof.Rows
abbrev Pr:=Nat × Nat
noncomputable def eX(n:Nat):List Pr:=(List.range (n - 1)).flatMap fun k=>(List.range (n - (k+1))).map fun j=>(j+1,j+1+(k+1))
theorem fT:p∈eX n↔1<=p.1/\p.1 < p.2/\p.2<=n:=by
 unfold eX;constructor
 . intro h;obtain⟨k,hk,h⟩:=aa0.mp h;obtain⟨j,hj,rfl⟩:=ZL.mp h;have:=ab3.mp hk;have:=ab3.mp hj;exact⟨by dsimp only;lia,by dsimp only;lia,by dsimp only;lia⟩
 . rintro⟨h1,h2,h3⟩
   refine aa0.mpr ⟨p.2 - p.1 - 1,ab3.mpr (by lia),ZL.mpr ⟨p.1 - 1,ab3.mpr (by lia),?_⟩⟩;obtain⟨a,b⟩:=p;simp only at h1 h2 h3 ⊢;rw[show a - 1+1=a by lia,show a+(b - a - 1+1)=b by lia]
def lo(p q:Pr):Prop:=p.2 - p.1 < q.2 - q.1\/(p.2 - p.1=q.2 - q.1/\p.1 < q.1)
theorem DL(n:Nat):(eX n).Pairwise lo:=by
 unfold eX;rw[List.pairwise_flatMap];refine⟨fun k _=>?_,?_⟩
 . rw[List.pairwise_map];refine List.pairwise_lt_range.imp fun h=> .inr ⟨?_,?_⟩
   . show _+1+(k+1) - (_+1)=_+1+(k+1) - (_+1);lia
   . show _+1 < _+1;lia
 . refine List.pairwise_lt_range.imp fun h x hx y hy=> .inl ?_;obtain⟨j,_,rfl⟩:=ZL.mp hx;obtain⟨i,_,rfl⟩:=ZL.mp hy;show _+1+(_+1) - (_+1) < _+1+(_+1) - (_+1);lia
theorem uf(h:(eX n)[i]?=some p)(hq:q∈eX n)(l:q.2 - q.1 < p.2 - p.1):q∈(eX n).take i:=by
 obtain⟨j,hj,rfl⟩:=af5 hq;obtain⟨hi,rfl⟩:=Zw.mp h;have lt:j < i:=by
  rcases Nat.lt_trichotomy j i with c | c | c
  . exact c
  . subst c;lia
  . have:=af8.mp (DL n) i j hi hj c;unfold lo at this;lia
 exact List.mem_take_iff_getElem.mpr ⟨j,by lia,rfl⟩
theorem rC(h:(eX n)[i]?=some p):p∉(eX n).take i:=fun z=>by
 obtain⟨hi,rfl⟩:=Zw.mp h;obtain⟨j,hj,e⟩:=List.mem_take_iff_getElem.mp z;have:=af8.mp (DL n) j i (by lia) hi (by lia);rw[e] at this;unfold lo at this;lia
noncomputable def pk(p:Pr):List Key:= [.inl (p.1:Int),.inl (p.2:Int)]
theorem Bq(h:pk p=pk q):p=q:=by
 unfold pk at h;injection h with h1 h2
 injection h2 with h2 _
 injection h1 with h1
 injection h2 with h2
 exact Prod.ext (by lia) (by lia)
theorem dU: ∀{L:List Pr},p∈L->yq (L.map pk) (L.map g) (pk p)=some (g p)
 | q::L,h=>by
  rw[ZT,ZT,yq];by_cases c:pk q=pk p
  . rw[if_pos c,Bq c]
  . rw[if_neg c];exact dU ((ZR.mp h).elim (fun z=>absurd (by rw[z]) c) id)
theorem Jo{p:Pr}{L:List Pr}(h:p∉L):pk p∉L.map pk:=fun z=>by
 obtain⟨q,hq,e⟩:=ZL.mp z;exact h (Bq e▸hq)
noncomputable def dg(n:Nat):List Pr:=(List.range' 1 n).map fun i=>(i,i)
theorem qI:p∈dg n↔p.1=p.2/\1<=p.1/\p.1<=n:=by
 unfold dg;constructor
 . intro h;obtain⟨i,hi,rfl⟩:=ZL.mp h;have:=aa4.mp hi;exact⟨rfl,by simp;lia,by simp;lia⟩
 . rintro⟨h1,h2,h3⟩
   exact ZL.mpr ⟨p.1,aa4.mpr ⟨by lia,by lia⟩,Prod.ext rfl h1⟩
theorem CW(h:(eX n)[i]?=some p):p∉dg n++(eX n).take i:=fun z=>by
 have:=fT.mp (ZY h);rcases aa7.mp z with z | z
 . have:=qI.mp z;lia
 . exact rC h z
theorem ya(e:(eX n)[i]?=some (l,h))(h1:l<=a)(h2:a<=b)(h3:b<=h)(h4:b - a < h - l):(a,b)∈dg n++(eX n).take i:=by
 have m:=fT.mp (ZY e);simp only at m;by_cases c:a=b
 . exact af1 _ (qI.mpr ⟨c,by simp;lia,by simp;lia⟩)
 . exact ZS _ (uf e (fT.mpr ⟨by simp;lia,by simp;lia,by simp;lia⟩) h4)
theorem Ti(e:(eX n)[i]?=some (l,h))(h1:l<=a)(h2:a < b)(h3:b<=h)(h4:b - a < h - l):(a,b)∈(eX n).take i:=by
 have m:=fT.mp (ZY e);simp only at m;exact uf e (fT.mpr ⟨by simp;lia,by simp;lia,by simp;lia⟩) h4
theorem take_snoc(h:(eX n)[i]?=some p):(eX n).take (i+1)=(eX n).take i++ [p]:=by rw[af3,h];rfl
noncomputable def hk(i:Nat):Int:=reduceHash (Builtin.Tuple.tupleHashOf [hashInt (i:Int),hashInt (i:Int)])
theorem Gd(P:Program)(w:World)(i:Nat):tT P w (pk (i,i))=hk i:=by rfl
theorem Cq:((List.range' 1 12).map hk).Nodup:=by decide+kernel
theorem yT{f:Nat->Int}(UJ:((List.range' 1 m).map f).Nodup)(h:n<=m):((List.range' 1 n).map f).Nodup:=by
 have e:List.range' 1 m=List.range' 1 n++List.range' (1+n) (m - n):=by
  rw[ad6,Nat.add_sub_cancel' h]
 rw[e,ZV] at UJ;exact UJ.sublist (List.sublist_append_left _ _)
theorem Kz(f:List Key->Int)(n:Nat):((dg n).map pk).map f=(List.range' 1 n).map fun i=>f (pk (i,i)):=by
 unfold dg;rw[ab1,ab1];rfl
theorem xF(P:Program)(w:World)(h:n<=12):(((dg n).map pk).map (tT P w)).Nodup:=by
 have e1:=Kz (tT P w) n;have e2:((List.range' 1 n).map fun i=>tT P w (pk (i,i)))=(List.range' 1 n).map hk:=Z0 fun i _=>Gd P w i;exact(e1.trans e2)▸yT Cq h
section
variable{α:Type}
noncomputable def oE(jn:List α->α)(rg lf:Nat->Nat->α)(l h:Nat):List α:=(List.range' l (h - l)).map fun a=>jn [rg l a,lf (a+1) h]
noncomputable def Jf(jn:List α->α)(rg rt:Nat->Nat->α)(l h:Nat):List α:=(List.range' (l+1) (h - l)).map fun a=>jn [rt l a,rg a h]
noncomputable def JL(jn:List α->α)(lf lt:Nat->Nat->α)(l h:Nat):List α:=(List.range' l (h - l)).map fun a=>jn [lf l a,lt a h]
noncomputable def toV(jn:List α->α)(w lf rg:Nat->Nat->α)(n:Nat):List α:=(List.range' 1 n).map fun t=>jn [w t 0,lf 1 t,rg t n]
structure Ts(oJ oC:List α->Prop)(jn ch:List α->α)(n:Nat)(w rg rt lf lt:Nat->Nat->α):Prop where
 j0:oJ []
 r0: ∀l,rg l l=jn []
 l0: ∀l,lf l l=jn []
 ji: ∀l a h,1<=l->l<=a->a < h->h<=n->oJ [rg l a,lf (a+1) h]
 ci: ∀l h,1<=l->l < h->h<=n->oC (oE jn rg lf l h)
 jr: ∀l h,1<=l->l < h->h<=n->oJ [w h l,ch (oE jn rg lf l h)]
 er: ∀l h,1<=l->l < h->h<=n->rt l h=jn [w h l,ch (oE jn rg lf l h)]
 jl: ∀l h,1<=l->l < h->h<=n->oJ [w l h,ch (oE jn rg lf l h)]
 el: ∀l h,1<=l->l < h->h<=n->lt l h=jn [w l h,ch (oE jn rg lf l h)]
 jR: ∀l a h,1<=l->l < a->a<=h->h<=n->oJ [rt l a,rg a h]
 cR: ∀l h,1<=l->l < h->h<=n->oC (Jf jn rg rt l h)
 eR: ∀l h,1<=l->l < h->h<=n->rg l h=ch (Jf jn rg rt l h)
 jL: ∀l a h,1<=l->l<=a->a < h->h<=n->oJ [lf l a,lt a h]
 cL: ∀l h,1<=l->l < h->h<=n->oC (JL jn lf lt l h)
 eL: ∀l h,1<=l->l < h->h<=n->lf l h=ch (JL jn lf lt l h)
 jt: ∀t,1<=t->t<=n->oJ [w t 0,lf 1 t,rg t n]
 ct:oC (toV jn w lf rg n)
variable (D:α->Dt)
def pH(ok:List α->Prop)(f:List α->α):DN:=fun ds Q=> ∃L:List α,ds= [.lst (L.map D)]/\ok L/\Q (D (f L))
noncomputable def Gx(L:List Pr)(f:Nat->Nat->α):Dt:= .l7 (L.map pk) (L.map fun p=>D (f p.1 p.2))
noncomputable def sV(n:Nat)(w:Nat->Nat->α)(i:Nat):Dt:= .tup ((List.range (n+1)).map fun o=>D (w i o))
noncomputable def IE(n:Nat)(w:Nat->Nat->α):Dt:= .tup ((List.range' 1 n).map (sV D n w))
theorem qw{n:Nat}{w:Nat->Nat->α}{i x:Nat}(h:x<=n):kX ((List.range (n+1)).map fun o=>D (w i o)) (x:Int)=some (D (w i x)):=
 aO (j:=x) (by rw[Zy,ac3 (by omega)];rfl)
theorem wm{n:Nat}{w:Nat->Nat->α}{x:Nat}(h1:1<=x)(h:x<=n):kX ((List.range' 1 n).map (sV D n w)) ((x:Int) - 1)=some (sV D n w x):=by
 rw[show(x:Int) - 1=((x - 1:Nat):Int) by omega];exact aO (j:=x - 1) (by rw[Zy,ad7 (by omega),show 1+1*(x - 1)=x by omega];rfl)
end
end jc
namespace LD
open PySem PySem.Spec L2 LB PyProof.Rows
theorem yn{Δ:dE}(I:Nat->List Sl->Prop)(h0: ∃m,I m δ)(h: ∀m δ,I m δ-> ∀Δ':dE,(∀m' δ',m' < m->I m' δ'->Δ'.nx δ')->(∀d δ',Δ.rt d δ'->Δ'.rt d δ')->u δ fun b δ1=>if b=true then tb Δ' δ1 else Δ.nx δ1):Di u tb Δ δ:=
 ⟨I,h0,fun m δ hI=>h m δ hI _ (fun m' δ' hm hi=>⟨m',hm,hi⟩) fun _ _ z=>z⟩
theorem bS{ao:List Dt}{g:rZ}{tb:j6}{Δ:dE}(I:Nat->List Sl->Prop)(h0:I 0 δ1)(h: ∀i d δ2,ao[i]?=some d->I i δ2-> ∀Δ':dE,(∀δ',I (i+1) δ'->Δ'.nx δ')->(∀d δ',Δ.rt d δ'->Δ'.rt d δ')->g d δ2 fun δ3=>tb Δ' δ3)(fin: ∀δ2,I ao.length δ2->Δ.nx δ2):
  ∃P:Nat->List Sl->Prop,P 0 δ1/\(∀i d δ2,ao[i]?=some d->P i δ2->g d δ2 fun δ3=>tb {Δ with nx:=P (i+1),ct:=P (i+1),bk:=Δ.nx} δ3)/\ ∀δ2,P ao.length δ2->Δ.nx δ2:=
 ⟨I,h0,fun i d δ2 e hI=>h i d δ2 e hI _ (fun _ z=>z) fun _ _ z=>z,fin⟩
end LD
namespace kF
abbrev Wo:=Option Int
noncomputable def ad:Wo->Wo->Wo
 | some a,some b=>some (a+b)
 | _,_=>none
noncomputable def mx:Wo->Wo->Wo
 | some a,some b=>some (max a b)
 | some a,none=>some a
 | none,y=>y
noncomputable def iH:List Wo->Wo
 | []=>some 0
 | x::xs=>ad x (iH xs)
noncomputable def fJ:List Wo->Wo
 | []=>none
 | x::xs=>mx x (fJ xs)
theorem nR(x y z:Wo):ad (ad x y) z=ad x (ad y z):=by cases x <;> cases y <;> cases z <;> simp [ad,Int.add_assoc]
theorem mh(x y:Wo):ad x y=ad y x:=by cases x <;> cases y <;> simp [ad,Int.add_comm]
theorem GW(x:Wo):ad (some 0) x=x:=by cases x <;> simp [ad]
theorem nQ(x:Wo):ad x (some 0)=x:=by cases x <;> simp [ad]
theorem rL(x:Wo):ad x none=none:=by cases x <;> rfl
theorem wZ(x:Wo):mx x none=x:=by cases x <;> rfl
theorem B6(x y z:Wo):mx (mx x y) z=mx x (mx y z):=by cases x <;> cases y <;> cases z <;> simp [mx] <;> lia
theorem HV(x y z:Wo):ad x (mx y z)=mx (ad x y) (ad x z):=by cases x <;> cases y <;> cases z <;> simp [ad,mx] <;> lia
theorem M6(x y z:Wo):ad (mx y z) x=mx (ad y x) (ad z x):=by rw[mh,HV,mh x y,mh x z]
theorem EO(l m:List Wo):iH (l++m)=ad (iH l) (iH m):=by
 induction l with
 | nil=>simp [iH,GW]
 | cons x xs ih=>show ad x (iH (xs++m))=_;rw[ih,iH,nR]
theorem Gm(l m:List Wo):fJ (l++m)=mx (fJ l) (fJ m):=by
 induction l with
 | nil=>rfl
 | cons x xs ih=>show mx x (fJ (xs++m))=_;rw[ih,fJ,B6]
theorem AA{l m:List Wo}(h:l.Perm m):iH l=iH m:=by
 induction h with
 | nil=>rfl
 | cons x _ ih=>rw[iH,iH,ih]
 | swap x y l=>rw[iH,iH,iH,iH,<-nR,<-nR,mh y x]
 | trans _ _ i1 i2=>rw[i1,i2]
theorem jH:fJ l=none↔ ∀x∈l,x=none:=by
 induction l with
 | nil=>simp [fJ]
 | cons x xs ih=>
  cases x with
  | none=>
   show fJ xs=none↔_;rw[ih];exact⟨fun h y hy=>(ZR.mp hy).elim id (h y),fun h y hy=>h y (ZF _ hy)⟩
  | some a=>
   refine⟨fun h=>?_,fun h=>?_⟩
   . cases e:fJ xs with
     | none=>rw[fJ,e] at h;cases h
     | some b=>rw[fJ,e] at h;cases h
   . have:=h _ ZI;cases this
theorem lY: ∀{l:List Wo} {v:Int},fJ l=some v->some v∈l
 | x::xs,v,h=>by
  cases x with
  | none=>exact ZF _ (lY (by simpa [fJ,mx] using h))
  | some a=>
   cases e:fJ xs with
   | none=>rw[fJ,e] at h;cases h;exact ZI
   | some b=>
    rw[fJ,e] at h;have hv:max a b=v:=Option.some.inj h;by_cases c:a<=b
    . have:b=v:=by lia
      rw[this] at e;exact ZF _ (lY e)
    . have:a=v:=by lia
      rw[this];exact ZI
theorem Cw: ∀{l:List Wo} {v u:Int},fJ l=some v->some u∈l->u<=v
 | x::xs,v,u,h,hu=>by
  rcases ZR.mp hu with e | hu
  . subst e;cases e:fJ xs with
    | none=>rw[fJ,e] at h;cases h;exact ae6 _
    | some b=>rw[fJ,e] at h;have:max u b=v:=Option.some.inj h;lia
  . cases e:fJ xs with
    | none=>have:=jH.mp e _ hu;cases this
    | some b=>
     have i:=Cw e hu;cases x with
     | none=>rw[fJ,e] at h;cases h;exact i
     | some a=>rw[fJ,e] at h;have:max a b=v:=Option.some.inj h;lia
theorem bO{α β:Type}{f g:α->List β}: ∀{l:List α},(∀a∈l,f a=g a)->l.flatMap f=l.flatMap g
 | [],_=>rfl
 | a::l,h=>by rw[ae1,ae1,h a ZI,bO fun b hb=>h b (ZF _ hb)]
abbrev Way:=List (Nat × Nat)
noncomputable def wt(w:Nat->Nat->Wo)(a:Way):Wo:=iH (a.map fun p=>w p.1 p.2)
noncomputable def ev(w:Nat->Nat->Wo)(S:List Way):Wo:=fJ (S.map (wt w))
noncomputable def pr(S T:List Way):List Way:=S.flatMap fun a=>T.map fun b=>a++b
theorem Io(w:Nat->Nat->Wo)(a b:Way):wt w (a++b)=ad (wt w a) (wt w b):=by unfold wt;rw[ZV,EO]
theorem CH(w:Nat->Nat->Wo)(S T:List Way):ev w (S++T)=mx (ev w S) (ev w T):=by unfold ev;rw[ZV,Gm]
theorem Gn(w:Nat->Nat->Wo)(a:Way)(T:List Way):ev w (T.map fun b=>a++b)=ad (wt w a) (ev w T):=by
 induction T with
 | nil=>exact(rL _).symm
 | cons b T ih=>
  show mx (wt w (a++b)) (ev w (T.map fun b=>a++b))=ad (wt w a) (mx (wt w b) (ev w T));rw[ih,Io,HV]
theorem kT(w:Nat->Nat->Wo)(S T:List Way):ev w (pr S T)=ad (ev w S) (ev w T):=by
 induction S with
 | nil=>rfl
 | cons a S ih=>
  show ev w ((T.map fun b=>a++b)++pr S T)=ad (mx (wt w a) (ev w S)) (ev w T);rw[CH,Gn,ih,M6]
theorem jO(w:Nat->Nat->Wo)(L:List Nat)(f:Nat->List Way):ev w (L.flatMap f)=fJ (L.map fun x=>ev w (f x)):=by
 induction L with
 | nil=>rfl
 | cons x L ih=>rw[ae1,CH,ih];rfl
theorem Ks(w:Nat->Nat->Wo)(a:Way):ev w [a]=wt w a:=wZ _
theorem qW(w:Nat->Nat->Wo)(i o:Nat):ev w [[(i,o)]]=w i o:=by rw[Ks];exact nQ _
structure vQ where
 rg:List Way
 rt:List Way
 lf:List Way
 lt:List Way
noncomputable def oD(q:Nat->Nat->vQ)(l h:Nat):List Way:=(List.range' l (h - l)).flatMap fun at'=>pr (q l at').rg (q (at'+1) h).lf
noncomputable def Rh(q:Nat->Nat->vQ)(rt:List Way)(l h:Nat):List Way:=(List.range' (l+1) (h - l)).flatMap fun a=>pr (if a=h then rt else(q l a).rt) (if a=h then [[]] else(q a h).rg)
noncomputable def Ri(q:Nat->Nat->vQ)(lt:List Way)(l h:Nat):List Way:=(List.range' l (h - l)).flatMap fun a=>pr (if a=l then [[]] else(q l a).lf) (if a=l then lt else(q a h).lt)
noncomputable def M7(q:Nat->Nat->vQ)(l h:Nat):vQ:=⟨Rh q (pr [[(h,l)]] (oD q l h)) l h,pr [[(h,l)]] (oD q l h),Ri q (pr [[(l,h)]] (oD q l h)) l h,pr [[(l,h)]] (oD q l h)⟩
noncomputable def sp:Nat->Nat->Nat->vQ
 | 0,_,_=>⟨[[]],[],[[]],[]⟩
 | d+1,l,h=>if h<=l+d then sp d l h else M7 (sp d) l h
noncomputable def Q(l h:Nat):vQ:=sp (h - l) l h
theorem G9: ∀(d l h:Nat),h<=l+d->sp d l h=Q l h
 | 0,l,h,hd=>by unfold Q;rw[show h - l=0 by lia]
 | d+1,l,h,hd=>by
  by_cases c:h<=l+d
  . rw[sp,if_pos c];exact G9 d l h c
  . unfold Q;rw[show h - l=d+1 by lia]
theorem iw(l:Nat):Q l l=⟨[[]],[],[[]],[]⟩:=by unfold Q;rw[Nat.sub_self];rfl
theorem yV(e: ∀a b,l<=a->b<=h->b - a < h - l->q a b=r a b):M7 q l h=M7 r l h:=by
 have ei:oD q l h=oD r l h:=by
  unfold oD;refine bO fun a ha=>?_;have:=aa4.mp ha;rw[e l a (by lia) (by lia) (by lia),e (a+1) h (by lia) (by lia) (by lia)]
 have er: ∀x,Rh q x l h=Rh r x l h:=fun x=>bO fun a ha=>by
  have:=aa4.mp ha;by_cases c:a=h
  . rw[if_pos c,if_pos c,if_pos c,if_pos c]
  . rw[if_neg c,if_neg c,if_neg c,if_neg c,e l a (by lia) (by lia) (by lia),e a h (by lia) (by lia) (by lia)]
 have el: ∀x,Ri q x l h=Ri r x l h:=fun x=>bO fun a ha=>by
  have:=aa4.mp ha;by_cases c:a=l
  . rw[if_pos c,if_pos c,if_pos c,if_pos c]
  . rw[if_neg c,if_neg c,if_neg c,if_neg c,e l a (by lia) (by lia) (by lia),e a h (by lia) (by lia) (by lia)]
 unfold M7;rw[ei,er,el]
theorem bQ(lt:l < h):Q l h=M7 Q l h:=by
 obtain⟨d,e⟩: ∃d,h - l=d+1:=⟨h - l - 1,by lia⟩
 unfold Q;rw[e,sp,if_neg (by lia)];exact yV fun a b h1 h2 h3=>G9 d a b (by lia)
theorem IZ(w:Nat->Nat->Wo)(lt:l < h):ev w (Q l h).rt=ad (w h l) (fJ ((List.range' l (h - l)).map fun a=>ad (ev w (Q l a).rg) (ev w (Q (a+1) h).lf))):=by
 rw[bQ lt];show ev w (pr [[(h,l)]] (oD Q l h))=_;rw[kT,qW];unfold oD;rw[jO];congr 2
 exact Z0 fun a _=>kT _ _ _
theorem JG(w:Nat->Nat->Wo)(lt:l < h):ev w (Q l h).lt=ad (w l h) (fJ ((List.range' l (h - l)).map fun a=>ad (ev w (Q l a).rg) (ev w (Q (a+1) h).lf))):=by
 rw[bQ lt];show ev w (pr [[(l,h)]] (oD Q l h))=_;rw[kT,qW];unfold oD;rw[jO];congr 2
 exact Z0 fun a _=>kT _ _ _
theorem Je(w:Nat->Nat->Wo)(lt:l < h):ev w (Q l h).rg=fJ ((List.range' (l+1) (h - l)).map fun a=>ad (ev w (Q l a).rt) (ev w (Q a h).rg)):=by
 have er:(Q l h).rg=(List.range' (l+1) (h - l)).flatMap fun a=>pr (Q l a).rt (Q a h).rg:=by
  conv=>lhs;rw[bQ lt]
  show(List.range' (l+1) (h - l)).flatMap _=_;refine bO fun a ha=>?_;by_cases c:a=h
  . subst c;rw[if_pos rfl,if_pos rfl,iw];congr 1
    rw[bQ lt];rfl
  . rw[if_neg c,if_neg c]
 rw[er,jO];congr 1
 exact Z0 fun a _=>kT _ _ _
theorem JK(w:Nat->Nat->Wo)(lt:l < h):ev w (Q l h).lf=fJ ((List.range' l (h - l)).map fun a=>ad (ev w (Q l a).lf) (ev w (Q a h).lt)):=by
 have er:(Q l h).lf=(List.range' l (h - l)).flatMap fun a=>pr (Q l a).lf (Q a h).lt:=by
  conv=>lhs;rw[bQ lt]
  show(List.range' l (h - l)).flatMap _=_;refine bO fun a ha=>?_;by_cases c:a=l
  . subst c;rw[if_pos rfl,if_pos rfl,iw];congr 1
    rw[bQ lt];rfl
  . rw[if_neg c,if_neg c]
 rw[er,jO];congr 1
 exact Z0 fun a _=>kT _ _ _
noncomputable def ws(a:Way):List Nat:=a.map (·.1)
structure jg(S:List Way)(lo n m:Nat):Prop where
 c: ∀a∈S,(ws a).Perm (List.range' lo n)/\ ∀p∈a,p.2<=m
theorem i9(h1:jg S lo n m)(h2:jg T (lo+n) k m):jg (pr S T) lo (n+k) m:=⟨fun a ha=>by
 obtain⟨x,hx,ha⟩:=aa0.mp ha;obtain⟨y,hy,rfl⟩:=ZL.mp ha;refine⟨?_,fun p hp=>(aa7.mp hp).elim ((h1.c x hx).2 p) ((h2.c y hy).2 p)⟩;unfold ws;rw[ZV,<-ad6];exact(h1.c x hx).1.append (h2.c y hy).1⟩
theorem jV{L:List Nat}{f:Nat->List Way}{lo n m:Nat}(h: ∀x∈L,jg (f x) lo n m):jg (L.flatMap f) lo n m:=⟨fun a ha=>by
 obtain⟨x,hx,ha⟩:=aa0.mp ha;exact(h x hx).c a ha⟩
theorem mf:jg [[]] lo 0 m:=⟨fun a ha=>by rw[ZM.mp ha];exact⟨.nil,fun p hp=>absurd hp Zz⟩⟩
theorem jU(h:o<=m):jg [[(i,o)]] i 1 m:=⟨fun a ha=>by
 rw[ZM.mp ha];exact⟨.refl _,fun p hp=>by rw[ZM.mp hp];exact h⟩⟩
theorem jg.cast(h:jg S lo n m)(e1:lo=Wh)(e2:n=n'):jg S Wh n' m:=by subst e1;subst e2;exact h
theorem DE(h1:jg S (lo+k) n m)(h2:jg T lo k m):jg (pr S T) lo (n+k) m:=⟨fun a ha=>by
 obtain⟨x,hx,ha⟩:=aa0.mp ha;obtain⟨y,hy,rfl⟩:=ZL.mp ha;refine⟨?_,fun p hp=>(aa7.mp hp).elim ((h1.c x hx).2 p) ((h2.c y hy).2 p)⟩;unfold ws;rw[ZV,Nat.add_comm n k,<-ad6];exact af9.trans ((h2.c y hy).1.append (h1.c x hx).1)⟩
theorem gv: ∀(d l h:Nat),h - l=d->l<=h->h<=m->jg (Q l h).rg (l+1) (h - l) m/\jg (Q l h).lf l (h - l) m/\(l < h->jg (Q l h).rt (l+1) (h - l) m/\jg (Q l h).lt l (h - l) m):=fun d=>by
 induction d using Nat.strongRecOn with
 | _ d ih=>
  intro l h hd hl hm;by_cases c:l=h
  . subst c;rw[iw,Nat.sub_self];exact⟨mf,mf,fun z=>absurd z (ab5 _)⟩
  have lt:l < h:=by lia
  have hi:jg (oD Q l h) (l+1) (h - l - 1) m:=jV fun a ha=>by
   have:=aa4.mp ha;have h1:=(ih (a - l) (by lia) l a rfl (by lia) (by lia)).1;have h2:=(ih (h - (a+1)) (by lia) (a+1) h rfl (by lia) (by lia)).2.1;exact(i9 h1 (h2.cast (by lia) rfl)).cast rfl (by lia)
  have J0:jg (Q l h).rt (l+1) (h - l) m:=by
   rw[bQ lt];show jg (pr [[(h,l)]] (oD Q l h)) _ _ _;have h1:jg [[(h,l)]] (l+1+(h - l - 1)) 1 m:=(jU (by lia)).cast (by lia) rfl;exact(DE h1 hi).cast rfl (by lia)
  have dr:jg (Q l h).lt l (h - l) m:=by
   rw[bQ lt];show jg (pr [[(l,h)]] (oD Q l h)) _ _ _;exact(i9 (jU (by lia)) hi).cast rfl (by lia)
  refine⟨?_,?_,fun _=>⟨J0,dr⟩⟩
  . rw[bQ lt];refine jV fun a ha=>?_;have:=aa4.mp ha;by_cases e:a=h
    . rw[if_pos e,if_pos e];rw[bQ lt] at J0;exact(i9 J0 mf).cast rfl (by lia)
    . rw[if_neg e,if_neg e];have h1:=((ih (a - l) (by lia) l a rfl (by lia) (by lia)).2.2 (by lia)).1;have h2:=(ih (h - a) (by lia) a h rfl (by lia) hm).1;exact(i9 h1 (h2.cast (by lia) rfl)).cast rfl (by lia)
  . rw[bQ lt];refine jV fun a ha=>?_;have:=aa4.mp ha;by_cases e:a=l
    . rw[if_pos e,if_pos e];rw[bQ lt] at dr;exact(i9 mf dr).cast rfl (by lia)
    . rw[if_neg e,if_neg e];have h1:=(ih (a - l) (by lia) l a rfl (by lia) (by lia)).2.1;have h2:=((ih (h - a) (by lia) a h rfl (by lia) hm).2.2 (by lia)).2;exact(i9 h1 (h2.cast (by lia) rfl)).cast rfl (by lia)
noncomputable def DW(n:Nat):List Way:=(List.range' 1 n).flatMap fun t=>pr [[(t,0)]] (pr (Q 1 t).lf (Q t n).rg)
theorem EN(w:Nat->Nat->Wo)(n:Nat):ev w (DW n)=fJ ((List.range' 1 n).map fun t=>ad (w t 0) (ad (ev w (Q 1 t).lf) (ev w (Q t n).rg))):=by
 unfold DW;rw[jO];congr 1
 exact Z0 fun t _=>by rw[kT,qW,kT]
theorem xS(n:Nat): ∀a∈DW n,(ws a).Perm (List.range' 1 n)/\ ∀p∈a,p.2<=n:=fun a ha=>by
 obtain⟨t,ht,ha⟩:=aa0.mp ha;have:=aa4.mp ht;have h1:=(gv (m:=n) (t - 1) 1 t rfl (by lia) (by lia)).2.1;have h2:=(gv (m:=n) (n - t) t n rfl (by lia) (Zx _)).1;have h3:jg [[(t,0)]] t 1 n:=jU (Z7 _);obtain⟨x,hx,ha⟩:=aa0.mp ha;obtain⟨y,hy,rfl⟩:=ZL.mp ha;obtain⟨u,hu,hy⟩:=aa0.mp hy;obtain⟨v,hv,rfl⟩:=ZL.mp hy;refine⟨?_,fun p hp=>?_⟩
 . have p1:=(h1.c u hu).1;have p2:=(h2.c v hv).1;have p3:=(h3.c x hx).1;unfold ws at p1 p2 p3 ⊢;rw[ZV,ZV];have e:List.range' 1 n=List.range' 1 (t - 1)++(List.range' t 1++List.range' (t+1) (n - t)):=by
    have a1:List.range' t 1++List.range' (t+1) (n - t)=List.range' t (1+(n - t)):=ad6 ..;have a2:List.range' 1 (t - 1)++List.range' (1+(t - 1)) (1+(n - t))=List.range' 1 ((t - 1)+(1+(n - t))):=ad6 ..;rw[a1];rw[show(1:Nat)+(t - 1)=t by lia] at a2;rw[a2];congr 1
    lia
   rw[e];refine(p3.append (p1.append p2)).trans ?_;rw[<-aa1,<-aa1];exact List.perm_append_comm.append_right _
 . rcases aa7.mp hp with hp | hp
   . exact(h3.c x hx).2 p hp
   . rcases aa7.mp hp with hp | hp
     . exact(h1.c u hu).2 p hp
     . exact(h2.c v hv).2 p hp
noncomputable def da(w:Nat->Nat->Wo):Nat->List Nat->Wo
 | _,[]=>some 0
 | i,x::xs=>ad (w i x) (da w (i+1) xs)
noncomputable abbrev gL (w:Nat->Nat->Wo) (h:List Nat):Wo:=da w 1 h
noncomputable def lk(a:Way)(i:Nat):Nat:=(a.lookup i).getD 0
noncomputable def Ge(n:Nat)(a:Way):List Nat:=(List.range' 1 n).map (lk a)
theorem sj(w:Nat->Nat->Wo)(f:Nat->Nat): ∀(n i:Nat),da w i ((List.range' i n).map f)=iH ((List.range' i n).map fun j=>w j (f j))
 | 0,_=>rfl
 | n+1,i=>by rw[List.range'_succ,ZT,ZT,da,iH,sj w f n (i+1)]
theorem lookup_mem: ∀{a:Way} {p:Nat × Nat},(ws a).Nodup->p∈a->a.lookup p.1=some p.2
 | q::a,p,nd,h=>by
  unfold ws at nd;rw[ZT,af7] at nd;obtain⟨qa,qb⟩:=q;rcases ZR.mp h with e | h
  . subst e;simp [aa9]
  . have ne:p.1≠qa:=fun z=>nd.1 (by rw[<-z];exact ZL.mpr ⟨p,h,rfl⟩);have:(p.1==qa)=false:=ah5.mpr ne;rw[aa9,this];exact lookup_mem nd.2 h
theorem EG(w:Nat->Nat->Wo)(h:(ws a).Perm (List.range' 1 n)):wt w a=gL w (Ge n a):=by
 have nd:(ws a).Nodup:=h.nodup_iff.mpr an3;unfold gL Ge;rw[sj];have e:a.map (fun p=>w p.1 p.2)=(ws a).map fun j=>w j (lk a j):=by
  unfold ws;rw[ab1];refine Z0 fun p hp=>?_;show w p.1 p.2=w p.1 (lk a p.1);unfold lk;rw[lookup_mem nd hp];rfl
 unfold wt;rw[e];exact AA (h.map _)
noncomputable def fw(n:Nat):List (List Nat):=(DW n).map (Ge n)
theorem sC(w:Nat->Nat->Wo)(n:Nat):ev w (DW n)=fJ ((fw n).map (gL w)):=by
 unfold ev fw;rw[ab1];congr 1
 exact Z0 fun a ha=>EG w (xS n a ha).1
theorem dw(m:h∈fw n):h.length=n:=by
 obtain⟨a,_,rfl⟩:=ZL.mp m;unfold Ge;rw[Zu,Z2]
theorem yZ{a:Way}:a.lookup i=some x->(i,x)∈a:=by
 induction a with
 | nil=>intro h;cases h
 | cons p a ih=>
  intro h;obtain⟨pa,pb⟩:=p;rw[aa9] at h;by_cases c:i=pa
  . subst c;simp at h;subst h;exact ZI
  . have:(i==pa)=false:=ah5.mpr c;rw[this] at h;exact ZF _ (ih h)
theorem lM(m:h∈fw n): ∀x∈h,x<=n:=by
 obtain⟨a,ha,rfl⟩:=ZL.mp m;intro x hx;obtain⟨i,_,rfl⟩:=ZL.mp hx;unfold lk;cases e:a.lookup i with
 | none=>exact Z7 _
 | some y=>exact(xS n a ha).2 _ (yZ e)
noncomputable def code(B:Nat):List Nat->Int
 | []=>0
 | x::xs=>(x:Int)*(B:Int)^xs.length+code B xs
theorem mT{B:Nat}(h:0 < B)(n:Nat):0 < (B:Int)^n:=Int.pow_pos (by lia)
theorem fZ: ∀{h:List Nat},(∀x∈h,x < B)->0<=code B h/\code B h < (B:Int)^h.length
 | [],_=>⟨ae6 _,by show(0:Int) < 1;decide⟩
 | x::xs,hx=>by
  have x1:=hx x ZI;obtain⟨a,b⟩:=fZ (h:=xs) fun y hy=>hx y (ZF _ hy);have p:=mT (B:=B) (by lia) xs.length;unfold code;rw[ZG,Int.pow_succ];generalize (B:Int)^xs.length=P at*;have e1:0<=(x:Int)*P:=Int.mul_nonneg (by lia) (by lia);have e2:((x:Int)+1)*P<=(B:Int)*P:=ac5 (by lia) (by lia);rw[ak1,am1] at e2;rw[Int.mul_comm P];exact⟨by lia,by lia⟩
theorem pN(B:Nat): ∀(h:List Nat) (x:Nat),code B (h++ [x])=code B h*(B:Int)+(x:Int)
 | [],x=>by simp [code]
 | y::ys,x=>by
  rw[List.cons_append,code,code,pN B ys x,ZK,ag0,Int.pow_succ,ak1,Int.mul_assoc,Int.add_assoc]
noncomputable def FW:List Nat->List Nat->Bool
 | [],ys=>!ys.isEmpty
 | _::_,[]=>false
 | x::xs,y::ys=>if x=y then FW xs ys else decide (x < y)
theorem ua: ∀{h g:List Nat},h.length=g.length->(∀x∈h,x < B)->(∀x∈g,x < B)->(code B h < code B g↔FW h g=true)
 | [],[],_,_,_=>by simp [code,FW]
 | x::xs,y::ys,l,hx,hy=>by
  have l':xs.length=ys.length:=by simpa using l
  have ih:=ua l' (fun z hz=>hx z (ZF _ hz)) fun z hz=>hy z (ZF _ hz);obtain⟨a1,a2⟩:=fZ (h:=xs) fun z hz=>hx z (ZF _ hz);obtain⟨b1,b2⟩:=fZ (h:=ys) fun z hz=>hy z (ZF _ hz);have p:=mT (B:=B) (by have:=hx x ZI;lia) xs.length;unfold code FW;rw[<-l'] at b2 ⊢;generalize (B:Int)^xs.length=P at*;by_cases c:x=y
  . subst c;rw[if_pos rfl,<-ih];constructor <;> intro <;> lia
  . rw[if_neg c,decide_eq_true_iff];rcases Nat.lt_or_gt_of_ne c with d | d
    . have e2:((x:Int)+1)*P<=(y:Int)*P:=ac5 (by lia) (by lia);rw[ak1,am1] at e2;exact⟨fun _=>d,fun _=>by lia⟩
    . have e2:((y:Int)+1)*P<=(x:Int)*P:=ac5 (by lia) (by lia);rw[ak1,am1] at e2;exact⟨fun z=>by lia,fun z=>by lia⟩
theorem code_inj: ∀{h g:List Nat},h.length=g.length->(∀x∈h,x < B)->(∀x∈g,x < B)->code B h=code B g->h=g
 | [],[],_,_,_,_=>rfl
 | x::xs,y::ys,l,hx,hy,e=>by
  have l':xs.length=ys.length:=by simpa using l
  obtain⟨a1,a2⟩:=fZ (h:=xs) fun z hz=>hx z (ZF _ hz);obtain⟨b1,b2⟩:=fZ (h:=ys) fun z hz=>hy z (ZF _ hz);have p:=mT (B:=B) (by have:=hx x ZI;lia) xs.length;unfold code at e;rw[<-l'] at b2 e;have c:x=y:=by
   generalize (B:Int)^xs.length=P at*;rcases Nat.lt_trichotomy x y with d | d | d
   . have e2:((x:Int)+1)*P<=(y:Int)*P:=ac5 (by lia) (by lia);rw[ak1,am1] at e2;lia
   . exact d
   . have e2:((y:Int)+1)*P<=(x:Int)*P:=ac5 (by lia) (by lia);rw[ak1,am1] at e2;lia
  subst c;rw[code_inj l' (fun z hz=>hx z (ZF _ hz)) (fun z hz=>hy z (ZF _ hz)) (by lia)]
noncomputable def wr(n:Nat)(w:Nat->Nat->Wo)(i o:Nat):Wo:=(w i o).map fun v=>v*((n:Int)+1)^n - (o:Int)*((n:Int)+1)^(n - i)
theorem lK(n:Nat)(w:Nat->Nat->Wo): ∀(h:List Nat) (i:Nat),i+h.length=n+1->1<=i->da (wr n w) i h=(da w i h).map fun v=>v*((n:Int)+1)^n - code (n+1) h
 | [],i,e,_=>by simp [da,code]
 | x::xs,i,e,i1=>by
  have e':i+1+xs.length=n+1:=by rw[ZG] at e;lia
  rw[da,da,lK n w xs (i+1) e' (by lia)];unfold wr;rw[show n - i=xs.length by lia];have ec:code (n+1) (x::xs)=(x:Int)*((n:Int)+1)^xs.length+code (n+1) xs:=by
   rw[code];push_cast
   rfl
  rw[ec];cases w i x with
  | none=>rfl
  | some a=>
   cases da w (i+1) xs with
   | none=>rfl
   | some b=>
    show some ((a*((n:Int)+1)^n - (x:Int)*((n:Int)+1)^xs.length)+(b*((n:Int)+1)^n - code (n+1) xs))=some ((a+b)*((n:Int)+1)^n - ((x:Int)*((n:Int)+1)^xs.length+code (n+1) xs));congr 1
    rw[ak1];generalize a*((n:Int)+1)^n=p;generalize b*((n:Int)+1)^n=q;generalize (x:Int)*((n:Int)+1)^xs.length=r;lia
inductive gF(n:Nat)(w:Nat->Nat->Wo):Option (Int × List Nat)->Prop
 | no (h: ∀g∈fw n,gL w g=none):gF n w none
 | yes (v:Int) (h:List Nat) (m:h∈fw n) (e:gL w h=some v) (b: ∀g∈fw n,∀u,gL w g=some u->u < v\/(u=v/\code (n+1) h<=code (n+1) g)):gF n w (some (v,h))
theorem wH{v u c d P:Int}(c0:0<=c)(cP:c < P)(d0:0<=d)(dP:d < P)(h:u*P - d<=v*P - c):u < v\/(u=v/\c<=d):=by
 rcases Int.lt_trichotomy u v with z | z | z
 . exact .inl z
 . subst z;exact .inr ⟨rfl,by lia⟩
 . have e2:(v+1)*P<=u*P:=ac5 (by lia) (by lia);rw[ak1,am1] at e2;lia
theorem oU(m:h∈fw n):0<=code (n+1) h/\code (n+1) h < ((n:Int)+1)^n:=by
 have:=fZ (B:=n+1) (h:=h) fun x hx=>ai6 (lM m x hx);rw[dw m] at this;push_cast at this
 exact this
theorem zH(h:ev (wr n w) (DW n)=none):gF n w none:= .no fun g m=>by
 rw[sC] at h;have:=jH.mp h _ (ZL.mpr ⟨g,m,rfl⟩);unfold gL at this;rw[lK n w g 1 (by rw[dw m];lia) (by decide)] at this;cases e:gL w g with
 | none=>rfl
 | some v=>unfold gL at e;rw[e] at this;cases this
theorem zG(h:ev (wr n w) (DW n)=some T): ∃v g,gF n w (some (v,g))/\T=v*((n:Int)+1)^n - code (n+1) g:=by
 rw[sC] at h;obtain⟨g,m,e⟩:=ZL.mp (lY h);unfold gL at e;rw[lK n w g 1 (by rw[dw m];lia) (by decide)] at e;cases ew:gL w g with
 | none=>unfold gL at ew;rw[ew] at e;cases e
 | some v=>
  have UO:=ew;unfold gL at UO;rw[UO] at e;have eT:v*((n:Int)+1)^n - code (n+1) g=T:=Option.some.inj e;refine⟨v,g,.yes v g m ew fun g' m' u eu=>?_,eT.symm⟩;have hm:some (u*((n:Int)+1)^n - code (n+1) g')∈(fw n).map (gL (wr n w)):=ZL.mpr ⟨g',m',by
   unfold gL at eu ⊢;rw[lK n w g' 1 (by rw[dw m'];lia) (by decide),eu];rfl⟩
  have:=Cw h hm;rw[<-eT] at this;obtain⟨a,b⟩:=oU m;obtain⟨c,d⟩:=oU m';exact wH a b c d this
noncomputable def cc(w:Nat->Nat->Wo)(word on:Nat):Nat->Nat->Wo:=fun i o=>if i=word then(if o=on then w i o else none) else w i o
noncomputable def bV(w:Nat->Nat->Wo)(word on:Nat):Nat->Nat->Wo:=fun i o=>if i=word/\o=on then none else w i o
theorem mq: ∀{h:List Nat} {i:Nat},(∀j,i<=j->j < i+h.length-> ∀o,w j o=w' j o)->da w i h=da w' i h
 | [],_,_=>rfl
 | x::xs,i,e=>by
  rw[da,da,e i (Zx _) (by rw[ZG];lia) x,mq fun j h1 h2 o=>e j (by lia) (by rw[ZG];lia) o]
theorem mn(c:Prop) [Decidable c]: ∀{h:List Nat} {i:Nat},i<=word->word < i+h.length->(∀j,j≠word-> ∀o,w j o=w' j o)->(w' word (h.getD (word - i) 0)=if c then w word (h.getD (word - i) 0) else none)->da w' i h=if c then da w i h else none
 | [],i,h1,h2,_,_=>by rw[ah3] at h2;lia
 | x::xs,i,h1,h2,e,e2=>by
  by_cases z:i=word
  . subst z;rw[Nat.sub_self] at e2;have e2:w' i x=if c then w i x else none:=e2
    have er:da w' (i+1) xs=da w (i+1) xs:=mq fun j j1 j2 o=>(e j (by lia) o).symm;rw[da,da,e2,er];by_cases d:c
    . rw[if_pos d,if_pos d]
    . rw[if_neg d,if_neg d];rfl
  . rw[da,da,<-e i z x];have ih:=mn c (h:=xs) (i:=i+1) (w:=w) (w':=w') (word:=word) (by lia) (by rw[ZG] at h2;lia) e (by
     have:word - i=(word - (i+1))+1:=by lia
     rw[this] at e2;exact e2)
    rw[ih];by_cases d:c
    . rw[if_pos d,if_pos d]
    . rw[if_neg d,if_neg d,rL]
noncomputable abbrev at' (h:List Nat) (word:Nat):Nat:=h.getD (word - 1) 0
theorem kc{h:List Nat}(h1:1<=word)(h2:word<=h.length):gL (cc w word on) h=if at' h word=on then gL w h else none:=
 mn (w:=w) _ h1 (by lia) (fun j hj o=>by unfold cc;rw[if_neg hj]) (by unfold cc;rw[if_pos rfl])
theorem si{h:List Nat}(h1:1<=word)(h2:word<=h.length):gL (bV w word on) h=if at' h word≠on then gL w h else none:=
 mn (w:=w) _ h1 (by lia) (fun j hj o=>by unfold bV;rw[if_neg fun z=>hj z.1]) (by
  unfold bV;by_cases c:h.getD (word - 1) 0=on
  . rw[if_pos ⟨rfl,c⟩,if_neg (fun z=>z c)]
  . rw[if_neg (fun z=>c z.2),if_pos c])
abbrev Rs:=Int × List Nat
structure vX(n:Nat)(r:Rs):Prop where
 l:r.2.length=n
 b: ∀x∈r.2,x<=n
noncomputable def ahead(a b:Rs):Bool:=decide (a.1 > b.1) || (decide (a.1=b.1) && FW a.2 b.2)
def good(n:Nat)(b x:Rs):Prop:=x.1 < b.1\/(x.1=b.1/\code (n+1) b.2<=code (n+1) x.2)
theorem iE(h:gF n w (some r)):vX n r:=by
 cases h with
 | yes v h m e b=>exact⟨dw m,lM m⟩
noncomputable def lu(B:Int):Nat->Int->List Int
 | 0,_=> []
 | k+1,x=>x % B::lu B k (x / B)
theorem pJ(hB:0 < B)(v:Int): ∀(n:Nat) (h:List Nat),h.length=n->(∀x∈h,x < B)->lu B n (code B h - v*(B:Int)^n)=h.reverse.map Int.ofNat
 | 0,[],_,_=>rfl
 | n+1,h,l,hx=>by
  have ne:h≠ []:=fun z=>by rw[z] at l;cases l
  obtain⟨hs,x,e⟩: ∃hs x,h=hs++ [x]:=⟨h.dropLast,h.getLast ne,(List.dropLast_concat_getLast ne).symm⟩
  subst e;have l':hs.length=n:=by rw[ZK] at l;simpa using l
  have xB:=hx x (by simp);have e1:code B (hs++ [x]) - v*(B:Int)^(n+1)=(x:Int)+(code B hs - v*(B:Int)^n)*(B:Int):=by
   rw[pN,Int.pow_succ,Int.sub_mul,Int.mul_assoc];lia
  have b0:(B:Int)≠0:=by lia
  rw[lu,e1,Int.add_mul_emod_self_right,Int.emod_eq_of_lt (by lia) (by lia),Int.add_mul_ediv_right _ _ b0,Int.ediv_eq_zero_of_lt (by lia) (by lia),Int.zero_add,pJ hB v n hs l' fun y hy=>hx y (af1 _ hy)];simp
abbrev LL:=List (List Nat)
noncomputable def Bm(S T:LL):LL:=S.flatMap fun a=>T.map fun b=>a++b
theorem lU:x∈Bm S T↔ ∃a b,a∈S/\b∈T/\x=a++b:=by
 unfold Bm;rw[aa0];constructor
 . rintro⟨a,ha,h⟩
   obtain⟨b,hb,e⟩:=ZL.mp h;exact⟨a,b,ha,hb,e.symm⟩
 . rintro⟨a,b,ha,hb,e⟩
   exact⟨a,ha,ZL.mpr ⟨b,hb,e.symm⟩⟩
theorem w8:(Bm S T).length=S.length*T.length:=by
 unfold Bm;induction S with
 | nil=>simp
 | cons a S ih=>rw[ae1,ZK,ih,Zu,ZG,Nat.succ_mul,Nat.add_comm]
noncomputable def ft:Nat->(Nat->Nat->Nat->LL) × (Nat->Nat->Nat->LL)
 | 0=>(fun _ _ _=> [[]],fun _ _ _=> [])
 | d+1=>(fun f m on=>if m=0 then [[]] else(List.range m).flatMap fun e=>Bm ((ft d).2 f (e+1) on) ((ft d).1 (f+e+1) (m - (e+1)) on),
   fun f m on=>(List.range m).flatMap fun k=>Bm ((ft d).1 f k (f+k)) (((ft d).1 (f+k+1) (m - (k+1)) (f+k)).map fun b=>on::b))
noncomputable def Fo(f m on:Nat):LL:=(ft (2*m+1)).1 f m on
noncomputable def Tr(f m on:Nat):LL:=(ft (2*m)).2 f m on
theorem ik: ∀(d d':Nat),(∀f m on,2*m<=d->2*m<=d'->(2*m+1<=d->2*m+1<=d'->(ft d).1 f m on=(ft d').1 f m on)/\(ft d).2 f m on=(ft d').2 f m on)
 | 0,0=>fun f m on _ _=>⟨fun _ _=>rfl,rfl⟩
 | 0,d'+1=>fun f m on h _=>by
  have:m=0:=by lia
  subst this;exact⟨fun h=>absurd h (by lia),rfl⟩
 | d+1,0=>fun f m on _ h=>by
  have:m=0:=by lia
  subst this;exact⟨fun _ h=>absurd h (by lia),rfl⟩
 | d+1,d'+1=>fun f m on h h'=>by
  refine⟨fun k k'=>?_,?_⟩
  . show(if m=0 then [[]] else _)=(if m=0 then [[]] else _)
    by_cases c:m=0
    . rw[if_pos c,if_pos c]
    . rw[if_neg c,if_neg c];refine bO fun e he=>?_;have:=ab3.mp he;rw[(ik d d' f (e+1) on (by lia) (by lia)).2,(ik d d' (f+e+1) (m - (e+1)) on (by lia) (by lia)).1 (by lia) (by lia)]
  . show(List.range m).flatMap _=(List.range m).flatMap _;refine bO fun e he=>?_;have:=ab3.mp he;rw[(ik d d' f e (f+e) (by lia) (by lia)).1 (by lia) (by lia),(ik d d' (f+e+1) (m - (e+1)) (f+e) (by lia) (by lia)).1 (by lia) (by lia)]
theorem G2(f on:Nat):Fo f 0 on= [[]]:=rfl
theorem rW(h:0 < m):Fo f m on=(List.range m).flatMap fun e=>Bm (Tr f (e+1) on) (Fo (f+e+1) (m - (e+1)) on):=by
 unfold Fo Tr;show(if m=0 then [[]] else _)=_;rw[if_neg (by lia)];refine bO fun e he=>?_;have:=ab3.mp he;rw[(ik (2*m) (2*(e+1)) f (e+1) on (by lia) (by lia)).2,(ik (2*m) (2*(m - (e+1))+1) (f+e+1) (m - (e+1)) on (by lia) (by lia)).1 (by lia) (by lia)]
theorem rM:Tr f m on=(List.range m).flatMap fun k=>Bm (Fo f k (f+k)) ((Fo (f+k+1) (m - (k+1)) (f+k)).map fun b=>on::b):=by
 unfold Fo Tr;cases m with
 | zero=>rfl
 | succ m=>
  rw[show 2*(m+1)=(2*m+1)+1 by lia];show(List.range (m+1)).flatMap (fun k=>Bm ((ft (2*m+1)).1 f k (f+k)) (((ft (2*m+1)).1 (f+k+1) (m+1 - (k+1)) (f+k)).map fun b=>on::b))=_;refine bO fun e he=>?_;have:=ab3.mp he;rw[(ik (2*m+1) (2*e+1) f e (f+e) (by lia) (by lia)).1 (by lia) (by lia),(ik (2*m+1) (2*(m+1 - (e+1))+1) (f+e+1) (m+1 - (e+1)) (f+e) (by lia) (by lia)).1 (by lia) (by lia)]
theorem hG(h:0 < m):x∈Fo f m on↔ ∃e t r,e < m/\t∈Tr f (e+1) on/\r∈Fo (f+e+1) (m - (e+1)) on/\x=t++r:=by
 rw[rW h,aa0];constructor
 . rintro⟨e,he,hx⟩
   obtain⟨t,r,h1,h2,h3⟩:=lU.mp hx;exact⟨e,t,r,ab3.mp he,h1,h2,h3⟩
 . rintro⟨e,t,r,he,h1,h2,h3⟩
   exact⟨e,ab3.mpr he,lU.mpr ⟨t,r,h1,h2,h3⟩⟩
theorem kn:x∈Tr f m on↔ ∃k a b,k < m/\a∈Fo f k (f+k)/\b∈Fo (f+k+1) (m - (k+1)) (f+k)/\x=a++on::b:=by
 rw[rM,aa0];constructor
 . rintro⟨e,he,hx⟩
   obtain⟨a,c,h1,h2,h3⟩:=lU.mp hx;obtain⟨b,hb,rfl⟩:=ZL.mp h2;exact⟨e,a,b,ab3.mp he,h1,hb,h3⟩
 . rintro⟨e,a,b,he,h1,h2,h3⟩
   exact⟨e,ab3.mpr he,lU.mpr ⟨a,on::b,h1,ZL.mpr ⟨b,h2,rfl⟩,h3⟩⟩
theorem fU:x∈Fo f 0 on↔x= []:=by rw[G2,ZM]
theorem qK: ∀(m:Nat),(∀f on x,x∈Fo f m on->x.length=m)/\ ∀f on x,x∈Tr f m on->x.length=m:=fun m=>by
 induction m using Nat.strongRecOn with
 | _ m ih=>
  have hT: ∀f on x,x∈Tr f m on->x.length=m:=fun f on x hx=>by
   obtain⟨k,a,b,hk,ha,hb,rfl⟩:=kn.mp hx;have h1:=(ih k (by lia)).1 _ _ _ ha;have h2:=(ih (m - (k+1)) (by lia)).1 _ _ _ hb;rw[ZK,ZG,h1,h2];lia
  refine⟨fun f on x hx=>?_,hT⟩;by_cases c:m=0
  . subst c;rw[fU.mp hx];rfl
  . obtain⟨e,t,r,he,ht,hr,rfl⟩:=(hG (by lia)).mp hx;have h2:=(ih (m - (e+1)) (by lia)).1 _ _ _ hr;have h1:t.length=e+1:=by
     by_cases d:e+1=m
     . rw[d] at ht ⊢;exact hT _ _ _ ht
     . exact(ih (e+1) (by lia)).2 _ _ _ ht
    rw[ZK,h1,h2];lia
theorem FX: ∀(m f on:Nat) (x:List Nat),0 < m->x∈Fo f m on-> ∃e a t,e < m/\a∈Fo f e on/\t∈Tr (f+e) (m - e) on/\x=a++t:=fun m=>by
 induction m using Nat.strongRecOn with
 | _ m ih=>
  intro f on x hm hx;obtain⟨e,t,r,he,ht,hr,rfl⟩:=(hG hm).mp hx;by_cases c:m - (e+1)=0
  . rw[c] at hr;rw[fU.mp hr];exact⟨0,[],t,hm,fU.mpr rfl,by rw[show m - 0=e+1 by lia];exact ht,by rw[ab2];rfl⟩
  . obtain⟨e',a',t',h1,h2,h3,rfl⟩:=ih (m - (e+1)) (by lia) (f+e+1) on r (by lia) hr;refine⟨e+1+e',t++a',t',by lia,(hG (by lia)).mpr ⟨e,t,a',by lia,ht,by rw[show e+1+e' - (e+1)=e' by lia];exact h2,rfl⟩,?_,by rw[aa1]⟩;rw[show f+(e+1+e')=f+e+1+e' by lia,show m - (e+1+e')=m - (e+1) - e' by lia];exact h3
theorem FO: ∀(e m f on:Nat) (a t:List Nat),e < m->a∈Fo f e on->t∈Tr (f+e) (m - e) on->a++t∈Fo f m on:=fun e=>by
 induction e using Nat.strongRecOn with
 | _ e ih=>
  intro m f on a t h ha ht;by_cases c:e=0
  . subst c;rw[fU.mp ha];exact(hG (by lia)).mpr ⟨m - 1,t,[],by lia,by rw[show m - 1+1=m - 0 by lia];exact ht,by rw[show m - (m - 1+1)=0 by lia];exact fU.mpr rfl,by rw[ab2];rfl⟩
  . obtain⟨e0,t0,r0,h1,h2,h3,rfl⟩:=(hG (by lia)).mp ha;have:=ih (e - (e0+1)) (by lia) (m - (e0+1)) (f+e0+1) on r0 t (by lia) h3 (by
     rw[show f+e0+1+(e - (e0+1))=f+e by lia,show m - (e0+1) - (e - (e0+1))=m - e by lia];exact ht)
    exact(hG (by lia)).mpr ⟨e0,t0,r0++t,by lia,h2,this,by rw[aa1]⟩
noncomputable def hg(lo n:Nat)(a:Way):List Nat:=(List.range' lo n).map (lk a)
theorem nh(nd:(ws a).Nodup)(h:(i,x)∈a):lk a i=x:=by
 unfold lk;rw[show a.lookup i=some x from lookup_mem (p:=(i,x)) nd h];rfl
theorem Am(h:i∈ws a): ∃x,(i,x)∈a:=by
 obtain⟨p,hp,rfl⟩:=ZL.mp h;exact⟨p.2,hp⟩
def Om(S:List Way)(lo n:Nat)(x:List Nat):Prop:= ∃a∈S,x=hg lo n a
theorem ig{a b c:Way}(ha:(ws a).Perm (List.range' lo n))(hb:(ws b).Perm (List.range' (lo+n) k))(hc:c.Perm (a++b)):hg lo (n+k) c=hg lo n a++hg (lo+n) k b:=by
 have wc:(ws c).Perm (List.range' lo (n+k)):=by
  rw[<-ad6];refine(hc.map _).trans ?_;rw[ZV];exact ha.append hb
 have nc:(ws c).Nodup:=wc.nodup_iff.mpr an3;unfold hg;rw[<-ad6,ZV];congr 1
 . refine Z0 fun i hi=>?_;obtain⟨x,hx⟩:=Am (ha.mem_iff.mpr hi);rw[nh (ha.nodup_iff.mpr an3) hx,nh nc (hc.mem_iff.mpr (af1 _ hx))]
 . refine Z0 fun i hi=>?_;obtain⟨x,hx⟩:=Am (hb.mem_iff.mpr hi);rw[nh (hb.nodup_iff.mpr an3) hx,nh nc (hc.mem_iff.mpr (ZS _ hx))]
theorem wW(h1:jg S lo n m)(h2:jg T (lo+n) k m):Om (pr S T) lo (n+k) x↔ ∃y z,Om S lo n y/\Om T (lo+n) k z/\x=y++z:=by
 constructor
 . rintro⟨c,hc,rfl⟩
   obtain⟨a,ha,hc⟩:=aa0.mp hc;obtain⟨b,hb,rfl⟩:=ZL.mp hc;exact⟨_,_,⟨a,ha,rfl⟩,⟨b,hb,rfl⟩,ig (h1.c a ha).1 (h2.c b hb).1 (.refl _)⟩
 . rintro⟨y,z,⟨a,ha,rfl⟩,⟨b,hb,rfl⟩,rfl⟩
   exact⟨a++b,aa0.mpr ⟨a,ha,ZL.mpr ⟨b,hb,rfl⟩⟩,(ig (h1.c a ha).1 (h2.c b hb).1 (.refl _)).symm⟩
theorem FA(h1:jg S (lo+k) n m)(h2:jg T lo k m):Om (pr S T) lo (k+n) x↔ ∃y z,Om T lo k y/\Om S (lo+k) n z/\x=y++z:=by
 constructor
 . rintro⟨c,hc,rfl⟩
   obtain⟨a,ha,hc⟩:=aa0.mp hc;obtain⟨b,hb,rfl⟩:=ZL.mp hc;exact⟨_,_,⟨b,hb,rfl⟩,⟨a,ha,rfl⟩,ig (h2.c b hb).1 (h1.c a ha).1 af9⟩
 . rintro⟨y,z,⟨b,hb,rfl⟩,⟨a,ha,rfl⟩,rfl⟩
   exact⟨a++b,aa0.mpr ⟨a,ha,ZL.mpr ⟨b,hb,rfl⟩⟩,(ig (h2.c b hb).1 (h1.c a ha).1 af9).symm⟩
theorem lR{L:List Nat}:Om (L.flatMap g) lo n x↔ ∃j∈L,Om (g j) lo n x:=by
 constructor
 . rintro⟨c,hc,rfl⟩
   obtain⟨j,hj,h⟩:=aa0.mp hc;exact⟨j,hj,c,h,rfl⟩
 . rintro⟨j,hj,c,h,rfl⟩
   exact⟨c,aa0.mpr ⟨j,hj,h⟩,rfl⟩
theorem BI:Om [[]] lo 0 x↔x= []:=by
 constructor
 . rintro⟨c,hc,rfl⟩;rfl
 . rintro rfl;exact⟨[],ZM.mpr rfl,rfl⟩
theorem qD:Om [[(i,o)]] i 1 x↔x= [o]:=by
 have e:hg i 1 [(i,o)]= [o]:=by
  show [lk [(i,o)] i]= [o]
  rw[nh (x:=o) (by simp [ws]) (ZM.mpr rfl)]
 constructor
 . rintro⟨c,hc,rfl⟩;rw[ZM.mp hc];exact e
 . rintro rfl;exact⟨_,ZM.mpr rfl,e.symm⟩
theorem qE(lt:l < h):Om (oD Q l h) (l+1) (h - l - 1) x↔ ∃m u v,l<=m/\m < h/\Om (Q l m).rg (l+1) (m - l) u/\Om (Q (m+1) h).lf (m+1) (h - (m+1)) v/\x=u++v:=by
 unfold oD;rw[lR];have one: ∀m,l<=m->m < h-> ∀x,Om (pr (Q l m).rg (Q (m+1) h).lf) (l+1) (h - l - 1) x↔ ∃u v,Om (Q l m).rg (l+1) (m - l) u/\Om (Q (m+1) h).lf (m+1) (h - (m+1)) v/\x=u++v:=fun m h1 h2 x=>by
  have c1:=(gv (m:=h) (m - l) l m rfl h1 (by lia)).1;have c2:=(gv (m:=h) (h - (m+1)) (m+1) h rfl (by lia) (Zx _)).2.1;have:=wW c1 (c2.cast (show m+1=l+1+(m - l) by lia) rfl) (x:=x);rw[show m - l+(h - (m+1))=h - l - 1 by lia,show l+1+(m - l)=m+1 by lia] at this;exact this
 constructor
 . rintro⟨m,hm,hx⟩
   have:=aa4.mp hm;obtain⟨u,v,h1,h2,h3⟩:=(one m (by lia) (by lia) x).mp hx;exact⟨m,u,v,by lia,by lia,h1,h2,h3⟩
 . rintro⟨m,u,v,a1,a2,h1,h2,h3⟩
   exact⟨m,aa4.mpr ⟨a1,by lia⟩,(one m a1 a2 x).mpr ⟨u,v,h1,h2,h3⟩⟩
theorem xT(lt:l < h)(hm:h<=m):jg (oD Q l h) (l+1) (h - l - 1) m:=jV fun a ha=>by
 have:=aa4.mp ha;have h1:=(gv (m:=m) (a - l) l a rfl (by lia) (by lia)).1;have h2:=(gv (m:=m) (h - (a+1)) (a+1) h rfl (by lia) (by lia)).2.1;exact(i9 h1 (h2.cast (by lia) rfl)).cast rfl (by lia)
theorem Hj(lt:l < h):Om (Q l h).rt (l+1) (h - l) x↔ ∃y,Om (oD Q l h) (l+1) (h - l - 1) y/\x=y++ [l]:=by
 rw[bQ lt];show Om (pr [[(h,l)]] (oD Q l h)) _ _ _↔_;have c1:jg [[(h,l)]] (l+1+(h - l - 1)) 1 h:=(jU (by lia)).cast (by lia) rfl;have:=FA c1 (xT lt (Zx _)) (x:=x);rw[show h - l - 1+1=h - l by lia,show l+1+(h - l - 1)=h by lia] at this;rw[this];constructor
 . rintro⟨y,z,h1,h2,h3⟩
   rw[qD.mp h2] at h3;exact⟨y,h1,h3⟩
 . rintro⟨y,h1,h3⟩
   exact⟨y,[l],h1,qD.mpr rfl,h3⟩
theorem Hk(lt:l < h):Om (Q l h).lt l (h - l) x↔ ∃y,Om (oD Q l h) (l+1) (h - l - 1) y/\x=h::y:=by
 rw[bQ lt];show Om (pr [[(l,h)]] (oD Q l h)) _ _ _↔_;have:=wW (lo:=l) (n:=1) (jU (m:=h) (Zx _)) (xT lt (Zx _)) (x:=x);rw[show 1+(h - l - 1)=h - l by lia] at this;rw[this];constructor
 . rintro⟨y,z,h1,h2,h3⟩
   rw[qD.mp h1] at h3;exact⟨z,h2,h3⟩
 . rintro⟨y,h1,h3⟩
   exact⟨[h],y,qD.mpr rfl,h1,h3⟩
theorem MQ(lt:l < h):Om (Q l h).rg (l+1) (h - l) x↔ ∃a y z,l < a/\a<=h/\Om (Q l a).rt (l+1) (a - l) y/\Om (Q a h).rg (a+1) (h - a) z/\x=y++z:=by
 have er:(Q l h).rg=(List.range' (l+1) (h - l)).flatMap fun a=>pr (Q l a).rt (Q a h).rg:=by
  conv=>lhs;rw[bQ lt]
  show(List.range' (l+1) (h - l)).flatMap _=_;refine bO fun a ha=>?_;by_cases c:a=h
  . subst c;rw[if_pos rfl,if_pos rfl,iw];congr 1
    rw[bQ lt];rfl
  . rw[if_neg c,if_neg c]
 rw[er,lR];have one: ∀a,l < a->a<=h-> ∀x,Om (pr (Q l a).rt (Q a h).rg) (l+1) (h - l) x↔ ∃y z,Om (Q l a).rt (l+1) (a - l) y/\Om (Q a h).rg (a+1) (h - a) z/\x=y++z:=fun a h1 h2 x=>by
  have c1:=((gv (m:=h) (a - l) l a rfl (by lia) (by lia)).2.2 h1).1;have c2:=(gv (m:=h) (h - a) a h rfl (by lia) (Zx _)).1;have:=wW c1 (c2.cast (show a+1=l+1+(a - l) by lia) rfl) (x:=x);rw[show a - l+(h - a)=h - l by lia,show l+1+(a - l)=a+1 by lia] at this;exact this
 constructor
 . rintro⟨a,ha,hx⟩
   have:=aa4.mp ha;obtain⟨u,v,h1,h2,h3⟩:=(one a (by lia) (by lia) x).mp hx;exact⟨a,u,v,by lia,by lia,h1,h2,h3⟩
 . rintro⟨a,u,v,a1,a2,h1,h2,h3⟩
   exact⟨a,aa4.mpr ⟨a1,by lia⟩,(one a a1 a2 x).mpr ⟨u,v,h1,h2,h3⟩⟩
theorem MR(lt:l < h):Om (Q l h).lf l (h - l) x↔ ∃a y z,l<=a/\a < h/\Om (Q l a).lf l (a - l) y/\Om (Q a h).lt a (h - a) z/\x=y++z:=by
 have er:(Q l h).lf=(List.range' l (h - l)).flatMap fun a=>pr (Q l a).lf (Q a h).lt:=by
  conv=>lhs;rw[bQ lt]
  show(List.range' l (h - l)).flatMap _=_;refine bO fun a ha=>?_;by_cases c:a=l
  . subst c;rw[if_pos rfl,if_pos rfl,iw];congr 1
    rw[bQ lt];rfl
  . rw[if_neg c,if_neg c]
 rw[er,lR];have one: ∀a,l<=a->a < h-> ∀x,Om (pr (Q l a).lf (Q a h).lt) l (h - l) x↔ ∃y z,Om (Q l a).lf l (a - l) y/\Om (Q a h).lt a (h - a) z/\x=y++z:=fun a h1 h2 x=>by
  have c1:=(gv (m:=h) (a - l) l a rfl (by lia) (by lia)).2.1;have c2:=((gv (m:=h) (h - a) a h rfl (by lia) (Zx _)).2.2 h2).2;have:=wW c1 (c2.cast (show a=l+(a - l) by lia) rfl) (x:=x);rw[show a - l+(h - a)=h - l by lia,show l+(a - l)=a by lia] at this;exact this
 constructor
 . rintro⟨a,ha,hx⟩
   have:=aa4.mp ha;obtain⟨u,v,h1,h2,h3⟩:=(one a (by lia) (by lia) x).mp hx;exact⟨a,u,v,by lia,by lia,h1,h2,h3⟩
 . rintro⟨a,u,v,a1,a2,h1,h2,h3⟩
   exact⟨a,aa4.mpr ⟨a1,by lia⟩,(one a a1 a2 x).mpr ⟨u,v,h1,h2,h3⟩⟩
theorem qF: ∀(d l h:Nat),h - l=d->l<=h->(∀x,Om (Q l h).rg (l+1) (h - l) x↔x∈Fo (l+1) (h - l) l)/\ ∀x,Om (Q l h).lf l (h - l) x↔x∈Fo l (h - l) h:=fun d=>by
 induction d using Nat.strongRecOn with
 | _ d ih=>
  intro l h hd hl;by_cases c:l=h
  . subst c;rw[iw,Nat.sub_self];exact⟨fun x=>by rw[fU];exact BI,fun x=>by rw[fU];exact BI⟩
  have lt:l < h:=by lia
  refine⟨fun x=>?_,fun x=>?_⟩
  . rw[MQ lt];constructor
    . rintro⟨a,y,z,a1,a2,hy,hz,rfl⟩
      obtain⟨y',Lw,rfl⟩:=(Hj a1).mp hy;obtain⟨m,u,v,m1,m2,hu,hv,rfl⟩:=(qE a1).mp Lw;have fu:=((ih (m - l) (by lia) l m rfl m1).1 u).mp hu;have fv:=((ih (a - (m+1)) (by lia) (m+1) a rfl (by lia)).2 v).mp hv;have fz:=((ih (h - a) (by lia) a h rfl a2).1 z).mp hz;have ft:v++l::z∈Tr (m+1) (h - m) l:=kn.mpr ⟨a - (m+1),v,z,by lia,by rw[show m+1+(a - (m+1))=a by lia];exact fv,by rw[show m+1+(a - (m+1))=a by lia,show h - m - (a - (m+1)+1)=h - a by lia];exact fz,rfl⟩;have:=FO (m - l) (h - l) (l+1) l u (v++l::z) (by lia) fu (by rw[show l+1+(m - l)=m+1 by lia,show h - l - (m - l)=h - m by lia];exact ft);rw[show u++v++ [l]++z=u++(v++l::z) by simp];exact this
    . intro hx;obtain⟨e,u,t,he,hu,ht,rfl⟩:=FX (h - l) (l+1) l x (by lia) hx;obtain⟨k,v,z,hk,hv,hz,rfl⟩:=kn.mp ht;have ou:=((ih e (by lia) l (l+e) (by lia) (by lia)).1 u).mpr (by rw[show l+e - l=e by lia];exact hu);have ov:=((ih k (by lia) (l+1+e) (l+1+e+k) (by lia) (by lia)).2 v).mpr (by rw[show l+1+e+k - (l+1+e)=k by lia];exact hv);have oz:=((ih (h - (l+1+e+k)) (by lia) (l+1+e+k) h rfl (by lia)).1 z).mpr (by rw[show h - (l+1+e+k)=h - l - e - (k+1) by lia];exact hz);refine⟨l+1+e+k,u++v++ [l],z,by lia,by lia,(Hj (by lia)).mpr ⟨u++v,(qE (by lia)).mpr ⟨l+e,u,v,by lia,by lia,ou,?_,rfl⟩,rfl⟩,oz,by simp⟩;rw[show l+e+1=l+1+e by lia];exact ov
  . rw[MR lt];constructor
    . rintro⟨a,y,z,a1,a2,hy,hz,rfl⟩
      obtain⟨z',Wu,rfl⟩:=(Hk a2).mp hz;obtain⟨m,u,v,m1,m2,hu,hv,rfl⟩:=(qE a2).mp Wu;have fy:=((ih (a - l) (by lia) l a rfl a1).2 y).mp hy;have fu:=((ih (m - a) (by lia) a m rfl m1).1 u).mp hu;have fv:=((ih (h - (m+1)) (by lia) (m+1) h rfl (by lia)).2 v).mp hv;have ft:y++h::u∈Tr l (m - l+1) h:=kn.mpr ⟨a - l,y,u,by lia,by rw[show l+(a - l)=a by lia];exact fy,by rw[show l+(a - l)=a by lia,show m - l+1 - (a - l+1)=m - a by lia];exact fu,rfl⟩;refine(hG (by lia)).mpr ⟨m - l,y++h::u,v,by lia,ft,by rw[show l+(m - l)+1=m+1 by lia,show h - l - (m - l+1)=h - (m+1) by lia];exact fv,by simp⟩
    . intro hx;obtain⟨e,t,v,he,ht,hv,rfl⟩:=(hG (by lia)).mp hx;obtain⟨k,y,u,hk,hy,hu,rfl⟩:=kn.mp ht;have oy:=((ih k (by lia) l (l+k) (by lia) (by lia)).2 y).mpr (by rw[show l+k - l=k by lia];exact hy);have ou:=((ih (e - k) (by lia) (l+k) (l+e) (by lia) (by lia)).1 u).mpr (by rw[show l+e - (l+k)=e+1 - (k+1) by lia];exact hu);have ov:=((ih (h - (l+e+1)) (by lia) (l+e+1) h rfl (by lia)).2 v).mpr (by rw[show h - (l+e+1)=h - l - (e+1) by lia];exact hv);exact⟨l+k,y,h::(u++v),by lia,by lia,oy,(Hk (by lia)).mpr ⟨u++v,(qE (by lia)).mpr ⟨l+e,u,v,by lia,by lia,ou,ov,rfl⟩,rfl⟩,by simp⟩
theorem tI:g∈fw n↔g∈Tr 1 n 0:=by
 have e:g∈fw n↔Om (DW n) 1 n g:=by
  unfold fw Om;rw[ZL];exact⟨fun⟨a,h,z⟩=>⟨a,h,z.symm⟩,fun⟨a,h,z⟩=>⟨a,h,z.symm⟩⟩
 rw[e];unfold DW;rw[lR];have one: ∀t,1<=t->t<=n->(Om (pr [[(t,0)]] (pr (Q 1 t).lf (Q t n).rg)) 1 n g↔ ∃y z,y∈Fo 1 (t - 1) t/\z∈Fo (t+1) (n - t) t/\g=y++0::z):=fun t t1 tn=>by
  have c1:=(gv (m:=n) (t - 1) 1 t rfl t1 tn).2.1;have c2:=(gv (m:=n) (n - t) t n rfl tn (Zx _)).1;constructor
  . rintro⟨c,hc,rfl⟩
    obtain⟨a,ha,hc⟩:=aa0.mp hc;obtain⟨b,hb,rfl⟩:=ZL.mp hc;cases ZM.mp ha;obtain⟨u,hu,hb⟩:=aa0.mp hb;obtain⟨v,hv,rfl⟩:=ZL.mp hb;have p1:=(c1.c u hu).1;have p2:=(c2.c v hv).1;have p3:(ws [(t,0)]).Perm (List.range' t 1):= .refl _;have s1:=ig (lo:=t) (n:=1) (k:=n - t) (a:= [(t,0)]) (b:=v) p3 p2 (.refl _);have p4:(ws ([(t,0)]++v)).Perm (List.range' (1+(t - 1)) (1+(n - t))):=by
     rw[show 1+(t - 1)=t by lia,<-ad6];show(ws [(t,0)]++ws v).Perm _;exact p3.append p2
    have s2:=ig (lo:=1) (n:=t - 1) (k:=1+(n - t)) (a:=u) (b:= [(t,0)]++v) (c:= [(t,0)]++(u++v)) p1 p4 (by
     show((t,0)::(u++v)).Perm (u++(t,0)::v);exact List.perm_middle.symm)
    rw[show t - 1+(1+(n - t))=n by lia,show 1+(t - 1)=t by lia,s1] at s2;refine⟨hg 1 (t - 1) u,hg (t+1) (n - t) v,((qF (t - 1) 1 t rfl t1).2 _).mp ⟨u,hu,rfl⟩,((qF (n - t) t n rfl tn).1 _).mp ⟨v,hv,rfl⟩,?_⟩;rw[s2];have:hg t 1 [(t,0)]= [0]:=by
     show [lk [(t,0)] t]= [0]
     rw[nh (x:=0) (by simp [ws]) (ZM.mpr rfl)]
    rw[this];rfl
  . rintro⟨y,z,hy,hz,rfl⟩
    obtain⟨u,hu,rfl⟩:=((qF (t - 1) 1 t rfl t1).2 _).mpr hy;obtain⟨v,hv,rfl⟩:=((qF (n - t) t n rfl tn).1 _).mpr hz;have p1:=(c1.c u hu).1;have p2:=(c2.c v hv).1;have p3:(ws [(t,0)]).Perm (List.range' t 1):= .refl _;have s1:=ig (lo:=t) (n:=1) (k:=n - t) (a:= [(t,0)]) (b:=v) p3 p2 (.refl _);have p4:(ws ([(t,0)]++v)).Perm (List.range' (1+(t - 1)) (1+(n - t))):=by
     rw[show 1+(t - 1)=t by lia,<-ad6];show(ws [(t,0)]++ws v).Perm _;exact p3.append p2
    have s2:=ig (lo:=1) (n:=t - 1) (k:=1+(n - t)) (a:=u) (b:= [(t,0)]++v) (c:= [(t,0)]++(u++v)) p1 p4 (by
     show((t,0)::(u++v)).Perm (u++(t,0)::v);exact List.perm_middle.symm)
    rw[show t - 1+(1+(n - t))=n by lia,show 1+(t - 1)=t by lia,s1] at s2;refine⟨[(t,0)]++(u++v),aa0.mpr ⟨_,ZM.mpr rfl,ZL.mpr ⟨u++v,aa0.mpr ⟨u,hu,ZL.mpr ⟨v,hv,rfl⟩⟩,rfl⟩⟩,?_⟩;rw[s2];have:hg t 1 [(t,0)]= [0]:=by
     show [lk [(t,0)] t]= [0]
     rw[nh (x:=0) (by simp [ws]) (ZM.mpr rfl)]
    rw[this];rfl
 rw[kn];constructor
 . rintro⟨t,ht,h⟩
   have:=aa4.mp ht;obtain⟨y,z,hy,hz,rfl⟩:=(one t (by lia) (by lia)).mp h;exact⟨t - 1,y,z,by lia,by rw[show 1+(t - 1)=t by lia];exact hy,by rw[show 1+(t - 1)=t by lia,show n - (t - 1+1)=n - t by lia];exact hz,rfl⟩
 . rintro⟨k,y,z,hk,hy,hz,rfl⟩
   refine⟨1+k,aa4.mpr ⟨by lia,by lia⟩,(one (1+k) (by lia) (by lia)).mpr ⟨y,z,by rw[show 1+k - 1=k by lia];exact hy,by rw[show n - (1+k)=n - (k+1) by lia];exact hz,rfl⟩⟩
noncomputable def cn:Nat->(Nat->Nat) × (Nat->Nat)
 | 0=>(fun _=>1,fun _=>0)
 | d+1=>(fun m=>if m=0 then 1 else((List.range m).map fun e=>(cn d).2 (e+1)*(cn d).1 (m - (e+1))).sum,fun m=>((List.range m).map fun k=>(cn d).1 k*(cn d).1 (m - (k+1))).sum)
theorem va{f:Nat->LL}: ∀{l:List Nat},(l.flatMap f).length=(l.map fun x=>(f x).length).sum
 | []=>rfl
 | x::l=>by rw[ae1,ZK,va,ZT,List.sum_cons]
theorem kq: ∀(d f m on:Nat),((ft d).1 f m on).length=(cn d).1 m/\((ft d).2 f m on).length=(cn d).2 m
 | 0,_,_,_=>⟨rfl,rfl⟩
 | d+1,f,m,on=>by
  refine⟨?_,?_⟩
  . show(if m=0 then [[]] else _).length=if m=0 then 1 else _
    by_cases c:m=0
    . rw[if_pos c,if_pos c];rfl
    . rw[if_neg c,if_neg c,va];congr 1
      exact Z0 fun e _=>by rw[w8,(kq d _ _ _).1,(kq d _ _ _).2]
  . show((List.range m).flatMap _).length=_;rw[va];congr 1
    exact Z0 fun e _=>by rw[w8,Zu,(kq d _ _ _).1,(kq d _ _ _).1]
theorem vY(h:m<=7):(Fo f m on).length<=7752:=by
 unfold Fo;rw[(kq _ f m on).1];have: ∀m∈List.range 8,(cn (2*m+1)).1 m<=7752:=by decide+kernel
 exact this m (ab3.mpr (by lia))
theorem K8(h:m<=7):(Tr f m on).length<=7752:=by
 unfold Tr;rw[(kq _ f m on).2];have: ∀m∈List.range 8,(cn (2*m)).2 m<=7752:=by decide+kernel
 exact this m (ab3.mpr (by lia))
end kF
namespace bG
open PySem L2 LB LD PyProof.Rows
noncomputable def top(i:Nat):Stmt:=PySem.Challenge.pw_hungwords_k18_first_plain_ones.main.body.getD i (.Pass ⟨0,0,0,0⟩)
noncomputable abbrev kg:Stmt:=top 1
noncomputable abbrev fF:Stmt:=top 2
noncomputable abbrev gV:Stmt:=top 3
noncomputable abbrev mJ:Stmt:=top 4
noncomputable abbrev mQ:Stmt:=top 5
noncomputable abbrev iT:Stmt:=top 6
noncomputable abbrev mK:Stmt:=top 7
noncomputable abbrev jw:Stmt:=top 8
noncomputable abbrev uQ:Stmt:=top 9
noncomputable abbrev mO:Stmt:=top 10
noncomputable abbrev iV:Stmt:=top 12
noncomputable abbrev gY:Stmt:=top 13
noncomputable abbrev gZ:Stmt:=top 14
noncomputable abbrev gW:Stmt:=top 15
noncomputable abbrev gX:Stmt:=top 17
noncomputable abbrev iU:Stmt:=top 18
noncomputable abbrev mN:Stmt:=top 19
noncomputable abbrev qo:Stmt:=top 20
noncomputable abbrev mP:Stmt:=top 21
noncomputable abbrev A6:Stmt:=top 22
noncomputable abbrev qm:Stmt:=top 23
noncomputable abbrev qt:Stmt:=top 25
noncomputable abbrev qr:Stmt:=top 26
noncomputable abbrev ez:Stmt:=top 27
noncomputable abbrev qp:Stmt:=top 28
noncomputable abbrev jy:Stmt:=top 29
noncomputable abbrev cH:Stmt:=top 30
noncomputable abbrev jx:Stmt:=top 31
noncomputable abbrev sU:Stmt:=top 32
noncomputable abbrev A7:Stmt:=top 34
noncomputable abbrev IV:Stmt:=top 35
structure Txt(mg:Str->Option Value):Prop where
 gH:mg "isinstance"=none
 len:mg "len"=none
 LK:mg "enumerate"=none
 tup:mg "tuple"=none
 int:mg "int"=none
 bool:mg "bool"=none
 qx:mg "range"=none
 lst:mg "list"=none
 UT:mg "divmod"=none
 Ub:mg "repr"=none
 all:mg "all"=none
 str:mg "str"=none
 sum:mg "sum"=none
 zip:mg "zip"=none
 Ej:mg "sorted"=none
 max:mg "max"=none
 min:mg "min"=none
 SJ:mg "dict"=none
theorem uO:aH ["worths"] ["worths"] (ab kg):=⟨rfl,rfl,rfl,by decide+kernel,rfl,by decide+kernel,by decide+kernel⟩
theorem uP:aH ["worths"] ["worths"] (ab fF):=⟨rfl,rfl,rfl,by decide+kernel,rfl,by decide+kernel,by decide+kernel⟩
theorem yD:aH ["w","h"] ["w","h"] (ab gV):=⟨rfl,rfl,rfl,by decide+kernel,rfl,by decide+kernel,by decide+kernel⟩
theorem yE:aH ["w","word","on"] ["w","word","on"] (ab mJ):=⟨rfl,rfl,rfl,by decide+kernel,rfl,by decide+kernel,by decide+kernel⟩
theorem wC:aH ["w","word","on","row"] ["w","word","on"] (ab mQ):=⟨rfl,rfl,rfl,by decide+kernel,rfl,by decide+kernel,by decide+kernel⟩
theorem kI:aH ["w","word","on","entry","row"] ["w","word","on","entry"] (ab iT):=⟨rfl,rfl,rfl,by decide+kernel,rfl,by decide+kernel,by decide+kernel⟩
theorem yF:aH ["w","word","row"] ["w","word","row"] (ab mK):=⟨rfl,rfl,rfl,by decide+kernel,rfl,by decide+kernel,by decide+kernel⟩
theorem sR:aH ["w","scale"] ["w"] (ab jw):=⟨rfl,rfl,rfl,by decide+kernel,rfl,by decide+kernel,by decide+kernel⟩
theorem qg:aH ["base","many","scale","place"] ["base","many"] (ab uQ):=⟨rfl,rfl,rfl,by decide+kernel,rfl,by decide+kernel,by decide+kernel⟩
theorem iz:aH ["number","base","many","found","place","figure"] ["number","base","many"] (ab mO):=⟨rfl,rfl,rfl,by decide+kernel,rfl,by decide+kernel,by decide+kernel⟩
theorem gU:aH ["w","total","h"] ["w"] (ab iV):=⟨rfl,rfl,rfl,by decide+kernel,rfl,by decide+kernel,by decide+kernel⟩
theorem iS:aH ["w","joined","chosen","right","left","right_tied","left_tied","low","high","inner"] ["w","joined","chosen"] (ab gY):=⟨rfl,rfl,rfl,by decide+kernel,rfl,by decide+kernel,by decide+kernel⟩
theorem yG:aH ["n"] ["n"] (ab gZ):=⟨rfl,rfl,rfl,by decide+kernel,rfl,by decide+kernel,by decide+kernel⟩
theorem o5:aH ["w","joined","chosen","right","right_tied","left","left_tied"] ["w","joined","chosen"] (ab gW):=⟨rfl,rfl,rfl,by decide+kernel,rfl,by decide+kernel,by decide+kernel⟩
theorem qj:aH ["w","many"] ["w","many"] (ab gX):=⟨rfl,rfl,rfl,by decide+kernel,rfl,by decide+kernel,by decide+kernel⟩
theorem sS:aH ["w"] ["w"] (ab iU):=⟨rfl,rfl,rfl,by decide+kernel,rfl,by decide+kernel,by decide+kernel⟩
theorem dW:aH ["best_of","w","many","told","waiting","worth","h","table","parts"] ["best_of","w","many"] (ab mN):=⟨rfl,rfl,rfl,by decide+kernel,rfl,by decide+kernel,by decide+kernel⟩
theorem AW:aH ["told"] ["told"] (ab qo):=⟨rfl,rfl,rfl,by decide+kernel,rfl,by decide+kernel,by decide+kernel⟩
theorem iA:aH ["best_of","tables","bests","table","best"] ["best_of","tables"] (ab mP):=⟨rfl,rfl,rfl,by decide+kernel,rfl,by decide+kernel,by decide+kernel⟩
theorem IS:aH ["best"] ["best"] (ab A6):=⟨rfl,rfl,rfl,by decide+kernel,rfl,by decide+kernel,by decide+kernel⟩
theorem gS:aH ["w","h","parts","held","word","on"] ["w","h"] (ab qm):=⟨rfl,rfl,rfl,by decide+kernel,rfl,by decide+kernel,by decide+kernel⟩
theorem mH:aH ["_law_script","_law_cells"] ["_law_script"] (ab qt):=⟨rfl,rfl,rfl,by decide+kernel,rfl,by decide+kernel,by decide+kernel⟩
theorem fQ:aH ["_law_state","_law_many","_law_turn","_law_place","_law_cell","_law_digit","_law_mixed"] ["_law_state","_law_many"] (ab qr):=⟨rfl,rfl,rfl,by decide+kernel,rfl,by decide+kernel,by decide+kernel⟩
theorem qh:aH ["_law_found","_law_due_here"] ["_law_found","_law_due_here"] (ab ez):=⟨rfl,rfl,rfl,by decide+kernel,rfl,by decide+kernel,by decide+kernel⟩
theorem sT:aH ["_law_state","_law_way","_law_some"] ["_law_state","_law_way"] (ab qp):=⟨rfl,rfl,rfl,by decide+kernel,rfl,by decide+kernel,by decide+kernel⟩
theorem fE:aH ["_law_state","_law_many","_law_way","_law_bare","_law_rows","_law_word","_law_row","_law_on"] ["_law_state","_law_many"] (ab jy):=⟨rfl,rfl,rfl,by decide+kernel,rfl,by decide+kernel,by decide+kernel⟩
theorem bz:aH ["_law_first","_law_last","_law_on","_law_found","_law_end","_law_behind","_law_one"] ["_law_first","_law_last","_law_on"] (ab cH):=⟨rfl,rfl,rfl,by decide+kernel,rfl,by decide+kernel,by decide+kernel⟩
theorem gT:aH ["_law_first","_law_last","_law_on","_law_found","_law_word","_law_behind","_law_one"] ["_law_first","_law_last","_law_on"] (ab jx):=⟨rfl,rfl,rfl,by decide+kernel,rfl,by decide+kernel,by decide+kernel⟩
theorem AX:aH ["_law_w","_law_first","_law_part","_law_some"] ["_law_w","_law_first","_law_part"] (ab sU):=⟨rfl,rfl,rfl,by decide+kernel,rfl,by decide+kernel,by decide+kernel⟩
theorem qi:aH ["_law_w","_law_found","_law_h","_law_worth_here"] ["_law_w"] (ab A7):=⟨rfl,rfl,rfl,by decide+kernel,rfl,by decide+kernel,by decide+kernel⟩
theorem kJ:aH ["_law_script","_law_state","_law_turn","_law_w","_law_kept","_law_due_here","_law_many","_law_found","_law_lead"] ["_law_script"] (ab IV):=⟨rfl,rfl,rfl,by decide+kernel,rfl,by decide+kernel,by decide+kernel⟩
end bG
namespace bG
open PySem PySem.Spec L2 LB LD PyProof.Rows kF
theorem Cg{c A B:Prop} [Decidable c](hc:c)(h:A):if c then A else B:=by rw[if_pos hc];exact h
theorem F1{c A B:Prop} [Decidable c](hc: ¬c)(h:B):if c then A else B:=by rw[if_neg hc];exact h
noncomputable def dj:Wo->Dt
 | none=> .aD
 | some v=> .int v
def ke:DN:=fun ds Q=> ∃L:List Wo,ds= [.lst (L.map dj)]/\Q (dj (iH L))
def pD:DN:=fun ds Q=> ∃L:List Wo,ds= [.lst (L.map dj)]/\L.length<=sizeLine/\Q (dj (fJ L))
theorem wb(L:List Wo):(L.map dj).all eG=true:=by
 induction L with
 | nil=>rfl
 | cons x xs ih=>rw[ZT,an5,ih,Bool.and_true];cases x <;> rfl
theorem G4(L:List Wo):inD .aD (L.map dj)=decide (none∈L):=by
 induction L with
 | nil=>rfl
 | cons x xs ih=>
  unfold inD at ih ⊢;rw[ZT,aj6,ih];cases x with
  | none=>simp [dj,Ku]
  | some v=>simp [dj,Ku]
theorem mD: ∀{L:List Wo},none∈L->iH L=none
 | x::xs,h=>by
  rcases ZR.mp h with e | e
  . rw[<-e];rfl
  . rw[iH,mD e,rL]
theorem mE: ∀(L:List Wo),none∉L-> ∃ns:List Int,L=ns.map some/\iH L=some ns.sum
 | [],_=>⟨[],rfl,rfl⟩
 | none::xs,h=>absurd ZI h
 | some v::xs,h=>by
  obtain⟨ns,e1,e2⟩:=mE xs fun z=>h (ZF _ z);exact⟨v::ns,by rw[e1];rfl,by rw[iH,e2];rfl⟩
theorem wa(ns:List Int):(ns.map some).map dj=ns.map Dt.int:=by rw[ab1];rfl
noncomputable def gQ(L:List Wo):List Int:=L.filterMap id
noncomputable def Rw:Dt->Bool
 | .aD=>false
 | _=>true
theorem Aq(L:List Wo):((L.map dj).filter Rw).map id=(gQ L).map Dt.int:=by
 induction L with
 | nil=>rfl
 | cons x xs ih=>
  rw[List.map_id] at ih ⊢;cases x with
  | none=>exact ih
  | some v=>show Dt.int v::((xs.map dj).filter Rw)=_;rw[ih];rfl
theorem Gj(h:gQ L= []):fJ L=none:=jH.mpr fun x hx=>by
 cases x with
 | none=>rfl
 | some v=>
  have:v∈gQ L:=aj3.mpr ⟨some v,hx,rfl⟩;rw[h] at this;cases this
theorem Gk(h1:m∈gQ L)(h2: ∀a∈gQ L,a<=m):fJ L=some m:=by
 induction L generalizing m with
 | nil=>cases h1
 | cons x xs ih=>
  cases x with
  | none=>exact ih h1 h2
  | some v=>
   have e:gQ (some v::xs)=v::gQ xs:=rfl;rw[e] at h1 h2;show mx (some v) (fJ xs)=some m;cases e2:fJ xs with
   | none=>
    have n:gQ xs= []:=by
     cases e3:gQ xs with
     | nil=>rfl
     | cons a as=>
      have hm:a∈gQ xs:=by rw[e3];exact ZI
      obtain⟨y,hy,Uu⟩:=aj3.mp hm;have:=jH.mp e2 y hy;rw[this] at Uu;cases Uu
    rw[n] at h1;cases ZM.mp h1;rfl
   | some u=>
    have hu:some u∈xs:=lY e2;have RE:u∈gQ xs:=aj3.mpr ⟨some u,hu,rfl⟩;show some (max v u)=some m;have a1:=h2 v ZI;have a2:=h2 u (ZF _ RE);rcases ZR.mp h1 with z | z
    . rw[z] at a2 ⊢;congr 1;omega
    . have:=ih z fun a ha=>h2 a (ZF _ ha);rw[e2] at this;cases this;congr 1;omega
section
variable{P:Program}{w:World}{K:PySem.W.Frag}{mg:Str->Option Value}{base:Heap}
theorem kM(F:fA K "together" "together" kg f fd)(T:Txt mg):aX P w K mg base di 1 f fd ["worths"] (bT ke):=by
 refine l5 F uO (fun ds Qd h=>?_) (fun bJ A outer s H E hr=>⟨_,(aj (dI (Ma iq (dv 0))
 (aB (aL iq))
 bL)
 (aB (aL (HH rfl T.sum (aa (dv 0) ae))))),fun ds Qd h=>?_⟩)
 . obtain⟨L,rfl,_⟩:=h;rfl
 . obtain⟨L,rfl,q⟩:=h;refine⟨_,rfl,⟨_, .inl rfl,rfl,wb L,?_⟩⟩;rw[G4];by_cases c:none∈L
   . rw[Z9 c];rw[mD c] at q;exact⟨true,rfl,cu q⟩
   . rw[aa3 c];obtain⟨ns,e1,e2⟩:=mE L c;rw[e2] at q;exact⟨false,rfl,bf ⟨_,rfl,ns,by rw[e1,wa],q⟩⟩
theorem tj(F:fA K "greatest" "greatest" fF f fd)(T:Txt mg):aX P w K mg base di 1 f fd ["worths"] (bT pD):=by
 refine l5 F uP (fun ds Qd h=>?_) (fun bJ A outer s H E hr=>⟨_,(aB (aL (KC rfl T.max (aa (Ov.ev (cQ (N:= ["worth"]) (nt:=1) (js:= []) ⟨rfl,by decide+kernel,by decide,rfl,by decide+kernel,(by show∀x∈(_:List (Str × NameKind)),x.2=NameKind.free->(ab fF).names.lookup x.1=some .cell\/(ab fF).names.lookup x.1=some .free;decide+kernel)⟩ rfl (fm (dv 0)) (fun _ _ _ _ _=>aE (i:=0) (show(["worth"]:List Str).Nodup by decide+kernel) rfl (by first | exact Or.inl rfl | exact Or.inr rfl)) bP a9 (fun _ _ _ _ _=>NU (uF (dv 0))) (fun _ _ _ _ _=>(dv 0)))) ae)))),fun ds Qd h=>?_⟩)
 . obtain⟨L,rfl,_⟩:=h;rfl
 . obtain⟨L,rfl,l,q⟩:=h;refine⟨_,rfl,⟨_,rfl,by rw[Zu];exact l,Rw,id,fun d hd=>?_,?_⟩⟩
   . obtain⟨x,_,rfl⟩:=ZL.mp hd;refine⟨⟨_,rfl,rfl⟩,?_⟩;cases x with
     | none=>exact⟨_,rfl,false,rfl,rfl,fun z=>by cases z⟩
     | some v=>exact⟨_,rfl,true,rfl,rfl,fun z=>⟨_,rfl,rfl⟩⟩
   . rw[Aq];refine⟨_,rfl,fun z=>?_,fun m h1 h2=>?_⟩
     . rw[Gj z] at q;exact q
     . rw[Gk h1 h2] at q;exact q
end
noncomputable def jB(b:Int)(m:Nat):List Int:=(List.range (m+1)).map fun i=>b^i
def Aw:DN:=fun ds Q=> ∃(b:Int) (m:Nat),ds= [.int b,.int (m:Int)]/\0<=b/\b < 2^60/\m<=60/\Q (.lst ((jB b m).reverse.map .int))
noncomputable def shr(B:Int):Nat->Int->Int
 | 0,x=>x
 | k+1,x=>shr B k x / B
theorem AR(B:Int): ∀(k:Nat) (x:Int),shr B k (x / B)=shr B (k+1) x
 | 0,_=>rfl
 | k+1,x=>by rw[shr,AR B k x];rfl
theorem pI(B:Int): ∀(k:Nat) (x:Int),lu B (k+1) x=lu B k x++ [shr B k x % B]
 | 0,_=>rfl
 | k+1,x=>by rw[lu,pI B k (x / B),AR,lu];rfl
theorem tW(B:Int): ∀(k:Nat) (x:Int),(lu B k x).length=k
 | 0,_=>rfl
 | k+1,x=>by rw[lu,ZG,tW B k]
def tV:DN:=fun ds Q=> ∃(x b:Int) (m:Nat),ds= [.int x,.int b,.int (m:Int)]/\0 < b/\b < 2^60/\m<=60/\Q (.lst ((lu b m x).reverse.map .int))
inductive XJ(b:Int)(m:Nat)(i:Nat)(δ:List Sl):Prop
 | mk (s:Sl) (h1:δ= [.im (.int b),.im (.int (m:Int)),.ow ((jB b i).map .int),s]) (h2:s.bU=false)
inductive X4(x b:Int)(m:Nat)(i:Nat)(δ:List Sl):Prop
 | mk (s4 s5:Sl) (h1:δ= [.im (.int (shr b i x)),.im (.int b),.im (.int (m:Int)),.ow ((lu b i x).map .int),s4,s5]) (h2:s4.bU=false) (h3:s5.bU=false)
theorem o7(b:Int)(m:Nat):jB b (m+1)=jB b m++ [b^(m+1)]:=by
 unfold jB;rw[List.range_succ,ZV];rfl
section
variable{P:Program}{w:World}{K:PySem.W.Frag}{mg:Str->Option Value}{base:Heap}
theorem BK(F:fA K "units" "units" uQ f fd)(T:Txt mg):aX P w K mg base di 1 f fd ["base","many"] (bT Aw):=by
 refine l5 F qg (fun ds Qd h=>?_) (fun bJ A outer s H E hr=>⟨_,(aj (dH 2 qg.nd (gp (aa ay ae)))
 (aj (dN rfl (nu T.qx (aa (dv 1) ae)) (cS 3 qg.nd)
 (aB (cJ (dD 2 (pv 2) (aa (Dc (HI 2 (pv 2) (C9 ay)) (dv 0)) ae)))) ab8)
 (aj (cJ (kA 2 (pv 2)))
 (aB (iJ 2 (aL (dv 2))))))),fun ds Qd h=>?_⟩)
 . obtain⟨b,m,rfl,_⟩:=h;rfl
 . obtain⟨b,m,rfl,b0,b1,m1,q⟩:=h;refine⟨by show 1<=sizeLine;decide,⟨_,rfl,rfl⟩,?_⟩;refine⟨_,rfl,_,rfl,by lia,by lia,?_⟩;refine bS (XJ b m) ⟨.no,by rw[show jB b 0= [1] from by simp [jB]];rfl,rfl⟩ (fun i d δ hi hP Δ' nz J0=>?_) (fun δ hP=>?_)
   . obtain⟨s,rfl,hs⟩:=hP;have il:i < m:=by have:=(Zw.mp hi).1;rw[Zu,Z1] at this;lia
     refine⟨⟨_,rfl,hs⟩,?_⟩;have hl:kX ((jB b i).map Dt.int) (-1)=some (.int (b^i)):=by
      cases i with
      | zero=>rw[show jB b 0= [1] from by simp [jB]];rw[Int.pow_zero];exact uj (α:=Dt) [] _
      | succ i=>rw[o7,ZV];exact uj _ _
     refine⟨⟨_,rfl⟩,⟨_,rfl⟩,_,rfl,_,_,_,rfl,rfl,hl,_,rfl,?_⟩;refine⟨_,_,rfl,rfl,.inr ⟨by lia,by lia⟩,_,_,rfl,rfl,?_,nz _ ⟨.im d,?_,rfl⟩⟩
     . rw[Zu];exact ZU (show(jB b i).length < 100 by rw[jB,Zu,Z1];lia) (by decide)
     . rw[o7,ZV,Int.pow_succ];rfl
   . obtain⟨s,rfl,hs⟩:=hP;rw[Zu,Z1,ac1];refine⟨_,rfl,_,rfl,?_⟩;rw[List.map_reverse] at q;exact⟨_,rfl,q⟩
theorem uZ(F:fA K "figures" "figures" mO f fd)(T:Txt mg):aX P w K mg base di 1 f fd ["number","base","many"] (bT tV):=by
 refine l5 F iz (fun ds Qd h=>?_) (fun bJ A outer s H E hr=>⟨_,(aj (dH 3 iz.nd (gp ae))
 (aj (dN rfl (nu T.qx (aa (dv 2) ae)) (cS 4 iz.nd)
 (aj (A5 (Df T.UT (aa (dv 0) (aa (dv 1) ae))) (vo 0 5 rfl iz.nd))
 (aB (cJ (dD 3 (pv 3) (aa (dv 5) ae))))) ab8)
 (aj (cJ (kA 3 (pv 3)))
 (aB (iJ 3 (aL (dv 3))))))),fun ds Qd h=>?_⟩)
 . obtain⟨x,b,m,rfl,_⟩:=h;rfl
 . obtain⟨x,b,m,rfl,b0,b1,m1,q⟩:=h;refine⟨by show 0<=sizeLine;decide,⟨_,rfl,rfl⟩,?_⟩;refine⟨_,rfl,_,rfl,by lia,by lia,?_⟩;refine bS (X4 x b m) ⟨.no, .no,rfl,rfl,rfl⟩ (fun i d δ hi hP Δ' nz J0=>?_) (fun δ hP=>?_)
   . obtain⟨s4,s5,rfl,h4,h5⟩:=hP;have il:i < m:=by have:=(Zw.mp hi).1;rw[Zu,Z1] at this;lia
     refine⟨⟨_,rfl,h4⟩,?_⟩;refine⟨_,rfl,_,rfl,_,_,rfl,b0,by lia,_,_,rfl,⟨_,rfl,rfl⟩,⟨_,rfl,h5⟩,?_⟩;refine⟨⟨_,rfl⟩,_,rfl,_,_,rfl,rfl,?_,nz _ ⟨.im d,.im (.int (shr b i x % b)),?_,rfl,rfl⟩⟩
     . rw[Zu,tW];exact ZU (show i < 100 by lia) (by decide)
     . rw[pI,ZV];rfl
   . obtain⟨s4,s5,rfl,h4,h5⟩:=hP;rw[Zu,Z1,ac1];refine⟨_,rfl,_,rfl,?_⟩;rw[List.map_reverse] at q;exact⟨_,rfl,q⟩
end
noncomputable def Pg(p:Nat × Nat):Dt:= .tup [.int (p.1:Int),.int (p.2:Int)]
noncomputable def eX(n:Nat):List (Nat × Nat):=(List.range (n - 1)).flatMap fun k=>(List.range (n - (k+1))).map fun j=>(j+1,j+1+(k+1))
def ue:DN:=fun ds Q=> ∃n:Nat,ds= [.int (n:Int)]/\n<=60/\Q (.lst ((eX n).map Pg))
theorem tK{α β:Type}{f:α->List β}{c:Nat}: ∀{l:List α},(∀x∈l,(f x).length<=c)->(l.flatMap f).length<=l.length*c
 | [],_=>by simp
 | x::l,h=>by
  rw[ae1,ZK,ZG,Nat.succ_mul];have:=tK (l:=l) fun y hy=>h y (ZF _ hy);have:=h x ZI;omega
theorem xY(h:n<=60):(eX n).length < 3601:=by
 have:=tK (f:=fun k=>(List.range (n - (k+1))).map fun j=>(j+1,j+1+(k+1))) (c:=60) (l:=List.range (n - 1)) fun x _=>by rw[Zu,Z1];omega
 rw[Z1] at this;have e:(n - 1)*60<=60*60:=Nat.mul_le_mul_right _ (by omega);unfold eX;omega
noncomputable def wF(n:Nat):Dt->List Dt
 | .int v=>(List.range (n - v.toNat)).map fun j=>Pg (j+1,j+1+v.toNat)
 | _=> []
noncomputable def VH(v:Int):Dt->Dt
 | .int u=> .tup [.int u,.int (u+v)]
 | _=> .aD
theorem Au(n:Nat):((List.range ((n:Int) - 1).toNat).map fun k=>Dt.int (1+(k:Nat))).flatMap (wF n)=(eX n).map Pg:=by
 unfold eX;rw[List.flatMap_map,List.map_flatMap,show((n:Int) - 1).toNat=n - 1 by omega];congr 1
 funext k
 show(List.range (n - (1+(k:Int)).toNat)).map _=_;rw[show(1+(k:Int)).toNat=k+1 by omega,ab1];rfl
section
variable{P:Program}{w:World}{K:PySem.W.Frag}{mg:Str->Option Value}{base:Heap}
theorem u0(F:fA K "by_width" "by_width" gZ f fd)(T:Txt mg):aX P w K mg base di 1 f fd ["n"] (bT ue):=by
 refine l5 F yG (fun ds Qd h=>?_) (fun bJ A outer s H E hr=>⟨_,(aB (aL (Ov.ev (FT 1 (N:= ["width","low","n"]) (nt:=2) (js:= [0]) ⟨rfl,by decide+kernel,by decide,rfl,by decide+kernel,(by show∀x∈(_:List (Str × NameKind)),x.2=NameKind.free->(ab gZ).names.lookup x.1=some .cell\/(ab gZ).names.lookup x.1=some .free;decide+kernel)⟩ rfl
 (fh T.qx (aa ay (aa (dv 0) ae))) (fun _ _ _ _ _=>aE (i:=0) (show(["width","low","n"]:List Str).Nodup by decide+kernel) rfl (by first | exact Or.inl rfl | exact Or.inr rfl)) bP a9 (fun _ _ _ _ _=>dA) (fun _ _ _ _ _=>(fh T.qx (aa ay (aa (cU (eW (dv 2) (dv 0)) ay) ae)))) (fun _ _ _ _ _=>aE (i:=1) (show(["width","low","n"]:List Str).Nodup by decide+kernel) rfl (by first | exact Or.inl rfl | exact Or.inr rfl)) zi a9 (fun _ _ _ _ _=>dA) (fun _ _ _ _ _=>(br (aa (dv 1) (aa (cU (dv 1) (dv 0)) ae)))))))),fun ds Qd h=>?_⟩)
 . obtain⟨n,rfl,_⟩:=h;rfl
 . obtain⟨n,rfl,n1,q⟩:=h;refine⟨_,rfl,_,_,rfl,⟨by decide,by decide,by lia,by lia⟩,?_⟩;refine⟨wF n,?_,fun d hd=>?_,?_⟩
   . rw[Au,Zu];exact ZU (xY n1) (by decide)
   . obtain⟨k,hk,rfl⟩:=ZL.mp hd;have kl:k < n - 1:=by have:=ab3.mp hk;omega
     refine⟨⟨_,rfl,rfl⟩,?_⟩;simp only [HJ,if_true];refine⟨_,rfl,_,rfl,_,_,rfl,rfl,_,_,rfl,rfl,_,_,rfl,⟨by decide,by decide,by lia,by lia⟩,fun _=>true,VH (1+(k:Int)),fun e he=>?_,?_⟩
     . obtain⟨j,_,rfl⟩:=ZL.mp he;refine⟨⟨_,rfl,rfl⟩,rfl,fun _=>?_⟩;exact⟨_,rfl,_,rfl,_,rfl,_,_,rfl,rfl,by show 2<=sizeLine;decide,rfl⟩
     . rw[ac6.mpr fun _ _=>rfl,ab1];show(List.range (n - (1+(k:Int)).toNat)).map _=_;rw[show(1+(k:Int)).toNat=k+1 by omega,show((n:Int) - (1+(k:Int))+1 - 1).toNat=n - (k+1) by omega];refine Z0 fun j _=>?_;show Dt.tup [.int ((j+1:Nat):Int),.int ((j+1+(k+1):Nat):Int)]=Dt.tup [.int (1+(j:Int)),.int (1+(j:Int)+(1+(k:Int)))];rw[show((j+1:Nat):Int)=1+(j:Int) by omega,show((j+1+(k+1):Nat):Int)=1+(j:Int)+(1+(k:Int)) by omega]
   . show Qd (.lst _);rw[Au];exact q
end
noncomputable def cD(n:Nat)(w:Nat->Nat->Wo)(i:Nat):Dt:= .tup ((List.range (n+1)).map fun o=>dj (w i o))
noncomputable def bH(n:Nat)(w:Nat->Nat->Wo):Dt:= .tup ((List.range' 1 n).map (cD n w))
noncomputable def xI(x:Nat):Dt:= .int (x:Int)
noncomputable def aN(h:List Nat):Dt:= .tup (h.map xI)
def sv:DN:=fun ds Q=> ∃(n:Nat) (w:Nat->Nat->Wo) (h:List Nat),ds= [bH n w,aN h]/\h.length=n/\(∀x∈h,x<=n)/\n<=60/\Q (dj (gL w h))
theorem qv{n:Nat}{w:Nat->Nat->Wo}(h:x<=n):kX ((List.range (n+1)).map fun o=>dj (w i o)) (x:Int)=some (dj (w i x)):=
 aO (j:=x) (by rw[Zy,ac3 (by omega)];rfl)
noncomputable def NY:Dt->Dt
 | .tup [.tup ds,.int v]=>(kX ds v).getD .aD
 | _=> .aD
theorem v8: ∀{h:List Nat} {i:Nat},(∀x∈h,x<=n)->(fb ((List.range' i h.length).map (cD n w)) (h.map xI)).map NY=(List.zipWith w (List.range' i h.length) h).map dj
 | [],_,_=>rfl
 | x::h,i,hx=>by
  have ih:=v8 (n:=n) (w:=w) (h:=h) (i:=i+1) fun y hy=>hx y (ZF _ hy);rw[ZG,List.range'_succ,ZT,ZT,al4,ZT,<-ih];unfold fb;rw[al4,ZT];congr 1
  show(kX ((List.range (n+1)).map fun o=>dj (w i o)) (x:Int)).getD .aD=_;rw[qv (hx x ZI)];rfl
theorem Ah: ∀{h:List Nat} {i:Nat} {d:Dt},d∈fb ((List.range' i h.length).map (cD n w)) (h.map xI)-> ∃j x,x∈h/\d= .tup [cD n w j,xI x]
 | [],_,d,hd=>by cases hd
 | x::h,i,d,hd=>by
  rw[ZG,List.range'_succ,ZT,ZT] at hd;unfold fb at hd;rw[al4] at hd;rcases ZR.mp hd with e | e
  . exact⟨i,x,ZI,e⟩
  . obtain⟨j,y,hy,e⟩:=Ah (i:=i+1) e;exact⟨j,y,ZF _ hy,e⟩
theorem pZ: ∀{h:List Nat} {i:Nat},iH (List.zipWith w (List.range' i h.length) h)=da w i h
 | [],_=>rfl
 | x::h,i=>by rw[ZG,List.range'_succ,al4,iH,pZ,da]
section
variable{P:Program}{w:World}{K:PySem.W.Frag}{mg:Str->Option Value}{base:Heap}
theorem uU(F:fA K "worth_of" "worth_of" gV f fd)(T:Txt mg)(zJ:fB P w K mg base "together" 1 ["worths"] (bT ke)):aX P w K mg base di 2 f fd ["w","h"] (bT sv):=by
 refine l5 F yD (fun ds Qd h=>?_) (fun bJ A outer s H E hr=>⟨_,(aB (aL (bF zJ (hr.mono (by decide)) (aa (Ov.ev (cQ (N:= ["row","on"]) (nt:=2) (js:= []) ⟨rfl,by decide+kernel,by decide,rfl,by decide+kernel,(by show∀x∈(_:List (Str × NameKind)),x.2=NameKind.free->(ab gV).names.lookup x.1=some .cell\/(ab gV).names.lookup x.1=some .free;decide+kernel)⟩ rfl (xk (aa (dv 0) (aa (dv 1) ae)) fun z=>qC (by rfl) T.zip z) (fun _ _ _ _ _=>cM rfl (aI (aE (i:=0) (show(["row","on"]:List Str).Nodup by decide+kernel) rfl (by first | exact Or.inl rfl | exact Or.inr rfl)) (aI (aE (i:=1) (show(["row","on"]:List Str).Nodup by decide+kernel) rfl (by first | exact Or.inl rfl | exact Or.inr rfl)) bR))) cw bB (fun _ _ _ _ _=>dA) (fun _ _ _ _ _=>(dB (dv 0) (dv 1))))) ae)))),fun ds Qd h=>?_⟩)
 . obtain⟨n,w,h,rfl,_⟩:=h;rfl
 . obtain⟨n,w,h,rfl,l,hx,n1,q⟩:=h;subst l;refine⟨_,rfl,_,rfl,true,true,_,_,rfl,?_⟩;have zl:(fb ((List.range' 1 h.length).map (cD h.length w)) (h.map xI)).length<=60:=by
    unfold fb;rw[List.length_zipWith,Zu,Zu,Z2];omega
   refine⟨ZZ zl (by decide),fun _=>true,NY,fun d hd=>?_,?_⟩
   . obtain⟨j,x,hm,rfl⟩:=Ah hd;refine⟨_,_,rfl,⟨_,rfl,rfl⟩,⟨_,rfl,rfl⟩,rfl,fun _=>?_⟩;exact⟨_,rfl,_,rfl,_,_,_,.inr rfl,rfl,qv (hx x hm),by show dj (w j x)=(kX _ _).getD _;rw[qv (hx x hm)];rfl⟩
   . rw[ac6.mpr fun _ _=>rfl,v8 hx];exact⟨_,rfl,by rw[pZ];exact q⟩
end
theorem AQ{env:Env}: ∀x∈([]:List (Str × NameKind)),x.2= .free->env.kindOf x.1=some .cell\/env.kindOf x.1=some .free:=fun x hx=>absurd hx Zz
theorem wA{env:Env}{p:Str × NameKind}(h:p.2≠ .free)(r: ∀x∈l,x.2= .free->env.kindOf x.1=some .cell\/env.kindOf x.1=some .free): ∀x∈p::l,x.2= .free->env.kindOf x.1=some .cell\/env.kindOf x.1=some .free:=fun x hx e=>by
 rcases ZR.mp hx with z | z
 . subst z;exact absurd e h
 . exact r x z e
theorem wz{env:Env}{p:Str × NameKind}(h:env.kindOf p.1=some .cell\/env.kindOf p.1=some .free)(r: ∀x∈l,x.2= .free->env.kindOf x.1=some .cell\/env.kindOf x.1=some .free): ∀x∈p::l,x.2= .free->env.kindOf x.1=some .cell\/env.kindOf x.1=some .free:=fun x hx e=>by
 rcases ZR.mp hx with z | z
 . subst z;exact h
 . exact r x z e
def Sm(w:Nat->Nat->Wo):Prop:= ∀i o v,w i o=some v-> -(2^60) < v/\v < 2^60
def wG:DN:=fun ds Q=> ∃(n:Nat) (w:Nat->Nat->Wo),ds= [bH n w]/\n<=60/\Sm w/\Q (bH n (wr n w))
noncomputable def My(n i:Nat):Dt->Dt
 | .tup [.int o,.int v]=> .int (v*((n:Int)+1)^n - o*((n:Int)+1)^(n - i))
 | _=> .aD
noncomputable def Uc(n:Nat):Dt->Dt
 | .tup [.int i,.tup ds]=> .tup ((bg 0 ds).map (My n i.toNat))
 | _=> .aD
theorem jP(h:d∈bg k ds): ∃j e,ds[j]?=some e/\d= .tup [.int ((j+k:Nat):Int),e]:=by
 unfold bg at h;obtain⟨j,hj,e⟩:=List.mem_mapIdx.mp h;exact⟨j,_,Zs hj,e.symm⟩
theorem Jb(n:Nat)(w:Nat->Nat->Wo)(i:Nat):(bg 0 ((List.range (n+1)).map fun o=>dj (w i o))).map (My n i)=(List.range (n+1)).map fun o=>dj (wr n w i o):=by
 apply ad2;intro j;unfold bg;rw[Zy,ag9,Zy,Zy];cases e:(List.range (n+1))[j]? with
 | none=>rfl
 | some o=>
  have:o=j:=by
   have:=Zw.mp e;obtain⟨h1,h2⟩:=this;rw[List.getElem_range] at h2;exact h2.symm
  subst this;show some (My n i (.tup [.int ((o+0:Nat):Int),dj (w i o)]))=some (dj (wr n w i o));unfold wr;cases w i o <;> rfl
theorem Jd(n:Nat)(w:Nat->Nat->Wo):(bg 1 ((List.range' 1 n).map (cD n w))).map (Uc n)=(List.range' 1 n).map (cD n (wr n w)):=by
 apply ad2;intro j;unfold bg;rw[Zy,ag9,Zy,Zy];cases e:(List.range' 1 n)[j]? with
 | none=>rfl
 | some i=>
  have:i=j+1:=by
   obtain⟨h1,h2⟩:=Zw.mp e;rw[List.getElem_range'] at h2;omega
  subst this;show some (Dt.tup ((bg 0 _).map (My n (((j+1:Nat):Int)).toNat)))=some (cD n (wr n w) (j+1));rw[ac1,Jb];rfl
theorem Bn{n k:Nat}(h:k<=n):kX ((jB ((n:Int)+1) n).reverse.map Dt.int) (k:Int)=some (.int (((n:Int)+1)^(n - k))):=
 aO (j:=k) (by
  unfold jB;rw[Zy,List.getElem?_reverse (by rw[Zu,Z1];omega),Zu,Z1,Zy,ac3 (by omega)];rw[show n+1 - 1 - k=n - k by omega];rfl)
section
variable{P:Program}{w:World}{K:PySem.W.Frag}{mg:Str->Option Value}{base:Heap}
theorem yO(F:fA K "ranked" "ranked" jw f fd)(T:Txt mg)(vT:fB P w K mg base "units" 1 ["base","many"] (bT Aw)):aX P w K mg base di 2 f fd ["w"] (bT wG):=by
 refine l5 F sR (fun ds Qd h=>?_) (fun bJ A outer s H E hr=>⟨_,(aj (dy 1 sR.nd (bF vT (hr.mono (by decide)) (aa (cU (dR T.len (aa (dv 0) ae)) ay) (aa (dR T.len (aa (dv 0) ae)) ae))))
 (aB (aL (q0 T.tup (aa (Ov.ev (cQ (N:= ["word","row","scale"]) (nt:=2) (js:= [1]) ⟨rfl,by decide+kernel,by decide,rfl,by decide+kernel,(by show∀x∈(_:List (Str × NameKind)),x.2=NameKind.free->(ab jw).names.lookup x.1=some .cell\/(ab jw).names.lookup x.1=some .free;decide+kernel)⟩ rfl (qP T.LK (aa (dv 0) ae) ay) (fun _ _ _ _ _=>cM rfl (aI (aE (i:=0) (show(["word","row","scale"]:List Str).Nodup by decide+kernel) rfl (by first | exact Or.inl rfl | exact Or.inr rfl)) (aI (aE (i:=1) (show(["word","row","scale"]:List Str).Nodup by decide+kernel) rfl (by first | exact Or.inl rfl | exact Or.inr rfl)) bR))) cw bB (fun _ _ _ _ _=>dA) (fun _ _ _ _ _=>(q0 T.tup (aa (Ov.ev (cQ (N:= ["on","worth","scale","word"]) (nt:=2) (js:= [2,0]) ⟨rfl,by decide+kernel,by decide,rfl,by decide+kernel,(by repeat (first | exact AQ | refine wz (by first | exact Or.inl rfl | exact Or.inr rfl) ?_ | refine wA (fun z=>nomatch z) ?_))⟩ rfl (qQ T.LK (aa (dv 1) ae)) (fun _ _ _ _ _=>cM rfl (aI (aE (i:=0) (show(["on","worth","scale","word"]:List Str).Nodup by decide+kernel) rfl (by first | exact Or.inl rfl | exact Or.inr rfl)) (aI (aE (i:=1) (show(["on","worth","scale","word"]:List Str).Nodup by decide+kernel) rfl (by first | exact Or.inl rfl | exact Or.inr rfl)) bR))) cw bB (fun _ _ _ _ _=>dA) (fun _ _ _ _ _=>(jS (sN (dv 1)) iq (eW (Dc (dv 1) (dB (dv 2) ay)) (Dc (dv 0) (dB (dv 2) (dv 3)))))))) ae))))) ae))))),fun ds Qd h=>?_⟩)
 . obtain⟨n,w,rfl,_⟩:=h;rfl
 . obtain⟨n,w,rfl,n1,sm,q⟩:=h;have hl:((List.range' 1 n).map (cD n w)).length=n:=by rw[Zu,Z2]
   have Ny:(bg 1 ((List.range' 1 n).map (cD n w))).length=n:=by unfold bg;rw[ai2,hl]
   refine⟨_,rfl,_,.inr rfl,_,_,rfl,rfl,_,rfl,_,.inr rfl,?_⟩;rw[hl];refine⟨(n:Int)+1,n,rfl,by lia,by lia,n1,⟨_,rfl,rfl⟩,?_⟩;refine⟨_,rfl,_,rfl,rfl,by rw[Ny];exact ZZ n1 (by decide),fun _=>true,Uc n,fun d hd=>?_,?_⟩
   . obtain⟨j,e,he,rfl⟩:=jP hd;have jl:j < n:=by have:=(Zw.mp he).1;rw[hl] at this;exact this
     have ee:e=cD n w (j+1):=by
      rw[Zy,ad7 jl] at he;have:=(Option.some.inj he).symm;rw[this];congr 1;omega
     subst ee;have rl:(bg 0 ((List.range (n+1)).map fun o=>dj (w (j+1) o))).length=n+1:=by unfold bg;rw[ai2,Zu,Z1]
     refine⟨_,_,rfl,⟨_,rfl,rfl⟩,⟨_,rfl,rfl⟩,rfl,fun _=>?_⟩;refine⟨_,rfl,_,rfl,by rw[rl];exact ZZ (show n+1<=61 by omega) (by decide),fun _=>true,My n (j+1),fun d hd=>?_,?_⟩
     . obtain⟨o,e,he,rfl⟩:=jP hd;have ol:o<=n:=by have:=(Zw.mp he).1;rw[Zu,Z1] at this;omega
       have ee:e=dj (w (j+1) o):=by
        rw[Zy,ac3 (by omega)] at he;exact(Option.some.inj he).symm
       subst ee;refine⟨_,_,rfl,⟨_,rfl,rfl⟩,⟨_,rfl,rfl⟩,rfl,fun _=>?_⟩;cases ew:w (j+1) o with
       | none=>exact⟨_,rfl,true,rfl,cu rfl⟩
       | some v=>
        have vs:=sm _ _ _ ew;refine⟨_,rfl,false,rfl,bf ?_⟩;have o1:zM ((o+0:Nat):Int) (((n:Int)+1)^(n - (j+1))):= .inl ⟨by lia,by lia⟩;have v1:zM v (((n:Int)+1)^(n - 0)):= .inl ⟨by lia,by lia⟩;exact⟨_,rfl,_,rfl,_,_,_,.inl rfl,rfl,Bn (k:=0) (Z7 _),_,_,rfl,rfl,v1,_,rfl,_,rfl,_,rfl,_,_,_,.inl rfl,rfl,Bn (k:=j+1) jl,_,_,rfl,rfl,o1,_,_,rfl,rfl,rfl⟩
     . rw[ac6.mpr fun _ _=>rfl];exact⟨_,.inl rfl,rfl⟩
   . rw[ac6.mpr fun _ _=>rfl,Jd];exact⟨_,.inl rfl,q⟩
end
noncomputable def n9(r:Rs):Dt:= .tup [.int r.1,aN r.2]
noncomputable def Ui:Option Rs->Dt
 | none=> .aD
 | some r=>n9 r
end bG
namespace bG
open PySem PySem.Spec L2 LB LW LD PyProof.Rows
section
variable{P:Program}{w:World}{K:PySem.W.Frag}{mg:Str->Option Value}{base:Heap}
theorem FD(F:fA K "_law_take" "_law_take" qr f fd)(T:Txt mg):aX P w K mg base di 1 f fd ["_law_state","_law_many"] AO:=by
 refine F.ok fQ (fun vs H Q E h=>?_) (fun bJ A outer s H vs Q E hr h=>?_)
 . obtain⟨d,c,t,m,rfl,_⟩:=h;rfl
 . obtain⟨d,c,t,m,rfl,B,ht,Pp,WM,q⟩:=h;have hu:=eD hr;have Ul:=B.ne;have t0:=B.t0;obtain⟨ns,hc,Ep,Uy⟩:=B.cs;refine⟨_,bM (dJ (i:=2) fQ.nd rfl (Or.inl rfl) (cN mX (jC hu (pv 0) iX (fun _ _=>rfl)) bX))
    (bM (wM hu (pv 0) iX (pv 2) rfl)
    (bM (dJ (i:=3) fQ.nd rfl (Or.inl rfl) (cN kj (pv 2) (g6 gf (by rfl) T.len PySem.boot_len (af (jC hu (pv 0) iX (fun _ _=>rfl)) aG))))
    (bM (dJ (i:=4) fQ.nd rfl (Or.inl rfl) (Bz qO (jC hu (pv 0) iX (fun _ _=>rfl)) (pv 3) (fun _ _=>rfl)))
    (bM (Bl (qy MO (pv 4) (cN Jx bX bX) (i3 _))
     (bM (qB (g6 jY (by rfl) T.UT rE (af (pv 4) (af (pv 1) aG))) (cM rfl (aI (Bu (jC hu (pv 0) iX (fun _ _=>rfl)) (pv 3) set_list) (aI (aE (i:=5) fQ.nd rfl (Or.inl rfl)) bR))))
      (jA (qA (pv 5)))) qz)
    (bM (dJ (i:=6) fQ.nd rfl (Or.inl rfl) (cN kj (cN i0 (cN mX (cN mX (cN kj (pv 4) bX) (cN i0 (cN i0 (pv 2) (pv 2)) bX)) bX) bX) bX))
    (bM (dJ (i:=6) fQ.nd rfl (Or.inl rfl) (cN kj (cN i0 (pv 6) (pv 6)) bX))
    (jA (qA (cN kj (cN Fy (cN kj (cN i0 (cN mX (pv 6) (cN i0 (pv 2) bX)) bX) bX) bX) (pv 1)))))))))),?_⟩
   refine⟨_,rfl,d,_,rfl,by rw[<-GQ c t];exact lJ.k (k:=Sum.inr "turn") B.dc,_,_,rfl,rfl,?_⟩;refine⟨_,rfl,_,rfl,d,_,rfl,n4.k (k:=Sum.inr "turn") B.dc (by show 2 < sizeLine;decide),?_⟩;rw[K4];have LI:(upd H d (.dK (bx c (t+1)))) d=some (.dK (bx c (t+1))):=ag;have Gb:(upd H d (.dK (bx c (t+1)))) c=some (.lst (ns.map V.int)):=by rw[ah Ul.symm];exact hc
   have gc:lJ (upd H d (.dK (bx c (t+1)))) d (.str "cells") (some (.ref c)):=by rw[<-ug c (t+1)];exact lJ.k (k:=Sum.inr "cells") LI
   have hl:(0:Int) < ((ns.map V.int).length:Int):=by rw[Zu];lia
   refine⟨_,rfl,_,rfl,d,_,rfl,gc,c,_,rfl,.inl (cY.of Gb),_,_,rfl,rfl,hl,?_⟩;have RN:0<=(t+1) % ((ns.map V.int).length:Int):=Int.emod_nonneg _ (by lia);have LC:(t+1) % ((ns.map V.int).length:Int) < ((ns.map V.int).length:Int):=am5 _ hl;obtain⟨cell,kQ⟩: ∃cell,(ns.map V.int)[((t+1) % ((ns.map V.int).length:Int)).toNat]?=some (V.int cell):=by
    have YC:((t+1) % ((ns.map V.int).length:Int)).toNat < ns.length:=by rw[Zu] at RN LC ⊢;lia
    exact⟨ns[((t+1) % ((ns.map V.int).length:Int)).toNat],by simp⟩
   refine⟨_,rfl,d,_,rfl,gc,_,rfl,c,_,_,_,rfl,rfl,cY.of Gb,GV RN kQ,?_⟩;refine⟨_,rfl,_,_,rfl,rfl,(show Ln 10 18 from by unfold Ln;decide),_,_,rfl,rfl,_,rfl,?_⟩;refine Rr (fun _=>?_) (fun _=>?_)
   . refine⟨_,rfl,_,rfl,_,_,rfl,⟨Pp,WM⟩,fun p hp=>?_⟩;have hd2:(upd (upd H d (.dK (bx c (t+1)))) p (.tup [.int (cell / m), .int (cell % m)])) d=some (.dK (bx c (t+1))):=by rw[ah (ai LI hp)];exact LI
     have Eu:(upd (upd H d (.dK (bx c (t+1)))) p (.tup [.int (cell / m),.int (cell % m)])) c=some (.lst (ns.map V.int)):=by rw[ah (ai Gb hp)];exact Gb
     refine⟨p,_,rfl,dG.of ag,rfl,_,_,rfl,?_⟩;refine⟨_,rfl,d,_,rfl,by rw[<-ug c (t+1)];exact lJ.k (k:=Sum.inr "cells") hd2,_,rfl,c,_,_,_,rfl,rfl,Eu,xh RN LC,?_⟩;refine⟨_,_,rfl,rfl,?_⟩;refine⟨_,rfl,?_⟩;refine q _ _ (Int.emod_nonneg _ (by lia)) (am5 _ Pp) ⟨by rw[ah Ul];exact hd2,⟨ns.set ((t+1) % ((ns.map V.int).length:Int)).toNat (cell / m),?_,by rw[Z4];exact Ep,by rw[Z4];exact Uy⟩,by lia,by lia⟩ fun b o e h1 h2=>?_
     . rw[ag,List.map_set]
     . have e1:(upd H d (.dK (bx c (t+1)))) b=some o:=by rw[ah h1];exact e
       rw[ah h2,ah (ai e1 hp)];exact e1
   . refine⟨_,rfl,_,_,rfl,rfl,(by show(0:Int) < 2147483629;decide),_,rfl,_,rfl,_,_,rfl,rfl, .inl ⟨by lia,by lia⟩,_,_,rfl,rfl, .inr ⟨by decide,by decide⟩,_,_,rfl,rfl,_,_,rfl,rfl,_,_,rfl,rfl, .inr ⟨by decide,by decide⟩,_,_,rfl,rfl,(by show(0:Int) < 2147483647;decide),?_⟩;generalize Uz:((cell % 2147483629+(t+1)*(t+1)*7919+11)*48271 % 2147483647:Int)=mx;have m0:0<=mx:=by rw[<-Uz];exact Int.emod_nonneg _ (by decide)
     have m1:mx < 2147483647:=by rw[<-Uz];exact am5 _ (by decide)
     refine⟨_,rfl,_,rfl,_,_,rfl,rfl,.inl ⟨by lia,by lia⟩,_,_,rfl,rfl,(by show(0:Int) < 2147483587;decide),?_⟩;refine⟨_,rfl,_,rfl,_,_,rfl,rfl,.inr ⟨by decide,by decide⟩,_,_,rfl,rfl,_,_,rfl,rfl,.inr ⟨by decide,by decide⟩,_,_,rfl,rfl,(by show(0:Int) < 2147483629;decide),_,_,rfl,rfl,⟨by decide,by decide⟩,_,rfl,_,_,rfl,rfl,Pp,?_⟩;refine q _ _ (Int.emod_nonneg _ (by lia)) (am5 _ Pp) ⟨LI,⟨ns,Gb,Ep,Uy⟩,by lia,by lia⟩ fun b o e h1 h2=>?_;rw[ah h1];exact e
theorem BQ(F:fA K "_law_begin" "_law_begin" qt f fd)(T:Txt mg):aX P w K mg base di 1 f fd ["_law_script"] (qe K):=by
 refine F.ok mH (fun vs H Q E h=>?_) (fun bJ A outer s H vs Q E hr h=>?_)
 . obtain⟨a,ns,rfl,_⟩:=h;rfl
 . obtain⟨a,ns,rfl,hS,hn,q⟩:=h;have hu:=eD hr;refine⟨_,bM (dJ (i:=1) mH.nd rfl (Or.inl rfl) (iB rB (by rfl) T.lst bC (af (mV wy (pv 0) wQ (wO bX)) aG)))
    (bM (Bl (qy (yN hr.Ir) (pv 1) (uT aG) (i3 _)) (jA (dJ (i:=1) mH.nd rfl (Or.inl rfl) (uT (af bX aG)))) qz)
    (jA (qA (Fs (tf iX (pv 1) (tf iX bX Fl)) rfl rfl (by simp) (by decide))))),?_⟩
   refine⟨_,rfl,_,rfl,a,_,rfl,hS,fun p hp=>?_⟩;have SE:lD (ns.map V.int) none (some 63)=ns.map V.int:=by
    unfold lD;rw[HT.mM,show((63:Int))=((63:Nat):Int) from rfl,HT.qu,List.drop_zero,al8,Zu];exact ah8 (by rw[Zu];lia)
   rw[SE];refine⟨p,_,rfl,.inl (cY.of ag),fun l hl=>?_⟩;have s1:aC H (upd (upd H p (.lst (ns.map V.int))) l (.lst (ns.map V.int))):=fun b o e=>by
    have e1:(upd H p (.lst (ns.map V.int))) b=some o:=by rw[ah (ai e hp)];exact e
    rw[ah (ai e1 hl)];exact e1
   have RW:(upd (upd H p (.lst (ns.map V.int))) l (.lst (ns.map V.int))) l=some (.lst (ns.map V.int)):=ag;generalize upd (upd H p (.lst (ns.map V.int))) l (.lst (ns.map V.int))=H1 at s1 RW;refine⟨_,rfl,Z7 _,fun e0 W5=>?_⟩;have s2:aC H1 (upd H1 e0 (.lst [])):=fun b o e=>by rw[ah (ai e W5)];exact e
   refine⟨l,e0,_,rfl,rfl,cY.of (s2 _ _ RW),cY.of ag,_,rfl,?_⟩;have fin: ∀(g:Addr) (ms:List Int) (H2:Hp),aC H H2->H2 g=some (.lst (ms.map V.int))->0 < ms.length->ms.length<=63->G7 [(tC (.str "cells"),gy 1),(tC (.str "turn"),tC (.int 0))] [some (.ref a),some (.ref g)] H2 Q:=fun g ms H2 s3 hg h1 h2=>by
    intro d hd;have nd:g≠d:=ai hg hd;refine⟨_,rfl,ag,[(Sum.inr "cells",.ref g),(Sum.inr "turn",.int 0)],rfl,by show 2<=15;decide,?_⟩;have em:i5 [] [((Sum.inr "cells":Key),V.ref g),(Sum.inr "turn",V.int 0)]=bx g 0:=by
     simp [i5,putK,bx,Rp]
    rw[em];refine q d g _ ⟨ag,⟨ms,by rw[ah nd,ah nd];exact hg,h1,h2⟩,ae6 _,by decide⟩ fun b o e=>?_;have e1:=s3 b o e;rw[ah (ai e1 hd),ah (ai e1 hd)];exact e1
   cases Em:ns with
   | nil=>
    refine cu ⟨by show 1<=sizeLine;decide,fun g hg=>?_⟩;refine fin g [7] _ (fun b o e=>?_) ag (by decide) (by decide);have e1:=s2 _ _ (s1 b o e);rw[ah (ai e1 hg)];exact e1
   | cons n0 nr=>
    refine bf ?_;exact fin l ns _ (fun b o e=>s2 _ _ (s1 b o e)) (s2 _ _ RW) (by rw[Em];simp) hn
theorem BL(F:fA K "_law_take" "_law_take" qr f fd)(T:Txt mg):aX P w K mg base di 1 f fd ["_law_state","_law_many"] (zN sM):=(FD F T).imp fun _ _ _ _ h=>ER h
end
end bG
namespace bG
open PySem PySem.Spec L2 LB LD PyProof.Rows
inductive Ab:Dt->Prop
 | aD:Ab .aD
 | int (i:Int):Ab (.int i)
 | bl (b:Bool):Ab (.bl b)
def AY:DN:=fun ds Q=> ∃d,ds= [d,d]/\Ab d/\Q (.bl true)
def Ap:DB:=fun t ds Q=> ∃y:Nat,ds= [xI y]/\y < 4/\t+3<=1000000/\ ∀i:Int,i.natAbs<=2000000000->Q (.int i) (t+3)
section
variable{P:Program}{w:World}{K:PySem.W.Frag}{mg:Str->Option Value}{base:Heap}
theorem BO(F:fA K "_law_same" "_law_same" ez f fd)(T:Txt mg):aX P w K mg base di 1 f fd ["_law_found","_law_due_here"] (bT AY):=by
 refine l5 F qh (fun ds Qd h=>?_) (fun bJ A outer s H E hr=>⟨_,(aj (dI (sN (dv 1))
 (aB (aL (De (dv 0))))
 bL)
 (aj (dI (PW.pt (w_or (eI (aW (T:="list") (by decide) T.gH (af (dv 1) (af (aJ (v:= .ty "list") (by rfl) T.lst bC rfl) aG)))) (jh (eI (aW (T:="tuple") (by decide) T.gH (af (dv 1) (af (aJ (v:= .ty "tuple") (by rfl) T.tup aZ rfl) aG)))))))
 (aj (dI (PW.pt (w_or (uG (aW (T:="list") (by decide) T.gH (af (dv 0) (af (aJ (v:= .ty "list") (by rfl) T.lst bC rfl) aG))) (aW (T:="list") (by decide) T.gH (af (dv 1) (af (aJ (v:= .ty "list") (by rfl) T.lst bC rfl) aG)))) (jh (uG (aW (T:="tuple") (by decide) T.gH (af (dv 0) (af (aJ (v:= .ty "tuple") (by rfl) T.tup aZ rfl) aG))) (aW (T:="tuple") (by decide) T.gH (af (dv 1) (af (aJ (v:= .ty "tuple") (by rfl) T.tup aZ rfl) aG)))))))
 (aB (aL zx))
 bL)
 (aB (aL (eJ (lz (dR T.len (aa (dv 0) ae)) (dR T.len (aa (dv 1) ae))) (gr (Dh rfl T.all (aa (Ov.ev (cQ (N:= ["_law_one","_law_other"]) (nt:=2) (js:= []) ⟨rfl,by decide+kernel,by decide,rfl,by decide+kernel,(by show∀x∈(_:List (Str × NameKind)),x.2=NameKind.free->(ab ez).names.lookup x.1=some .cell\/(ab ez).names.lookup x.1=some .free;decide+kernel)⟩ rfl (xk (aa (dv 0) (aa (dv 1) ae)) fun z=>qC (by rfl) T.zip z) (fun _ _ _ _ _=>cM rfl (aI (aE (i:=0) (show(["_law_one","_law_other"]:List Str).Nodup by decide+kernel) rfl (by first | exact Or.inl rfl | exact Or.inr rfl)) (aI (aE (i:=1) (show(["_law_one","_law_other"]:List Str).Nodup by decide+kernel) rfl (by first | exact Or.inl rfl | exact Or.inr rfl)) bR))) cw bB (fun _ _ _ _ _=>dA) (fun _ _ _ _ _=>rh))) ae)))))))
 bL)
 (aj (dI (eI (aW (T:="str") (by decide) T.gH (af (dv 1) (af (aJ (v:= .ty "str") (by rfl) T.str dY rfl) aG))))
 (aB (aL (eJ (aW (T:="str") (by decide) T.gH (af (dv 0) (af (aJ (v:= .ty "str") (by rfl) T.str dY rfl) aG))) (gr (lz (dv 0) (dv 1))))))
 bL)
 (aj (dI (eI (aW (T:="bool") (by decide) T.gH (af (dv 1) (af (aJ (v:= .ty "bool") (by rfl) T.bool bK rfl) aG))))
 (aB (aL (eJ (aW (T:="bool") (by decide) T.gH (af (dv 0) (af (aJ (v:= .ty "bool") (by rfl) T.bool bK rfl) aG))) (gr (lz (dv 0) (dv 1))))))
 bL)
 (aB (aL (eJ (aW (T:="int") (by decide) T.gH (af (dv 0) (af (aJ (v:= .ty "int") (by rfl) T.int kB rfl) aG))) (eJ (C8 (aW (T:="bool") (by decide) T.gH (af (dv 0) (af (aJ (v:= .ty "bool") (by rfl) T.bool bK rfl) aG)))) (gr (lz (dv 0) (dv 1))))))))))),fun ds Qd h=>?_⟩)
 . obtain⟨d,rfl,_⟩:=h;rfl
 . obtain⟨d,rfl,a,q⟩:=h;cases a with
   | aD=>exact⟨_,rfl,_,rfl,cu ⟨_,rfl,q⟩⟩
   | int i=>
    refine⟨_,rfl,_,rfl,bf ⟨_,rfl,_,rfl,_,rfl,bf ⟨_,rfl,_,rfl,_,rfl,bf ⟨_,rfl,_,rfl,_,rfl,bf ⟨_,rfl,_,rfl,_,rfl,bf ?_⟩⟩⟩⟩⟩;exact⟨_,rfl,_,rfl,_,rfl,cu ⟨_,rfl,_,rfl,_,rfl,_,rfl,cu ⟨_,rfl,_,rfl,true,(show some (decide _)=some true from ab9 some (Z9 rfl)),q⟩⟩⟩
   | bl b=>
    refine⟨_,rfl,_,rfl,bf ⟨_,rfl,_,rfl,_,rfl,bf ⟨_,rfl,_,rfl,_,rfl,bf ⟨_,rfl,_,rfl,_,rfl,bf ⟨_,rfl,_,rfl,_,rfl,cu ?_⟩⟩⟩⟩⟩;exact⟨_,rfl,_,rfl,_,rfl,cu ⟨_,rfl,_,rfl,true,(show some (decide _)=some true from ab9 some (Z9 rfl)),q⟩⟩
theorem BJ(F:fA K "_law_worth" "_law_worth" qp f fd)(T:Txt mg)(eM:fB P w K mg base "_law_take" 1 ["_law_state","_law_many"] (zN sM)):aX P w K mg base di 2 f fd ["_law_state","_law_way"] (zN Ap):=by
 refine UM F sT (fun t ds Qd h=>?_) (fun bJ A outer s H E hr=>⟨_,(aj (dH 2 sT.nd (gp (aa (ir 0 eM (hr.mono (by decide)) (pv 0) (aa ay ae)) (aa (eW (ir 0 eM (hr.mono (by decide)) (pv 0) (aa ay ae)) ay) (aa (eW (ir 0 eM (hr.mono (by decide)) (pv 0) (aa ay ae)) ay) (aa ay ae))))))
 (aB (aL (HI 2 (pv 2) (dv 1))))),fun t ds Qd h=>?_⟩)
 . obtain⟨y,rfl,_⟩:=h;rfl
 . obtain⟨y,rfl,hy,ht,q⟩:=h;refine⟨⟨_,rfl⟩,_,rfl,_,rfl,by lia,by decide,by decide,fun r1 a1 a2=>⟨⟨_,rfl⟩,_,rfl,_,rfl,by lia,by decide,by decide,fun r2 b1 b2=>⟨_,_,rfl,rfl,⟨_,rfl⟩,_,rfl,_,rfl,by lia,by decide,by decide,fun r3 c1 c2=>⟨_,_,rfl,rfl,?_⟩⟩⟩⟩;refine⟨by show 4<=sizeLine;decide,⟨_,rfl,rfl⟩,⟨_,rfl⟩,_,rfl,?_⟩;have q': ∀i:Int,i.natAbs<=2000000000->Qd (.int i) (t+1+1+1):=fun i hi=>by rw[show t+1+1+1=t+3 by lia];exact q i hi
   match y,hy with
   | 0,_=>exact⟨_,_,_,rfl,rfl,aO (j:=0) rfl,_,rfl,q' _ (by lia)⟩
   | 1,_=>exact⟨_,_,_,rfl,rfl,aO (j:=1) rfl,_,rfl,q' _ (by lia)⟩
   | 2,_=>exact⟨_,_,_,rfl,rfl,aO (j:=2) rfl,_,rfl,q' _ (by lia)⟩
   | 3,_=>exact⟨_,_,_,rfl,rfl,aO (j:=3) rfl,_,rfl,q' _ (by lia)⟩
end
end bG
namespace bG
open PySem PySem.Spec L2 LB LD PyProof.Rows kF
def mI(A:Dt->Prop):DN:=fun ds Q=> ∃d,ds= [d,d]/\A d/\Q (.bl true)
def Up(A:Dt->Prop)(d:Dt):Prop:=Ab d\/ ∃es,d= .tup es/\(∀e∈es,A e)/\es.length<=100
theorem sd(h:d∈fb es es): ∃e∈es,d= .tup [e,e]:=by
 unfold fb at h;rw[List.zipWith_self] at h;obtain⟨e,he,z⟩:=ZL.mp h;exact⟨e,he,z.symm⟩
section
variable{P:Program}{w:World}{K:PySem.W.Frag}{mg:Str->Option Value}{base:Heap}
theorem o8(F:fA K "_law_same" "_law_same" ez f fd)(T:Txt mg)(vV:fB P w K mg base "_law_same" k ["_law_found","_law_due_here"] (bT (mI A0))):aX P w K mg base di (k+1) f fd ["_law_found","_law_due_here"] (bT (mI (Up A0))):=by
 refine l5 F qh (fun ds Qd h=>?_) (fun bJ A outer s H E hr=>⟨_,(aj (dI (sN (dv 1))
 (aB (aL (De (dv 0))))
 bL)
 (aj (dI (PW.pt (w_or (eI (aW (T:="list") (by decide) T.gH (af (dv 1) (af (aJ (v:= .ty "list") (by rfl) T.lst bC rfl) aG)))) (jh (eI (aW (T:="tuple") (by decide) T.gH (af (dv 1) (af (aJ (v:= .ty "tuple") (by rfl) T.tup aZ rfl) aG)))))))
 (aj (dI (PW.pt (w_or (uG (aW (T:="list") (by decide) T.gH (af (dv 0) (af (aJ (v:= .ty "list") (by rfl) T.lst bC rfl) aG))) (aW (T:="list") (by decide) T.gH (af (dv 1) (af (aJ (v:= .ty "list") (by rfl) T.lst bC rfl) aG)))) (jh (uG (aW (T:="tuple") (by decide) T.gH (af (dv 0) (af (aJ (v:= .ty "tuple") (by rfl) T.tup aZ rfl) aG))) (aW (T:="tuple") (by decide) T.gH (af (dv 1) (af (aJ (v:= .ty "tuple") (by rfl) T.tup aZ rfl) aG)))))))
 (aB (aL zx))
 bL)
 (aB (aL (eJ (lz (dR T.len (aa (dv 0) ae)) (dR T.len (aa (dv 1) ae))) (gr (Dh rfl T.all (aa (Ov.ev (cQ (N:= ["_law_one","_law_other"]) (nt:=2) (js:= []) ⟨rfl,by decide+kernel,by decide,rfl,by decide+kernel,(by show∀x∈(_:List (Str × NameKind)),x.2=NameKind.free->(ab ez).names.lookup x.1=some .cell\/(ab ez).names.lookup x.1=some .free;decide+kernel)⟩ rfl (xk (aa (dv 0) (aa (dv 1) ae)) fun z=>qC (by rfl) T.zip z) (fun _ _ _ _ _=>cM rfl (aI (aE (i:=0) (show(["_law_one","_law_other"]:List Str).Nodup by decide+kernel) rfl (by first | exact Or.inl rfl | exact Or.inr rfl)) (aI (aE (i:=1) (show(["_law_one","_law_other"]:List Str).Nodup by decide+kernel) rfl (by first | exact Or.inl rfl | exact Or.inr rfl)) bR))) cw bB (fun _ _ _ _ _=>dA) (fun _ _ _ _ _=>(bF vV (hr.mono (Zx _)) (aa (dv 0) (aa (dv 1) ae)))))) ae)))))))
 bL)
 (aj (dI (eI (aW (T:="str") (by decide) T.gH (af (dv 1) (af (aJ (v:= .ty "str") (by rfl) T.str dY rfl) aG))))
 (aB (aL (eJ (aW (T:="str") (by decide) T.gH (af (dv 0) (af (aJ (v:= .ty "str") (by rfl) T.str dY rfl) aG))) (gr (lz (dv 0) (dv 1))))))
 bL)
 (aj (dI (eI (aW (T:="bool") (by decide) T.gH (af (dv 1) (af (aJ (v:= .ty "bool") (by rfl) T.bool bK rfl) aG))))
 (aB (aL (eJ (aW (T:="bool") (by decide) T.gH (af (dv 0) (af (aJ (v:= .ty "bool") (by rfl) T.bool bK rfl) aG))) (gr (lz (dv 0) (dv 1))))))
 bL)
 (aB (aL (eJ (aW (T:="int") (by decide) T.gH (af (dv 0) (af (aJ (v:= .ty "int") (by rfl) T.int kB rfl) aG))) (eJ (C8 (aW (T:="bool") (by decide) T.gH (af (dv 0) (af (aJ (v:= .ty "bool") (by rfl) T.bool bK rfl) aG)))) (gr (lz (dv 0) (dv 1))))))))))),fun ds Qd h=>?_⟩)
 . obtain⟨d,rfl,_⟩:=h;rfl
 . obtain⟨d,rfl,a | ⟨es,rfl,ax,l⟩,q⟩:=h
   . cases a with
     | aD=>exact⟨_,rfl,_,rfl,cu ⟨_,rfl,q⟩⟩
     | int i=>
      refine⟨_,rfl,_,rfl,bf ⟨_,rfl,_,rfl,_,rfl,bf ⟨_,rfl,_,rfl,_,rfl,bf ⟨_,rfl,_,rfl,_,rfl,bf ⟨_,rfl,_,rfl,_,rfl,bf ?_⟩⟩⟩⟩⟩;exact⟨_,rfl,_,rfl,_,rfl,cu ⟨_,rfl,_,rfl,_,rfl,_,rfl,cu ⟨_,rfl,_,rfl,true,(show some (decide _)=some true from ab9 some (Z9 rfl)),q⟩⟩⟩
     | bl b=>
      refine⟨_,rfl,_,rfl,bf ⟨_,rfl,_,rfl,_,rfl,bf ⟨_,rfl,_,rfl,_,rfl,bf ⟨_,rfl,_,rfl,_,rfl,bf ⟨_,rfl,_,rfl,_,rfl,cu ?_⟩⟩⟩⟩⟩;exact⟨_,rfl,_,rfl,_,rfl,cu ⟨_,rfl,_,rfl,true,(show some (decide _)=some true from ab9 some (Z9 rfl)),q⟩⟩
   . refine⟨_,rfl,_,rfl,bf ⟨_,rfl,_,rfl,_,rfl,bf ⟨_,rfl,_,rfl,_,rfl,cu ?_⟩⟩⟩;refine⟨_,rfl,_,rfl,_,rfl,_,rfl,true,rfl,_,rfl,bf ⟨_,rfl,_,rfl,_,rfl,_,rfl,true,rfl,_,rfl,bf ?_⟩⟩;refine⟨_,rfl,_, .inr rfl,_,rfl,_, .inr rfl,true,(show some (decide _)=some true from ab9 some (Z9 rfl)),_,rfl,cu ?_⟩;have zl:(fb es es).length<=100:=by unfold fb;rw[List.zipWith_self,Zu];exact l
     refine⟨_,rfl,_,rfl,true,true,_,_,rfl,ZZ zl (by decide),fun _=>true,fun _=> .bl true,fun e he=>?_,?_⟩
     . obtain⟨x,hx,rfl⟩:=sd he;exact⟨_,_,rfl,⟨_,rfl,rfl⟩,⟨_,rfl,rfl⟩,rfl,fun _=>⟨_,rfl,_,rfl,_,rfl,ax x hx,rfl⟩⟩
     . rw[ac6.mpr fun _ _=>rfl];refine⟨List.replicate (fb es es).length true,?_,?_⟩
       . rw[List.map_const',List.map_replicate]
       . rw[show(List.replicate (fb es es).length true).all id=true from ag4.mpr fun x hx=>(List.mem_replicate.mp hx).2];exact q
end
noncomputable def Ha(r:List Wo):Dt:= .tup (r.map dj)
def LR(n:Nat)(r:List Wo):Prop:=r.length=n+1/\ ∀v,some v∈r->v.natAbs<=2000000000
def LQ(n:Nat)(T:List (List Wo)):Prop:= ∀j r,T[j]?=some r->LR n r/\r[j+1]?=some none
def pV(n:Nat)(w:Nat->Nat->Wo):Prop:=(∀i o v,w i o=some v->v.natAbs<=2000000000)/\ ∀i,w i i=none
def AD:DB:=fun t ds Q=> ∃n:Nat,ds= [xI n]/\1<=n/\n<=12/\t+700<=1000000/\ ∀(w:Nat->Nat->Wo) (t':Int),t'<=t+700->pV n w->Q (bH n w) t'
def XM(n y b:Nat)(t:Int)(i:Nat)(δ:List Sl):Prop:= ∃(T:List (List Wo)) (t':Int) (s5 s6 s7:Sl),δ= [.bx t',.im (xI n),.im (xI y),.im (xI b),.ow (T.map Ha),s5,s6,s7]/\s5.bU=false/\s6.bU=false/\s7.bU=false/\T.length=i/\LQ n T/\t'<=t+2+52*i
def XN(n y b:Nat)(T:List (List Wo))(wd:Nat)(t:Int)(k:Nat)(δ:List Sl):Prop:= ∃(r:List Wo) (t':Int) (s7:Sl),δ= [.bx t',.im (xI n),.im (xI y),.im (xI b),.ow (T.map Ha),.im (xI wd),.ow (r.map dj),s7]/\s7.bU=false/\LR n r/\(wd < k->r[wd]?=some none)/\t'<=t+k
noncomputable def yz(T:List (List Wo))(i o:Nat):Wo:=match i with
 | 0=>none
 | k+1=>(((T[k]?).getD [])[o]?).join
theorem IF{T:List (List Wo)}(l:T.length=n)(h:LQ n T): .tup (T.map Ha)=bH n (yz T):=by
 unfold bH;congr 1
 refine ad2 fun j=>?_;rw[Zy,Zy];by_cases c:j < n
 . have c':j < T.length:=by lia
   rw[ad7 c,Zs c'];show some (Ha T[j])=some (cD n (yz T) (1+1*j));congr 1
   unfold Ha cD;congr 1
   have hr:=(h j _ (Zs c')).1;refine ad2 fun o=>?_;rw[Zy,Zy];by_cases d:o < n+1
   . have d':o < T[j].length:=by rw[hr.1];exact d
     rw[ac3 d,Zs d'];show some (dj (T[j])[o])=some (dj (yz T (1+1*j) o));rw[show 1+1*j=j+1 by lia];show _=some (dj (((T[j]?).getD [])[o]?).join);rw[Zs c'];show _=some (dj ((T[j])[o]?).join);rw[Zs d'];rfl
   . rw[ab6 (by rw[hr.1];lia),ab6 (by rw[Z1];lia)];rfl
 . rw[ab6 (by lia),ab6 (by rw[Z2];lia)];rfl
theorem wo(h:yz T i o=some v): ∃k r,i=k+1/\T[k]?=some r/\r[o]?=some (some v):=by
 cases i with
 | zero=>cases h
 | succ k=>
  have h:(((T[k]?).getD [])[o]?).join=some v:=h;cases e:T[k]? with
  | none=>rw[e] at h;cases h
  | some r=>
   rw[e] at h;exact⟨k,r,rfl,e,by
    cases e2:r[o]? with
    | none=>rw[show(some r).getD []=r from rfl,e2] at h;cases h
    | some x=>rw[show(some r).getD []=r from rfl,e2] at h;exact ab9 some h⟩
theorem ES(h:LQ n T):pV n (yz T):=by
 refine⟨fun i o v e=>?_,fun i=>?_⟩
 . obtain⟨k,r,rfl,e1,e2⟩:=wo e;exact(h k r e1).1.2 v (ZY e2)
 . cases e:yz T i i with
   | none=>rfl
   | some v=>
    obtain⟨k,r,rfl,e1,e2⟩:=wo e;rw[(h k r e1).2] at e2;cases e2
theorem LQ.snoc(h:LQ n T)(hr:LR n r)(he:r[T.length+1]?=some none):LQ n (T++ [r]):=fun j r' e=>by
 by_cases c:j < T.length
 . rw[Z3 c] at e;exact h j r' e
 . rw[Z8 (by lia)] at e;have:j - T.length=0:=by
    cases z:j - T.length with
    | zero=>rfl
    | succ m=>rw[z] at e;simp at e
   rw[this] at e;cases e;have:j=T.length:=by lia
   subst this;exact⟨hr,he⟩
theorem LR.set(h:LR n r)(k:Nat):LR n (r.set k none):=⟨by rw[Z4];exact h.1,fun v hv=>by
 rcases List.mem_or_eq_of_mem_set hv with z | z
 . exact h.2 v z
 . cases z⟩
theorem SA:eq2 (xI x) (xI y)=some (decide (x=y)):=by
 show some (decide ((x:Int)=(y:Int)))=_;congr 1
 by_cases c:x=y
 . rw[Z9 c,Z9 (by lia)]
 . rw[aa3 c,aa3 (by lia)]
theorem Rq(h:k < n):xi n (k:Int)=some k:=by
 have:=xh (n:=n) (i:=(k:Int)) (by lia) (by lia);rw[this,ac1]
theorem getNat{r:Int}{m:Nat}(h:0<=r)(h2:r < (m:Int)): ∃k:Nat,r=(k:Int)/\k < m:=⟨r.toNat,by lia,by lia⟩
theorem Mw:((List.range m).map fun k=>Dt.int (1+(k:Nat)))=(List.range' 1 m).map xI:=by
 rw[List.range'_eq_map_range,ab1];refine Z0 fun k _=>?_;show Dt.int _=Dt.int _;congr 1
theorem Mx:((List.range m).map fun k=>Dt.int (0+(k:Nat)))=(List.range m).map xI:=by
 refine Z0 fun k _=>?_;show Dt.int _=Dt.int _;congr 1
 lia
section
variable{P:Program}{w:World}{K:PySem.W.Frag}{mg:Str->Option Value}{base:Heap}
theorem BM(F:fA K "_law_table" "_law_table" jy f fd)(T:Txt mg)(eM:fB P w K mg base "_law_take" 1 ["_law_state","_law_many"] (zN sM))(GY:fB P w K mg base "_law_worth" 2 ["_law_state","_law_way"] (zN Ap)):aX P w K mg base di 3 f fd ["_law_state","_law_many"] (zN AD):=by
 refine UM F fE (fun t ds Qd h=>?_) (fun bJ A outer s H E hr=>⟨_,(aj (Fc 2 3 rfl fE.nd (Gf (ir 0 eM (hr.mono (by decide)) (pv 0) (aa ay ae)) (Gf (dB (gs (aa ay (aa ay (aa ay (aa ay (aa ay ae)))))) (ir 0 eM (hr.mono (by decide)) (pv 0) (aa ay ae))) Hz)))
 (aj (dH 4 fE.nd (gp ae))
 (aj (dN rfl (fh T.qx (aa ay (aa (cU (dv 1) ay) ae))) (cS 5 fE.nd)
 (aj (Fd 6 1 0 fE.nd (N:= ["_law_on","_law_state","_law_way"]) (nt:=1) (js:= [0,2]) ⟨rfl,by decide+kernel,by decide,rfl,by decide+kernel,(by show∀x∈(_:List (Str × NameKind)),x.2=NameKind.free->(ab jy).names.lookup x.1=some .cell\/(ab jy).names.lookup x.1=some .free;decide+kernel)⟩ rfl (nu T.qx (aa (cU (dv 1) ay) ae)) (fun _ _ _ _ _=>aE (i:=0) (show(["_law_on","_law_state","_law_way"]:List Str).Nodup by decide+kernel) rfl (by first | exact Or.inl rfl | exact Or.inr rfl)) bP a9 (fun _ _ _ _ _=>(ir 1 GY (hr.mono (by decide)) (pv 1) (aa (dv 2) ae))))
 (aj (dN rfl (nu T.qx (aa (cU (dv 1) ay) ae)) (cS 7 fE.nd)
 (aB (dI (PW.pt (w_or (IH (dv 7) (dv 5)) (jh (PW.pt (w_and (EU (dv 3) ay) (As (IH (ir 0 eM (hr.mono (by decide)) (pv 0) (aa (dv 3) ae)) ay)))))))
 (aB (IU 6 iq (pv 6) (dv 7)))
 bL)) ab8)
 (aB (cJ (dD 4 (pv 4) (aa (vB 6 T.tup (pv 6)) ae)))))) ab8)
 (aB (aL (vB 4 T.tup (pv 4))))))),fun t ds Qd h=>?_⟩)
 . obtain⟨n,rfl,_⟩:=h;rfl
 . obtain⟨n,rfl,n1,i4,ht,q⟩:=h;refine⟨⟨_,rfl⟩,_,rfl,_,rfl,by lia,by decide,by decide,fun y y0 y1=>?_⟩;obtain⟨y,rfl,hy⟩:=getNat (m:=4) y0 y1;refine⟨by show 5<=sizeLine;decide,⟨_,rfl⟩,_,rfl,_,rfl,by lia,by decide,by decide,fun r h0 h1=>?_⟩;obtain⟨z,rfl,hz⟩:=getNat (m:=5) h0 h1;obtain⟨b,em,m2⟩: ∃m:Nat,[Dt.int 0,Dt.int 0,Dt.int 8,Dt.int 3,Dt.int 2][z]?=some (xI m)/\m<=8:=by
    match z,hz with
    | 0,_=>exact⟨0,rfl,by decide⟩
    | 1,_=>exact⟨0,rfl,by decide⟩
    | 2,_=>exact⟨8,rfl,by decide⟩
    | 3,_=>exact⟨3,rfl,by decide⟩
    | 4,_=>exact⟨2,rfl,by decide⟩
   refine⟨_,_,xI b,.inl rfl,rfl,aO em,_,_,rfl,⟨_,rfl,rfl⟩,⟨_,rfl,rfl⟩,?_⟩;dsimp only;refine⟨by show 0<=sizeLine;decide,⟨_,rfl,rfl⟩,?_⟩;refine⟨_,rfl,_,_,rfl,rfl,1,(n:Int)+1,rfl,⟨by decide,by decide,by lia,by lia⟩,?_⟩;rw[show((n:Int)+1 - 1).toNat=n by lia,Mw];refine bS (XM n y b t) ⟨[],_,.no,.no,.no,rfl,rfl,rfl,rfl,rfl,fun j r hr=>by simp at hr,by lia⟩ (fun i d δ hi hP Δ' nz J0=>?_) (fun δ hP=>?_)
   . obtain⟨t0,t',s5,s6,s7,rfl,b5,b6,b7,tl,tk,Ux⟩:=hP;rw[Zy] at hi;obtain⟨wd,RD,rfl⟩:=aa2.mp hi;have il:i < n:=by have:=(Zw.mp RD).1;simpa using this
     have ew:wd=i+1:=by
      rw[ad7 il] at RD;have:=Option.some.inj RD;lia
     subst ew;refine⟨⟨_,rfl,b5⟩,?_⟩;refine⟨_,rfl,_,_,rfl,rfl,_,rfl,by lia,by lia,?_⟩;rw[show((n:Int)+1).toNat=n+1 by lia,Mx];refine⟨t',fun k acc t3=> ∃r:List Wo,acc=r.map dj/\r.length=k/\(∀v,some v∈r->v.natAbs<=2000000000)/\t3=t'+3*k,rfl,⟨[],rfl,rfl,fun v hv=>absurd hv Zz,by lia⟩,fun k d acc t3 hk hP=>?_,fun acc t3 hP=>?_⟩
     . obtain⟨r,rfl,rl,rb,rfl⟩:=hP;have kl:k < n+1:=by have:=(Zw.mp hk).1;simpa using this
       refine⟨by rw[Zu];exact ZU (show r.length < 100 by lia) (by decide),⟨_,rfl,rfl⟩,rfl,⟨_,rfl⟩,_,rfl,_,rfl,y,rfl,hy,by lia,fun v hv=>?_⟩;refine⟨_,rfl,r++ [some v],by rw[ZV];rfl,by rw[ZK,rl];rfl,fun u hu=>?_,by lia⟩;rcases aa7.mp hu with z | z
       . exact rb u z
       . cases ZM.mp z;exact hv
     . obtain⟨r,rfl,rl,rb,rfl⟩:=hP;rw[Zu,Z1] at rl ⊢;refine⟨⟨_,rfl,b6⟩,?_⟩;refine⟨_,rfl,_,_,rfl,rfl,_,rfl,by lia,by lia,?_⟩;rw[show((n:Int)+1).toNat=n+1 by lia,Mx];refine bS (XN n y b t0 (i+1) (t'+3*((n+1:Nat):Int))) ⟨r,_,s7,rfl,b7,⟨rl,rb⟩,fun z=>absurd z (Nat.not_lt_zero _),by lia⟩ (fun j d δ hj hP Δ2 En zU=>?_) (fun δ hP=>?_)
       . obtain⟨r,G8,s7,rfl,b7,rk,rn,Nl⟩:=hP;rw[Zy] at hj;obtain⟨on,RO,rfl⟩:=aa2.mp hj;have jl:j < n+1:=by have:=(Zw.mp RO).1;rw[Z1] at this;exact this
         have eo:on=j:=by
          rw[ac3 jl] at RO;exact(Option.some.inj RO).symm
         subst eo;have yes: ∀t3:Int,t3<=G8+1->HM 6 (dC Dt.aD) (Dj 7) Δ2 [.bx t3,.im (xI n),.im (xI y),.im (xI b),.ow (t0.map Ha),.im (xI (i+1)),.ow (r.map dj),.im (xI on)]:=fun t3 h3=>by
          refine⟨⟨_,rfl⟩,_,rfl,_,_,on,rfl,rfl,by rw[Zu];exact Rq (by rw[rk.1];exact jl),En _ ⟨r.set on none,t3,.im (xI on),?_,rfl,rk.set on,fun z=>?_,by lia⟩⟩
          . rw[List.map_set];rfl
          . by_cases c:on=i+1
            . subst c;rw[ZN (by rw[rk.1];exact jl)]
            . rw[ZE c];exact rn (by lia)
         have no: ∀t3:Int,on≠i+1->t3<=G8+1->Δ2.nx [.bx t3,.im (xI n),.im (xI y),.im (xI b),.ow (t0.map Ha),.im (xI (i+1)),.ow (r.map dj),.im (xI on)]:=fun t3 c h3=>En _ ⟨r,t3,.im (xI on),rfl,rfl,rk,fun z=>rn (by lia),by lia⟩;refine⟨⟨_,rfl,b7⟩,_,rfl,_,rfl,_,SA,_,rfl,?_⟩;by_cases c:on=i+1
         . exact Cg (Z9 c) (cu (yes G8 (by lia)))
         . refine F1 (fun z=>c (ab4 z)) ⟨_,rfl,_,_,rfl,rfl,_,rfl,?_⟩;by_cases e:(b:Int) > 0
           . refine Cg (Z9 e) ⟨⟨_,rfl⟩,_,rfl,_,rfl,_,rfl,by lia,e,by lia,fun v v0 v1=>⟨_,rfl,_,rfl,?_⟩⟩;by_cases g:v=0
             . exact Cg (Z9 g) (yes (G8+1) (by lia))
             . exact F1 (fun z=>g (ab4 z)) (no (G8+1) c (by lia))
           . exact F1 (fun z=>e (ab4 z)) (bf (no G8 c (by lia)))
       . obtain⟨r,G8,s7,rfl,b7,rk,rn,Nl⟩:=hP;rw[Zu,Z1] at rn Nl;refine⟨⟨_,rfl⟩,_,rfl,_,_,rfl,rfl,?_,nz _ ⟨t0++ [r],G8, .im (xI (i+1)), .ow (r.map dj),s7,?_,rfl,rfl,b7,by rw[ZK,tl];rfl,tk.snoc rk (by rw[tl];exact rn (by lia)),by lia⟩⟩
         . rw[Zu,tl];exact ZU (show i < 100 by lia) (by decide)
         . rw[ZV];rfl
   . obtain⟨t0,t',s5,s6,s7,rfl,b5,b6,b7,tl,tk,Ux⟩:=hP;rw[Zu,Z2] at tl Ux;refine⟨_,rfl,_,rfl,?_⟩;show Qd (.tup (t0.map Ha)) t';rw[IF tl tk];exact q _ t' (by lia) (ES tk)
end
end bG
namespace bG
open PySem PySem.Spec L2 LB LD PyProof.Rows jc
noncomputable def fI{β:Type} [Inhabited β](g:Nat->β):Dt->β
 | .int v=>g v.toNat
 | _=>default
instance:Inhabited Dt:=⟨.aD⟩
theorem Ja{l h:Nat}:((List.range ((h:Int) - (l:Int)).toNat).map fun k=>Dt.int ((l:Int)+(k:Nat)))=(List.range' l (h - l)).map xI:=by
 rw[show((h:Int) - (l:Int)).toNat=h - l by omega,List.range'_eq_map_range,ab1];refine Z0 fun k _=>?_;show Dt.int _=Dt.int _;congr 1
theorem u7{L:List Nat}{g:Nat->Dt}:(((L.map xI).filter fun _=>true).map (fI g))=L.map g:=by
 rw[ac6.mpr fun _ _=>rfl,ab1];rfl
theorem xb:((List.range' 1 n).map xI).map (fI fun i=>pk (i,i))=(dg n).map pk:=by
 unfold dg;rw[ab1,ab1];rfl
theorem EL{n:Nat}{d:Dt}(h: ∀i,f (i,i)=d):((List.range' 1 n).map xI).map (fI fun _=>d)=(dg n).map f:=by
 unfold dg;rw[ab1,ab1];exact Z0 fun i _=>(h i).symm
section
variable{α:Type}(D:α->Dt)
noncomputable abbrev IB (L:List Pr) (f:Nat->Nat->α):Sl:=td (L.map pk) (L.map fun p=>D (f p.1 p.2))
def HC(oJ oC:List α->Prop)(jn ch:List α->α)(fj fc:Addr):DS:=fun ss Q=> ∃(n:Nat) (w rg rt lf lt:Nat->Nat->α),ss= [.im (IE D n w),.fn fj,.fn fc]/\1<=n/\n<=12/\Ts oJ oC jn ch n w rg rt lf lt/\
 Q (.tup [Gx D (dg n++jc.eX n) rg,Gx D (jc.eX n) rt,Gx D (dg n++jc.eX n) lf,Gx D (jc.eX n) lt])
def FI(n:Nat)(w rg rt lf lt:Nat->Nat->α)(fj fc:Addr)(i:Nat)(δ:List Sl):Prop:= ∃(s7 s8 s9:Sl),δ= [.im (IE D n w),.fn fj,.fn fc,IB D (dg n++(jc.eX n).take i) rg,IB D (dg n++(jc.eX n).take i) lf,IB D ((jc.eX n).take i) rt,IB D ((jc.eX n).take i) lt,s7,s8,s9]/\s7.bU=false/\s8.bU=false/\s9.bU=false/\eO [s9] [s9]
end
theorem wJ{Δ:dE}(e2:d2=Pg (l,h))(e1:δ[i]?=some (IB D L f))(hL:L.length<=4000)(hn:(l,h)∉L)(hd:d=D (f l h))(q:Δ.nx (δ.set i (IB D (L++ [(l,h)]) f))):xN i Δ d d2 δ:=by
 subst e2;subst hd;refine⟨pk (l,h),_,_,rfl,e1,by rw[Zu];exact ae9 hL (by decide),Jo hn,?_⟩;unfold IB at q;rw[ZV,ZV] at q;exact q
section
variable{P:Program}{wd:World}{K:PySem.W.Frag}{mg:Str->Option Value}{base:Heap}
theorem FH(LO: ∀x,v7 (D x))(hJ:iI P wd K mg base fj 1 pj (bT (pH D oJ jn)))(hC:iI P wd K mg base fc 1 pc (bT (pH D oC ch)))(F:fA K "fill" "fill" gY f fd)(T:Txt mg)(D5:fB P wd K mg base "by_width" 1 ["n"] (bT ue)):aX P wd K mg base di 2 f fd ["w","joined","chosen"] (spS (HC D oJ oC jn ch fj fc)):=by
 refine PJ F iS (fun ss Qd h=>?_) (fun bJ A outer s H E hr=>⟨_,aj (A3 3 iS.nd (FR (N:= ["word","joined"]) (nt:=1) (js:= [1]) ⟨rfl,by decide+kernel,by decide,rfl,by decide+kernel,(by show∀x∈(_:List (Str × NameKind)),x.2=NameKind.free->(ab gY).names.lookup x.1=some .cell\/(ab gY).names.lookup x.1=some .free;decide+kernel)⟩ rfl (fh T.qx (aa ay (aa (cU (dR T.len (aa (dv 0) ae)) ay) ae))) (fun _ _ _ _ _=>aE (i:=0) (show(["word","joined"]:List Str).Nodup by decide+kernel) rfl (by first | exact Or.inl rfl | exact Or.inr rfl)) bP a9 (fun _ _ _ _ _=>br (aa (dv 0) (aa (dv 0) ae))) (fun _ _ _ _ _=>gu 1 hJ (hr.mono (by decide)) (pv 1) (aa (gs ae) ae)) (Nat.lt_of_succ_lt (eD hr))))
  (aj (A3 4 iS.nd (FQ 3 hr.hd T.SJ (pv 3)))
  (aj (AZ 5 iS.nd)
  (aj (AZ 6 iS.nd)
  (aj (dN rfl (fm (bF D5 (hr.mono (by decide)) (aa (dR T.len (aa (dv 0) ae)) ae))) (vo 7 8 rfl iS.nd)
   (aj (dy 9 iS.nd (rp (gu 2 hC (hr.mono (by decide)) (pv 2) (aa (Ov.ev (cQ (N:= ["at","joined","right","low","left","high"]) (nt:=1) (js:= [1,3,7,4,8]) ⟨rfl,by decide+kernel,by decide,rfl,by decide+kernel,(by show∀x∈(_:List (Str × NameKind)),x.2=NameKind.free->(ab gY).names.lookup x.1=some .cell\/(ab gY).names.lookup x.1=some .free;decide+kernel)⟩ rfl (fh T.qx (aa (dv 7) (aa (dv 8) ae))) (fun _ _ _ _ _=>aE (i:=0) (show(["at","joined","right","low","left","high"]:List Str).Nodup by decide+kernel) rfl (by first | exact Or.inl rfl | exact Or.inr rfl)) bP a9 (fun _ _ _ _ _=>dA) (fun _ _ _ _ _=>gu 1 hJ (hr.mono (by decide)) (pv 1) (aa (gs (aa (ip (eD hr) (dv 2) (br (aa (dv 3) (aa (dv 0) ae)))) (aa (ip (eD hr) (dv 4) (br (aa (cU (dv 0) ay) (aa (dv 5) ae)))) ae))) ae)))) ae))))
   (aj (qk 5 (eD hr) (pv 5) (br (aa (dv 7) (aa (dv 8) ae))) (gu 1 hJ (hr.mono (by decide)) (pv 1) (aa (gs (aa (dB (dB (dv 0) (eW (dv 8) ay)) (dv 7)) (aa (dv 9) ae))) ae)))
   (aj (qk 6 (eD hr) (pv 6) (br (aa (dv 7) (aa (dv 8) ae))) (gu 1 hJ (hr.mono (by decide)) (pv 1) (aa (gs (aa (dB (dB (dv 0) (eW (dv 7) ay)) (dv 8)) (aa (dv 9) ae))) ae)))
   (aj (qk 3 (eD hr) (pv 3) (br (aa (dv 7) (aa (dv 8) ae))) (rp (gu 2 hC (hr.mono (by decide)) (pv 2) (aa (Ov.ev (cQ (N:= ["at","joined","right_tied","low","right","high"]) (nt:=1) (js:= [1,5,7,3,8]) ⟨rfl,by decide+kernel,by decide,rfl,by decide+kernel,(by show∀x∈(_:List (Str × NameKind)),x.2=NameKind.free->(ab gY).names.lookup x.1=some .cell\/(ab gY).names.lookup x.1=some .free;decide+kernel)⟩ rfl (fh T.qx (aa (cU (dv 7) ay) (aa (cU (dv 8) ay) ae))) (fun _ _ _ _ _=>aE (i:=0) (show(["at","joined","right_tied","low","right","high"]:List Str).Nodup by decide+kernel) rfl (by first | exact Or.inl rfl | exact Or.inr rfl)) bP a9 (fun _ _ _ _ _=>dA) (fun _ _ _ _ _=>gu 1 hJ (hr.mono (by decide)) (pv 1) (aa (gs (aa (ip (eD hr) (dv 2) (br (aa (dv 3) (aa (dv 0) ae)))) (aa (ip (eD hr) (dv 4) (br (aa (dv 0) (aa (dv 5) ae)))) ae))) ae)))) ae))))
   (aB (qk 4 (eD hr) (pv 4) (br (aa (dv 7) (aa (dv 8) ae))) (rp (gu 2 hC (hr.mono (by decide)) (pv 2) (aa (Ov.ev (cQ (N:= ["at","joined","left","low","left_tied","high"]) (nt:=1) (js:= [1,4,7,6,8]) ⟨rfl,by decide+kernel,by decide,rfl,by decide+kernel,(by show∀x∈(_:List (Str × NameKind)),x.2=NameKind.free->(ab gY).names.lookup x.1=some .cell\/(ab gY).names.lookup x.1=some .free;decide+kernel)⟩ rfl (fh T.qx (aa (dv 7) (aa (dv 8) ae))) (fun _ _ _ _ _=>aE (i:=0) (show(["at","joined","left","low","left_tied","high"]:List Str).Nodup by decide+kernel) rfl (by first | exact Or.inl rfl | exact Or.inr rfl)) bP a9 (fun _ _ _ _ _=>dA) (fun _ _ _ _ _=>gu 1 hJ (hr.mono (by decide)) (pv 1) (aa (gs (aa (ip (eD hr) (dv 2) (br (aa (dv 3) (aa (dv 0) ae)))) (aa (ip (eD hr) (dv 4) (br (aa (dv 0) (aa (dv 5) ae)))) ae))) ae)))) ae))))))))) ab8)
  (aB (ql 3 (ql 5 (ql 4 (ql 6 (aL (br (aa (dv 3) (aa (dv 5) (aa (dv 4) (aa (dv 6) ae))))))))))))))),fun ss Qd h=>?_⟩)
 . obtain⟨n,w,rg,rt,lf,lt,rfl,_⟩:=h;rfl
 . obtain⟨n,w,rg,rt,lf,lt,rfl,n1,i4,V,q⟩:=h;have hl:((List.range' 1 n).map (sV D n w)).length=n:=by rw[Zu,Z2]
   refine⟨_,rfl,_,.inr rfl,_,_,rfl,rfl,1,_,rfl,⟨by decide,by decide,by rw[hl];lia,by rw[hl];lia⟩,?_⟩;rw[hl,show((n:Int)+1 - 1).toNat=n by lia,Mw];refine⟨by rw[Zu,Z2];exact ZZ i4 (by decide),fI fun i=>pk (i,i),fI fun i=>D (jn []),fun d hd=>?_,?_,?_⟩
   . obtain⟨i,hi,rfl⟩:=ZL.mp hd;exact⟨⟨_,rfl,rfl⟩,_,rfl,_,rfl,by show 2<=sizeLine;decide,rfl,rfl,by show 0<=sizeLine;decide,[],rfl,V.j0,rfl⟩
   . rw[xb];exact List.Pairwise.of_map _ (fun a b z e=>z (ab9 _ e)) (xF P wd i4)
   . rw[xb,show((List.range' 1 n).map xI).map (fI fun i=>D (jn []))=(dg n).map fun p=>D (rg p.1 p.2) from EL fun i=>by rw[V.r0]];refine⟨⟨_,rfl,rfl⟩,_,_,rfl,fun z=>?_,xF _ _ i4,⟨_,rfl,rfl⟩,⟨_,rfl,rfl⟩,⟨_,rfl,rfl⟩,?_⟩
     . have:=ab9 List.length z;unfold dg at this;rw[Zu,Zu,Z2] at this;have:n=0:=this;lia
     refine⟨_,rfl,_,.inr rfl,n,by rw[hl],ZZ i4 (by decide),_,rfl,?_⟩;have e0:((dg n).map fun p=>D (rg p.1 p.2))=(dg n).map fun p=>D (lf p.1 p.2):=Z0 fun p hp=>by
      have:=(qI.mp hp).1;rw[this,V.r0,V.l0]
     refine bS (FI D n w rg rt lf lt fj fc) ⟨.no,.no,.no,?_,rfl,rfl,rfl,.no .nil⟩ (fun i d δ hi hP Δ' nz _=>?_) (fun δ hP=>?_)
     . rw[ak2,ab2];show [_,_,_,td ((dg n).map pk) ((dg n).map fun p=>D (rg p.1 p.2)),td ((dg n).map pk) ((dg n).map fun p=>D (rg p.1 p.2)),td [] [],td [] [],_,_,_]= [_,_,_,td ((dg n).map pk) ((dg n).map fun p=>D (rg p.1 p.2)),td ((dg n).map pk) ((dg n).map fun p=>D (lf p.1 p.2)),td [] [],td [] [],_,_,_]
       rw[<-e0]
     . obtain⟨s7,s8,s9,rfl,b7,b8,b9,f9⟩:=hP;rw[Zy] at hi;obtain⟨⟨l,h⟩,hp,rfl⟩:=aa2.mp hi;have hp:(jc.eX n)[i]?=some (l,h):=hp;obtain⟨m1,m2,m3⟩:=fT.mp (ZY hp);have m1:1<=l:=m1;have m2:l < h:=m2;have m3:h<=n:=m3;have lw:(jc.eX n).length < 3601:=xY (ZZ i4 (by decide));have lt':((jc.eX n).take i).length<=3601:=by rw[ac0];lia
       have ld:(dg n++(jc.eX n).take i).length<=4000:=by
        rw[ZK];have:(dg n).length=n:=by unfold dg;rw[Zu,Z2]
        lia
       refine⟨_,_,rfl,⟨_,rfl,b7⟩,⟨_,rfl,b8⟩,?_⟩;refine⟨_,eO.im (eO.fn (eO.fn (eO.td (eO.td (eO.td (eO.td (eO.im (eO.im f9)))))))),rfl,?_⟩;refine⟨_,rfl,_,rfl,(l:Int),(h:Int),rfl,⟨by lia,by lia,by lia,by lia⟩,?_⟩;rw[Ja];refine⟨by rw[Zu,Z2];exact ZZ (show h - l<=12 by lia) (by decide),fun _=>true,fI fun a=>D (jn [rg l a,lf (a+1) h]),fun d hd=>?_,?_⟩
       . obtain⟨a,ha,rfl⟩:=ZL.mp hd;have:=aa4.mp ha;exact⟨⟨_,rfl,rfl⟩,rfl,fun _=>⟨rfl,_,rfl,_,rfl,_,rfl,by show 2<=sizeLine;decide,⟨_,_,pk (l,a),_,rfl,rfl,dU (ya hp (by lia) (by lia) (by lia) (by lia)),_,rfl,_,rfl,_,_,rfl,rfl,_,rfl,by show 2<=sizeLine;decide,⟨_,_,pk (a+1,h),_,rfl,rfl,dU (ya hp (by lia) (by lia) (by lia) (by lia)),by show 2<=sizeLine;decide,[rg l a,lf (a+1) h],rfl,V.ji l a h (by lia) (by lia) (by lia) (by lia),rfl⟩⟩⟩⟩
       rw[u7];refine⟨jc.oE jn rg lf l h,by rw[jc.oE,ab1];rfl,V.ci l h m1 m2 m3,LO _,⟨_,rfl,b9⟩,?_⟩;refine⟨rfl,_,rfl,_,rfl,_,_,rfl,rfl,_,_,_,.inr rfl,rfl,wm D (by lia) (by lia),_,rfl,_,_,_,.inr rfl,rfl,qw D (by lia),_,rfl,by show 2<=sizeLine;decide,[w h l,ch (jc.oE jn rg lf l h)],rfl,V.jr l h m1 m2 m3,⟨_,_,rfl⟩,_,rfl,_,rfl,by show 2<=sizeLine;decide,wJ (L:=(jc.eX n).take i) (f:=rt) rfl rfl (by lia) (rC hp) (by rw[V.er l h m1 m2 m3]) ?_⟩;refine⟨rfl,_,rfl,_,rfl,_,_,rfl,rfl,_,_,_,.inr rfl,rfl,wm D (by lia) (by lia),_,rfl,_,_,_,.inr rfl,rfl,qw D (by lia),_,rfl,by show 2<=sizeLine;decide,[w l h,ch (jc.oE jn rg lf l h)],rfl,V.jl l h m1 m2 m3,⟨_,_,rfl⟩,_,rfl,_,rfl,by show 2<=sizeLine;decide,wJ (L:=(jc.eX n).take i) (f:=lt) rfl rfl (by lia) (rC hp) (by rw[V.el l h m1 m2 m3]) ?_⟩;refine⟨_,eO.im (eO.fn (eO.fn (eO.td (eO.td (eO.td (eO.td (eO.im (eO.im (eO.im .nil))))))))),rfl,?_⟩;refine⟨_,rfl,_,_,rfl,rfl,_,rfl,_,_,rfl,rfl,((l+1:Nat):Int),((h+1:Nat):Int),rfl,⟨by lia,by lia,by lia,by lia⟩,?_⟩;rw[Ja];have mt: ∀{a b:Nat},l<=a->a < b->b<=h->(a,b)∈(jc.eX n).take i++ [(l,h)]:=fun{a b} h1 h2 h3=>by
        by_cases c:b - a < h - l
        . exact af1 _ (Ti hp h1 h2 h3 c)
        . exact ZS _ (by rw[show a=l by lia,show b=h by lia];exact ZM.mpr rfl)
       refine⟨by rw[Zu,Z2];exact ZZ (show h+1 - (l+1)<=12 by lia) (by decide),fun _=>true,fI fun a=>D (jn [rt l a,rg a h]),fun d hd=>?_,?_⟩
       . obtain⟨a,ha,rfl⟩:=ZL.mp hd;have:=aa4.mp ha;exact⟨⟨_,rfl,rfl⟩,rfl,fun _=>⟨rfl,_,rfl,_,rfl,_,rfl,by show 2<=sizeLine;decide,⟨_,_,pk (l,a),_,rfl,rfl,dU (mt (by lia) (by lia) (by lia)),_,rfl,_,rfl,_,rfl,by show 2<=sizeLine;decide,⟨_,_,pk (a,h),_,rfl,rfl,dU (ya hp (by lia) (by lia) (by lia) (by lia)),by show 2<=sizeLine;decide,[rt l a,rg a h],rfl,V.jR l a h (by lia) (by lia) (by lia) (by lia),rfl⟩⟩⟩⟩
       rw[u7];refine⟨Jf jn rg rt l h,by rw[Jf,ab1,Nat.add_sub_add_right];rfl,V.cR l h m1 m2 m3,LO _,⟨_,_,rfl⟩,_,rfl,_,rfl,by show 2<=sizeLine;decide,wJ (L:=dg n++(jc.eX n).take i) (f:=rg) rfl rfl ld (CW hp) (by rw[V.eR l h m1 m2 m3]) ?_⟩;refine⟨_,eO.im (eO.fn (eO.fn (eO.td (eO.td (eO.td (eO.td (eO.im (eO.im (eO.im .nil))))))))),rfl,?_⟩;refine⟨_,rfl,_,rfl,(l:Int),(h:Int),rfl,⟨by lia,by lia,by lia,by lia⟩,?_⟩;rw[Ja];refine⟨by rw[Zu,Z2];exact ZZ (show h - l<=12 by lia) (by decide),fun _=>true,fI fun a=>D (jn [lf l a,lt a h]),fun d hd=>?_,?_⟩
       . obtain⟨a,ha,rfl⟩:=ZL.mp hd;have:=aa4.mp ha;exact⟨⟨_,rfl,rfl⟩,rfl,fun _=>⟨rfl,_,rfl,_,rfl,_,rfl,by show 2<=sizeLine;decide,⟨_,_,pk (l,a),_,rfl,rfl,dU (ya hp (by lia) (by lia) (by lia) (by lia)),_,rfl,_,rfl,_,rfl,by show 2<=sizeLine;decide,⟨_,_,pk (a,h),_,rfl,rfl,dU (mt (by lia) (by lia) (by lia)),by show 2<=sizeLine;decide,[lf l a,lt a h],rfl,V.jL l a h (by lia) (by lia) (by lia) (by lia),rfl⟩⟩⟩⟩
       rw[u7];refine⟨JL jn lf lt l h,by rw[JL,ab1];rfl,V.cL l h m1 m2 m3,LO _,⟨_,_,rfl⟩,_,rfl,_,rfl,by show 2<=sizeLine;decide,wJ (L:=dg n++(jc.eX n).take i) (f:=lf) rfl rfl ld (CW hp) (by rw[V.eL l h m1 m2 m3]) ?_⟩;refine nz _ ⟨.im (.int (l:Int)),.im (.int (h:Int)),.im (D (ch (jc.oE jn rg lf l h))),?_,rfl,rfl,rfl,.im .nil⟩;rw[take_snoc hp,<-aa1];rfl
     . obtain⟨s7,s8,s9,rfl,b7,b8,b9,f9⟩:=hP;rw[Zu,show(bG.eX n).length=(jc.eX n).length from rfl,ac9];exact⟨_,_,rfl,_,_,rfl,_,_,rfl,_,_,rfl,_,rfl,_,rfl,_,rfl,_,rfl,by show 4<=sizeLine;decide,q⟩
end
section
variable{α:Type}(D:α->Dt)
def Hg(oJ oC:List α->Prop)(jn ch:List α->α)(fj fc:Addr):DS:=fun ss Q=> ∃(n:Nat) (w rg rt lf lt:Nat->Nat->α),ss= [.im (IE D n w),.fn fj,.fn fc]/\1<=n/\n<=12/\Ts oJ oC jn ch n w rg rt lf lt/\Q (D (ch (toV jn w lf rg n)))
noncomputable def T6(g:Nat->Dt):Dt->Dt
 | .tup [.int v,_]=>g v.toNat
 | _=> .aD
theorem FV{n:Nat}{w:Nat->Nat->α}{g:Nat->Dt}:((bg 1 ((List.range' 1 n).map (sV D n w))).filter fun _=>true).map (T6 g)=(List.range' 1 n).map g:=by
 rw[ac6.mpr fun _ _=>rfl];apply ad2;intro j;unfold bg;rw[Zy,ag9,Zy,Zy];by_cases c:j < n
 . rw[ad7 c];show some (g (((j+1:Nat):Int)).toNat)=some (g (1+1*j));rw[ac1,show 1+1*j=j+1 by lia]
 . rw[ab6 (by rw[Z2];lia)];rfl
end
section
variable{P:Program}{wd:World}{K:PySem.W.Frag}{mg:Str->Option Value}{base:Heap}
theorem uX(LO: ∀x,v7 (D x))(hJ:iI P wd K mg base fj 1 pj (bT (pH D oJ jn)))(hC:iI P wd K mg base fc 1 pc (bT (pH D oC ch)))(F:fA K "over_all" "over_all" gW f fd)(T:Txt mg)(D3:fB P wd K mg base "fill" 2 ["w","joined","chosen"] (spS (HC D oJ oC jn ch fj fc))):aX P wd K mg base di 3 f fd ["w","joined","chosen"] (spS (Hg D oJ oC jn ch fj fc)):=by
 refine PJ F o5 (fun ss Qd h=>?_) (fun bJ A outer s H E hr=>⟨_,(aj (A5 (t7 D3 (hr.mono (by decide)) (yo (dv 0) (EK (f:=fj) 1 (pv 1) (EK (f:=fc) 2 (pv 2) sD)))) (Kl 3 4 5 6 rfl o5.nd))
 (aB (aL (gu 2 hC (hr.mono (by decide)) (pv 2) (aa (Ov.ev (cQ (N:= ["top","row","joined","left","right","w"]) (nt:=2) (js:= [1,5,3,0]) ⟨rfl,by decide+kernel,by decide,rfl,by decide+kernel,(by show∀x∈(_:List (Str × NameKind)),x.2=NameKind.free->(ab gW).names.lookup x.1=some .cell\/(ab gW).names.lookup x.1=some .free;decide+kernel)⟩ rfl (qP T.LK (aa (dv 0) ae) ay) (fun _ _ _ _ _=>cM rfl (aI (aE (i:=0) (show(["top","row","joined","left","right","w"]:List Str).Nodup by decide+kernel) rfl (by first | exact Or.inl rfl | exact Or.inr rfl)) (aI (aE (i:=1) (show(["top","row","joined","left","right","w"]:List Str).Nodup by decide+kernel) rfl (by first | exact Or.inl rfl | exact Or.inr rfl)) bR))) cw bB (fun _ _ _ _ _=>dA) (fun _ _ _ _ _=>(gu 2 hJ (hr.mono (by decide)) (pv 2) (aa (gs (aa (dB (dv 1) ay) (aa (ip (eD hr) (dv 3) (br (aa ay (aa (dv 0) ae)))) (aa (ip (eD hr) (dv 4) (br (aa (dv 0) (aa (dR T.len (aa (dv 5) ae)) ae)))) ae)))) ae))))) ae))))),fun ss Qd h=>?_⟩)
 . obtain⟨n,w,rg,rt,lf,lt,rfl,_⟩:=h;rfl
 . obtain⟨n,w,rg,rt,lf,lt,rfl,n1,i4,V,q⟩:=h;have hl:((List.range' 1 n).map (sV D n w)).length=n:=by rw[Zu,Z2]
   have Ny:(bg 1 ((List.range' 1 n).map (sV D n w))).length=n:=by unfold bg;rw[ai2,hl]
   refine⟨_,rfl,rfl,rfl,n,w,rg,rt,lf,lt,rfl,n1,i4,V,_,_,_,_,rfl,⟨_,rfl,rfl⟩,⟨_,rfl,rfl⟩,⟨_,rfl,rfl⟩,⟨_,rfl,rfl⟩,?_⟩;refine⟨rfl,_,rfl,_,rfl,rfl,by rw[Ny];exact ZZ i4 (by decide),fun _=>true,T6 fun t=>D (jn [w t 0,lf 1 t,rg t n]),fun d hd=>?_,?_⟩
   . obtain⟨j,e,he,rfl⟩:=jP hd;have jl:j < n:=by have:=(Zw.mp he).1;rw[hl] at this;exact this
     have ee:e=sV D n w (j+1):=by
      rw[Zy,ad7 jl] at he;have:=(Option.some.inj he).symm;rw[this];congr 1;lia
     subst ee;have mL: ∀{a b:Nat},1<=a->a<=b->b<=n->(a,b)∈dg n++jc.eX n:=fun{a b} h1 h2 h3=>by
      by_cases c:a=b
      . exact af1 _ (qI.mpr ⟨c,by dsimp only;lia,by dsimp only;lia⟩)
      . exact ZS _ (fT.mpr ⟨by dsimp only;lia,by dsimp only;lia,by dsimp only;lia⟩)
     refine⟨_,_,rfl,⟨_,rfl,rfl⟩,⟨_,rfl,rfl⟩,rfl,fun _=>?_⟩;refine⟨rfl,_,rfl,_,_,_,.inr rfl,rfl,qw D (x:=0) (Z7 _),_,rfl,_,rfl,by show 2<=sizeLine;decide,?_⟩;refine⟨_,_,pk (1,j+1),_,rfl,rfl,dU (mL (by lia) (by lia) (by lia)),_,rfl,_,rfl,_,rfl,_,.inr rfl,by show 2<=sizeLine;decide,?_⟩;rw[hl];exact⟨_,_,pk (j+1,n),_,rfl,rfl,dU (mL (by lia) (by lia) (by lia)),by show 3<=sizeLine;decide,[w (j+1) 0,lf 1 (j+1),rg (j+1) n],rfl,V.jt (j+1) (by lia) (by lia),rfl⟩
   . rw[FV];exact⟨toV jn w lf rg n,by rw[toV,ab1];rfl,V.ct,q⟩
end
open kF
theorem yy:iH [a,b]=ad a b:=by show ad a (ad b (some 0))=_;rw[nQ]
theorem QF:iH [a,b,c]=ad a (ad b c):=by show ad a (ad b (ad c (some 0)))=_;rw[nQ]
def Q4(n:Nat)(L:List Wo):Prop:=L.length<=n
theorem CG(w:Nat->Nat->Wo):ev w [[]]=iH []:=by
 show mx (wt w []) none=iH [];exact wZ _
theorem VY{n:Nat}(w:Nat->Nat->Wo)(i4:n<=12):Ts (fun _=>True) (Q4 12) iH fJ n w (fun l h=>ev w (Q l h).rg) (fun l h=>ev w (Q l h).rt) (fun l h=>ev w (Q l h).lf) (fun l h=>ev w (Q l h).lt) where
 j0:=trivial
 r0:=fun l=>by rw[iw];exact CG w
 l0:=fun l=>by rw[iw];exact CG w
 ji:=fun _ _ _ _ _ _ _=>trivial
 ci:=fun l h _ _ _=>by show(jc.oE _ _ _ _ _).length<=12;unfold jc.oE;rw[Zu,Z2];lia
 jr:=fun _ _ _ _ _=>trivial
 er:=fun l h _ lt _=>by rw[yy,IZ w lt];unfold jc.oE;congr 2;exact Z0 fun a _=>yy.symm
 jl:=fun _ _ _ _ _=>trivial
 el:=fun l h _ lt _=>by rw[yy,JG w lt];unfold jc.oE;congr 2;exact Z0 fun a _=>yy.symm
 jR:=fun _ _ _ _ _ _ _=>trivial
 cR:=fun l h _ _ _=>by show(Jf _ _ _ _ _).length<=12;unfold Jf;rw[Zu,Z2];lia
 eR:=fun l h _ lt _=>by rw[Je w lt];unfold Jf;congr 1;exact Z0 fun a _=>yy.symm
 jL:=fun _ _ _ _ _ _ _=>trivial
 cL:=fun l h _ _ _=>by show(JL _ _ _ _ _).length<=12;unfold JL;rw[Zu,Z2];lia
 eL:=fun l h _ lt _=>by rw[JK w lt];unfold JL;congr 1;exact Z0 fun a _=>yy.symm
 jt:=fun _ _ _=>trivial
 ct:=by show(toV _ _ _ _ _).length<=12;unfold toV;rw[Zu,Z2];exact i4
theorem IA(w:Nat->Nat->Wo)(n:Nat):fJ (toV iH w (fun l h=>ev w (Q l h).lf) (fun l h=>ev w (Q l h).rg) n)=ev w (DW n):=by
 rw[EN];unfold toV;congr 1
 exact Z0 fun t _=>QF
theorem Ar(x:Wo):v7 (dj x):=by cases x <;> constructor
def x8:DN:=fun ds Q=> ∃(n:Nat) (w:Nat->Nat->Wo),ds= [bH n w]/\1<=n/\n<=12/\Sm w/\ ∀r,gF n w r->Q (Ui r)
abbrev Ur:DN:=pH dj (fun _=>True) iH
abbrev Ve:DN:=pH dj (Q4 12) fJ
theorem wu(h: ∀ds Q,S' ds Q->S ds Q): ∀vs H Q E,bT S' vs H Q E->bT S vs H Q E:=fun vs H Q E z=>by
 obtain⟨M,ds,Qd,al,r,q,k⟩:=z;exact⟨M,ds,Qd,al,r,h _ _ q,k⟩
theorem Nc: ∀ds Q,Ur ds Q->ke ds Q:=fun ds Q z=>by obtain⟨L,e,_,q⟩:=z;exact⟨L,e,q⟩
theorem Oz: ∀ds Q,Ve ds Q->pD ds Q:=fun ds Q z=>by obtain⟨L,e,l,q⟩:=z;exact⟨L,e,ZZ l (by decide),q⟩
section
variable{P:Program}{wd:World}{K:PySem.W.Frag}{mg:Str->Option Value}{base:Heap}
theorem FJ(gJ:mg "together"=some (.ref fj))(gC:mg "greatest"=some (.ref fc))(F:fA K "best_plain" "best_plain" iV f fd)(T:Txt mg)(D0:fB P wd K mg base "over_all" 3 ["w","joined","chosen"] (spS (Hg dj (fun _=>True) (Q4 12) iH fJ fj fc)))(rR:fB P wd K mg base "ranked" 2 ["w"] (bT wG))(D4:fB P wd K mg base "figures" 1 ["number","base","many"] (bT tV))(nX:fB P wd K mg base "worth_of" 2 ["w","h"] (bT sv)):aX P wd K mg base di 4 f fd ["w"] (bT x8):=by
 refine l5 F gU (fun ds Qd h=>?_) (fun bJ A outer s H E hr=>⟨_,(aj (dy 1 gU.nd (t7 D0 (hr.mono (by decide)) (yo (bF rR (hr.mono (by decide)) (aa (dv 0) ae)) (Ip (by rfl) gJ (Ip (by rfl) gC sD)))))
 (aj (dI (sN (dv 1))
 (aB (aL iq))
 bL)
 (aj (dy 2 gU.nd (q0 T.tup (aa (bF D4 (hr.mono (by decide)) (aa (C9 (dv 1)) (aa (cU (dR T.len (aa (dv 0) ae)) ay) (aa (dR T.len (aa (dv 0) ae)) ae)))) ae)))
 (aB (aL (br (aa (bF nX (hr.mono (by decide)) (aa (dv 0) (aa (dv 2) ae))) (aa (dv 2) ae)))))))),fun ds Qd h=>?_⟩)
 . obtain⟨n,w,rfl,_⟩:=h;rfl
 . obtain⟨n,w,rfl,n1,i4,sm,q⟩:=h;have hl:((List.range' 1 n).map (cD n w)).length=n:=by rw[Zu,Z2]
   refine⟨_,rfl,n,w,rfl,by lia,sm,n,wr n w,_,_,_,_,rfl,n1,i4,VY (wr n w) i4,⟨_,rfl,rfl⟩,?_⟩;rw[IA];cases e:ev (wr n w) (DW n) with
   | none=>exact⟨_,rfl,true,rfl,cu (q none (zH e))⟩
   | some t=>
    obtain⟨v,g,B,rfl⟩:=zG e;refine⟨_,rfl,false,rfl,bf ?_⟩;have gi:=iE B;have ef:lu ((n:Int)+1) n (-(v*((n:Int)+1)^n - code (n+1) g))=g.reverse.map Int.ofNat:=by
     have:=pJ (B:=n+1) (by lia) v n g gi.l fun x hx=>ai6 (gi.b x hx);rw[show -(v*((n:Int)+1)^n - code (n+1) g)=code (n+1) g - v*((n:Int)+1)^n by lia];push_cast at this
     exact this
    refine⟨_,rfl,_,rfl,_,rfl,_,.inr rfl,_,_,rfl,rfl,_,rfl,_,.inr rfl,?_⟩;rw[hl];refine⟨_,_,n,rfl,by lia,by lia,by lia,?_⟩;rw[ef];have ew:gL w g=some v:=by cases B;assumption
    have eg:((g.reverse.map Int.ofNat).reverse.map Dt.int)=g.map xI:=by rw[<-List.map_reverse,List.reverse_reverse,ab1];rfl
    rw[eg];refine⟨_,.inl rfl,⟨_,rfl,rfl⟩,_,rfl,_,rfl,n,w,g,rfl,gi.l,gi.b,by lia,_,rfl,by show 2<=sizeLine;decide,?_⟩;rw[ew];exact q (some (v,g)) B
end
end bG
namespace bG
open PySem PySem.Spec L2 LB LD PyProof.Rows kF
theorem xP{ds:List Dt}(h:k < ds.length)(ei:i=(k:Int))(ej:j=((k+1:Nat):Int))(d:Dt):LD.cutD ds none (some i)++ [d]++LD.cutD ds (some j) none=ds.set k d:=by
 subst ei;subst ej;unfold LD.cutD;rw[HT.qu,HT.qu,HT.mM,HT.mM,Nat.min_eq_left (show k+1<=ds.length from h),Nat.min_eq_left (Nat.le_of_lt h),List.drop_zero,al8,ah8 (l:=ds.drop (k+1)) (by rw[ag3];exact Zx _)];rw[List.set_eq_take_append_cons_drop,if_pos h,aa1];rfl
theorem l9(ds:List Dt)(lo hi:Option Int):(LD.cutD ds lo hi).length<=ds.length:=by
 unfold LD.cutD;rw[ac0,ag3];omega
def mw:DN:=fun ds Q=> ∃(rs:List Dt) (k:Nat) (r:Dt),ds= [.tup rs,.int ((k+1:Nat):Int),r]/\k < rs.length/\rs.length<=100/\Q (.tup (rs.set k r))
def my:DN:=fun ds Q=> ∃(rs es:List Dt) (k o:Nat) (e:Dt),ds= [.tup rs,.int ((k+1:Nat):Int),.int (o:Int),e]/\rs[k]?=some (.tup es)/\rs.length<=100/\o < es.length/\es.length<=101/\Q (.tup (rs.set k (.tup (es.set o e))))
section
variable{P:Program}{w:World}{K:PySem.W.Frag}{mg:Str->Option Value}{base:Heap}
theorem uW(F:fA K "with_row" "with_row" mK f fd)(T:Txt mg):aX P w K mg base di 1 f fd ["w","word","row"] (bT mw):=by
 refine l5 F yF (fun ds Qd h=>?_) (fun bJ A outer s H E hr=>⟨_,(aB (aL (fY (fY (xM (dv 0) iZ (iY (eW (dv 1) ay))) (br (aa (dv 2) ae))) (xM (dv 0) (iY (dv 1)) iZ)))),fun ds Qd h=>?_⟩)
 . obtain⟨rs,k,r,rfl,_⟩:=h;rfl
 . obtain⟨rs,k,r,rfl,kl,l,q⟩:=h;have e:=xP kl (i:=((k+1:Nat):Int) - 1) (j:=((k+1:Nat):Int)) (by omega) rfl r;have c1:=l9 rs none (some (((k+1:Nat):Int) - 1));have c2:=l9 rs (some ((k+1:Nat):Int)) none;refine⟨_,rfl,_,rfl,_,_,rfl,rfl,_,rfl,_,rfl,_,rfl,by show 1<=sizeLine;decide,_,_,rfl,rfl,ZZ (show _<=101 by rw[ag0];omega) (by decide),_,rfl,_,rfl,_,rfl,_,rfl,_,_,rfl,rfl,ZZ (show _<=201 by rw[ZK,ag0];omega) (by decide),?_⟩;rw[e];exact q
theorem qG(F:fA K "with_entry" "with_entry" iT f fd)(T:Txt mg)(nY:fB P w K mg base "with_row" 1 ["w","word","row"] (bT mw)):aX P w K mg base di 2 f fd ["w","word","on","entry"] (bT my):=by
 refine l5 F kI (fun ds Qd h=>?_) (fun bJ A outer s H E hr=>⟨_,(aj (dy 4 kI.nd (dB (dv 0) (eW (dv 1) ay)))
 (aB (aL (bF nY (hr.mono (by decide)) (aa (dv 0) (aa (dv 1) (aa (fY (fY (xM (dv 4) iZ (iY (dv 2))) (br (aa (dv 3) ae))) (xM (dv 4) (iY (cU (dv 2) ay)) iZ)) ae))))))),fun ds Qd h=>?_⟩)
 . obtain⟨rs,es,k,o,e,rfl,_⟩:=h;rfl
 . obtain⟨rs,es,k,o,e,rfl,he,l,ol,l2,q⟩:=h;have kl:k < rs.length:=(Zw.mp he).1;have eq:=xP ol (i:=(o:Int)) (j:=(o:Int)+1) rfl (by omega) e;have c1:=l9 es none (some (o:Int));have c2:=l9 es (some ((o:Int)+1)) none;have R7:kX rs (((k+1:Nat):Int) - 1)=some (.tup es):=by rw[show((k+1:Nat):Int) - 1=(k:Int) by omega];exact aO he
   refine⟨_,rfl,_,rfl,_,_,rfl,rfl,_,_,_,.inr rfl,rfl,R7,⟨_,rfl,rfl⟩,?_⟩;refine⟨_,rfl,_,rfl,_,rfl,_,rfl,_,rfl,_,rfl,_,rfl,by show 1<=sizeLine;decide,_,_,rfl,rfl,ZZ (show _<=102 by rw[ag0];omega) (by decide),_,rfl,_,rfl,_,_,rfl,rfl,_,rfl,_,rfl,_,_,rfl,rfl,ZZ (show _<=203 by rw[ZK,ag0];omega) (by decide),?_⟩;rw[eq];exact⟨rs,k,_,rfl,kl,l,q⟩
end
def sA:DN:=fun ds Q=> ∃(n:Nat) (w:Nat->Nat->Wo) (k o:Nat),ds= [bH n w,.int ((k+1:Nat):Int),.int (o:Int)]/\k < n/\o<=n/\n<=60/\Q (bH n (bV w (k+1) o))
def DR:DN:=fun ds Q=> ∃(n:Nat) (w:Nat->Nat->Wo) (k o:Nat),ds= [bH n w,.int ((k+1:Nat):Int),.int (o:Int)]/\k < n/\o<=n/\n<=60/\Q (bH n (cc w (k+1) o))
theorem jz(h:k < n):((List.range' 1 n).map (cD n w))[k]?=some (cD n w (k+1)):=by
 rw[Zy,ad7 h];show some (cD n w (1+1*k))=_;rw[show 1+1*k=k+1 by omega]
theorem yH(h: ∀o,w i o=w' i o):cD n w i=cD n w' i:=by
 unfold cD;congr 1
 exact Z0 fun o _=>by rw[h o]
theorem wj(h:k < n)(hr:r=cD n w' (k+1))(hw: ∀i,i≠k+1-> ∀o,w i o=w' i o):Dt.tup (((List.range' 1 n).map (cD n w)).set k r)=bH n w':=by
 unfold bH;congr 1
 apply ad2;intro j;rw[List.getElem?_set,Zu,Z2];by_cases c:k=j
 . subst c;rw[if_pos rfl,if_pos h,jz h,hr]
 . rw[if_neg c];by_cases jl:j < n
   . rw[jz jl,jz jl,yH (hw (j+1) (by omega))]
   . rw[ab6 (by rw[Zu,Z2];omega),ab6 (by rw[Zu,Z2];omega)]
theorem Gq(h:o<=n):Dt.tup (((List.range (n+1)).map fun x=>dj (w (k+1) x)).set o .aD)=cD n (bV w (k+1) o) (k+1):=by
 unfold cD;congr 1
 apply ad2;intro j;rw[List.getElem?_set,Zu,Z1,Zy,Zy];by_cases c:o=j
 . subst c;rw[if_pos rfl,if_pos (by omega),ac3 (by omega)];show some Dt.aD=some (dj (if k+1=k+1/\o=o then none else _));rw[if_pos ⟨rfl,rfl⟩];rfl
 . rw[if_neg c];by_cases jl:j < n+1
   . rw[ac3 jl];show some (dj (w (k+1) j))=some (dj (if k+1=k+1/\j=o then none else w (k+1) j));rw[if_neg (fun z=>c z.2.symm)]
   . rw[ab6 (by rw[Z1];omega)];rfl
noncomputable def Tn(o:Nat):Dt->Dt
 | .tup [.int x,d]=>if x=(o:Int) then d else .aD
 | _=> .aD
theorem K6:Dt.tup ((bg 0 ((List.range (n+1)).map fun x=>dj (w (k+1) x))).map (Tn o))=cD n (cc w (k+1) o) (k+1):=by
 unfold cD;congr 1
 apply ad2;intro j;unfold bg;rw[Zy,ag9,Zy,Zy];by_cases jl:j < n+1
 . rw[ac3 jl];show some (if ((j+0:Nat):Int)=(o:Int) then dj (w (k+1) j) else .aD)=some (dj (if k+1=k+1 then(if j=o then w (k+1) j else none) else _));rw[if_pos (rfl:k+1=k+1)];by_cases c:j=o
   . rw[if_pos c,if_pos (by omega)]
   . rw[if_neg c,if_neg (by omega)];rfl
 . rw[ab6 (by rw[Z1];omega)];rfl
section
variable{P:Program}{w:World}{K:PySem.W.Frag}{mg:Str->Option Value}{base:Heap}
theorem uV(F:fA K "without" "without" mJ f fd)(T:Txt mg)(vS:fB P w K mg base "with_entry" 2 ["w","word","on","entry"] (bT my)):aX P w K mg base di 3 f fd ["w","word","on"] (bT sA):=by
 refine l5 F yE (fun ds Qd h=>?_) (fun bJ A outer s H E hr=>⟨_,(aB (aL (bF vS (hr.mono (by decide)) (aa (dv 0) (aa (dv 1) (aa (dv 2) (aa iq ae))))))),fun ds Qd h=>?_⟩)
 . obtain⟨n,w,k,o,rfl,_⟩:=h;rfl
 . obtain⟨n,w,k,o,rfl,kl,ol,l,q⟩:=h;refine⟨_,rfl,_,rfl,_,rfl,_,_,k,o,.aD,rfl,jz kl,by rw[Zu,Z2];omega,by rw[Zu,Z1];omega,by rw[Zu,Z1];omega,?_⟩;rw[wj kl (Gq ol) fun i hi x=>by show w i x=if i=k+1/\x=o then none else w i x;rw[if_neg (fun z=>hi z.1)]];exact q
theorem BR(F:fA K "alone" "alone" mQ f fd)(T:Txt mg)(nY:fB P w K mg base "with_row" 1 ["w","word","row"] (bT mw)):aX P w K mg base di 2 f fd ["w","word","on"] (bT DR):=by
 refine l5 F wC (fun ds Qd h=>?_) (fun bJ A outer s H E hr=>⟨_,(aj (A4 3 wC.nd (N:= ["at","entry","on"]) (nt:=2) (js:= [2]) ⟨rfl,by decide+kernel,by decide,rfl,by decide+kernel,(by show∀x∈(_:List (Str × NameKind)),x.2=NameKind.free->(ab mQ).names.lookup x.1=some .cell\/(ab mQ).names.lookup x.1=some .free;decide+kernel)⟩ rfl (qQ T.LK (aa (dB (dv 0) (eW (dv 1) ay)) ae)) (fun _ _ _ _ _=>cM rfl (aI (aE (i:=0) (show(["at","entry","on"]:List Str).Nodup by decide+kernel) rfl (by first | exact Or.inl rfl | exact Or.inr rfl)) (aI (aE (i:=1) (show(["at","entry","on"]:List Str).Nodup by decide+kernel) rfl (by first | exact Or.inl rfl | exact Or.inr rfl)) bR))) cw bB (fun _ _ _ _ _=>dA) (fun _ _ _ _ _=>(jS (IH (dv 0) (dv 2)) (dv 1) iq)))
 (aB (aL (bF nY (hr.mono (by decide)) (aa (dv 0) (aa (dv 1) (aa (vB 3 T.tup (pv 3)) ae))))))),fun ds Qd h=>?_⟩)
 . obtain⟨n,w,k,o,rfl,_⟩:=h;rfl
 . obtain⟨n,w,k,o,rfl,kl,ol,l,q⟩:=h;have R7:kX ((List.range' 1 n).map (cD n w)) (((k+1:Nat):Int) - 1)=some (cD n w (k+1)):=by rw[show((k+1:Nat):Int) - 1=(k:Int) by omega];exact aO (jz kl)
   have rl:(bg 0 ((List.range (n+1)).map fun o=>dj (w (k+1) o))).length=n+1:=by unfold bg;rw[ai2,Zu,Z1]
   refine⟨_,rfl,_,rfl,_,_,rfl,rfl,_,_,_,.inr rfl,rfl,R7,_,rfl,by rw[rl];exact ZZ (show n+1<=61 by omega) (by decide),fun _=>true,Tn o,fun d hd=>?_,?_⟩
   . obtain⟨j,e,he,rfl⟩:=jP hd;refine⟨_,_,rfl,⟨_,rfl,rfl⟩,⟨_,rfl,rfl⟩,rfl,fun _=>?_⟩;refine⟨_,rfl,_,rfl,decide (((j+0:Nat):Int)=(o:Int)),rfl,?_⟩;have ea:Tn o (.tup [.int ((j+0:Nat):Int),e])=if ((j+0:Nat):Int)=(o:Int) then e else .aD:=rfl
     by_cases c:((j+0:Nat):Int)=(o:Int)
     . rw[if_pos c] at ea;rw[Z9 c];exact⟨true,rfl,cu ⟨_,rfl,ea.symm⟩⟩
     . rw[if_neg c] at ea;rw[aa3 c];exact⟨false,rfl,bf ea.symm⟩
   . rw[ac6.mpr fun _ _=>rfl];refine⟨⟨_,rfl,rfl⟩,?_⟩;refine⟨_,rfl,_,rfl,_,rfl,_,k,_,rfl,by rw[Zu,Z2];exact kl,by rw[Zu,Z2];omega,?_⟩;rw[wj kl K6 fun i hi x=>by show w i x=if i=k+1 then _ else w i x;rw[if_neg hi]];exact q
end
def l4(m:Nat):DN:=fun ds Q=> ∃(a b c:Int) (f j on:Nat),ds= [.int a,.int b,.int c]/\a=f/\b+1=f+j/\c=on/\j<=m/\f+j<=100/\Q (.lst ((Fo f j on).map aN))
def Az(m:Nat):DN:=fun ds Q=> ∃(a b c:Int) (f j on:Nat),ds= [.int a,.int b,.int c]/\a=f/\b+1=f+j/\c=on/\j<=m/\f+j<=100/\Q (.lst ((Tr f j on).map aN))
noncomputable def cF(a:List Nat):Dt->Dt
 | .tup es=> .tup (a.map xI++es)
 | _=> .aD
theorem GP(a b:List Nat):cF a (aN b)=aN (a++b):=by show Dt.tup _=Dt.tup _;rw[ZV]
theorem DJ(a:List Nat)(B:LL):(((B.map aN).filter fun _=>true).map (cF a))=(B.map fun b=>a++b).map aN:=by
 rw[ac6.mpr fun _ _=>rfl,ab1,ab1];exact Z0 fun b _=>GP a b
theorem l6{α β:Type}{g:α->List β}{L:List α}{i:Nat}{x:α}(h:L[i]?=some x):(L.take (i+1)).flatMap g=(L.take i).flatMap g++g x:=by
 rw[af3,h,ai8];simp
theorem jK{β:Type}{g:Nat->List β}:(List.range (k+1)).flatMap g=(List.range k).flatMap g++g k:=by
 rw[List.range_succ,ai8];simp
theorem vq{α β:Type}{g:α->List β}{L:List α}{i:Nat}:((L.take i).flatMap g).length<=(L.flatMap g).length:=by
 conv=>rhs;rw[<-ae3 i L,ai8,ZK]
 exact ak4 _ _
theorem xv{β:Type}{g:Nat->List β}(h:k<=j):((List.range k).flatMap g).length<=((List.range j).flatMap g).length:=by
 have:List.range k=(List.range j).take k:=by rw[List.take_range,Nat.min_eq_left h]
 rw[this];exact vq
noncomputable abbrev PH (f j on e:Nat):LL:=Bm (Tr f (e+1) on) (Fo (f+e+1) (j - (e+1)) on)
noncomputable abbrev PD (f j on k:Nat):LL:=Bm (Fo f k (f+k)) ((Fo (f+k+1) (j - (k+1)) (f+k)).map fun b=>on::b)
inductive Vi(a b c:Int)(B:LL)(δ:List Sl):Prop
 | mk (s4 s5 s6:Sl) (e:δ= [.im (.int a),.im (.int b),.im (.int c),.ow (B.map aN),s4,s5,s6]) (b4:s4.bU=false) (b5:s5.bU=false) (b6:s6.bU=false)
inductive Vj(a b c:Int)(d4 d5:Dt)(B:LL)(δ:List Sl):Prop
 | mk (s6:Sl) (e:δ= [.im (.int a),.im (.int b),.im (.int c),.ow (B.map aN),.im d4,.im d5,s6]) (b6:s6.bU=false)
theorem BG(A B:LL)(x0 x1 x2 x4 x5 x6:Sl): [x0,x1,x2,.ow (A.map aN++B.map aN),x4,x5,x6]= [x0,x1,x2,.ow ((A++B).map aN),x4,x5,x6]:=by rw[ZV]
theorem small(h:m<=100000):m<=sizeLine:=ZZ h (by decide)
section
variable{P:Program}{w:World}{K:PySem.W.Frag}{mg:Str->Option Value}{base:Heap}
theorem g8(m7:m<=7)(F:fA K "_law_trees" "_law_trees" jx f fd)(T:Txt mg)(iF:fB P w K mg base "_law_forests" k ["_law_first","_law_last","_law_on"] (bT (l4 (m - 1)))):aX P w K mg base di (k+1) f fd ["_law_first","_law_last","_law_on"] (bT (Az m)):=by
 refine l5 F gT (fun ds Qd h=>?_) (fun bJ A outer s H E hr=>⟨_,(aj (dH 3 gT.nd (gp ae))
 (aj (dN rfl (fh T.qx (aa (dv 0) (aa (cU (dv 1) ay) ae))) (cS 4 gT.nd)
 (aj (dy 5 gT.nd (bF iF (hr.mono (Zx _)) (aa (cU (dv 4) ay) (aa (dv 1) (aa (dv 4) ae)))))
 (aB (dN rfl (fm (bF iF (hr.mono (Zx _)) (aa (dv 0) (aa (eW (dv 4) ay) (aa (dv 4) ae))))) (cS 6 gT.nd)
 (aB (cJ (nH 3 (pv 3) (aa (Ov.ev (cQ (N:= ["_law_other","_law_one","_law_on"]) (nt:=1) (js:= [6,2]) ⟨rfl,by decide+kernel,by decide,rfl,by decide+kernel,(by show∀x∈(_:List (Str × NameKind)),x.2=NameKind.free->(ab jx).names.lookup x.1=some .cell\/(ab jx).names.lookup x.1=some .free;decide+kernel)⟩ rfl (fm (dv 5)) (fun _ _ _ _ _=>aE (i:=0) (show(["_law_other","_law_one","_law_on"]:List Str).Nodup by decide+kernel) rfl (by first | exact Or.inl rfl | exact Or.inr rfl)) bP a9 (fun _ _ _ _ _=>dA) (fun _ _ _ _ _=>(fY (fY (dv 1) (br (aa (dv 2) ae))) (dv 0))))) ae)))) ab8))) ab8)
 (aB (iJ 3 (aL (dv 3)))))),fun ds Qd h=>?_⟩)
 . obtain⟨a,b,c,f,j,on,rfl,_⟩:=h;rfl
 . obtain⟨a,b,c,f,j,on,rfl,ea,eb,ec,jm,fj,q⟩:=h;subst ea;subst ec;have tl: ∀k,k<=j->((List.range k).flatMap (PD f j on)).length<=7752:=fun k hk=>by
    have:=K8 (f:=f) (m:=j) (on:=on) (by lia);rw[rM] at this;exact ZZ (xv hk) this
   refine⟨by show 0<=sizeLine;decide,⟨_,rfl,rfl⟩,?_⟩;refine⟨_,rfl,_,rfl,_,_,rfl,rfl,_,_,rfl,⟨by lia,by lia,by lia,by lia⟩,?_⟩;rw[show(b+1 - (f:Int)).toNat=j by lia];refine bS (fun i=>Vi f b on ((List.range i).flatMap (PD f j on))) ⟨.no,.no,.no,rfl,rfl,rfl,rfl⟩ (fun i d δ hi hP Δ' nz _=>?_) (fun δ hP=>?_)
   . obtain⟨s4,s5,s6,rfl,b4,b5,b6⟩:=hP;have il:i < j:=by have:=(Zw.mp hi).1;simpa using this
     have ed:d= .int ((f:Int)+(i:Nat)):=by
      rw[Zy,ac3 il] at hi;exact(Option.some.inj hi).symm
     subst ed;refine⟨⟨_,rfl,b4⟩,?_⟩;refine⟨_,rfl,_,_,rfl,rfl,_,rfl,_,rfl,_,_,_,f+i+1,j - (i+1),f+i,rfl,by lia,by lia,by lia,by lia,by lia,⟨_,rfl,b5⟩,?_⟩;refine⟨_,rfl,_,rfl,_,_,rfl,rfl,_,rfl,_,_,_,f,i,f+i,rfl,rfl,by lia,by lia,by lia,by lia,_,rfl,?_⟩;have Sy:=vY (f:=f+i+1) (m:=j - (i+1)) (on:=f+i) (by lia);refine bS (fun r=>Vj f b on (.int ((f:Int)+(i:Nat))) (.lst ((Fo (f+i+1) (j - (i+1)) (f+i)).map aN)) ((List.range i).flatMap (PD f j on)++((Fo f i (f+i)).take r).flatMap fun x=>((Fo (f+i+1) (j - (i+1)) (f+i)).map fun b=>on::b).map fun b=>x++b)) ⟨s6,by rw[ak2,List.flatMap_nil,ab2];rfl,b6⟩ (fun r d δ hr hP Δ2 En _=>?_) (fun δ hP=>?_)
     . obtain⟨s6,rfl,b6⟩:=hP;rw[Zy] at hr;obtain⟨x,hx,rfl⟩:=aa2.mp hr;have lx:=(qK i).1 _ _ _ (ZY hx);refine⟨⟨_,rfl,b6⟩,⟨_,rfl⟩,_,rfl,_,rfl,by rw[Zu];exact small (by lia),fun _=>true,cF (x++ [on]),fun e he=>?_,?_⟩
       . obtain⟨y,hy,rfl⟩:=ZL.mp he;have ly:=(qK _).1 _ _ _ hy;refine⟨⟨_,rfl,rfl⟩,rfl,fun _=>⟨_,rfl,_,rfl,by show 1<=sizeLine;decide,_,_,rfl,rfl,by rw[Zu];exact small (by show x.length+1<=100000;lia),_,rfl,_,_,rfl,rfl,by rw[ZK,Zu,Zu];exact small (by show x.length+1+y.length<=100000;lia),?_⟩⟩;show Dt.tup (x.map xI++ [xI on]++y.map xI)=Dt.tup ((x++ [on]).map xI++y.map xI);rw[ZV];rfl
       . rw[DJ];have Rk:=tl (i+1) il;rw[jK,ZK] at Rk;have pre:(((Fo f i (f+i)).take (r+1)).flatMap fun x=>((Fo (f+i+1) (j - (i+1)) (f+i)).map fun b=>on::b).map fun b=>x++b).length<=(PD f j on i).length:=vq;have eB:((Fo (f+i+1) (j - (i+1)) (f+i)).map fun b=>x++ [on]++b)=((Fo (f+i+1) (j - (i+1)) (f+i)).map fun b=>on::b).map fun b=>x++b:=by
          rw[ab1];refine Z0 fun b _=>?_;show x++ [on]++b=x++(on::b);simp
         refine⟨_,_,rfl,rfl,?_,En _ ⟨.im (aN x),?_,rfl⟩⟩
         . rw[l6 hx,ZK] at pre;rw[<-eB] at pre;rw[Zu,Zu,ZK];exact small (by lia)
         . rw[l6 hx,<-aa1,<-eB];exact BG _ _ _ _ _ _ _ _
     . obtain⟨s6,rfl,b6⟩:=hP;rw[Zu,ac9];refine nz _ ⟨.im (.int ((f:Int)+(i:Nat))),.im (.lst ((Fo (f+i+1) (j - (i+1)) (f+i)).map aN)),s6,?_,rfl,rfl,b6⟩;rw[jK];rfl
   . obtain⟨s4,s5,s6,rfl,b4,b5,b6⟩:=hP;rw[Zu,Z1,<-rM];exact⟨_,rfl,_,rfl,q⟩
theorem fS(m7:m<=7)(F:fA K "_law_forests" "_law_forests" cH f fd)(T:Txt mg)(rV:fB P w K mg base "_law_trees" k ["_law_first","_law_last","_law_on"] (bT (Az m)))(iF:fB P w K mg base "_law_forests" (k - 1) ["_law_first","_law_last","_law_on"] (bT (l4 (m - 1)))):aX P w K mg base di (k+1) f fd ["_law_first","_law_last","_law_on"] (bT (l4 m)):=by
 refine l5 F bz (fun ds Qd h=>?_) (fun bJ A outer s H E hr=>⟨_,(aj (dI (EU (dv 0) (dv 1))
 (aB (aL (gs (aa (br ae) ae))))
 bL)
 (aj (dH 3 bz.nd (gp ae))
 (aj (dN rfl (fh T.qx (aa (dv 0) (aa (cU (dv 1) ay) ae))) (cS 4 bz.nd)
 (aj (dy 5 bz.nd (bF iF (hr.mono (Nat.sub_le _ _)) (aa (cU (dv 4) ay) (aa (dv 1) (aa (dv 2) ae)))))
 (aB (dN rfl (fm (bF rV (hr.mono (Zx _)) (aa (dv 0) (aa (dv 4) (aa (dv 2) ae))))) (cS 6 bz.nd)
 (aB (cJ (nH 3 (pv 3) (aa (Ov.ev (cQ (N:= ["_law_other","_law_one"]) (nt:=1) (js:= [6]) ⟨rfl,by decide+kernel,by decide,rfl,by decide+kernel,(by show∀x∈(_:List (Str × NameKind)),x.2=NameKind.free->(ab cH).names.lookup x.1=some .cell\/(ab cH).names.lookup x.1=some .free;decide+kernel)⟩ rfl (fm (dv 5)) (fun _ _ _ _ _=>aE (i:=0) (show(["_law_other","_law_one"]:List Str).Nodup by decide+kernel) rfl (by first | exact Or.inl rfl | exact Or.inr rfl)) bP a9 (fun _ _ _ _ _=>dA) (fun _ _ _ _ _=>(fY (dv 1) (dv 0))))) ae)))) ab8))) ab8)
 (aB (iJ 3 (aL (dv 3))))))),fun ds Qd h=>?_⟩)
 . obtain⟨a,b,c,f,j,on,rfl,_⟩:=h;rfl
 . obtain⟨a,b,c,f,j,on,rfl,ea,eb,ec,jm,fj,q⟩:=h;subst ea;subst ec;refine⟨_,rfl,_,rfl,_,_,rfl,rfl,_,rfl,?_⟩;by_cases j0:j=0
   . subst j0;refine Cg (Z9 (by lia)) ⟨by show 0<=sizeLine;decide,by show 1<=sizeLine;decide,q⟩
   refine F1 (fun z=>by have:=ab4 z;lia) ?_;have tl: ∀k,k<=j->((List.range k).flatMap (PH f j on)).length<=7752:=fun k hk=>by
    have:=vY (f:=f) (m:=j) (on:=on) (by lia);rw[rW (by lia)] at this;exact ZZ (xv hk) this
   refine⟨by show 0<=sizeLine;decide,⟨_,rfl,rfl⟩,?_⟩;refine⟨_,rfl,_,rfl,_,_,rfl,rfl,_,_,rfl,⟨by lia,by lia,by lia,by lia⟩,?_⟩;rw[show(b+1 - (f:Int)).toNat=j by lia];refine bS (fun i=>Vi f b on ((List.range i).flatMap (PH f j on))) ⟨.no,.no,.no,rfl,rfl,rfl,rfl⟩ (fun i d δ hi hP Δ' nz _=>?_) (fun δ hP=>?_)
   . obtain⟨s4,s5,s6,rfl,b4,b5,b6⟩:=hP;have il:i < j:=by have:=(Zw.mp hi).1;simpa using this
     have ed:d= .int ((f:Int)+(i:Nat)):=by
      rw[Zy,ac3 il] at hi;exact(Option.some.inj hi).symm
     subst ed;refine⟨⟨_,rfl,b4⟩,?_⟩;refine⟨_,rfl,_,_,rfl,rfl,_,rfl,_,rfl,_,_,_,f+i+1,j - (i+1),on,rfl,by lia,by lia,by lia,by lia,by lia,⟨_,rfl,b5⟩,?_⟩;refine⟨_,rfl,_,rfl,_,rfl,_,_,_,f,i+1,on,rfl,rfl,by lia,by lia,by lia,by lia,_,rfl,?_⟩;have Sy:=vY (f:=f+i+1) (m:=j - (i+1)) (on:=on) (by lia);refine bS (fun r=>Vj f b on (.int ((f:Int)+(i:Nat))) (.lst ((Fo (f+i+1) (j - (i+1)) on).map aN)) ((List.range i).flatMap (PH f j on)++((Tr f (i+1) on).take r).flatMap fun x=>(Fo (f+i+1) (j - (i+1)) on).map fun b=>x++b)) ⟨s6,by rw[ak2,List.flatMap_nil,ab2];rfl,b6⟩ (fun r d δ hr hP Δ2 En _=>?_) (fun δ hP=>?_)
     . obtain⟨s6,rfl,b6⟩:=hP;rw[Zy] at hr;obtain⟨x,hx,rfl⟩:=aa2.mp hr;have lx:=(qK (i+1)).2 _ _ _ (ZY hx);refine⟨⟨_,rfl,b6⟩,⟨_,rfl⟩,_,rfl,_,rfl,by rw[Zu];exact small (by lia),fun _=>true,cF x,fun e he=>?_,?_⟩
       . obtain⟨y,hy,rfl⟩:=ZL.mp he;have ly:=(qK _).1 _ _ _ hy;exact⟨⟨_,rfl,rfl⟩,rfl,fun _=>⟨_,rfl,_,rfl,_,_,rfl,rfl,by rw[Zu,Zu];exact small (by lia),rfl⟩⟩
       . rw[DJ];have Rk:=tl (i+1) il;rw[jK,ZK] at Rk;have pre:(((Tr f (i+1) on).take (r+1)).flatMap fun x=>(Fo (f+i+1) (j - (i+1)) on).map fun b=>x++b).length<=(PH f j on i).length:=vq;refine⟨_,_,rfl,rfl,?_,En _ ⟨.im (aN x),?_,rfl⟩⟩
         . rw[l6 hx,ZK] at pre;rw[Zu,Zu,ZK];exact small (by lia)
         . rw[l6 hx,<-aa1];exact BG _ _ _ _ _ _ _ _
     . obtain⟨s6,rfl,b6⟩:=hP;rw[Zu,ac9];refine nz _ ⟨.im (.int ((f:Int)+(i:Nat))),.im (.lst ((Fo (f+i+1) (j - (i+1)) on).map aN)),s6,?_,rfl,rfl,b6⟩;rw[jK];rfl
   . obtain⟨s4,s5,s6,rfl,b4,b5,b6⟩:=hP;rw[Zu,Z1,<-rW (by lia)];exact⟨_,rfl,_,rfl,q⟩
end
def Hm:DN:=fun ds Q=> ∃(n:Nat) (w:Nat->Nat->Wo) (f:Nat) (h:List Nat),ds= [bH n w,.int (f:Int),aN h]/\1<=f/\f+h.length<=n+1/\(∀x∈h,x<=n)/\n<=60/\Q (dj (da w f h))
noncomputable def UQ(g:Nat->Nat->Dt):Dt->Dt
 | .tup [.int p,.int o]=>g p.toNat o.toNat
 | _=> .aD
theorem Gr{h:List Nat}:((bg 0 (h.map xI)).filter fun _=>true).map (UQ fun p o=>dj (w (f+p) o))=(List.zipWith w (List.range' f h.length) h).map dj:=by
 rw[ac6.mpr fun _ _=>rfl];refine ad2 fun j=>?_;unfold bg;rw[Zy,ag9,Zy,Zy,List.getElem?_zipWith];by_cases c:j < h.length
 . rw[ad7 c,Zs c];show some (dj (w (f+((j+0:Nat):Int).toNat) ((h[j]:Nat):Int).toNat))=some (dj (w (f+1*j) h[j]));rw[ac1,ac1,Nat.one_mul,ag1]
 . rw[ab6 (by lia),ab6 (by rw[Z2];lia)];rfl
theorem ET{n:Nat}{w:Nat->Nat->Wo}{x:Nat}(h1:1<=x)(h:x<=n){v:Int}(e:v+1=x):kX ((List.range' 1 n).map (cD n w)) v=some (cD n w x):=by
 rw[show v=((x - 1:Nat):Int) by lia];exact aO (j:=x - 1) (by rw[Zy,ad7 (by lia),show 1+1*(x - 1)=x by lia];rfl)
noncomputable def Ek(r:Rs):Dt:= .tup [.int (0 - r.1),aN r.2]
theorem AS(g h:List Nat):HX 1 (aN g) (aN h):= .tup fun j d e h1 h2=>by
 rw[Zy] at h1 h2;obtain⟨x,_,rfl⟩:=aa2.mp h1;obtain⟨y,_,rfl⟩:=aa2.mp h2;exact .flat rfl rfl
theorem AV(g h:List Nat):GX 1 (aN g) (aN h):= .tup (fun j d e h1 h2=>by
 rw[Zy] at h1 h2;obtain⟨x,_,rfl⟩:=aa2.mp h1;obtain⟨y,_,rfl⟩:=aa2.mp h2;exact .flat rfl rfl) fun j d e h1 h2=>by
 rw[Zy] at h1 h2;obtain⟨x,_,rfl⟩:=aa2.mp h1;obtain⟨y,_,rfl⟩:=aa2.mp h2;exact .int
theorem AU(a b:Rs):GX 2 (Ek a) (Ek b):= .tup (fun j d e h1 h2=>by
 match j with
 | 0=>cases h1;cases h2;exact .flat rfl rfl
 | 1=>cases h1;cases h2;exact AS _ _
 | j+2=>simp at h1) fun j d e h1 h2=>by
 match j with
 | 0=>cases h1;cases h2;exact .int
 | 1=>cases h1;cases h2;exact AV _ _
 | j+2=>simp at h1
theorem CI(g h:List Nat):xx 1 (aN g) (aN h)=decide (g=h):=by
 show((List.range (min (g.map xI).length (h.map xI).length)).all (fun j=>xx 0 ((g.map xI).getD j .aD) ((h.map xI).getD j .aD)) && (g.map xI).length==(h.map xI).length)=decide (g=h);rw[Zu,Zu];by_cases c:g=h
 . subst c;rw[Z9 rfl,ai9,Bool.and_true,ag4];intro j hj;rw[ab3,Nat.min_self] at hj;have e:(g.map xI).getD j .aD=xI g[j]:=by rw[ai0,Zy,Zs hj];rfl
   rw[e];show(((g[j]:Int)==(g[j]:Int)))=true;exact ai9 _
 . rw[aa3 c];rw[Bool.and_eq_false_iff];by_cases l:g.length=h.length
   . left;rw[List.all_eq_false];obtain⟨j,j1,j2⟩: ∃j,∃(hj:j < g.length),g[j]≠h[j]'(by lia):=by
      refine Classical.byContradiction fun z=>c (af0 l fun j h1 h2=>?_);exact Classical.byContradiction fun y=>z ⟨j,h1,y⟩
     refine⟨j,ab3.mpr (by lia),?_⟩;have e1:(g.map xI).getD j .aD=xI g[j]:=by rw[ai0,Zy,Zs j1];rfl
     have e2:(h.map xI).getD j .aD=xI (h[j]'(by lia)):=by rw[ai0,Zy,Zs (by lia)];rfl
     rw[e1,e2];show¬(((g[j]:Int)==((h[j]'(by lia):Nat):Int)))=true;rw[ZO];lia
   . right;exact ah5.mpr l
theorem Cb:i6 n m e l (f+1) i=if e i then i6 n m e l f (i+1) else l i:=rfl
theorem tJ: ∀(f i:Nat) (g h:List Nat),min g.length h.length - i=f->i<=min g.length h.length->i6 g.length h.length (fun j=>xx 0 ((g.map xI).getD j .aD) ((h.map xI).getD j .aD)) (fun j=>zR 0 ((g.map xI).getD j .aD) ((h.map xI).getD j .aD)) f i=FW (g.drop i) (h.drop i)
 | 0,i,g,h,e,hi=>by
  show decide (g.length < h.length)=_;by_cases c:g.length<=h.length
  . rw[List.drop_of_length_le (i:=i) (l:=g) (by lia)];show _=!(h.drop i).isEmpty;by_cases d:g.length < h.length
    . rw[Z9 d];cases z:h.drop i with
      | nil=>have:=List.drop_eq_nil_iff.mp z;lia
      | cons _ _=>rfl
    . rw[aa3 d,List.drop_of_length_le (by lia)];rfl
  . rw[aa3 (by lia),List.drop_of_length_le (i:=i) (l:=h) (by lia)];cases z:g.drop i with
    | nil=>have:=List.drop_eq_nil_iff.mp z;lia
    | cons _ _=>rfl
 | f+1,i,g,h,e,hi=>by
  have g1:i < g.length:=by lia
  have h1:i < h.length:=by lia
  have e1:(g.map xI).getD i .aD=xI g[i]:=by rw[ai0,Zy,Zs g1];rfl
  have e2:(h.map xI).getD i .aD=xI h[i]:=by rw[ai0,Zy,Zs h1];rfl
  rw[Cb,tJ f (i+1) g h (by lia) (by lia),ac7 g1,ac7 h1];rw[e1,e2];show(if ((g[i]:Int)==(h[i]:Int))=true then _ else decide ((g[i]:Int) < (h[i]:Int)))=(if g[i]=h[i] then _ else decide (g[i] < h[i]))
  by_cases c:g[i]=h[i]
  . rw[if_pos c,if_pos (by rw[c];exact ai9 _)]
  . rw[if_neg c,if_neg (by rw[ZO];lia)];exact decide_eq_decide.mpr (by lia)
theorem B9(g h:List Nat):zR 1 (aN g) (aN h)=FW g h:=by
 have:=tJ (min g.length h.length) 0 g h (al8 _) (Z7 _);show i6 (g.map xI).length (h.map xI).length _ _ (min (g.map xI).length (h.map xI).length) 0=_;rw[Zu,Zu];exact this
theorem JH(a b:Rs):zR 2 (Ek a) (Ek b)=ahead a b:=by
 show(if (((0 - a.1:Int)==(0 - b.1:Int)))=true then(if xx 1 (aN a.2) (aN b.2)=true then decide (2 < 2) else zR 1 (aN a.2) (aN b.2)) else zR 1 (.int (0 - a.1)) (.int (0 - b.1)))=ahead a b;rw[CI,B9,qJ];unfold ahead;by_cases c:a.1=b.1
 . rw[if_pos (by rw[c];exact ai9 _),Z9 c,aa3 (show¬a.1 > b.1 by lia),Bool.false_or,Bool.true_and];by_cases d:a.2=b.2
   . rw[Z9 d,if_pos rfl,d];have: ∀h:List Nat,FW h h=false:=fun h=>by
      induction h with
      | nil=>rfl
      | cons x xs ih=>unfold FW;rw[if_pos rfl];exact ih
     rw[this];rfl
   . rw[aa3 d,if_neg ZJ]
 . rw[if_neg (by rw[ZO];lia),aa3 c,Bool.false_and,Bool.or_false];exact decide_eq_decide.mpr (by lia)
section
variable{P:Program}{wd:World}{K:PySem.W.Frag}{mg:Str->Option Value}{base:Heap}
theorem FF(F:fA K "_law_sum" "_law_sum" sU f fd)(T:Txt mg):aX P wd K mg base di 1 f fd ["_law_w","_law_first","_law_part"] (bT Hm):=by
 refine l5 F AX (fun ds Qd h=>?_) (fun bJ A outer s H E hr=>⟨_,(aj (A4 3 AX.nd (N:= ["_law_place","_law_on","_law_w","_law_first"]) (nt:=2) (js:= [0,1]) ⟨rfl,by decide+kernel,by decide,rfl,by decide+kernel,(by show∀x∈(_:List (Str × NameKind)),x.2=NameKind.free->(ab sU).names.lookup x.1=some .cell\/(ab sU).names.lookup x.1=some .free;decide+kernel)⟩ rfl (qQ T.LK (aa (dv 2) ae)) (fun _ _ _ _ _=>cM rfl (aI (aE (i:=0) (show(["_law_place","_law_on","_law_w","_law_first"]:List Str).Nodup by decide+kernel) rfl (by first | exact Or.inl rfl | exact Or.inr rfl)) (aI (aE (i:=1) (show(["_law_place","_law_on","_law_w","_law_first"]:List Str).Nodup by decide+kernel) rfl (by first | exact Or.inl rfl | exact Or.inr rfl)) bR))) cw bB (fun _ _ _ _ _=>dA) (fun _ _ _ _ _=>(dB (dB (dv 2) (cU (eW (dv 3) ay) (dv 0))) (dv 1))))
 (aB (iJ 3 (aL (jS (Ma iq (dv 3)) iq (HH rfl T.sum (aa (dv 3) ae))))))),fun ds Qd h=>?_⟩)
 . obtain⟨n,w,f,h,rfl,_⟩:=h;rfl
 . obtain⟨n,w,f,h,rfl,f1,fl,hx,Rf,q⟩:=h;have el:(bg 0 (h.map xI)).length=h.length:=by unfold bg;rw[ai2,Zu]
   refine⟨_,rfl,_,rfl,by rw[el];exact small (by lia),fun _=>true,UQ fun p o=>dj (w (f+p) o),fun d hd=>?_,⟨_,rfl,rfl⟩,?_⟩
   . obtain⟨j,e,he,rfl⟩:=jP hd;rw[Zy] at he;obtain⟨x,hj,rfl⟩:=aa2.mp he;have jl:j < h.length:=(Zw.mp hj).1;have xn:=hx x (ZY hj);refine⟨_,_,rfl,⟨_,rfl,rfl⟩,⟨_,rfl,rfl⟩,rfl,fun _=>⟨_,rfl,_,rfl,_,_,rfl,rfl,_,rfl,_,_,rfl,rfl,_,_,_,.inr rfl,rfl,ET (x:=f+j) (by lia) (by lia) (by lia),_,rfl,_,_,_,.inr rfl,rfl,qv xn,?_⟩⟩;show dj (w (f+j) x)=dj (w (f+((j+0:Nat):Int).toNat) ((x:Nat):Int).toNat);rw[ac1,ac1,ag1]
   . rw[Gr];refine⟨_,rfl,_,rfl,⟨_, .inl rfl,rfl,wb _,?_⟩⟩;rw[G4,<-pZ] at*;by_cases c:none∈List.zipWith w (List.range' f h.length) h
     . rw[Z9 c];rw[mD c] at q;exact⟨true,rfl,cu q⟩
     . rw[aa3 c];obtain⟨ns,e1,e2⟩:=mE _ c;rw[e2] at q;exact⟨false,rfl,bf ⟨_,rfl,ns,by rw[e1,wa],q⟩⟩
end
def PU(A:Dt->Prop)(d:Dt):Prop:= ∃es,d= .lst es/\(∀e∈es,A e)/\es.length<=100
theorem Sz:eq2 (.str x) (.str x)=some true:=by
 show some (decide (x=x))=some true;rw[Z9 rfl]
theorem JF(i4:n<=12)(h: ∀i o v,w i o=some v->v.natAbs<=2000000000)(i:Nat):Lv 1 2629 (cD n w i):=by
 refine .inr ⟨_,13,200,.inr rfl,by rw[Zu,Z1];lia,by decide,fun e he=>?_⟩;obtain⟨o,_,rfl⟩:=ZL.mp he;refine⟨?_,Zx _⟩;cases c:w i o with
 | none=>exact trivial
 | some v=>exact ae9 (h i o v c) (by decide)
theorem JE(i4:n<=12)(h: ∀i o v,w i o=some v->v.natAbs<=2000000000):Lv 9 31575 (bH n w):=by
 have:Lv 2 31575 (bH n w):= .inr ⟨_,12,2629,.inr rfl,by rw[Zu,Z2];exact i4,by decide,fun e he=>by
  obtain⟨i,_,rfl⟩:=ZL.mp he;exact JF i4 h i⟩
 exact this.le (by decide)
theorem IM(h:pV n w):Sm w:=fun i o v e=>by have:=h.1 i o v e;lia
theorem EM{h:List Nat}(l:h.length<=100):Up Ab (aN h):= .inr ⟨_,rfl,fun e he=>by obtain⟨x,_,rfl⟩:=ZL.mp he;exact .int _,by rw[Zu];exact l⟩
theorem L5(i4:n<=12)(h: ∀x,r=some x->vX n x):Up (Up Ab) (Ui r):=by
 cases r with
 | none=>exact .inl .aD
 | some x=>
  have hx:=(h x rfl).l;exact .inr ⟨_,rfl,fun e he=>by
   rcases ZR.mp he with z | z
   . subst z;exact .inl (.int _)
   . cases ZM.mp z;exact EM (by lia),by show 2<=100;decide⟩
section
variable{P:Program}{wd:World}{K:PySem.W.Frag}{mg:Str->Option Value}{base:Heap}
theorem BN(F:fA K "_law_same" "_law_same" ez f fd)(T:Txt mg)(vV:fB P wd K mg base "_law_same" k ["_law_found","_law_due_here"] (bT (mI A0))):aX P wd K mg base di (k+1) f fd ["_law_found","_law_due_here"] (bT (mI (PU A0))):=by
 refine l5 F qh (fun ds Qd h=>?_) (fun bJ A outer s H E hr=>⟨_,(aj (dI (sN (dv 1))
 (aB (aL (De (dv 0))))
 bL)
 (aj (dI (PW.pt (w_or (eI (aW (T:="list") (by decide) T.gH (af (dv 1) (af (aJ (v:= .ty "list") (by rfl) T.lst bC rfl) aG)))) (jh (eI (aW (T:="tuple") (by decide) T.gH (af (dv 1) (af (aJ (v:= .ty "tuple") (by rfl) T.tup aZ rfl) aG)))))))
 (aj (dI (PW.pt (w_or (uG (aW (T:="list") (by decide) T.gH (af (dv 0) (af (aJ (v:= .ty "list") (by rfl) T.lst bC rfl) aG))) (aW (T:="list") (by decide) T.gH (af (dv 1) (af (aJ (v:= .ty "list") (by rfl) T.lst bC rfl) aG)))) (jh (uG (aW (T:="tuple") (by decide) T.gH (af (dv 0) (af (aJ (v:= .ty "tuple") (by rfl) T.tup aZ rfl) aG))) (aW (T:="tuple") (by decide) T.gH (af (dv 1) (af (aJ (v:= .ty "tuple") (by rfl) T.tup aZ rfl) aG)))))))
 (aB (aL zx))
 bL)
 (aB (aL (eJ (lz (dR T.len (aa (dv 0) ae)) (dR T.len (aa (dv 1) ae))) (gr (Dh rfl T.all (aa (Ov.ev (cQ (N:= ["_law_one","_law_other"]) (nt:=2) (js:= []) ⟨rfl,by decide+kernel,by decide,rfl,by decide+kernel,(by show∀x∈(_:List (Str × NameKind)),x.2=NameKind.free->(ab ez).names.lookup x.1=some .cell\/(ab ez).names.lookup x.1=some .free;decide+kernel)⟩ rfl (xk (aa (dv 0) (aa (dv 1) ae)) fun z=>qC (by rfl) T.zip z) (fun _ _ _ _ _=>cM rfl (aI (aE (i:=0) (show(["_law_one","_law_other"]:List Str).Nodup by decide+kernel) rfl (by first | exact Or.inl rfl | exact Or.inr rfl)) (aI (aE (i:=1) (show(["_law_one","_law_other"]:List Str).Nodup by decide+kernel) rfl (by first | exact Or.inl rfl | exact Or.inr rfl)) bR))) cw bB (fun _ _ _ _ _=>dA) (fun _ _ _ _ _=>(bF vV (hr.mono (Zx _)) (aa (dv 0) (aa (dv 1) ae)))))) ae)))))))
 bL)
 (aj (dI (eI (aW (T:="str") (by decide) T.gH (af (dv 1) (af (aJ (v:= .ty "str") (by rfl) T.str dY rfl) aG))))
 (aB (aL (eJ (aW (T:="str") (by decide) T.gH (af (dv 0) (af (aJ (v:= .ty "str") (by rfl) T.str dY rfl) aG))) (gr (lz (dv 0) (dv 1))))))
 bL)
 (aj (dI (eI (aW (T:="bool") (by decide) T.gH (af (dv 1) (af (aJ (v:= .ty "bool") (by rfl) T.bool bK rfl) aG))))
 (aB (aL (eJ (aW (T:="bool") (by decide) T.gH (af (dv 0) (af (aJ (v:= .ty "bool") (by rfl) T.bool bK rfl) aG))) (gr (lz (dv 0) (dv 1))))))
 bL)
 (aB (aL (eJ (aW (T:="int") (by decide) T.gH (af (dv 0) (af (aJ (v:= .ty "int") (by rfl) T.int kB rfl) aG))) (eJ (C8 (aW (T:="bool") (by decide) T.gH (af (dv 0) (af (aJ (v:= .ty "bool") (by rfl) T.bool bK rfl) aG)))) (gr (lz (dv 0) (dv 1))))))))))),fun ds Qd h=>?_⟩)
 . obtain⟨d,rfl,_⟩:=h;rfl
 . obtain⟨d,rfl,⟨es,rfl,ax,l⟩,q⟩:=h;refine⟨_,rfl,_,rfl,bf ⟨_,rfl,_,rfl,_,rfl,cu ?_⟩⟩;refine⟨_,rfl,_,rfl,_,rfl,_,rfl,true,rfl,_,rfl,bf ⟨_,rfl,_,rfl,_,rfl,_,rfl,true,rfl,_,rfl,bf ?_⟩⟩;refine⟨_,rfl,_, .inl rfl,_,rfl,_, .inl rfl,true,(show some (decide _)=some true from ab9 some (Z9 rfl)),_,rfl,cu ?_⟩;have zl:(fb es es).length<=100:=by unfold fb;rw[List.zipWith_self,Zu];exact l
   refine⟨_,rfl,_,rfl,false,false,_,_,rfl,ZZ zl (by decide),fun _=>true,fun _=> .bl true,fun e he=>?_,?_⟩
   . obtain⟨x,hx,rfl⟩:=sd he;exact⟨_,_,rfl,⟨_,rfl,rfl⟩,⟨_,rfl,rfl⟩,rfl,fun _=>⟨_,rfl,_,rfl,_,rfl,ax x hx,rfl⟩⟩
   . rw[ac6.mpr fun _ _=>rfl];refine⟨List.replicate (fb es es).length true,?_,?_⟩
     . rw[List.map_const',List.map_replicate]
     . rw[show(List.replicate (fb es es).length true).all id=true from ag4.mpr fun x hx=>(List.mem_replicate.mp hx).2];exact q
theorem tm(F:fA K "_law_forests" "_law_forests" cH f fd)(T:Txt mg):aX P wd K mg base di 1 f fd ["_law_first","_law_last","_law_on"] (bT (l4 0)):=by
 refine l5 F bz (fun ds Qd h=>?_) (fun bJ A outer s H E hr=>⟨_,(aj (dI (EU (dv 0) (dv 1))
 (aB (aL (gs (aa (br ae) ae))))
 bL)
 (aj (dH 3 bz.nd (gp ae))
 (aj (dN rfl (fh T.qx (aa (dv 0) (aa (cU (dv 1) ay) ae))) (cS 4 bz.nd)
 (aj (dy 5 bz.nd rh)
 (aB (dN rfl (fm rh) (cS 6 bz.nd)
 (aB (cJ (nH 3 (pv 3) (aa (Ov.ev (cQ (N:= ["_law_other","_law_one"]) (nt:=1) (js:= [6]) ⟨rfl,by decide+kernel,by decide,rfl,by decide+kernel,(by show∀x∈(_:List (Str × NameKind)),x.2=NameKind.free->(ab cH).names.lookup x.1=some .cell\/(ab cH).names.lookup x.1=some .free;decide+kernel)⟩ rfl (fm (dv 5)) (fun _ _ _ _ _=>aE (i:=0) (show(["_law_other","_law_one"]:List Str).Nodup by decide+kernel) rfl (by first | exact Or.inl rfl | exact Or.inr rfl)) bP a9 (fun _ _ _ _ _=>dA) (fun _ _ _ _ _=>(fY (dv 1) (dv 0))))) ae)))) ab8))) ab8)
 (aB (iJ 3 (aL (dv 3))))))),fun ds Qd h=>?_⟩)
 . obtain⟨a,b,c,f,j,on,rfl,_⟩:=h;rfl
 . obtain⟨a,b,c,f,j,on,rfl,ea,eb,ec,jm,fj,q⟩:=h;subst ea;subst ec;have j0:j=0:=by lia
   subst j0;exact⟨_,rfl,_,rfl,_,_,rfl,rfl,_,rfl,Cg (Z9 (by lia)) ⟨by show 0<=sizeLine;decide,by show 1<=sizeLine;decide,q⟩⟩
end
end bG
namespace kF
abbrev Tab:=Nat->Nat->Wo
noncomputable def ky(n:Nat)(r:Rs):Int:=code (n+1) r.2 - r.1*((n:Int)+1)^n
theorem xU(h:vX n r):0<=code (n+1) r.2/\code (n+1) r.2 < ((n:Int)+1)^n:=by
 have:=fZ (B:=n+1) (h:=r.2) fun x hx=>ai6 (h.b x hx);rw[h.l] at this;push_cast at this
 exact this
theorem xa(ha:vX n a)(hb:vX n b):ky n a<=ky n b↔good n a b:=by
 obtain⟨c0,c1⟩:=xU ha;obtain⟨d0,d1⟩:=xU hb;unfold ky good;constructor
 . intro h;exact wH c0 c1 d0 d1 (by lia)
 . rintro(h | ⟨h,h2⟩)
   . have e2:(b.1+1)*((n:Int)+1)^n<=a.1*((n:Int)+1)^n:=ac5 (by lia) (by lia);rw[ak1,am1] at e2;lia
   . rw[h];lia
theorem JM(ha:vX n a)(hb:vX n b)(h:ky n a=ky n b):a=b:=by
 have h1:=(xa ha hb).mp (by lia);have h2:=(xa hb ha).mp (by lia);unfold good at h1 h2;have e1:a.1=b.1:=by lia
 have e2:code (n+1) a.2=code (n+1) b.2:=by lia
 have e3:=code_inj (B:=n+1) (by rw[ha.l,hb.l]) (fun x hx=>ai6 (ha.b x hx)) (fun x hx=>ai6 (hb.b x hx)) e2;exact Prod.ext e1 e3
theorem DU(ha:vX n a)(hb:vX n b):ahead a b=decide (ky n a < ky n b):=by
 have h:=xa hb ha;have cl:=ua (B:=n+1) (h:=a.2) (g:=b.2) (by rw[ha.l,hb.l]) (fun x hx=>ai6 (ha.b x hx)) (fun x hx=>ai6 (hb.b x hx));unfold good at h;unfold ahead;rw[al0,Bool.or_eq_true,aj0,decide_eq_true_eq,decide_eq_true_eq,decide_eq_true_eq,<-cl];lia
noncomputable def cs(T:LL)(w:Tab):List Rs:=T.filterMap fun g=>(gL w g).map fun v=>(v,g)
theorem iD:cs (g::T) w=(match gL w g with | none=>cs T w | some v=>(v,g)::cs T w):=by
 unfold cs;rw[am2];cases gL w g <;> rfl
theorem g9:r∈cs T w↔r.2∈T/\gL w r.2=some r.1:=by
 unfold cs;rw[aj3];constructor
 . rintro⟨g,hg,h⟩
   obtain⟨v,hv,rfl⟩:=aa2.mp h;exact⟨hg,hv⟩
 . rintro⟨h1,h2⟩
   exact⟨r.2,h1,by rw[h2];rfl⟩
theorem Oy{T:LL}(h:T.Nodup)(w:Tab):(cs T w).Nodup:=by
 induction T with
 | nil=>exact ag8
 | cons g T ih=>
  obtain⟨h1,h2⟩:=af7.mp h;rw[iD];cases e:gL w g with
  | none=>exact ih h2
  | some v=>exact af7.mpr ⟨fun z=>h1 (g9.mp z).1,ih h2⟩
theorem DC(hl: ∀g∈T,g.length=n)(hk:k < n):(cs T w).Perm (cs T (bV w (k+1) o)++cs T (cc w (k+1) o)):=by
 induction T with
 | nil=>exact .nil
 | cons g T ih=>
  have ih:=ih fun x hx=>hl x (ZF _ hx);have lg:=hl g (ZI ..);rw[iD,iD,iD,kc (ai1 (Z7 k)) (by lia),si (ai1 (Z7 k)) (by lia)];cases gL w g with
  | none=>simpa using ih
  | some v=>
   by_cases c:at' g (k+1)=o
   . rw[if_pos c,if_neg fun z=>z c];exact(ih.cons _).trans List.perm_middle.symm
   . rw[if_neg c,if_pos c];exact ih.cons _
noncomputable def de:Tab->Nat->List Nat->List Tab
 | _,_,[]=> []
 | w,k,o::os=>bV w (k+1) o::de (cc w (k+1) o) (k+1) os
noncomputable def heldW:Tab->Nat->List Nat->Tab
 | w,_,[]=>w
 | w,k,o::os=>heldW (cc w (k+1) o) (k+1) os
theorem t9(hl: ∀g∈T,g.length=n): ∀(os:List Nat) (w:Tab) (k:Nat),k+os.length<=n->(cs T w).Perm ((de w k os).flatMap (cs T)++cs T (heldW w k os))
 | [],w,k,_=> .refl _
 | o::os,w,k,h=>by
  rw[ZG] at h;refine(DC hl (k:=k) (o:=o) (by lia)).trans ?_;show(cs T (bV w (k+1) o)++cs T (cc w (k+1) o)).Perm ((cs T (bV w (k+1) o)++(de (cc w (k+1) o) (k+1) os).flatMap (cs T))++cs T (heldW (cc w (k+1) o) (k+1) os));rw[aa1];exact(t9 hl os _ (k+1) (by lia)).append_left _
theorem xt{g:List Nat}(hg:g.length=n): ∀(os:List Nat) (w:Tab) (k:Nat),k+os.length<=n-> ∀v,gL (heldW w k os) g=some v->gL w g=some v/\ ∀i,i < os.length->at' g (k+1+i)=os.getD i 0
 | [],w,k,_,v,e=>⟨e,fun i hi=>absurd hi (Nat.not_lt_zero _)⟩
 | o::os,w,k,h,v,e=>by
  rw[ZG] at h;obtain⟨e1,h1⟩:=xt hg os (cc w (k+1) o) (k+1) (by lia) v e;rw[kc (ai1 (Z7 k)) (by lia)] at e1;by_cases c:at' g (k+1)=o
  . rw[if_pos c] at e1;refine⟨e1,fun i hi=>?_⟩;cases i with
    | zero=>exact c
    | succ i=>
     have:=h1 i (by rw[ZG] at hi;lia);rw[show k+1+(i+1)=k+1+1+i by lia];exact this
  . rw[if_neg c] at e1;cases e1
theorem pA{h:List Nat}(hh:h.length=n): ∀(os:List Nat) (w:Tab) (k:Nat),k+os.length<=n->(∀i,i < os.length->at' h (k+1+i)=os.getD i 0)->gL (heldW w k os) h=gL w h
 | [],w,k,_,_=>rfl
 | o::os,w,k,l,e=>by
  rw[ZG] at l;show gL (heldW (cc w (k+1) o) (k+1) os) h=_;rw[pA hh os (cc w (k+1) o) (k+1) (by lia) fun i hi=>by
   have:=e (i+1) (by rw[ZG];lia);rw[show k+1+(i+1)=k+1+1+i by lia] at this;exact this]
  rw[kc (ai1 (Z7 k)) (by lia),if_pos];exact e 0 (by rw[ZG];lia)
theorem DP{g:List Nat}(h:i < g.length):at' g (0+1+i)=g.getD i 0:=by
 unfold at';rw[show 0+1+i - 1=i by lia]
theorem JA{α:Type}{L:List α}{a:α}(nd:L.Nodup)(m:a∈L)(h: ∀x∈L,x=a):L= [a]:=by
 match L with
 | []=>cases m
 | [x]=>rw[h x (ZI ..)]
 | x::y::l=>
  have e1:=h x (ZI ..);have e2:=h y (ZF _ (ZI ..));have:=(af7.mp nd).1;rw[e1,e2] at this;exact absurd (ZI ..) this
theorem GL{T:LL}(nd:T.Nodup)(hl: ∀g∈T,g.length=n)(m:r∈cs T w):(cs T w).Perm (r::(de w 0 r.2).flatMap (cs T)):=by
 obtain⟨m1,m2⟩:=g9.mp m;have lr:=hl _ m1;have e:cs T (heldW w 0 r.2)= [r]:=by
  refine JA (Oy nd _) (g9.mpr ⟨m1,?_⟩) fun x hx=>?_
  . rw[pA lr r.2 w 0 (by lia) fun i hi=>DP hi];exact m2
  . obtain⟨x1,x2⟩:=g9.mp hx;obtain⟨e1,e2⟩:=xt (hl _ x1) r.2 w 0 (by lia) _ x2;have:x.2=r.2:=by
     have lx:=hl _ x1;refine af0 (by lia) fun i h1 h2=>?_;have:=e2 i h2;rw[DP h1] at this;simpa [List.getD,h1,h2] using this
    rw[this,m2] at e1;exact Prod.ext (Option.some.inj e1).symm this
 refine(t9 hl r.2 w 0 (by lia)).trans ?_;rw[e];exact af9
inductive cZ(n:Nat):List Tab->List (Rs × Tab)->Prop
 | nil:cZ n [] []
 | no {w:Tab} {ws:List Tab} {B:List (Rs × Tab)} (h:gF n w none) (r:cZ n ws B):cZ n (w::ws) B
 | yes {w:Tab} {ws:List Tab} {B:List (Rs × Tab)} {x:Rs} (h:gF n w (some x)) (r:cZ n ws B):cZ n (w::ws) ((x,w)::B)
theorem GK(hT: ∀g,g∈fw n↔g∈T)(h:gF n w none):cs T w= []:=by
 cases h with
 | no h=>
  refine ad8.mpr fun r hr=>?_;obtain⟨m1,m2⟩:=g9.mp hr;rw[h _ ((hT _).mpr m1)] at m2;cases m2
theorem cZ.all{n:Nat}{T:LL}(hT: ∀g,g∈fw n↔g∈T){ws:List Tab}(h:cZ n ws B):(∀x∈B,gF n x.2 (some x.1)/\x.2∈ws)/\ws.flatMap (cs T)=B.flatMap (fun x=>cs T x.2)/\B.length<=ws.length:=by
 induction h with
 | nil=>exact⟨fun x hx=>absurd hx Zz,rfl,Zx _⟩
 | no h r ih=>exact⟨fun x hx=>⟨(ih.1 x hx).1,ZF _ (ih.1 x hx).2⟩,by rw[ae1,GK hT h,List.nil_append];exact ih.2.1,Nat.le_succ_of_le ih.2.2⟩
 | yes h r ih=>
  refine⟨fun x hx=>?_,by rw[ae1,ae1,ih.2.1],ai1 ih.2.2⟩;rcases ZR.mp hx with rfl | hx
  . exact⟨h,ZI ..⟩
  . exact⟨(ih.1 x hx).1,ZF _ (ih.1 x hx).2⟩
structure Wait(n:Nat)(T:LL)(rest:List Rs)(W:List (Rs × Tab)):Prop where
 best: ∀x∈W,gF n x.2 (some x.1)
 Ej:W.Pairwise fun a b=>ky n a.1<=ky n b.1
 pm:rest.Perm (W.flatMap fun x=>cs T x.2)
theorem Wait.nil(h:Wait n T rest []):rest= []:=h.pm.eq_nil
theorem DO(hT: ∀g,g∈fw n↔g∈T)(h:gF n w (some r)):r∈cs T w:=by
 cases h with
 | yes v h m e b=>exact g9.mpr ⟨(hT _).mp m,e⟩
theorem tQ(hT: ∀g,g∈fw n↔g∈T)(h:r∈cs T w):vX n r:=by
 have m:=(hT _).mpr (g9.mp h).1;exact⟨dw m,lM m⟩
theorem GU(hT: ∀g,g∈fw n↔g∈T)(h:gF n w (some r))(hx:x∈cs T w):ky n r<=ky n x:=by
 refine(xa (iE h) (tQ hT hx)).mpr ?_;obtain⟨m1,m2⟩:=g9.mp hx;cases h with
 | yes v h m e b=>
  unfold good;rcases b _ ((hT _).mpr m1) _ m2 with z | ⟨z,y⟩
  . exact .inl z
  . exact .inr ⟨z,y⟩
theorem Wait.step{T:LL}(nd:T.Nodup)(hT: ∀g,g∈fw n↔g∈T)(h:Wait n T rest (x::W))(hs:rest.Pairwise fun a b=>ky n a<=ky n b):
  ∃o6,rest=x.1::o6/\o6.Perm (W.flatMap (fun x=>cs T x.2)++(de x.2 0 x.1.2).flatMap (cs T)):=by
 have hl: ∀g∈T,g.length=n:=fun g hg=>dw ((hT g).mpr hg);have bx:=h.best x (ZI ..);have mx:=DO hT bx;have least: ∀y∈rest,ky n x.1<=ky n y:=fun y hy=>by
  obtain⟨z,hz,hy⟩:=aa0.mp (h.pm.mem_iff.mp hy);have:=GU hT (h.best z hz) hy;rcases ZR.mp hz with rfl | hz
  . exact this
  . exact Int.le_trans (List.rel_of_pairwise_cons h.Ej hz) this
 have mr:x.1∈rest:=h.pm.mem_iff.mpr (aa0.mpr ⟨x,ZI ..,mx⟩);have inr: ∀y∈rest,vX n y:=fun y hy=>by
  obtain⟨z,hz,hy⟩:=aa0.mp (h.pm.mem_iff.mp hy);exact tQ hT hy
 cases rest with
 | nil=>cases mr
 | cons y o6=>
  have Wj:ky n y<=ky n x.1:=by
   rcases ZR.mp mr with e | e
   . rw[e];exact ae6 _
   . exact List.rel_of_pairwise_cons hs e
  have e:y=x.1:=JM (inr _ (ZI ..)) (iE bx) (Int.le_antisymm Wj (least _ (ZI ..)));subst e;refine⟨o6,rfl,?_⟩;have p1:=h.pm;rw[ae1] at p1;have p2:=p1.trans ((GL nd hl mx).append_right _);exact(p2.cons_inv).trans af9
theorem Wait.next(hT: ∀g,g∈fw n↔g∈T){rest:List Rs}{W W2 B:List (Rs × Tab)}{ws:List Tab}(h1: ∀x∈W,gF n x.2 (some x.1))(hp:rest.Perm (W.flatMap (fun x=>cs T x.2)++ws.flatMap (cs T)))(hB:cZ n ws B)(pm:W2.Perm (W++B))(hs:W2.Pairwise fun a b=>ky n a.1<=ky n b.1):Wait n T rest W2:=by
 obtain⟨b1,b2,_⟩:=hB.all hT;refine⟨fun x hx=>?_,hs,?_⟩
 . rcases aa7.mp (pm.mem_iff.mp hx) with hx | hx
   . exact h1 x hx
   . exact(b1 x hx).1
 . rw[b2] at hp;refine hp.trans ?_;rw[<-ai8];exact(pm.symm.flatMap_right _)
theorem cZ.Mr{n:Nat}{ws:List Tab}(h:cZ n ws B)(b:gF n w none):cZ n (ws++ [w]) B:=by
 induction h with
 | nil=>exact .no b .nil
 | no h r ih=>exact .no h ih
 | yes h r ih=>exact .yes h ih
theorem cZ.Mq{n:Nat}{ws:List Tab}(h:cZ n ws B)(b:gF n w (some x)):cZ n (ws++ [w]) (B++ [(x,w)]):=by
 induction h with
 | nil=>exact .yes b .nil
 | no h r ih=>exact .no h ih
 | yes h r ih=>exact .yes h ih
theorem cZ.len{n:Nat}{ws:List Tab}(h:cZ n ws B):B.length<=ws.length:=by
 induction h with
 | nil=>exact Zx _
 | no h r ih=>exact Nat.le_succ_of_le ih
 | yes h r ih=>exact ai1 ih
theorem ki: ∀(os:List Nat) (w:Tab) (k:Nat),(de w k os).length=os.length
 | [],_,_=>rfl
 | o::os,w,k=>by
  show(de (cc w (k+1) o) (k+1) os).length+1=_;rw[ki os,ZG]
end kF
namespace bG
open PySem PySem.Spec L2 LB LD PyProof.Rows kF
noncomputable def iK(n:Nat)(x:Rs × Tab):Dt:= .tup [.int x.1.1,aN x.1.2,bH n x.2]
noncomputable def ku(r:Rs):Dt:= .tup [.int (-r.1),aN r.2]
def wI:DN:=fun ds Q=> ∃(n:Nat) (x:Rs × Tab),ds= [iK n x]/\Q (ku x.1)
def vO(fp:Addr):DS:=fun ss Q=> ∃(n:Nat) (ws:List Tab),ss= [.fn fp,.im (.lst (ws.map (bH n)))]/\1<=n/\n<=12/\(∀w∈ws,Sm w)/\ws.length<=100/\ ∀B,cZ n ws B->Q (.lst (B.map (iK n)))
inductive X9(fp:Addr)(n:Nat)(ws:List Tab)(i:Nat)(δ:List Sl):Prop
 | mk (B:List (Rs × Tab)) (s3 s4:Sl) (e:δ= [.fn fp,.im (.lst (ws.map (bH n))),.ow (B.map (iK n)),s3,s4]) (b3:s3.bU=false) (b4:s4.bU=false) (hB:cZ n (ws.take i) B)
def wV:DN:=fun ds Q=> ∃(n:Nat) (w:Tab) (h:List Nat),ds= [bH n w,aN h]/\h.length=n/\(∀x∈h,x<=n)/\n<=60/\Q (.lst ((de w 0 h).map (bH n)))
inductive XQ(n:Nat)(w:Tab)(h:List Nat)(i:Nat)(δ:List Sl):Prop
 | mk (w':Tab) (P:List Tab) (s4 s5:Sl) (e:δ= [.im (bH n w),.im (aN h),.ow (P.map (bH n)),.im (bH n w'),s4,s5]) (b4:s4.bU=false) (b5:s5.bU=false) (hp:de w 0 h=P++de w' i (h.drop i))
section
variable{P:Program}{wd:World}{K:PySem.W.Frag}{mg:Str->Option Value}{base:Heap}
theorem FE(F:fA K "rank" "rank" A6 f fd)(T:Txt mg):aX P wd K mg base di 1 f fd ["best"] (bT wI):=by
 refine l5 F IS (fun ds Qd h=>?_) (fun bJ A outer s H E hr=>⟨_,(aB (aL (br (aa (C9 (dB (dv 0) ay)) (aa (dB (dv 0) ay) ae))))),fun ds Qd h=>?_⟩)
 . obtain⟨n,x,rfl,_⟩:=h;rfl
 . obtain⟨n,x,rfl,q⟩:=h;exact⟨_,rfl,_,_,_,.inr rfl,rfl,aO (j:=0) rfl,_,rfl,_,rfl,_,_,_,.inr rfl,rfl,aO (j:=1) rfl,by show 2<=sizeLine;decide,q⟩
theorem BP(hP:iI P wd K mg base fp 4 ["w"] (bT x8))(F:fA K "bests_of" "bests_of" mP f fd)(T:Txt mg):aX P wd K mg base di 5 f fd ["best_of","tables"] (spS (vO fp)):=by
 refine PJ F iA (fun ss Qd h=>?_) (fun bJ A outer s H E hr=>⟨_,(aj (dH 2 iA.nd (gp ae))
 (aj (dN rfl (fm (dv 1)) (cS 3 iA.nd)
 (aj (dy 4 iA.nd (gu 0 hP (hr.mono (by decide)) (pv 0) (aa (dv 3) ae)))
 (aB (dI (uF (dv 4))
 (aB (cJ (dD 2 (pv 2) (aa (fY (dv 4) (br (aa (dv 3) ae))) ae))))
 bL))) ab8)
 (aB (iJ 2 (aL (dv 2)))))),fun ss Qd h=>?_⟩)
 . obtain⟨n,ws,rfl,_⟩:=h;rfl
 . obtain⟨n,ws,rfl,n1,i4,sm,wl,q⟩:=h;refine⟨by show 0<=sizeLine;decide,⟨_,rfl,rfl⟩,_,rfl,_,rfl,bS (X9 fp n ws) ⟨[], .no, .no,rfl,rfl,rfl, .nil⟩ (fun i d δ hi Ki Δ' nz _=>?_) (fun δ Ki=>?_)⟩
   . obtain⟨B,s3,s4,rfl,b3,b4,hB⟩:=Ki;rw[Zy] at hi;obtain⟨w,hw,rfl⟩:=aa2.mp hi;have il:=(Zw.mp hw).1;have et:ws.take (i+1)=ws.take i++ [w]:=by rw[af3,hw];rfl
     have bl:=hB.len;rw[ac0] at bl;refine⟨⟨_,rfl,b3⟩,?_⟩;refine⟨rfl,_,rfl,n,w,rfl,n1,i4,sm w (ZY hw),fun r hr=>⟨⟨_,rfl,b4⟩,?_⟩⟩;cases r with
     | none=>exact⟨_,rfl,false,rfl,bf (nz _ ⟨B,_,_,rfl,rfl,rfl,by rw[et];exact hB.Mr hr⟩)⟩
     | some x=>
      refine⟨_,rfl,true,rfl,cu ?_⟩;refine⟨⟨_,rfl⟩,_,rfl,_,rfl,by show 1<=sizeLine;decide,_,_,rfl,rfl,by show 3<=sizeLine;decide,_,_,rfl,rfl,by rw[Zu];exact ae9 (by lia) (show 100 < sizeLine by decide),?_⟩;exact nz _ ⟨B++ [(x,w)],_,_,by rw[ZV];rfl,rfl,rfl,by rw[et];exact hB.Mq hr⟩
   . obtain⟨B,s3,s4,rfl,b3,b4,hB⟩:=Ki;rw[Zu,ac9] at hB;exact⟨_,rfl,_,rfl,q B hB⟩
theorem yP(F:fA K "parted" "parted" qm f fd)(T:Txt mg)(DY:fB P wd K mg base "without" 3 ["w","word","on"] (bT sA))(Lg:fB P wd K mg base "alone" 2 ["w","word","on"] (bT DR)):aX P wd K mg base di 4 f fd ["w","h"] (bT wV):=by
 refine l5 F gS (fun ds Qd h=>?_) (fun bJ A outer s H E hr=>⟨_,(aj (dH 2 gS.nd (gp ae))
 (aj (dy 3 gS.nd (dv 0))
 (aj (dN rfl (qP T.LK (aa (dv 1) ae) ay) (vo 4 5 rfl gS.nd)
 (aj (cJ (dD 2 (pv 2) (aa (bF DY (hr.mono (by decide)) (aa (dv 3) (aa (dv 4) (aa (dv 5) ae)))) ae)))
 (aB (dy 3 gS.nd (bF Lg (hr.mono (by decide)) (aa (dv 3) (aa (dv 4) (aa (dv 5) ae))))))) ab8)
 (aB (iJ 2 (aL (dv 2))))))),fun ds Qd h=>?_⟩)
 . obtain⟨n,w,h,rfl,_⟩:=h;rfl
 . obtain⟨n,w,h,rfl,hl,hb,Rf,q⟩:=h;refine⟨by show 0<=sizeLine;decide,⟨_,rfl,rfl⟩,_,rfl,⟨_,rfl,rfl⟩,_,rfl,_,rfl,rfl,bS (XQ n w h) ⟨w,[], .no, .no,rfl,rfl,rfl,rfl⟩ (fun i d δ hi Ki Δ' nz _=>?_) (fun δ Ki=>?_)⟩
   . obtain⟨w',P2,s4,s5,rfl,b4,b5,hp⟩:=Ki;unfold bg at hi;rw[ag9,Zy] at hi;cases ho:h[i]? with
     | none=>rw[ho] at hi;cases hi
     | some o=>
      rw[ho] at hi;cases hi;obtain⟨il,ei⟩:=Zw.mp ho;have on:=hb o (ZY ho);have ed:h.drop i=o::h.drop (i+1):=by rw[ac7 il,ei]
      have pl:P2.length<=n:=by
       have:=ab9 List.length hp;rw[ki,ZK] at this;lia
      refine⟨_,_,rfl,⟨_,rfl,b4⟩,⟨_,rfl,b5⟩,⟨_,rfl⟩,_,rfl,_,rfl,_,rfl,n,w',i,o,rfl,by lia,on,Rf,_,_,rfl,rfl,by rw[Zu];exact ae9 (by lia) (show 60 < sizeLine by decide),?_⟩;refine⟨_,rfl,_,rfl,_,rfl,n,w',i,o,rfl,by lia,on,Rf,⟨_,rfl,rfl⟩,?_⟩;refine nz _ ⟨cc w' (i+1) o,P2++ [bV w' (i+1) o],_,_,by rw[ZV];rfl,rfl,rfl,?_⟩;rw[hp,ed,aa1];rfl
   . obtain⟨w',P2,s4,s5,rfl,b4,b5,hp⟩:=Ki;have el:(bg 1 (h.map xI)).length=h.length:=by unfold bg;rw[ai2,Zu]
     rw[el,List.drop_length] at hp;rw[hp,show de w' h.length []= [] from rfl,ab2] at q;exact⟨_,rfl,_,rfl,q⟩
end
structure Due(n:Nat)(w:Tab)(cI:List Rs):Prop where
 set: ∃T:LL,T.Nodup/\(∀g,g∈fw n↔g∈T)/\cI.Perm (cs T w)
 Ej:cI.Pairwise fun a b=>ky n a<=ky n b
def tU(fp:Addr):DS:=fun ss Q=> ∃(n many:Nat) (w:Tab) (cI:List Rs),ss= [.fn fp,.im (bH n w),.im (.int (many:Int))]/\1<=n/\n<=12/\Sm w/\many<=1000/\Due n w cI/\Q (.lst ((cI.take many).map n9))
def vt:DN:=fun ds Q=> ∃(n many:Nat) (w:Tab) (cI:List Rs),ds= [bH n w,.int (many:Int)]/\1<=n/\n<=12/\Sm w/\many<=1000/\Due n w cI/\Q (.lst ((cI.take many).map n9))
noncomputable def ni:List Rs->Dt
 | a::b::_=> .int (a.1 - b.1)
 | _=> .aD
def w9:DN:=fun ds Q=> ∃L:List Rs,ds= [.lst (L.map n9)]/\Q (ni L)
def Hn:DN:=fun ds Q=> ∃(n:Nat) (w:Tab) (cI:List Rs),ds= [bH n w]/\1<=n/\n<=12/\Sm w/\Due n w cI/\Q (ni cI)
theorem T5(hr:bD k A):A.units+2+1 < cLine:=by have:=hr.un;lia
inductive X5(fp:Addr)(n many:Nat)(T:LL)(w:Tab)(cI:List Rs)(m:Nat)(δ:List Sl):Prop
 | mk (t:Nat) (W:List (Rs × Tab)) (s5 s6 s7 s8:Sl) (e:δ= [.fn fp,.im (bH n w),.im (.int (many:Int)),.ow ((cI.take t).map n9),.im (.lst (W.map (iK n))),s5,s6,s7,s8]) (b5:s5.bU=false) (b6:s6.bU=false) (b7:s7.bU=false) (b8:s8.bU=false)
  (hm:m+t=many) (td:t<=cI.length) (wl:W.length<=1+t*n) (good: ∀x∈W,gF n x.2 (some x.1)/\Sm x.2) (hw:t < many->Wait n T (cI.drop t) W)
theorem DA:LD.cutD (d::ds) (some 1) none=ds:=by
 show List.take ((d::ds).length - min 1 (d::ds).length) (List.drop (min 1 (d::ds).length) (d::ds))=ds;rw[show min 1 (d::ds).length=1 by rw[ZG];lia];show List.take ((d::ds).length - 1) ds=ds;exact ah8 (by rw[ZG];lia)
theorem sQ: ∀(os:List Nat) (w:Tab) (k:Nat),Sm w-> ∀x∈de w k os,Sm x
 | [],w,k,s,x,hx=>absurd hx Zz
 | o::os,w,k,s,x,hx=>by
  rcases ZR.mp hx with rfl | hx
  . exact fun i o' v e=>s i o' v (by unfold bV at e;split at e <;> first | exact e | cases e)
  . exact sQ os _ (k+1) (fun i o' v e=>s i o' v (by unfold cc at e;(repeat' split at e) <;> first | exact e | cases e)) x hx
noncomputable def Wn:Dt->Dt
 | .tup [.int v,h,_]=> .tup [.int (-v),h]
 | d=>d
noncomputable def Lp:List Dt->List Nat
 | []=> []
 | .int x::ds=>x.toNat::Lp ds
 | _::ds=>Lp ds
theorem we: ∀h:List Nat,Lp (h.map xI)=h
 | []=>rfl
 | x::h=>by show((x:Int).toNat)::Lp (h.map xI)=_;rw[we h,ac1]
noncomputable def oB(n:Nat):Dt->Int
 | .tup [.int v,.tup h]=>ky n (-v,Lp h)
 | _=>0
theorem fG:oB n (ku r)=ky n r:=by
 show ky n (-(-r.1),Lp (r.2.map xI))=_;rw[we,Int.neg_neg]
theorem BV(r:Rs):LD.EC (ku r):= .tup fun d hd=>by
 rcases ZR.mp hd with rfl | hd
 . exact .int _
 . rcases ZR.mp hd with rfl | hd
   . exact .tup fun e he => by
       obtain⟨x,_,rfl⟩:=ZL.mp he;exact .int _
   . cases hd
theorem eS(r:Rs):ku r=Ek r:=by unfold ku Ek;rw[Int.zero_sub]
theorem Cf(ha:vX n a)(hb:vX n b):zR 2 (ku a) (ku b)=decide (oB n (ku a) < oB n (ku b)):=by
 rw[fG,fG,eS,eS,JH,DU ha hb]
section
variable{P:Program}{wd:World}{K:PySem.W.Frag}{mg:Str->Option Value}{base:Heap}
theorem yQ(F:fA K "lead_of" "lead_of" qo f fd)(T:Txt mg):aX P wd K mg base di 1 f fd ["told"] (bT w9):=by
 refine l5 F AW (fun ds Qd h=>?_) (fun bJ A outer s H E hr=>⟨_,(aj (dI (IG (dR T.len (aa (dv 0) ae)) ay)
 (aB (aL iq))
 bL)
 (aB (aL (eW (dB (dB (dv 0) ay) ay) (dB (dB (dv 0) ay) ay))))),fun ds Qd h=>?_⟩)
 . obtain⟨L,rfl,_⟩:=h;rfl
 . obtain⟨L,rfl,q⟩:=h;refine⟨_,rfl,_, .inl rfl,_,_,rfl,rfl,?_⟩;match L,q with
   | [],q=>exact⟨_,rfl,cu q⟩
   | [a],q=>exact⟨_,rfl,cu q⟩
   | a::b::L,q=>
    refine⟨false,ab9 Dt.bl (aa3 (by rw[Zu,ZG,ZG];lia)),bf ?_⟩;exact⟨_,rfl,_,_,_,.inl rfl,rfl,aO (j:=0) rfl,_,_,_,.inr rfl,rfl,aO (j:=0) rfl,_,rfl,_,_,_,.inl rfl,rfl,aO (j:=1) rfl,_,_,_,.inr rfl,rfl,aO (j:=0) rfl,_,_,rfl,rfl,q⟩
theorem qH(F:fA K "lead_plain" "lead_plain" iU f fd)(T:Txt mg)(rT:fB P wd K mg base "lead_of" 1 ["told"] (bT w9))(eY:fB P wd K mg base "first_plain" 7 ["w","many"] (bT vt)):aX P wd K mg base di 8 f fd ["w"] (bT Hn):=by
 refine l5 F sS (fun ds Qd h=>?_) (fun bJ A outer s H E hr=>⟨_,(aB (aL (bF rT (hr.mono (by decide)) (aa (bF eY (hr.mono (by decide)) (aa (dv 0) (aa ay ae))) ae)))),fun ds Qd h=>?_⟩)
 . obtain⟨n,w,cI,rfl,_⟩:=h;rfl
 . obtain⟨n,w,cI,rfl,n1,i4,sm,D,q⟩:=h;refine⟨_,rfl,n,2,w,cI,rfl,n1,i4,sm,by decide,D,cI.take 2,rfl,?_⟩;have:ni (cI.take 2)=ni cI:=by
    match cI with
    | []=>rfl
    | [a]=>rfl
    | a::b::_=>rfl
   rw[this];exact q
theorem oA(gP:mg "best_plain"=some (.ref fp))(F:fA K "first_plain" "first_plain" gX f fd)(T:Txt mg)(nZ:fB P wd K mg base "first_by" 6 ["best_of","w","many"] (spS (tU fp))):aX P wd K mg base di 7 f fd ["w","many"] (bT vt):=by
 refine l5 F qj (fun ds Qd h=>?_) (fun bJ A outer s H E hr=>⟨_,(aB (aL (t7 nZ (hr.mono (by decide)) (Ip (by rfl) gP (yo (dv 0) (yo (dv 1) sD)))))),fun ds Qd h=>?_⟩)
 . obtain⟨n,many,w,cI,rfl,_⟩:=h;rfl
 . obtain⟨n,many,w,cI,rfl,n1,i4,sm,ml,D,q⟩:=h;exact⟨_,rfl,_,rfl,n,many,w,cI,rfl,n1,i4,sm,ml,D,q⟩
theorem uY(hP:iI P wd K mg base fp 4 ["w"] (bT x8))(gR:mg "rank"=some (.ref fr))(hR:iI P wd K mg base fr 1 ["best"] (bT wI))(F:fA K "first_by" "first_by" mN f fd)(T:Txt mg)(uo:fB P wd K mg base "bests_of" 5 ["best_of","tables"] (spS (vO fp)))(rS:fB P wd K mg base "parted" 4 ["w","h"] (bT wV)):aX P wd K mg base di 6 f fd ["best_of","w","many"] (spS (tU fp)):=by
 refine PJ F dW (fun ss Qd h=>?_) (fun bJ A outer s H E hr=>⟨_,(aj (dH 3 dW.nd (gp ae))
 (aj (dy 4 dW.nd (t7 uo (hr.mono (by decide)) (EK (f:=fp) 0 (pv 0) (yo (gs (aa (dv 1) ae)) sD))))
 (aj (Fb (PW.pt (w_and (L9 (dv 4)) (As (IG (Dd 3 T.len (pv 3)) (dv 2)))))
 (aj (A5 (dB (dv 4) ay) (Kk 5 6 7 rfl dW.nd))
 (aj (cJ (dD 3 (pv 3) (aa (br (aa (dv 5) (aa (dv 6) ae))) ae)))
 (aj (dy 8 dW.nd (jS (IG (Dd 3 T.len (pv 3)) (dv 2)) (bF rS (hr.mono (by decide)) (aa (dv 7) (aa (dv 6) ae))) (gs ae)))
 (aB (dy 4 dW.nd (C4 (m:=1) (KD (C5 (dv 4) (iY ay) iZ) (t7 uo (hr.mono (by decide)) (EK (f:=fp) 0 (pv 0) (yo (dv 8) sD)))) hR (hr.mono (by decide)) (T5 hr) rfl gR rfl T.Ej)))))) ab8)
 (aB (iJ 3 (aL (dv 3))))))),fun ss Qd h=>?_⟩)
 . obtain⟨n,many,w,cI,rfl,_⟩:=h;rfl
 . obtain⟨n,many,w,cI,rfl,n1,i4,sm,ml,D,q⟩:=h;obtain⟨⟨T',nd,hT,dp⟩,SG⟩:=D;refine⟨by show 0<=sizeLine;decide,⟨_,rfl,rfl⟩,rfl,_,rfl,by show 1<=sizeLine;decide,n,[w],rfl,n1,i4,fun x hx=>by rw[ZM.mp hx];exact sm,by rw[ag0];decide,fun B hB=>?_⟩;have bl:=hB.len;obtain⟨ba,_,_⟩:=hB.all hT;refine⟨⟨_,rfl,rfl⟩,?_⟩;refine yn (X5 fp n many T' w cI) ⟨many,0,B, .no, .no, .no, .no,rfl,rfl,rfl,rfl,rfl,rfl,Z7 _,by simpa using bl,fun x hx=>⟨(ba x hx).1,by rw[ZM.mp (ba x hx).2];exact sm⟩,fun _=>?_⟩ fun m δ hI Δ' nz J0=>?_
   . refine Wait.next hT (W:= []) (fun x hx=>absurd hx Zz) (ws:= [w]) ?_ hB (.refl _) ?_
     . simpa using dp
     . match B,bl with
       | [],_=>exact .nil
       | [b],_=>exact List.pairwise_singleton _ _
       | b::c::B,bl=>exact absurd bl (by rw[ZG,ZG,ZG,ah3];lia)
   . obtain⟨t,W,s5,s6,s7,s8,rfl,b5,b6,b7,b8,hm,td,wl,good,hw⟩:=hI;have tl: ∀t,t<=cI.length->((cI.take t).map n9).length=t:=fun t h=>by rw[Zu,ac0];lia
     have en:t < many->W= []->Qd (.lst ((cI.take t).map n9)):=fun ht e=>by
      subst e;have e2:=(hw ht).nil;have e3:cI.length<=t:=by have:=ab9 List.length e2;rw[ag3,ah3] at this;lia
      rw[ah8 e3];rw[ah8 (by lia)] at q;exact q
     by_cases c:t < many
     . cases W with
       | nil=>exact⟨_,rfl,false,rfl,bf (bf ⟨_,rfl,_,rfl,en c rfl⟩)⟩
       | cons x W=>
        refine⟨_,rfl,true,rfl,cu ⟨_,rfl,_,rfl,_,_,rfl,rfl,true,?_,cu ?_⟩⟩
        . rw[tl t td];exact ab9 Dt.bl (Z9 (by lia))
        . obtain⟨o6,er,pr⟩:=(hw c).step nd hT (SG.sublist (List.drop_sublist _ _));have t1:t < cI.length:=by
           have:=ab9 List.length er;rw[ag3,ZG] at this;lia
          have ed:cI.drop (t+1)=o6:=by
           have e:=ac7 t1;rw[er] at e;exact(List.cons.inj e).2.symm
          have ea:(cI.take t).map n9++ [.tup [.int x.1.1,aN x.1.2]]=(cI.take (t+1)).map n9:=by
           have e:=ac7 t1;rw[er] at e;rw[af3,Zs t1,<-(List.cons.inj e).1,ZV];rfl
          have gx:=good x (ZI ..);have ix:=iE gx.1;have lW:W.length<=t*n:=by rw[ZG] at wl;lia
          have tn:t*n<=1000*12:=Nat.mul_le_mul (by lia) i4;have fin: ∀ws:List Tab,(t+1 < many->ws=de x.2 0 x.1.2)->(∀w∈ws,Sm w)->ws.length<=n->
            Oc 4 (vC 1 (t8 vZ (Oa (Dj 4) (HK (dC (Dt.int 1))) Oj) (UW (vO fp) (T3 fp 0 (T1 (Dj 8) L3)))) wI) Δ'
             [.fn fp,.im (bH n w),.im (.int (many:Int)),.ow ((cI.take (t+1)).map n9),.im (.lst ((x::W).map (iK n))),.im (.int x.1.1),.im (aN x.1.2),.im (bH n x.2),.im (.lst (ws.map (bH n)))]:=fun ws Ww T9 Yr=>by
           refine⟨_,rfl,_,rfl,_,rfl,rfl,_,rfl,n,ws,rfl,n1,i4,T9,by lia,fun B' Sr=>?_⟩;have Zr:=Sr.len;rw[show LD.cutD ((x::W).map (iK n)) (some 1) none=W.map (iK n) from DA];obtain⟨b1,b2,_⟩:=Sr.all hT;have lB:(W++B').length<=t*n+n:=by rw[ZK];lia
           have gd: ∀y∈W++B',gF n y.2 (some y.1)/\Sm y.2:=fun y hy=>by
            rcases aa7.mp hy with hy | hy
            . exact good y (ZF _ hy)
            . exact⟨(b1 y hy).1,T9 _ (b1 y hy).2⟩
           refine⟨_,_,rfl,rfl,by rw[Zu,Zu,<-ZK];exact ZZ lB (ZZ (by lia) (show 12012<=sizeLine by decide)),?_⟩;rw[<-ZV];have F4: ∀d∈(W++B').map (iK n),∃y∈W++B',d=iK n y:=fun d hd=>by
            obtain⟨y,hy,e⟩:=ZL.mp hd;exact⟨y,hy,e.symm⟩
           refine⟨_,Wn,oB n,rfl,by rw[Zu];lia,fun d hd=>?_,fun d hd=>?_,fun d hd e he=>?_,fun ms pm pw=>?_⟩
           . obtain⟨y,hy,rfl⟩:=F4 d hd;exact⟨n,y,rfl,rfl⟩
           . obtain⟨y,hy,rfl⟩:=F4 d hd;exact⟨BV y.1,_,_,rfl⟩
           . obtain⟨y,hy,rfl⟩:=F4 d hd;obtain⟨z,hz,rfl⟩:=F4 e he;exact⟨by show GX 2 (ku y.1) (ku z.1);rw[eS,eS];exact AU _ _,Cf (iE (gd y hy).1) (iE (gd z hz).1)⟩
           . obtain⟨W2,pp,rfl⟩:=fL.mU pm rfl;have QZ:W2.Pairwise fun a b=>ky n a.1<=ky n b.1:=List.Pairwise.of_map (iK n) (fun a b h=>by
              have h:oB n (ku a.1)<=oB n (ku b.1):=h;rw[fG,fG] at h;exact h) pw
             refine⟨⟨_,rfl,rfl⟩,nz (m - 1) _ (by lia) ⟨t+1,W2,_,_,_,_,rfl,rfl,rfl,rfl,rfl,by lia,t1,?_,fun y hy=>gd y (pp.mem_iff.mp hy),fun c2=>?_⟩⟩
             . rw[pp.length_eq,Nat.succ_mul];lia
             . rw[ed];refine Wait.next hT (fun y hy=>(good y (ZF _ hy)).1) (ws:=ws) ?_ Sr pp QZ;rw[Ww c2];exact pr
          refine⟨_,rfl,_,_,_,.inl rfl,rfl,aO (j:=0) rfl,_,_,_,rfl,⟨_,rfl,b5⟩,⟨_,rfl,b6⟩,⟨_,rfl,b7⟩,⟨_,rfl⟩,_,rfl,_,rfl,by show 2<=sizeLine;decide,_,_,rfl,rfl,by rw[tl t td];exact ae9 (by lia) (show 1000 < sizeLine by decide),?_⟩;rw[ea];refine⟨_,rfl,_,rfl,_,_,rfl,rfl,decide (t+1 < many),?_,?_⟩
          . rw[tl (t+1) t1];congr 1
            exact decide_eq_decide.mpr (by lia)
          . by_cases c2:t+1 < many
            . rw[Z9 c2];refine cu ⟨_,rfl,_,rfl,n,x.2,x.1.2,rfl,ix.l,ix.b,by lia,⟨_,rfl,b8⟩,?_⟩;exact fin _ (fun _=>rfl) (sQ _ _ _ gx.2) (by rw[ki,ix.l];exact Zx _)
            . rw[aa3 c2];exact bf ⟨by show 0<=sizeLine;decide,⟨_,rfl,b8⟩,fin [] (fun h=>absurd h c2) (fun y hy=>absurd hy Zz) (Z7 _)⟩
     . have e:t=many:=by lia
       subst e;cases W with
       | nil=>exact⟨_,rfl,false,rfl,bf (bf ⟨_,rfl,_,rfl,q⟩)⟩
       | cons x W=>
        refine⟨_,rfl,true,rfl,cu ⟨_,rfl,_,rfl,_,_,rfl,rfl,false,?_,bf ⟨_,rfl,_,rfl,q⟩⟩⟩;rw[tl t td];exact ab9 Dt.bl (aa3 (by lia))
end
end bG
namespace LD
open PySem PySem.Spec L2 LB PyProof.Rows
structure Li(K:PySem.W.Frag)(x qual:Str)(st:Stmt)(f:Addr)(fd:FuncData)(c P:Addr):Prop where
 ex: ∃(oc:Value) (od:Option Addr) (kV doc pm:Value) (an:Option Addr) (ct:Value) (zP:Array (Option Value)),
  fd=PySem.W.fnOf x qual (fX st) (cz st) (ab st) .none kV doc pm an (.ref c) ct/\K.lookup f=some ⟨oc,od,.func fd,zP⟩/\PySem.W.codeIn K (.ref c) qual=true
 tab:PySem.W.tabIn K x=some (c,P)
 hd:PySem.W.codeHdIn K c P=true
section
variable{P:Program}{w:World}{K:PySem.W.Frag}{mg:Str->Option Value}{base:Heap}
theorem Sv {x qual : Str} {st : Stmt} {k : Nat} (F : Li K x qual st f fd c Pt) (sc : aH N ps (ab st)) (len : ∀ ds Qd, S ds Qd -> ds.length = ps.length) (fH : ∀ (A : Around) (outer : List Env) (s : Shared) (H : Hp) (E : XK), bD k (A.deeper (envOfC qual (ab st) s.heap.objs.size f (.ref c))) ->
   ∃T,zL (lC di P w K mg base N qual (ab st) f (.ref c) A outer s H E).BW (cz st) T/\ ∀ds Qd,S ds Qd->T {nx:=fun _=>Qd .aD,rt:=fun d _=>Qd d} (ds.map .im++List.replicate (N.length - ps.length) .no)):
  aX P w K mg base di (k+1) f fd ps (bT S):=by
 obtain⟨oc,od,kV,doc,pm,an,ct,zP,rfl,lk,tR⟩:=F.ex;refine HB lk tR sc (fun vs H Q E h=>?_) (fun A outer s H vs Q E hr h=>?_)
 . obtain⟨M,ds,Qd,al,r,q,_⟩:=h;rw[r.1];exact len ds Qd q
 . obtain⟨M,ds,Qd,al,r,q,kk⟩:=h;obtain⟨T,hT,hq⟩:=fH A outer s H E hr;refine⟨lS T,pW.BW hT,[⟨H,fun _=>False,M,M,none⟩],M,List.replicate (ds.length+(N.length - ps.length)) [],ds.map .im++List.replicate (N.length - ps.length) .no,_,?_,?_,hq ds Qd q⟩
   . have e:L2.start N vs=vs.map some++List.replicate (N.length - ps.length) none:=by unfold L2.start;rw[r.1,len ds Qd q]
     rw[e];refine kz al r fun W hW=>?_;rw[ZM.mp hW];have aY:(List.replicate (ds.length+(N.length - ps.length)) ([]:List Addr)).flatten= []:=by simp
     refine⟨fun b o e _=>e,fun b n=>n,fun a ha=>by rw[aY] at ha;exact absurd ha Zz,fun a h=>h,fun a h=> .inl h,fun d c e=>(by cases e),fun j s as h1 h2 _ a ha=>?_⟩;rw[ZX] at h2;split at h2
     . cases h2;exact absurd ha Zz
     . cases h2
   . have same : ∀ {M' α' H' σ' δ'}, az [⟨H, fun _ => False, M, M, none⟩] M' α' H' σ' δ' -> aC H H' /\ ∀ a, M a -> M' a := fun E' => by
       have k:=E'.w _ (ZM.mpr rfl);exact⟨fun b o e=>k.bs b o e (fun z=>z),k.m0⟩
     refine⟨fun M' α' H' σ' δ' E' q=>kk _ _ _ q (same E').1 .aD,fun M' α' H' σ' δ' v d E' r' q=>kk _ _ _ q (same E').1 (r'.mono fun a o e n=>⟨e,fun z=>n ((same E').2 a z)⟩),fun _ _ _ _ _ _ z=>z.elim,fun _ _ _ _ _ _ z=>z.elim⟩
end
end LD
namespace bG
open PySem PySem.Spec L2 LB LD PyProof.Rows kF
theorem L6: ∀n,n<=5->(Tr 1 n 0).Nodup/\(Tr 1 n 0).length<=1000:=by
 intro n hn;have: ∀n:Fin 6,(Tr 1 n.val 0).Nodup/\(Tr 1 n.val 0).length<=1000:=by decide+kernel
 exact this ⟨n,by lia⟩
def Ho:DN:=fun ds Q=> ∃(n:Nat) (w:Tab),ds= [bH n w]/\1<=n/\n<=5/\ ∀cI,Due n w cI->cI.length<=1000->Q (.lst (cI.map n9))
theorem xR:cs (T++ [g]) w=cs T w++cs [g] w:=by unfold cs;rw[List.filterMap_append]
theorem DD(T:LL)(w:Tab):(cs T w).length<=T.length:=by unfold cs;exact List.length_filterMap_le _ _
inductive X0(n:Nat)(w:Tab)(i:Nat)(δ:List Sl):Prop
 | mk (s2 s3:Sl) (e:δ= [.im (bH n w),.ow ((cs ((Tr 1 n 0).take i) w).map n9),s2,s3]) (b2:s2.bU=false) (b3:s3.bU=false)
noncomputable def Wm:Dt->Dt
 | .tup [.int v,h]=> .tup [.int (0 - v),h]
 | d=>d
theorem xf:oB n (Ek r)=ky n r:=by rw[<-eS,fG]
section
variable{P:Program}{wd:World}{K:PySem.W.Frag}{mg:Str->Option Value}{base:Heap}
theorem FG(hL:("_law_due":Str)∈bb)(F:Li K "_law_due" "_law_due" A7 f fd c Pt)(T:Txt mg)(rV:fB P wd K mg base "_law_trees" 10 ["_law_first","_law_last","_law_on"] (bT (Az 5)))(OR:fB P wd K mg base "_law_sum" 1 ["_law_w","_law_first","_law_part"] (bT Hm)):aX P wd K mg base di 11 f fd ["_law_w"] (bT Ho):=by
 refine Sv F qi (fun ds Qd h=>?_) (fun A outer s H E hr=>⟨_,(aj (dH 1 qi.nd (gp ae))
 (aj (dN rfl (fm (bF rV (hr.mono (by decide)) (aa ay (aa (dR T.len (aa (dv 0) ae)) (aa ay ae))))) (cS 2 qi.nd)
 (aj (dy 3 qi.nd (bF OR (hr.mono (by decide)) (aa (dv 0) (aa ay (aa (dv 2) ae)))))
 (aB (dI (uF (dv 3))
 (aB (cJ (dD 1 (pv 1) (aa (br (aa (dv 3) (aa (dv 2) ae))) ae))))
 bL))) ab8)
 (aB (iJ 1 (aL (zt (x:="_law_due") (c:=c) (P:=Pt) (p:="_law_pair") (caps:= []) (js:= []) (m:=1) (dv 1) ⟨rfl,rfl,rfl,by decide+kernel,rfl,rfl,(fun y hy=>nomatch hy),(by repeat (first | exact AQ | refine wz (by first | exact Or.inl rfl | exact Or.inr rfl) ?_ | refine wA (fun z=>nomatch z) ?_)),fun _ _ _ _ _ _=>rfl⟩ rfl hr (T5 hr) hL F.tab F.hd rfl rfl rfl (fun _ _ _ _ _ _=>(br (aa (eW ay (dB (dv 0) ay)) (aa (dB (dv 0) ay) ae)))) rfl T.Ej)))))),fun ds Qd h=>?_⟩)
 . obtain⟨n,w,rfl,_⟩:=h;rfl
 . obtain⟨n,w,rfl,n1,n5,q⟩:=h;obtain⟨nd,tl⟩:=L6 n n5;refine⟨by show 0<=sizeLine;decide,⟨_,rfl,rfl⟩,?_⟩;have ln:((List.range' 1 n).map (cD n w)).length=n:=by rw[Zu,Z2]
   refine⟨_,rfl,_,.inr rfl,_,_,_,1,n,0,rfl,rfl,by rw[ln];lia,rfl,n5,by lia,_,rfl,bS (X0 n w) ⟨.no,.no,rfl,rfl,rfl⟩ (fun i d δ hi hP Δ' nz _=>?_) (fun δ hP=>?_)⟩
   . obtain⟨s2,s3,rfl,b2,b3⟩:=hP;rw[Zy] at hi;obtain⟨g,hg,rfl⟩:=aa2.mp hi;have et:(Tr 1 n 0).take (i+1)=(Tr 1 n 0).take i++ [g]:=by rw[af3,hg];rfl
     have hw:=tI.mpr (ZY hg);have cl:=DD ((Tr 1 n 0).take i) w;rw[ac0] at cl;refine⟨⟨_,rfl,b2⟩,_,rfl,_,rfl,n,w,1,g,rfl,Zx _,by rw[dw hw];lia,lM hw,by lia,⟨_,rfl,b3⟩,?_⟩;cases e:gL w g with
     | none=>
      have e:da w 1 g=none:=e;rw[e];refine⟨_,rfl,false,rfl,bf (nz _ ⟨.im (aN g),.im .aD,?_,rfl,rfl⟩)⟩;rw[et,xR,iD,show gL w g=none from e];show([.im (bH n w),.ow ((cs ((Tr 1 n 0).take i) w).map n9),.im (aN g),.im .aD]:List Sl)= [.im (bH n w),.ow ((cs ((Tr 1 n 0).take i) w++ []).map n9),.im (aN g),.im .aD]
      rw[ab2]
     | some v=>
      have e:da w 1 g=some v:=e;rw[e];refine⟨_,rfl,true,rfl,cu ⟨⟨_,rfl⟩,_,rfl,_,rfl,by show 2<=sizeLine;decide,_,_,rfl,rfl,by rw[Zu];exact ae9 (by lia) (show 1000 < sizeLine by decide),nz _ ⟨.im (aN g),.im (.int v),?_,rfl,rfl⟩⟩⟩;rw[et,xR,iD,show gL w g=some v from e,ZV];rfl
   . obtain⟨s2,s3,rfl,b2,b3⟩:=hP;rw[Zu,ac9];have cl:=DD (Tr 1 n 0) w;have hT: ∀g,g∈fw n↔g∈Tr 1 n 0:=fun g=>tI;have F4: ∀d∈(cs (Tr 1 n 0) w).map n9,∃r∈cs (Tr 1 n 0) w,d=n9 r:=fun d hd=>by
      obtain⟨y,hy,e⟩:=ZL.mp hd;exact⟨y,hy,e.symm⟩
     refine⟨_,rfl,_,rfl,_,Wm,oB n,rfl,by rw[Zu];lia,fun d hd=>?_,fun d hd=>?_,fun d hd e he=>?_,fun ms pm pw=>?_⟩
     . obtain⟨y,hy,rfl⟩:=F4 d hd;exact⟨_,rfl,_,_,_,.inr rfl,rfl,aO (j:=0) rfl,_,_,rfl,rfl,_,rfl,_,_,_,.inr rfl,rfl,aO (j:=1) rfl,by show 2<=sizeLine;decide,rfl⟩
     . obtain⟨y,hy,rfl⟩:=F4 d hd;exact⟨by show EC (Ek y);rw[<-eS];exact BV y,_,_,rfl⟩
     . obtain⟨y,hy,rfl⟩:=F4 d hd;obtain⟨z,hz,rfl⟩:=F4 e he;exact⟨AU _ _,by have:=Cf (tQ hT hy) (tQ hT hz);rw[eS,eS] at this;exact this⟩
     . obtain⟨cI,pp,rfl⟩:=fL.mU pm rfl;have QZ:cI.Pairwise fun a b=>ky n a<=ky n b:=List.Pairwise.of_map n9 (fun a b h=>by
        have h:oB n (Ek a)<=oB n (Ek b):=h;rw[xf,xf] at h;exact h) pw
       exact q cI ⟨⟨_,nd,hT,pp⟩,QZ⟩ (by rw[pp.length_eq];lia)
end
end bG
namespace LD
open PySem PySem.Spec L2 LB PyProof.Rows LW
theorem EY{Δ:dE}(Q:List Sl->Prop)(h: ∀Δ':dE,(∀δ',Q δ'->Δ'.nx δ')->(∀d δ',Δ.rt d δ'->Δ'.rt d δ')->T Δ' δ)(fin: ∀δ',Q δ'->R Δ δ'):Od T R Δ δ:=h _ fin fun _ _ z=>z
end LD
namespace bG
open PySem PySem.Spec L2 LB LD PyProof.Rows kF
inductive Qs:Sl->Prop
 | no:Qs .no
 | im (d:Dt):Qs (.im d)
theorem Qs.nb(h:Qs s):s.bU=false:=by cases h <;> rfl
theorem Qs.fr(h:Qs s):s= .no\/(∃d,s= .im d)\/ ∃t,s= .bx t:=by
 cases h with
 | no=>exact .inl rfl
 | im d=>exact .inr (.inl ⟨d,rfl⟩)
inductive XZ(i:Nat)(δ:List Sl):Prop
 | mk (t:Int) (s2 s3 s4 s5 s6 s7 s8:Sl) (e:δ= [.no,.bx t,s2,s3,s4,s5,s6,s7,s8]) (ht:t<=800*i) (b2:Qs s2) (b3:Qs s3) (b4:Qs s4) (b5:Qs s5) (b6:Qs s6) (b7:s7.bU=false) (b8:Qs s8)
theorem Ko(n:Nat)(w:Tab):yf (bH n w):= .tup fun d hd=>by
 obtain⟨i,_,rfl⟩:=ZL.mp hd;refine .tup fun e he=>?_;obtain⟨o,_,rfl⟩:=ZL.mp he;cases w i o with
 | none=>exact .aD
 | some v=>exact .int v
theorem NR(r:Rs):yf (n9 r):= .tup fun d hd=>by
 rcases ZR.mp hd with rfl | hd
 . exact .int _
 . rcases ZR.mp hd with rfl | hd
   . exact .tup fun e he => by
       obtain⟨x,_,rfl⟩:=ZL.mp he;exact .int _
   . cases hd
theorem L4(i4:n<=12){L:List Rs}(l:L.length<=100)(h: ∀r∈L,vX n r):PU (Up (Up Ab)) (.lst (L.map n9)):=⟨_,rfl,fun e he=>by
 obtain⟨r,hr,rfl⟩:=ZL.mp he;exact L5 i4 (r:=some r) fun x e=>by cases e;exact h r hr,by rw[Zu];exact l⟩
theorem Ky(D:Due n w cI): ∀r∈cI,vX n r:=fun r hr=>by
 obtain⟨⟨T,_,hT,pm⟩,_⟩:=D;exact tQ hT (pm.mem_iff.mp hr)
inductive Ya(n:Nat)(w:Tab)(d:Dt)(cI:List Rs)(t:Int)(δ:List Sl):Prop
 | mk (s6 s7 s8:Sl) (e:δ= [.no,.bx t,.im d,.im (bH n w),.im (.str (t6 9 (bH n w)).shown),.im (.lst (cI.map n9)),s6,s7,s8]) (b6:Qs s6) (b7:s7.bU=false) (b8:Qs s8)
theorem M9(b2:Qs s2)(b3:Qs s3)(b4:Qs s4)(b5:Qs s5)(b6:Qs s6)(b8:Qs s8): ∀j s,j≠7-> [.no,.bx t,s2,s3,s4,s5,s6,s7,s8][j]?=some s->s= .no\/(∃d,s= .im d)\/ ∃t,s= .bx t:=fun j s hj e=>by
 match j with
 | 0=>cases e;exact .inl rfl
 | 1=>cases e;exact .inr (.inr ⟨_,rfl⟩)
 | 2=>cases e;exact b2.fr
 | 3=>cases e;exact b3.fr
 | 4=>cases e;exact b4.fr
 | 5=>cases e;exact b5.fr
 | 6=>cases e;exact b6.fr
 | 7=>exact absurd rfl hj
 | 8=>cases e;exact b8.fr
 | j+9=>simp at e
theorem xQ{α:Type}{f:α->Dt}{L:List α}{m:Nat}:LD.cutD (L.map f) none (some (m:Int))=(L.take m).map f:=by
 unfold LD.cutD HT.cK;show List.take (min ((m:Int)).toNat (L.map f).length - 0) (List.drop 0 (L.map f))=(L.take m).map f;rw[List.drop_zero,ac1,al8,List.map_take,List.take_eq_take_iff];lia
section
variable{P:Program}{wd:World}{K:PySem.W.Frag}{mg:Str->Option Value}{base:Heap}
theorem JB(F:fA K "law" "law" IV f fd)(T:Txt mg)(NB:fB P wd K mg base "_law_begin" 1 ["_law_script"] (qe K))(eM:fB P wd K mg base "_law_take" 1 ["_law_state","_law_many"] (zN sM))(GZ:fB P wd K mg base "_law_table" 3 ["_law_state","_law_many"] (zN AD))(OS:fB P wd K mg base "_law_due" 11 ["_law_w"] (bT Ho))(eY:fB P wd K mg base "first_plain" 7 ["w","many"] (bT vt))(vU:fB P wd K mg base "lead_plain" 8 ["w"] (bT Hn))(XT:fB P wd K mg base "_law_same" 1 ["_law_found","_law_due_here"] (bT AY))(P0:fB P wd K mg base "_law_same" 4 ["_law_found","_law_due_here"] (bT (mI (PU (Up (Up Ab)))))):
  aX P wd K mg base di 12 f fd ["_law_script"] (sP K):=by
 refine Na F kJ (by decide) (fun bJ A outer s H E hr=>⟨_,_,_,rfl,dJ (i:=1) kJ.nd rfl (Or.inl rfl) (mW NB (hr.mono (by decide)) rfl (af (pv 0) aG)),(aj (dN rfl (nu T.qx (aa ay ae)) (cS 2 kJ.nd)
 (aj (dy 3 kJ.nd (ir 1 GZ (hr.mono (by decide)) (pv 1) (aa (cU ay (ir 1 eM (hr.mono (by decide)) (pv 1) (aa ay ae))) ae)))
 (aj (IT 4 5 rfl kJ.nd (Gf (C6 hr T.Ub (aa (dv 3) ae)) (Gf (bF OS (hr.mono (by decide)) (aa (dv 3) ae)) Hz)))
 (aj (dN rfl (Nd (br (aa (ir 1 eM (hr.mono (by decide)) (pv 1) (aa ay ae)) (aa ay (aa (ir 1 eM (hr.mono (by decide)) (pv 1) (aa ay ae)) ae))))) (cS 6 kJ.nd)
 (aj (dH 7 kJ.nd (MV eY (hr.mono (by decide)) (aa (dv 3) (aa (dv 6) ae))))
 (aj (dI (PW.pt (w_or (AF (eI (Gy 7 (bF P0 (hr.mono (by decide)) (aa (dv 7) (aa (C5 (dv 5) iZ (iY (dv 6))) ae)))))) (jh (uG (C6 hr T.Ub (aa (dv 3) ae)) (dv 4)))))
 (aB (aL zx))
 bL)
 (aj (cJ (kA 7 (pv 7)))
 (aB (cJ (dD 7 (pv 7) (aa (br (aa ay (aa (br ae) ae))) ae))))))) ab8)
 (aj (dy 8 kJ.nd (jS (EU (dR T.len (aa (dv 5) ae)) ay) (eW (dB (dB (dv 5) ay) ay) (dB (dB (dv 5) ay) ay)) iq))
 (aB (dI (PW.pt (w_or (AF (eI (bF XT (hr.mono (by decide)) (aa (bF vU (hr.mono (by decide)) (aa (dv 3) ae)) (aa (dv 8) ae))))) (jh (AF (eI (bF P0 (hr.mono (by decide)) (aa (bF eY (hr.mono (by decide)) (aa (dv 3) (aa ay ae))) (aa (C5 (dv 5) iZ (iY ay)) ae))))))))
 (aB (aL zx))
 bL)))))) ab8)
 (aB (aL zx))),?_⟩)
 refine⟨_,rfl,by decide,by decide,bS XZ ⟨0,.no,.no,.no,.no,.no,.no,.no,rfl,by decide,.no,.no,.no,.no,.no,rfl,.no⟩ (fun i d δ hi hP Δ' nz _=>?_) (fun δ hP=>?_)⟩
 . obtain⟨tt,s2,s3,s4,s5,s6,s7,s8,rfl,ht,b2,b3,b4,b5,b6,b7,b8⟩:=hP;have il:i < 3:=by have:=(Zw.mp hi).1;simpa using this
   refine⟨⟨_,rfl,b2.nb⟩,?_⟩;refine⟨⟨_,rfl⟩,⟨_,rfl⟩,_,rfl,_,rfl,by lia,by decide,by decide,fun r r0 r1=>?_⟩;obtain⟨k,rfl⟩:=an1 r0;refine⟨_,_,rfl,rfl,?_⟩;refine⟨_,rfl,1+k,rfl,by lia,by lia,by lia,fun w t1 Yy ok=>⟨⟨_,rfl,b3.nb⟩,?_⟩⟩;obtain⟨n,en⟩: ∃n,n=1+k:=⟨_,rfl⟩
   rw[<-en] at ok;rw[<-en];have n1:1<=n:=by lia
   have n5:n<=5:=by lia
   have sm:=IM ok;have lv:=JE (n:=n) (by lia) ok.1;refine⟨_,rfl,_,_,rfl,lv,by decide,_,rfl,n,w,rfl,n1,n5,fun cI D dl=>⟨_,_,rfl,⟨_,rfl,b4.nb⟩,⟨_,rfl,b5.nb⟩,?_⟩⟩;have Xv:=Ky D;have T4: ∀m,m<=100->PU (Up (Up Ab)) (.lst ((cI.take m).map n9)):=fun m hm=>L4 (n:=n) (by lia) (by rw[ac0];lia) fun r hr=>Xv r (List.mem_of_mem_take hr);dsimp only;refine⟨⟨_,rfl⟩,_,rfl,_,rfl,by lia,by decide,by decide,fun m1 Wg Yq=>⟨⟨_,rfl⟩,_,rfl,_,rfl,by lia,by decide,by decide,fun m2 Wf Yp=>?_⟩⟩;obtain⟨m1,rfl⟩:=an1 Wg;obtain⟨m2,rfl⟩:=an1 Wf;refine⟨by show 3<=sizeLine;decide,_,rfl,?_⟩;refine bS (fun _=>Ya n w d cI (t1+1+1)) ⟨s6,s7,s8,rfl,b6,b7,b8⟩ (fun j e δ hj hP Δ2 En _=>?_) (fun δ hP=>?_)
   . obtain⟨s6,s7,s8,rfl,b6,b7,b8⟩:=hP;obtain⟨many,rfl,ml⟩: ∃many:Nat,e= .int (many:Int)/\many<=60:=by
      match j,hj with
      | 0,hj=>cases hj;exact⟨m1,rfl,by lia⟩
      | 1,hj=>cases hj;exact⟨60,rfl,Zx _⟩
      | 2,hj=>cases hj;exact⟨m2,rfl,by lia⟩
      | j+3,hj=>simp at hj
     refine⟨⟨_,rfl,b6.nb⟩,?_⟩;refine⟨_,rfl,_,rfl,fun x hx=>?_,n,many,w,cI,rfl,n1,by lia,sm,by lia,D,_,rfl,fun x hx=>?_,⟨_,rfl,b7⟩,?_⟩
     . rcases ZR.mp hx with rfl | hx
       . exact Ko n w
       . cases ZM.mp hx;exact .int _
     . obtain⟨p,_,rfl⟩:=ZL.mp hx;exact NR p
     refine⟨_,rfl,M9 (.im _) (.im _) (.im _) (.im _) (.im _) b8,?_⟩;refine⟨_,rfl,_,rfl,_,rfl,_,rfl,_,rfl,?_⟩;rw[xQ];refine⟨_,rfl,T4 _ (by lia),rfl,.bl _,_,rfl,bf ?_⟩;refine⟨_,rfl,_,_,rfl,lv,by decide,_,rfl,true,Sz,_,rfl,bf ?_⟩;refine⟨_,rfl,?_⟩;refine⟨⟨_,rfl⟩,by show 0<=sizeLine;decide,by show 2<=sizeLine;decide,_,_,rfl,rfl,by rw[List.length_reverse,Zu,ac0];exact ae9 (by lia) (show 1000 < sizeLine by decide),?_⟩;exact En _ ⟨_,_,_,rfl,.im _,rfl,b8⟩
   . obtain⟨s6,s7,s8,rfl,b6,b7,b8⟩:=hP;dsimp only;refine EY (fun δ'=>δ'= [.no, .bx (t1+1+1), .im d, .im (bH n w), .im (.str (t6 9 (bH n w)).shown), .im (.lst (cI.map n9)),s6,s7, .im (ni cI)]) (fun Δ0 Ep _=>?_) ?_
     . refine⟨_,rfl,_, .inl rfl,_,_,rfl,rfl,?_⟩;match cI,Ep with
       | [],Ep=>exact⟨false,rfl,bf ⟨⟨_,rfl,b8.nb⟩,Ep _ rfl⟩⟩
       | [a],Ep=>exact⟨false,rfl,bf ⟨⟨_,rfl,b8.nb⟩,Ep _ rfl⟩⟩
       | a::b::L,Ep=>
        refine⟨true,ab9 Dt.bl (Z9 (by rw[Zu,ZG,ZG];lia)),cu ?_⟩;exact⟨_,rfl,_,_,_,.inl rfl,rfl,aO (j:=0) rfl,_,_,_,.inr rfl,rfl,aO (j:=0) rfl,_,rfl,_,_,_,.inl rfl,rfl,aO (j:=1) rfl,_,_,_,.inr rfl,rfl,aO (j:=0) rfl,_,_,rfl,rfl,⟨_,rfl,b8.nb⟩,Ep _ rfl⟩
     rintro δ rfl
     have la:Ab (ni cI):=by
      match cI with
      | []=>exact .aD
      | [a]=>exact .aD
      | a::b::L=>exact .int _
     refine⟨_,rfl,n,w,cI,rfl,n1,by lia,sm,D,_,rfl,ni cI,rfl,la,_,rfl,bf ?_⟩;refine⟨_,rfl,n,3,w,cI,rfl,n1,by lia,sm,by decide,D,_,rfl,_,rfl,_,rfl,?_⟩;rw[show(3:Int)=((3:Nat):Int) from rfl,xQ];refine⟨_,rfl,T4 _ (by lia),_,rfl,bf ?_⟩;exact nz _ ⟨_,_,_,_,_,_,_,_,rfl,by lia,.im _,.im _,.im _,.im _,b6,b7,.im _⟩
 . obtain⟨tt,s2,s3,s4,s5,s6,s7,s8,rfl,ht,b2,b3,b4,b5,b6,b7,b8⟩:=hP;rfl
end
end bG
section
namespace bG
open PySem L2 LB LD PyProof.Rows
structure a8(K:PySem.W.Frag)(x:Str)(st:Stmt)(ps:List Str)(f:Addr)(fd:FuncData):Prop where
 a:PySem.W.nsIn K mainGlobals x=some (some (.ref f))
 F:fA K x x st f fd
 b:Binds K fd ps []
theorem aP{K:PySem.W.Frag}{x:Str}{st:Stmt}{ps:List Str}{f:Addr}{oc:Value}{od an:Option Addr}{sl:Array (Option Value)}{kV dc pm cd ct:Value}(a:PySem.W.nsIn K mainGlobals x=some (some (.ref f)))(l:K.lookup f=some ⟨oc,od, .func (PySem.W.fnOf x x (fX st) (cz st) (ab st) .none kV dc pm an cd ct),sl⟩)(c:PySem.W.codeIn K cd x=true)(k:PySem.W.keepIn K (.ref f)=true)
  (h: ∀us:List Value,us.length=ps.length->bindArgs (PySem.W.fnOf x x (fX st) (cz st) (ab st) .none kV dc pm an cd ct) ⟨us,[]⟩=pure (ps.zip us)):a8 K x st ps f (PySem.W.fnOf x x (fX st) (cz st) (ab st) .none kV dc pm an cd ct):=⟨a,Km l c k,.all h⟩
section
variable{P:Program}{w:World}{K:PySem.W.Frag}{mg:Str->Option Value}{base h:Heap}{x:Str}{st:Stmt}{ps:List Str}{f:Addr}{fd:FuncData}
theorem a8.has(D:a8 K x st ps f fd)(X:K.In h)(G:h.Ns mainGlobals mg)(o:aX P w K mg base di k f fd ps sp):fB P w K mg base x k ps sp:=⟨f,fd,am0 X G D.a,D.F.kp,D.b,o⟩
end
theorem AE{K:PySem.W.Frag}(a:PySem.W.nsIn K mainGlobals x=some (some (.ref f)))(l:K.lookup f=some ⟨oc,od,.func fd,sl⟩)(e:fd.code= .ref c)(l2:K.lookup c=some ⟨Yo,Yn,.fields vs,IP⟩)(h:(vs[11]?:Option Value)=some (.ref Pt)):PySem.W.tabIn K x=some (c,Pt):=by
 unfold PySem.W.tabIn;rw[a];simp only [l,e,l2,h]
theorem L7{q:Program}{K:PySem.W.Frag}(hd:((recsOf q).find? fun e=>e.name==x).isSome=true)(h:PySem.W.tabIn K x=some (c,Pt)): ∃d c P,(recsOf q).find? (fun e=>e.name==x)=some d/\PySem.W.tabIn K x=some (c,P):=
 let ⟨d,hd⟩:=Option.isSome_iff_exists.mp hd
 ⟨d,c,Pt,hd,h⟩
theorem NS{K:PySem.W.Frag}{x:Str}{st:Stmt}(F:fA K x x st f fd)(e:fd.code= .ref c)(t:PySem.W.tabIn K x=some (c,Pt))(h:PySem.W.codeHdIn K c Pt=true):Li K x x st f fd c Pt:=by
 obtain⟨oc,od,kV,doc,pm,an,bJ,ct,zP,rfl,lk,tR⟩:=F.ex;have e:bJ= .ref c:=e;subst e;exact⟨⟨oc,od,kV,doc,pm,an,ct,zP,rfl,lk,tR⟩,t,h⟩
theorem all_mk{l:PySem.W.OpenLaw}{K:PySem.W.Frag}(X:K.In h)(G:h.Ns mainGlobals mg)(W0:mg "law"=some (.ref fa))(d1:a8 K "together" kg ["worths"] f1 e1)(d2:a8 K "greatest" fF ["worths"] f2 e2)(d3:a8 K "worth_of" gV ["w","h"] f3 e3)(d4:a8 K "without" mJ ["w","word","on"] f4 e4)(d5:a8 K "alone" mQ ["w","word","on"] f5 e5)(d6:a8 K "with_entry" iT ["w","word","on","entry"] f6 e6)(d7:a8 K "with_row" mK ["w","word","row"] f7 e7)(d8:a8 K "ranked" jw ["w"] f8 e8)(d9:a8 K "units" uQ ["base","many"] f9 e9)(Vc:a8 K "figures" mO ["number","base","many"] Y4 Zo)(PN:a8 K "best_plain" iV ["w"] Xr US)(Vb:a8 K "fill" gY ["w","joined","chosen"] Y3 Zn)(Va:a8 K "by_width" gZ ["n"] Y2 Zm)(U9:a8 K "over_all" gW ["w","joined","chosen"] Y1 Zl)(U8:a8 K "first_plain" gX ["w","many"] Y0 Zk)(U7:a8 K "lead_plain" iU ["w"] YZ Zj)(U6:a8 K "first_by" mN ["best_of","w","many"] YY Zi)(U5:a8 K "lead_of" qo ["told"] YX Zh)(U4:a8 K "bests_of" mP ["best_of","tables"] YW Zg)(PM:a8 K "rank" A6 ["best"] Xq Zf)(U3:a8 K "parted" qm ["w","h"] YV Ze)(U2:a8 K "_law_begin" qt ["_law_script"] YU Zd)(U1:a8 K "_law_take" qr ["_law_state","_law_many"] YT Zc)(HP:a8 K "_law_same" ez ["_law_found","_law_due_here"] YS Zb)(U0:a8 K "_law_worth" qp ["_law_state","_law_way"] YR Za)(UZ:a8 K "_law_table" jy ["_law_state","_law_many"] YQ Y9)(EA:a8 K "_law_forests" cH ["_law_first","_law_last","_law_on"] YO Y8)(Ez:a8 K "_law_trees" jx ["_law_first","_law_last","_law_on"] YN Y7)(UY:a8 K "_law_sum" sU ["_law_w","_law_first","_law_part"] YM Y6)(UX:a8 K "_law_due" A7 ["_law_w"] YL Xu)(Tb:a8 K "law" IV ["_law_script"] YJ Xt)(t1:Xu.code= .ref cA)(t2:PySem.W.tabIn K "_law_due"=some (cA,Pt))(t3:PySem.W.codeHdIn K cA Pt=true)(z1:PySem.W.nsIn K mainGlobals "isinstance"=some none)(z2:PySem.W.nsIn K mainGlobals "len"=some none)(z3:PySem.W.nsIn K mainGlobals "enumerate"=some none)(z4:PySem.W.nsIn K mainGlobals "tuple"=some none)(z5:PySem.W.nsIn K mainGlobals "int"=some none)(z6:PySem.W.nsIn K mainGlobals "bool"=some none)(z7:PySem.W.nsIn K mainGlobals "range"=some none)(z8:PySem.W.nsIn K mainGlobals "list"=some none)(z9:PySem.W.nsIn K mainGlobals "divmod"=some none)(VF:PySem.W.nsIn K mainGlobals "repr"=some none)(VE:PySem.W.nsIn K mainGlobals "all"=some none)(VD:PySem.W.nsIn K mainGlobals "str"=some none)(VC:PySem.W.nsIn K mainGlobals "sum"=some none)(VB:PySem.W.nsIn K mainGlobals "zip"=some none)(VA:PySem.W.nsIn K mainGlobals "sorted"=some none)(Vz:PySem.W.nsIn K mainGlobals "max"=some none)(Vy:PySem.W.nsIn K mainGlobals "min"=some none)(Vx:PySem.W.nsIn K mainGlobals "dict"=some none):
  ∃fd:FuncData,(∀(s:Shared) (v:Value),BindsTo s fd ⟨[v],[]⟩ [("_law_script",v)])/\ ∀base:Heap,K.In base->base.Ns mainGlobals mg->aX l.prog w K mg base di 12 fa fd ["_law_script"] (sP K):=by
 have e:=W0.symm.trans (am0 X G Tb.a);cases e;have T:Txt mg:=⟨aa5 X G z1,aa5 X G z2,aa5 X G z3,aa5 X G z4,aa5 X G z5,aa5 X G z6,aa5 X G z7,aa5 X G z8,aa5 X G z9,aa5 X G VF,aa5 X G VE,aa5 X G VD,aa5 X G VC,aa5 X G VB,aa5 X G VA,aa5 X G Vz,aa5 X G Vy,aa5 X G Vx⟩
 refine⟨Xt,?_,fun base XB GB=>?_⟩
 . obtain⟨oc,od,kV,doc,pm,an,bJ,ct,zP,rfl,lk,tR⟩:=Tb.F.ex;exact fun s v=> .of_eq rfl
 have FC:=NS UX.F t1 t2 t3;have TF:=d1.has X G (P:=l.prog) (w:=w) (base:=base) (kM d1.F T);have hJ:iI l.prog w K mg base f1 1 ["worths"] (bT Ur):=⟨_,d1.F.kp,d1.b,(kM d1.F T).imp (wu Nc)⟩
 have hC:iI l.prog w K mg base f2 1 ["worths"] (bT Ve):=⟨_,d2.F.kp,d2.b,(tj d2.F T).imp (wu Oz)⟩
 have XX:=Va.has X G (P:=l.prog) (w:=w) (base:=base) (u0 Va.F T);have D3:=Vb.has X G (P:=l.prog) (w:=w) (base:=base) (FH Ar hJ hC Vb.F T XX);have OP:=U9.has X G (P:=l.prog) (w:=w) (base:=base) (uX Ar hJ hC U9.F T D3);have vT:=d9.has X G (P:=l.prog) (w:=w) (base:=base) (BK d9.F T);have rR:=d8.has X G (P:=l.prog) (w:=w) (base:=base) (yO d8.F T vT);have TK:=Vc.has X G (P:=l.prog) (w:=w) (base:=base) (uZ Vc.F T);have nX:=d3.has X G (P:=l.prog) (w:=w) (base:=base) (uU d3.F T TF);have NB:=U2.has X G (P:=l.prog) (w:=w) (base:=base) (BQ U2.F T);have DZ:=U1.has X G (P:=l.prog) (w:=w) (base:=base) (BL U1.F T);have Ld:=U0.has X G (P:=l.prog) (w:=w) (base:=base) (BJ U0.F T DZ);have Le:=UZ.has X G (P:=l.prog) (w:=w) (base:=base) (BM UZ.F T DZ Ld);have Vl:=d7.has X G (P:=l.prog) (w:=w) (base:=base) (uW d7.F T);have XS:=d6.has X G (P:=l.prog) (w:=w) (base:=base) (qG d6.F T Vl);have XR:=d4.has X G (P:=l.prog) (w:=w) (base:=base) (uV d4.F T XS);have XY:=d5.has X G (P:=l.prog) (w:=w) (base:=base) (BR d5.F T Vl);have hP:iI l.prog w K mg base Xr 4 ["w"] (bT x8):=⟨_,PN.F.kp,PN.b,FJ (am0 X G d1.a) (am0 X G d2.a) PN.F T OP rR TK nX⟩
 have hR:iI l.prog w K mg base Xq 1 ["best"] (bT wI):=⟨_,PM.F.kp,PM.b,FE PM.F T⟩
 have Lf:=U4.has X G (P:=l.prog) (w:=w) (base:=base) (BP hP U4.F T);have rS:=U3.has X G (P:=l.prog) (w:=w) (base:=base) (yP U3.F T XR XY);have nZ:=U6.has X G (P:=l.prog) (w:=w) (base:=base) (uY hP (am0 X G PM.a) hR U6.F T Lf rS);have D1:=U8.has X G (P:=l.prog) (w:=w) (base:=base) (oA (am0 X G PN.a) U8.F T nZ);have rT:=U5.has X G (P:=l.prog) (w:=w) (base:=base) (yQ U5.F T);have OQ:=U7.has X G (P:=l.prog) (w:=w) (base:=base) (qH U7.F T rT D1);have Vm:=HP.has X G (P:=l.prog) (w:=w) (base:=base) (BO HP.F T);have XW:=HP.has X G (P:=l.prog) (w:=w) (base:=base) (o8 (A0:=Ab) HP.F T Vm);have XU:=HP.has X G (P:=l.prog) (w:=w) (base:=base) (o8 HP.F T XW);have P0:=HP.has X G (P:=l.prog) (w:=w) (base:=base) (BN HP.F T XU);have TH:=UY.has X G (P:=l.prog) (w:=w) (base:=base) (FF UY.F T);have OW:=EA.has X G (P:=l.prog) (w:=w) (base:=base) (tm EA.F T);have TC:=Ez.has X G (P:=l.prog) (w:=w) (base:=base) (g8 (m:=1) (k:=1) (by decide) Ez.F T OW);have OV:=EA.has X G (P:=l.prog) (w:=w) (base:=base) (fS (m:=1) (k:=2) (by decide) EA.F T TC OW);have Tz:=Ez.has X G (P:=l.prog) (w:=w) (base:=base) (g8 (m:=2) (k:=3) (by decide) Ez.F T OV);have OU:=EA.has X G (P:=l.prog) (w:=w) (base:=base) (fS (m:=2) (k:=4) (by decide) EA.F T Tz OV);have Tx:=Ez.has X G (P:=l.prog) (w:=w) (base:=base) (g8 (m:=3) (k:=5) (by decide) Ez.F T OU);have OT:=EA.has X G (P:=l.prog) (w:=w) (base:=base) (fS (m:=3) (k:=6) (by decide) EA.F T Tx OU);have Tw:=Ez.has X G (P:=l.prog) (w:=w) (base:=base) (g8 (m:=4) (k:=7) (by decide) Ez.F T OT);have TJ:=EA.has X G (P:=l.prog) (w:=w) (base:=base) (fS (m:=4) (k:=8) (by decide) EA.F T Tw OT);have Tu:=Ez.has X G (P:=l.prog) (w:=w) (base:=base) (g8 (m:=5) (k:=9) (by decide) Ez.F T TJ);have TL:=UX.has X G (P:=l.prog) (w:=w) (base:=base) (FG (by decide) FC T Tu TH);exact JB Tb.F T NB DZ Le TL D1 OQ Vm P0
theorem walk{l:PySem.W.OpenLaw}{q:Program}{loose:List Str}{XP:(Str->Option Value)->Heap->Prop}{YP:World->Heap->Prop}{d:DefRec}{K:Params->PySem.W.Frag}(hn:l.most=some 63)(NH:d.params.defaults= [])
  (hY: ∀(w:World) (h:Heap),YP w h->(K w.params).In h)
  (NN: ∀w:World,PySem.W.noTabs (K w.params)=true) (NM: ∀w:World,∃d c P,(recsOf q).find? (fun e=>e.name==("_law_due":Str))=some d/\PySem.W.tabIn (K w.params) "_law_due"=some (c,P))
  (F: ∀(w:World) (mg:Str->Option Value) (fa:Addr) (h:Heap),(K w.params).In h->h.Ns mainGlobals mg->mg d.name=some (.ref fa)->
   ∃fd:FuncData,(∀(s:Shared) (u:Value),BindsTo s fd ⟨[u],[]⟩ [("_law_script",u)])/\ ∀base:Heap,(K w.params).In base->base.Ns mainGlobals mg->aX l.prog w (K w.params) mg base di 12 fa fd ["_law_script"] (sP (K w.params))):
  PySem.W.WalkO q loose XP YP l.row.toRowW d [] (fun f vs=>PySem.call f vs):=
 L2.EJ (n:=63) (k:=12) (x:="_law_script") (CX:=fun _=>di) (sp:=fun w=>sP (K w.params)) hn (by decide) NH ⟨rfl,by decide,by decide,rfl⟩ hY F (fun _ _ a ns hl _ hS=>⟨a,ns,rfl,hS,hl,fun _=>rfl⟩) (fun _ _ _ _ _ z=>z) NN (fun w x hx=>by rw[ZM.mp hx];exact NM w) fun w x hx y hy _ _ _ _ _=>by rw[ZM.mp hx,ZM.mp hy]
end bG
def bG.q'v:PySem.Program:={PySem.Challenge.rw_hungwords_k18_first_plain_ones.row.prog with main:={PySem.Challenge.rw_hungwords_k18_first_plain_ones.row.prog.main with body:=([1,2,3,4,5,6,7,8,9,10,12,13,14,15,17,18,19,20,21,22,23,25,26,27,28,29,30,31,32,33,34,35]:List Nat).filterMap fun i=>PySem.Challenge.rw_hungwords_k18_first_plain_ones.row.prog.main.body[i]?}}
open PySem PySem.W PyProof.Rows
local macro_rules
|`(tactic|o_law)=>`(tactic|refine holds_law (by kernel_rfl) fun said=>?_)
local macro_rules
|`(tactic|o_head $H)=>`(tactic|refine holds_open (q:=bG.q'v) (loose:=[]) (Xt:=fun s=>xlAt bG.q'v [] s && recOk (RowW.records (OpenRow.toRowW (OpenLaw.row PySem.Challenge.rw_hungwords_k18_first_plain_ones))) s) (XP:=XL bG.q'v []) (Yf:=Hook.obs $H) (Ya:=Hook.val $H) (YP:=Hook.says $H) (N:=2106) (by intro w;kernel_rfl) (Hook.of $H) (Hook.keeps $H) (fun s e=>xl_of s (Bool.and_eq_true_iff.mp e).1) XL.keeps (by rfl) (by rfl) (by rfl) (fun s e=>recFacts_of (Bool.and_eq_true_iff.mp e).2) (by rfl) (by first | assumption | decide+kernel) (by decide+kernel) ⟨rfl,rfl,rfl,rfl,rfl,by decide+kernel⟩ ?hw ?hc)
set_option maxRecDepth 100000 in
set_option maxHeartbeats 0 in
theorem PySem.Challenge.cw_hungwords_k18_first_plain_ones_holds : PySem.Challenge.rw_hungwords_k18_first_plain_ones.Holds := by
 w_on;o_law;k_head;(case hw=>w_witness2)
 k_fill
 refine bG.walk (l:=PySem.Challenge.rw_hungwords_k18_first_plain_ones) rfl rfl (fun w h Y=>PySem.W.km_in_of Y) ?NT ?TB ?F
 case NT=>intro w;first | exact rfl | kernel_rfl
 case TB=>
  intro w;refine' bG.L7 ?hd (bG.AE ?a ?l ?e ?l2 ?h);all_goals try (first | k_is | exact rfl | kernel_rfl)
 case F=>
  intro w mg fa h KX G Nt;refine' bG.all_mk KX G Nt (bG.aP ?_ ?_ ?_ ?_ ?_) (bG.aP ?_ ?_ ?_ ?_ ?_) (bG.aP ?_ ?_ ?_ ?_ ?_) (bG.aP ?_ ?_ ?_ ?_ ?_) (bG.aP ?_ ?_ ?_ ?_ ?_) (bG.aP ?_ ?_ ?_ ?_ ?_) (bG.aP ?_ ?_ ?_ ?_ ?_) (bG.aP ?_ ?_ ?_ ?_ ?_) (bG.aP ?_ ?_ ?_ ?_ ?_) (bG.aP ?_ ?_ ?_ ?_ ?_) (bG.aP ?_ ?_ ?_ ?_ ?_) (bG.aP ?_ ?_ ?_ ?_ ?_) (bG.aP ?_ ?_ ?_ ?_ ?_) (bG.aP ?_ ?_ ?_ ?_ ?_) (bG.aP ?_ ?_ ?_ ?_ ?_) (bG.aP ?_ ?_ ?_ ?_ ?_) (bG.aP ?_ ?_ ?_ ?_ ?_) (bG.aP ?_ ?_ ?_ ?_ ?_) (bG.aP ?_ ?_ ?_ ?_ ?_) (bG.aP ?_ ?_ ?_ ?_ ?_) (bG.aP ?_ ?_ ?_ ?_ ?_) (bG.aP ?_ ?_ ?_ ?_ ?_) (bG.aP ?_ ?_ ?_ ?_ ?_) (bG.aP ?_ ?_ ?_ ?_ ?_) (bG.aP ?_ ?_ ?_ ?_ ?_) (bG.aP ?_ ?_ ?_ ?_ ?_) (bG.aP ?_ ?_ ?_ ?_ ?_) (bG.aP ?_ ?_ ?_ ?_ ?_) (bG.aP ?_ ?_ ?_ ?_ ?_) (bG.aP ?_ ?_ ?_ ?_ ?_) (bG.aP ?_ ?_ ?_ ?_ ?_) ?_ (bG.AE ?_ ?_ ?_ ?_ ?_) ?_ ?_ ?_ ?_ ?_ ?_ ?_ ?_ ?_ ?_ ?_ ?_ ?_ ?_ ?_ ?_ ?_ ?_ ?_;all_goals try (first | k_is | exact rfl | kernel_rfl | (intro us hl;first | (obtain⟨a,rfl⟩:=List.length_eq_one_iff.mp hl;rfl) | (match us,hl with | [_,_],_=>rfl) | (match us,hl with | [_,_,_],_=>rfl) | (match us,hl with | [_,_,_,_],_=>rfl)))
end
