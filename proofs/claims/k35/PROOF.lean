import PyProof.Rows.All
import Wide.All
import OpenK.AllK
import Wide.FinOn
import Lean
import PyProof.EqAt
import PyProof.EqKinds
import PyProof.TupleCall
import PyProof.ListRange
import PyProof.NeKinds
import PyProof.ZipIter
import PyProof.FactsAll.tuple_2
import PyProof.FactsAll.tuple_3
import PyProof.Rows.SortShell
import PyProof.Rows.SortWalk
import PyProof.Rows.MinMaxN
import PyProof.AttrMissHeap
import PyProof.ListNew
import PyProof.FactsAll.dict_1
import KE.KDictSum
import PyProof.SetKind
import PyProof.Rows.SetFrom
import PyProof.CollectIter
import PyProof.Rows.TopTwo
import KE.KIsAll
import KE.KTryMore
import PyProof.ExcArgsOwn
import PyProof.NsDelKeeps
import KE.KSortTup
import KE.KRevIter
import KE.KRevSl
import PyProof.Rows.IntBool
import PyProof.TupleOfSeq
import KE.KIntText
import PyProof.StrWalks
import PyProof.StrCalls2
import PyProof.StrBlock2
import PyProof.FString5
import PyProof.StrLawsTight
import PyProof.StrLawsChain
import PyProof.Rows.SortStr
import PyProof.StationsW
import PyProof.Rows.Catch
import PyProof.ExcClass3
import PyProof.ExcInit
import PyProof.Ns1
import PyProof.DictCompW
import PyProof.ListMulRoad
import PyProof.PureStr
import KE.KPairComp
import PyProof.Rows.TupTab
import PySem.Challenge.RW_hungwords_k35_the_best_still_to_be_had
set_option Elab.async false
set_option linter.all false
set_option maxRecDepth 100000
set_option maxHeartbeats 8000000
abbrev Zd:=@PySem.wpAny_bind
abbrev Ze:=@List.length_map
abbrev Zf:=@PySem.wpAny_pure
abbrev Zg:=@List.getElem?_eq_getElem
abbrev Zh:=@PySem.Heap.get?_push_of_some
abbrev Zi:=@List.not_mem_nil
abbrev Zj:=@Nat.le_refl
abbrev Zk:=@PyProof.Rows.wpS_bind
abbrev Zl:=@List.mem_singleton
abbrev Zm:=@PyProof.Rows.wpS_pure
abbrev Zn:=@List.mem_cons_of_mem
abbrev Zo:=@List.getElem?_map
abbrev Zp:=@Bool.false_ne_true
abbrev Zq:=@List.getElem?_eq_some_iff
abbrev Zr:=@List.getElem?_set_ne
abbrev Zs:=@PySem.Heap.get?_push_size
abbrev Zt:=@beq_iff_eq
abbrev Zu:=@List.mem_cons_self
abbrev Zv:=@Array.length_toList
abbrev Zw:=@List.mem_append_right
abbrev Zx:=@List.map_cons
abbrev Zy:=@List.length_append
abbrev Zz:=@List.mem_append
abbrev ZA:=@List.map_append
abbrev ZC:=@List.size_toArray
abbrev ZD:=@PySem.Heap.lt_size
abbrev ZE:=@Nat.le_trans
abbrev ZF:=@List.mem_map
abbrev ZG:=@List.length_cons
abbrev ZH:=@List.getElem?_set_self
abbrev ZI:=@List.getElem?_replicate
abbrev ZJ:=@Nat.lt_of_lt_of_le
abbrev ZK:=@List.map_congr_left
abbrev ZL:=@of_decide_eq_true
abbrev ZM:=@List.length_range'
abbrev ZN:=@List.length_range
abbrev ZO:=@decide_eq_false
abbrev ZP:=@List.map_map
abbrev ZQ:=@List.length_set
abbrev ZR:=@List.getElem?_append_left
abbrev ZS:=@List.mem_cons
abbrev ZT:=@List.mem_of_getElem?
abbrev ZU:=@PySem.wpAny_mono
abbrev ZV:=@Nat.zero_le
abbrev ZW:=@List.getElem?_append_right
abbrev ZX:=@List.mem_append_left
abbrev ZY:=@Nat.ne_of_lt
abbrev ZZ:=@decide_eq_true
abbrev Z0:=@List.append_assoc
abbrev Z1:=@of_decide_eq_false
abbrev Z2:=@Array.getElem?_eq_getElem
abbrev Z3:=@List.lookup_cons
abbrev Z4:=@List.all_eq_true
abbrev Z6:=@PySem.W.mg_none_of
abbrev Z7:=@Nat.lt_irrefl
abbrev Z8:=@Array.toList_append
abbrev Z9:=@PySem.wpAny_newObj_type
abbrev aa0:=@List.flatten_cons
abbrev aa1:=@Bool.false_eq_true
abbrev aa2:=@Int.mul_le_mul_of_nonneg_right
abbrev aa3:=@PyProof.Rows.wpS_forRange
abbrev aa4:=@Array.getElem?_toList
abbrev aa5:=@List.getElem_of_mem
abbrev aa6:=@congrArg
abbrev aa7:=@PySem.wpAny_loadPart'
abbrev aa8:=@Bool.and_eq_true
abbrev aa9:=@PySem.wpAny_holding
abbrev ab0:=@PySem.mem_of_lookup
abbrev ab1:=@List.filter_eq_self
abbrev ab2:=@PySem.Heap.size_push
abbrev ab3:=@List.mem_range'_1
abbrev ab4:=@PySem.wpAny_call_entry
abbrev ab5:=@Int.toNat_natCast
abbrev ab6:=@PySem.wpAny_standAt
abbrev ab7:=@List.forIn_cons
abbrev ab8:=@List.append_nil
abbrev ab9:=@List.mem_flatMap
abbrev ac0:=@beq_eq_false_iff_ne
abbrev ac1:=@List.replicate_succ
abbrev ac2:=@List.getElem?_eq_none
abbrev ac3:=@PyProof.Rows.callWith_type1
abbrev ac4:=@List.nodup_append
abbrev ac5:=@PyProof.Rows.wpS_mono
abbrev ac6:=@PySem.wpAny_callSpecial?_slot
abbrev ac7:=@List.nodup_nil
abbrev ac8:=@PySem.PassesOwn.never
abbrev ac9:=@List.forall_mem_cons
abbrev ad0:=@List.getElem?_range
abbrev ad1:=@PySem.wpAny_rule
abbrev ad2:=@PySem.wpAny_seqItems
abbrev ad3:=@List.mem_range
abbrev ad4:=@List.length_replicate
abbrev ad5:=@PySem.wpAny_field
abbrev ad6:=@Int.le_refl
abbrev ad7:=@PySem.W.kia_one
abbrev ad8:=@if_false
abbrev ad9:=@List.take_length
abbrev ae0:=@Array.perm_iff_toList_perm
abbrev ae1:=@Option.map_eq_some_iff
abbrev ae2:=@PySem.Heap.get?_update_other
abbrev ae3:=@List.ext_getElem?
abbrev ae4:=@List.find?_cons
abbrev ae5:=@List.pairwise_iff_getElem
abbrev ae6:=@List.eq_nil_iff_forall_not_mem
abbrev ae7:=@List.take_append_drop
abbrev ae8:=@List.length_take
abbrev ae9:=@List.getElem_mem
abbrev af0:=@PySem.wpAny_pyIter_tuple
abbrev af1:=@Bool.not_true
abbrev af2:=@List.getElem?_range'
abbrev af3:=@PySem.wpAny_truthy_bool
abbrev af4:=@List.nodup_cons
abbrev af5:=@Int.le_of_lt
abbrev af6:=@PyProof.Rows.wpS_modify
abbrev af7:=@PySem.wpAny_Call_Name_kw
abbrev af8:=@Nat.lt_of_le_of_lt
abbrev af9:=@Array.size_extract
abbrev ag0:=@List.length_filter_le
abbrev ag1:=@PySem.Heap.get?_update_self
abbrev ag2:=@List.getLastD_eq_getLast?
abbrev ag3:=@PyProof.Rows.slot_tuple_getitem
abbrev ag4:=@Int.add_mul
abbrev ag5:=@PySem.pushCells_keeps
abbrev ag6:=@List.mem_filter
abbrev ag7:=@List.length_nil
abbrev ag8:=@Nat.lt_succ_of_lt
abbrev ag9:=@List.any_cons
abbrev ah0:=@PySem.wpAny_typeNameOfWhole_keyiter
abbrev ah1:=@List.length_zipWith
abbrev ah2:=@PySem.F.slot_dict_keyiterator_next
abbrev ah3:=@PySem.wpAny_setField_rec
abbrev ah4:=@PyProof.Rows.assignInOrder_cons
abbrev ah5:=@List.pairwise_cons
abbrev ah6:=@PySem.Calls.spliced_cons
abbrev ah7:=@PySem.wpAny_specialOf
abbrev ah8:=@PySem.wpAny_passesOwn
abbrev ah9:=@Bool.eq_iff_iff
abbrev ai0:=@PySem.F.slot_tuple_iterator_next
abbrev ai1:=@PySem.wpAny_pyIter_list
abbrev ai2:=@PySem.wpAny_dictEntries
abbrev ai3:=@List.take_add_one
abbrev ai4:=@Array.toList_push
abbrev ai5:=@List.range'_append_1
abbrev ai6:=@List.length_dropLast
abbrev ai7:=@List.getElem?_mapIdx
abbrev ai8:=@PySem.Around.under_plainId
abbrev ai9:=@List.forIn_nil
abbrev aj0:=@Nat.ne_of_gt
abbrev aj1:=@decide_eq_decide
abbrev aj2:=@List.length_drop
abbrev aj3:=@PySem.F.plain_max_loop
abbrev aj4:=@PySem.wpAny_typeNameOf_keyiter
abbrev aj5:=@PySem.wpAny_comprehension_free
abbrev aj6:=@List.range'_eq_map_range
abbrev aj7:=@PySem.Heap.SameBut.update
abbrev aj8:=@decide_eq_false_iff_not
abbrev aj9:=@PySem.call_meets
abbrev ak0:=@PySem.codeAny_builtin
abbrev ak1:=@PySem.IsiPair.tupleOf
abbrev ak2:=@List.mem_filterMap
abbrev ak3:=@List.length_mapIdx
abbrev ak4:=@List.filter_append
abbrev ak5:=@PySem.sizeLine_eq
abbrev ak6:=@List.zipWith_cons_cons
abbrev ak7:=@Nat.le_of_succ_le
abbrev ak8:=@List.flatMap_cons
abbrev ak9:=@PyProof.Rows.wpS_get
abbrev al0:=@if_true
abbrev al1:=@PySem.codeAny_mono
abbrev al2:=@List.dropLast_sublist
abbrev al3:=@List.dropLast_concat_getLast
abbrev al4:=@Int.not_lt
abbrev al5:=@PySem.wpAny_isInstance
abbrev al6:=@Option.getD_some
abbrev al7:=@List.range'_succ
abbrev al8:=@List.mem_flatten
abbrev al9:=@List.ext_getElem
abbrev am0:=@List.any_eq_true
abbrev am1:=@Array.toList_inj
abbrev am2:=@Nat.mul_le_mul_right
abbrev am3:=@List.pairwise_append
abbrev am4:=@PySem.plainId_quiet
abbrev am5:=@Array.getElem?_eq_some_iff
abbrev am6:=@PySem.wpAny_letGo
abbrev am7:=@Int.one_mul
abbrev am8:=@List.drop_eq_getElem_cons
abbrev am9:=@Nat.sub_zero
abbrev an0:=@Nat.add_zero
abbrev an1:=@PySem.tupleKind_room_in1
abbrev an2:=@PySem.Obj.data_mapFields
abbrev an3:=@Int.emod_lt_of_pos
abbrev an4:=@PySem.F.args_tuple_add_2
abbrev an5:=@List.eq_of_mem_replicate
abbrev an6:=@PySem.wpAny_bindName
abbrev an7:=@List.take_zero
abbrev an8:=@List.drop_zero
abbrev an9:=@PySem.F.plainAttrs_list
abbrev ao0:=@PySem.F.entry_tuple_add
abbrev ao1:=@List.pairwise_singleton
abbrev ao2:=@Nat.lt_succ_of_le
abbrev ao3:=@List.reverse_cons
abbrev ao4:=@List.pairwise_map
abbrev ao5:=@PySem.Heap.get?_push_ne
abbrev ao6:=@PySem.Calls.spliced_nil
abbrev ao7:=@Nat.le_succ
abbrev ao8:=@PySem.wpAny_attempt
abbrev ao9:=@List.all_cons
namespace L2
open PySem PySem.Spec PyProof.Rows
abbrev Key:=Sum Int Str
noncomputable def oF:Key->Value->Bool
 | .inl k,v=>Value.isInt k v
 | .inr x,v=>Value.isStrOf x v
noncomputable def RA(w:World):Key->Int
 | .inl k=>hashInt k
 | .inr x=>hashStr w x
theorem ba: ∀{k:Key} {v:Value},oF k v=true->(∃i t,k=Sum.inl i/\v=Value.int i t)\/(∃x t,k=Sum.inr x/\v=Value.str x t)
 | .inl i,v,h=>by
  obtain⟨t,e⟩:=Value.isInt_shape (k:=i) (v:=v) h;exact .inl ⟨i,t,rfl,e⟩
 | .inr x,v,h=>by
  obtain⟨t,e⟩:=Value.isStrOf_shape (x:=x) (v:=v) h;exact .inr ⟨x,t,rfl,e⟩
theorem yO(i:Int)(t:Tok):oF (.inl i) (.int i t)=true:=by simp [oF,Value.isInt]
theorem yN(x:Str)(t:Tok):oF (.inr x) (.str x t)=true:=by simp [oF,Value.isStrOf]
theorem Kh(a b:Int):decide ((Sum.inl a:Key)=Sum.inl b)=(a==b):=by
 by_cases e:a=b
 . subst e;simp
 . have h: ¬(Sum.inl a:Key)=Sum.inl b:=fun q=>e (Sum.inl.inj q);rw[ZO h];exact(ac0.mpr e).symm
theorem Kd(a b:Str):decide ((Sum.inr a:Key)=Sum.inr b)=decide (a=b):=by
 by_cases e:a=b
 . subst e;simp
 . have h: ¬(Sum.inr a:Key)=Sum.inr b:=fun q=>e (Sum.inr.inj q);rw[ZO h,ZO e]
theorem Kg(a:Int)(b:Str):decide ((Sum.inl a:Key)=Sum.inr b)=false:=ZO (fun q=>nomatch q)
theorem Ke(a:Str)(b:Int):decide ((Sum.inr a:Key)=Sum.inl b)=false:=ZO (fun q=>nomatch q)
noncomputable def aS(prog:Program)(w:World):PySem.KeyKind prog w Key where
 is:=oF
 hash:=RA w
 inj:=fun v a b ha hb=>by
  rcases ba ha with ⟨i,t,rfl,rfl⟩ | ⟨x,t,rfl,rfl⟩
  . rcases ba hb with ⟨j,u,rfl,e⟩ | ⟨y,u,rfl,e⟩
    . injection e with e1 _;rw[e1]
    . exact nomatch e
  . rcases ba hb with ⟨j,u,rfl,e⟩ | ⟨y,u,rfl,e⟩
    . exact nomatch e
    . injection e with e1 _;rw[e1]
 byValue:=fun k v h=>by
  rcases ba h with ⟨i,t,rfl,rfl⟩ | ⟨x,t,rfl,rfl⟩ <;> rfl
 pyHash:=fun hv h=>by
  rcases ba hv with ⟨i,t,rfl,rfl⟩ | ⟨x,t,rfl,rfl⟩
  . exact wpAny_pyHash_int h
  . exact wpAny_pyHash_str h
 eqBool:=fun hu hv h=>by
  rcases ba hu with ⟨i,t,rfl,rfl⟩ | ⟨x,t,rfl,rfl⟩
  . rcases ba hv with ⟨j,u,rfl,rfl⟩ | ⟨y,u,rfl,rfl⟩
    . rw[Kh] at h;exact wpAny_eqBool_int h
    . rw[Kg] at h;exact SeqAt.EqAt.int_str i t y u _ _ _ _ h
  . rcases ba hv with ⟨j,u,rfl,rfl⟩ | ⟨y,u,rfl,rfl⟩
    . rw[Ke] at h;exact SeqAt.EqAt.str_int x t j u _ _ _ _ h
    . rw[Kd] at h;exact wpAny_eqBool_str h
 «strs» :=fun k x t v h=>by
  rcases ba h with ⟨i,u,rfl,e⟩ | ⟨y,u,rfl,e⟩
  . exact nomatch e
  . injection e with e1 _
    subst e1;cases v <;> rfl
theorem sF(prog:Program)(w:World)(i:Int)(t:Tok):(aS prog w).is (.inl i) (.int i t)=true:=yO i t
theorem sE(prog:Program)(w:World)(x:Str)(t:Tok):(aS prog w).is (.inr x) (.str x t)=true:=yN x t
inductive V where
 | aN | bl (b:Bool) | int (i:Int) | str (x:Str) | zU (b:Array UInt8) | K5 (b:UInt64) | ref (a:Addr) | ty (n:String)
 deriving DecidableEq
def RelV:V->Value->Prop
 | .aN,u=>u=Value.none
 | .bl b,u=>u=Value.bool b
 | .int i,u=> ∃t,u=Value.int i t
 | .str x,u=> ∃t,u=Value.str x t
 | .zU b,u=> ∃t,u=Value.bytes b t
 | .K5 b,u=> ∃t,u=Value.float b t
 | .ref a,u=>u=Value.ref a
 | .ty n,u=>u=Value.type n
abbrev Vals:List V->List Value->Prop:=Paired RelV
theorem Vals.length(r:Vals xs us):xs.length=us.length:=Paired.length r
theorem Vals.get: ∀{xs:List V} {us:List Value} {i:Nat} {x:V},Vals xs us->xs[i]?=some x-> ∃u,us[i]?=some u/\RelV x u
 | _,_,_,_,.nil,e=>by simp at e
 | _,_,0,_,.cons r _,e=>by simp at e;subst e;exact⟨_,rfl,r⟩
 | _,_,i+1,x,.cons _ t,e=>by
  obtain⟨u,h1,h2⟩:=Vals.get (i:=i) (x:=x) t (by simpa using e);exact⟨u,by simpa using h1,h2⟩
theorem Vals.set(r:RelV x u): ∀{xs:List V} {us:List Value} (i:Nat),Vals xs us->Vals (xs.set i x) (us.set i u)
 | _,_,_,.nil=> .nil
 | _,_,0,.cons _ t=> .cons r t
 | _,_,i+1,.cons q t=> .cons q (Vals.set r i t)
theorem Vals.append: ∀{xs ys:List V} {us ws:List Value},Vals xs us->Vals ys ws->Vals (xs++ys) (us++ws)
 | _,_,_,_,.nil,s=>s
 | _,_,_,_,.cons r t,s=> .cons r (Vals.append t s)
theorem Vals.take: ∀{xs:List V} {us:List Value} (n:Nat),Vals xs us->Vals (xs.take n) (us.take n)
 | _,_,0,_=> .nil
 | _,_,_+1,.nil=> .nil
 | _,_,n+1,.cons r t=> .cons r (Vals.take n t)
theorem Vals.drop: ∀{xs:List V} {us:List Value} (n:Nat),Vals xs us->Vals (xs.drop n) (us.drop n)
 | _,_,0,r=>r
 | _,_,_+1,.nil=> .nil
 | _,_,n+1,.cons _ t=>Vals.drop n t
def kH:Option V->Option Value->Prop
 | some v,some u=>RelV v u
 | none,none=>True
 | _,_=>False
def KV{κ:Type}:List (κ × V)->List (κ × Value)->Prop:=Paired fun(p:κ × V) (q:κ × Value)=>p.1=q.1/\RelV p.2 q.2
noncomputable def kV:Key->V
 | .inl i=> .int i
 | .inr x=> .str x
def nz(h:Heap)(a:Addr)(items:Array Value):Prop:= ∃o,h.get? a=some o/\o.cls= .type "tuple"/\o.dict=none/\ ∃n,o.data= .seq items n
theorem nz.tup{h:Heap}{a:Addr}{items:Array Value}(x:nz h a items):IsTup h a items:=let ⟨o,e,c,_,d⟩:=x;⟨o,e,c,d⟩
theorem nz.lt(x:nz h a items):a < h.objs.size:=let ⟨_,e,_⟩:=x;ZD e
theorem nz.new(h:Heap)(items:Array Value):nz (h.push {cls:= .type "tuple",data:= .seq items}) h.objs.size items:=⟨_,Zs _ rfl,rfl,rfl,_,rfl⟩
inductive HO where
  | lst (xs:List V)
  | tup (xs:List V)
  | dK (aH:List (Key × V)) | dT (aH:List (List Key × V))
  | set (S:Int->Bool) (n:Nat)
  | ins (C dx:Addr) (fs:List (Str × V))
  | own (x:Addr)
  | xd (fs:List (Str × V))
  | met (f x:Addr)
  | ig (lo hi:Int)
  | ue (o:Obj) (u:HO)
  | IY (ps:Array Value)
  | ext (φ:Heap->Prop)
abbrev Hp:=Addr->Option HO
noncomputable def upd(H:Hp)(a:Addr)(o:HO):Hp:=fun b=>if b=a then some o else H b
theorem ag:upd H a o a=some o:=by unfold upd;rw[if_pos rfl]
theorem ah(h:b≠a):upd H a o b=H b:=by unfold upd;rw[if_neg h]
theorem wU{H:Hp}(h:H a=some o)(h':H b=some u)(d:o≠u):a≠b:=by
 intro e;subst e;rw[h] at h';exact d (Option.some.inj h')
theorem aj{H:Hp}(h:H a=some o)(h':H b=none):a≠b:=by
 intro e;subst e;rw[h] at h';cases h'
section
variable (P:Program) (w:World)
def aQ(H:Hp)(h:Heap)(a:Addr):HO->Prop
 | .lst xs=>xs.length<=sizeLine/\ ∃(ao:List Value) (n:Nat),Vals xs ao/\h.get? a=some {cls:= .type "list",data:= .seq ao.toArray n}
 | .tup xs=>xs.length<=sizeLine/\ ∃ao:List Value,Vals xs ao/\nz h a ao.toArray
 | .dK aH=>aH.length<=sizeLine/\(a==sysModules)=false/\ ∃vs,KV aH vs/\h.DictOf (aS P w) a vs
 | .dT aH=>aH.length<=sizeLine/\(a==sysModules)=false/\ ∃xs:List (List Key × Addr × Value),
   Paired (fun(p:List Key × V) (q:List Key × Addr × Value)=>p.1=q.1/\H q.2.1=some (.tup (p.1.map kV))/\RelV p.2 q.2.2) aH xs/\
   ∃o es ep,h.get? a=some o/\o.ExactDict/\o.data= .dict es ep/\es.toList=xs.map (entryOfKey (tupleKind (aS P w)))/\(xs.map (·.1)).Nodup
 | .set S n=>h.SetOf (intKind P w) a S n
 | .ins C dx fs=>H dx=some (.own a)/\fs.length<=1000/\dx≠a/\h.get? a=some (PySem.W.instObj C dx)/\
   ∃mA,h.Ns1 dx mA/\(∀f,kH (fs.lookup f) (mA f))/\PySem.Within mA (fs.map (·.1))
 | .own _=> ∃o,h.get? a=some o
 | .xd fs=> ∃mA,h.Ns1 a mA/\ ∀f,kH (fs.lookup f) (mA f)
 | .ig lo hi=> ∃t u v,h.get? a=some {cls:= .type "range",data:= .fields #[.int lo t,.int hi u,.int 1 v]}
 | .ue o u=>h.get? a=some o/\aQ H h a u
 | .IY ps=>h.get? a=some {cls:= .none,data:= .fields ps}
 | .met f x=>h.get? a=some (PySem.W.methodObj (.ref f) (.ref x))
 | .ext φ=>φ h/\(∃o,h.get? a=some o)/\ ∀h1 h2:Heap,φ h1->(∀o,h1.get? a=some o->h2.get? a=some o)->φ h2
def gm(H:Hp)(h:Heap):Prop:= ∀a o,H a=some o->aQ P w H h a o
end
theorem aQ.lt(x:aQ P w H h a o):a < h.objs.size:=by
 cases o with
 | lst xs=>obtain⟨_,_,_,_,e⟩:=x;exact ZD e
 | tup xs=>obtain⟨_,_,_,p⟩:=x;exact p.lt
 | dK aH=>obtain⟨_,_,_,_,o,_,_,e,_⟩:=x;exact ZD e
 | dT aH=>obtain⟨_,_,_,_,o,_,_,e,_⟩:=x;exact ZD e
 | set S n=>obtain⟨o,_,_,_,e,_⟩:=x;exact ZD e
 | ins C dx fs=>obtain⟨_,_,_,e,_⟩:=x;exact ZD e
 | own y=>obtain⟨_,e⟩:=x;exact ZD e
 | xd fs=>obtain⟨_,⟨_,_,_,e,_⟩,_⟩:=x;exact ZD e
 | ig lo hi=>obtain⟨_,_,_,e⟩:=x;exact ZD e
 | ue ob u=>obtain⟨e,_⟩:=x;exact ZD e
 | IY ps=>exact ZD (show h.get? a=some _ from x)
 | met f y=>exact ZD (show h.get? a=some _ from x)
 | ext φ=>obtain⟨_,⟨_,e⟩,_⟩:=x;exact ZD e
theorem Paired.J4: ∀{l₁:List α} {l₂:List β},Paired F l₁ l₂->(∀a b,F a b->G a b)->Paired G l₁ l₂
 | _,_,.nil,_=> .nil
 | _,_,.cons r t,f=> .cons (f _ _ r) (Paired.J4 t f)
theorem aQ.uA(x:aQ P w H h a o)(k: ∀b u,(b=a\/H b=some (.own a))->h.get? b=some u->h'.get? b=some u)
  (ho: ∀b,H b=some (.own a)->H' b=some (.own a)) (ht: ∀b xs,H b=some (.tup xs)->H' b=some (.tup xs)):aQ P w H' h' a o:=by
 induction o with
 | lst xs=>obtain⟨z,ao,n,r,e⟩:=x;exact⟨z,ao,n,r,k _ _ (.inl rfl) e⟩
 | tup xs=>obtain⟨z,ao,r,ob,e,c⟩:=x;exact⟨z,ao,r,ob,k _ _ (.inl rfl) e,c⟩
 | dK aH=>obtain⟨z,y,vs,r,ob,es,ep,e,c⟩:=x;exact⟨z,y,vs,r,ob,es,ep,k _ _ (.inl rfl) e,c⟩
 | dT aH=>
  obtain⟨z,y,xs,r,ob,es,ep,e,c⟩:=x;exact⟨z,y,xs,Paired.J4 r fun p q z=>⟨z.1,ht _ _ z.2.1,z.2.2⟩,ob,es,ep,k _ _ (.inl rfl) e,c⟩
 | set S n=>obtain⟨ob,es,ep,t,e,c⟩:=x;exact⟨ob,es,ep,t,k _ _ (.inl rfl) e,c⟩
 | ins C dx fs=>
  obtain⟨d,z,ne,e,mA,⟨od,es,ep,e2,c⟩,r⟩:=x;exact⟨ho _ d,z,ne,k _ _ (.inl rfl) e,mA,⟨od,es,ep,k _ _ (.inr d) e2,c⟩,r⟩
 | own y=>obtain⟨ob,e⟩:=x;exact⟨ob,k _ _ (.inl rfl) e⟩
 | xd fs=>obtain⟨mA,⟨od,es,ep,e,c⟩,r⟩:=x;exact⟨mA,⟨od,es,ep,k _ _ (.inl rfl) e,c⟩,r⟩
 | ig lo hi=>obtain⟨t,u,v,e⟩:=x;exact⟨t,u,v,k _ _ (.inl rfl) e⟩
 | ue ob u ih=>obtain⟨e,q⟩:=x;exact⟨k _ _ (.inl rfl) e,ih q⟩
 | IY ps=>
  have e:h.get? a=some {cls:= .none,data:= .fields ps}:=x;show h'.get? a=some {cls:= .none,data:= .fields ps};exact k a _ (.inl rfl) e
 | met f y=>
  have e:h.get? a=some (PySem.W.methodObj (.ref f) (.ref y)):=x;show h'.get? a=some (PySem.W.methodObj (.ref f) (.ref y));exact k a _ (.inl rfl) e
 | ext φ=>obtain⟨p,⟨o,e⟩,st⟩:=x;exact⟨st _ _ p fun o q=>k _ _ (.inl rfl) q,⟨o,k _ _ (.inl rfl) e⟩,st⟩
theorem gm.lt(x:gm P w H h)(e:H a=some o):a < h.objs.size:=(x a o e).lt
theorem gm.fresh(x:gm P w H h)(e:h.objs.size<=a):H a=none:=by
 cases q:H a with
 | none=>rfl
 | some u=>exact absurd (ZJ (x.lt q) e) (Z7 _)
theorem gm.kept(x:gm P w H h)(k: ∀b u,h.get? b=some u->h'.get? b=some u):gm P w H h':=fun a o e=>
 (x a o e).uA (fun b u _ q=>k b u q) (fun _ q=>q) fun _ _ q=>q
theorem gm.laid(x:gm P w H h)(k: ∀b u,h.get? b=some u->h'.get? b=some u)(hp:h.objs.size<=a)(new:aQ P w (upd H a o) h' a o):gm P w (upd H a o) h':=fun b u e=>by
 have hn:=x.fresh hp;by_cases hb:b=a
 . subst hb;rw[ag] at e;cases e;exact new
 . rw[ah hb] at e;exact(x b u e).uA (fun c v _ q=>k c v q) (fun c q=>by rw[ah (aj q hn)];exact q) fun c xs q=>by rw[ah (aj q hn)];exact q
def Rd(H:Hp)(a:Addr)(u:HO):Prop:=H a=some u\/ ∃o,H a=some (.ue o u)
theorem Rd.ok(r:Rd H a u)(x:gm P w H h):aQ P w H h a u:=by
 rcases r with r | ⟨o,r⟩
 . exact x a u r
 . obtain⟨_,q⟩:=x a _ r;exact q
def O6:Option HO->Prop
 | some (.lst _)=>True
 | some (.dK _)=>True
 | some (.dT _)=>True
 | some (.set _ _)=>True
 | some (.ins _ _ _)=>True
 | some (.ext _)=>True
 | _=>False
theorem gm.write(ok:gm P w H h)(mu:O6 (H x))(he:e=x\/H e=some (.own x))(k: ∀b u,b≠e->h.get? b=some u->h'.get? b=some u)(Mg: ∃u,h'.get? e=some u)
  (new:aQ P w (upd H x o') h' x o'):gm P w (upd H x o') h':=fun b u q=>by
 have Np: ∀c y,H c=some (.own y)->c≠x:=fun c y r z=>by subst z;rw[r] at mu;exact mu
 have Rn: ∀c xs,H c=some (.tup xs)->c≠x:=fun c xs r z=>by subst z;rw[r] at mu;exact mu
 by_cases hb:b=x
 . subst hb;rw[ag] at q;cases q;exact new
 . rw[ah hb] at q;by_cases KS:b=e
   . have q' : H b = some (.own x) := by
       rcases he with z | z
       . exact absurd (KS.trans z) hb
       . rw[KS];exact z
     rw[q] at q';cases q';obtain⟨v,hv⟩:=Mg;exact⟨v,by rw[KS];exact hv⟩
   . refine(ok b u q).uA (fun c v hc r=>k c v ?_ r) (fun c r=>by rw[ah (Np c b r)];exact r) fun c xs r=>by rw[ah (Rn c xs r)];exact r
     rcases hc with rfl | hc
     . exact KS
     . rintro rfl
       rcases he with z | z
       . exact Np c b hc z
       . rw[hc] at z;cases z;exact hb rfl
structure Un(fs ex:List Addr)(H H':Hp)(h h':Heap):Prop where
 keep: ∀b o,h.get? b=some o->H b=none->b∉fs->b∉ex->h'.get? b=some o
 slot: ∀b o,h.get? b=some o->H b=none->b∈fs->b∉ex-> ∃sl,h'.get? b=some {o with slots:=sl}
 free: ∀b o,h.get? b=some o->H b=none->b∉ex->H' b=none
 there: ∀b o,h.get? b=some o->b∉ex-> ∃o',h'.get? b=some o'
 nH: ∀b xs,H b=some (.tup xs)->H' b=some (.tup xs)
 qh: ∀b o u,H b=some (.ue o u)->H' b=some (.ue o u)
 rK: ∀b ps,H b=some (.IY ps)-> ∃more,H' b=some (.IY (ps++more))
section
variable{fs Yu ex YS:List Addr}{H H1 H2:Hp}{h h1 h2 h':Heap}{a x e:Addr}{o:HO}
theorem Un.any(u:Un fs ex H H1 h h1)(q:h.get? b=some ob)(n:H b=none)(hx:b∉ex): ∃sl,h1.get? b=some {ob with slots:=sl}:=by
 by_cases hb:b∈fs
 . exact u.slot b ob q n hb hx
 . exact⟨ob.slots,u.keep b ob q n hb hx⟩
theorem Un.kept(k: ∀b u,h.get? b=some u->h'.get? b=some u):Un fs ex H H h h':=
 ⟨fun b ob q _ _ _=>k b ob q,fun b ob q _ _ _=>⟨ob.slots,k b ob q⟩,fun _ _ _ n _=>n,fun b ob q _=>⟨ob,k b ob q⟩,fun _ _ q=>q,fun _ _ _ q=>q,fun _ ps q=>⟨#[],by rw[q];simp⟩⟩
theorem Un.refl:Un fs ex H H h h:=Un.kept fun _ _ q=>q
theorem Un.laid(k: ∀b u,h.get? b=some u->h'.get? b=some u)(hp:h.objs.size<=a)(hn:H a=none):Un fs ex H (upd H a o) h h' where
 keep:=fun b u q _ _ _=>k b u q
 slot:=fun b u q _ _ _=>⟨u.slots,k b u q⟩
 free:=fun b u q n _=>by rw[ah (ZY (ZJ (ZD q) hp))];exact n
 there:=fun b u q _=>⟨u,k b u q⟩
 nH:=fun b xs q=>by rw[ah (aj q hn)];exact q
 qh:=fun b u xs q=>by rw[ah (aj q hn)];exact q
 rK:=fun b ps q=>⟨#[],by rw[ah (aj q hn),q];simp⟩
theorem Un.write(mu:O6 (H x))(he:e=x\/H e=some (.own x))(k: ∀b u,b≠e->h.get? b=some u->h'.get? b=some u)(Mg: ∃u,h'.get? e=some u):Un fs ex H (upd H x o) h h':=by
 have hx: ∀b,H b=none->b≠x:=fun b n z=>by subst z;rw[n] at mu;exact mu
 have hb: ∀b,H b=none->b≠e:=fun b n z=>by
  subst z;rcases he with r | r
  . exact hx b n r
  . rw[n] at r;cases r
 have hm: ∀b u,H b=some u-> ¬O6 (some u)->b≠x:=fun b u q nm z=>by subst z;rw[q] at mu;exact nm mu
 refine⟨fun b u q n _ _=>k b u (hb b n) q,fun b u q n _ _=>⟨u.slots,k b u (hb b n) q⟩,fun b u q n _=>by rw[ah (hx b n)];exact n,fun b u q _=>?_,
  fun b xs q=>by rw[ah (hm b _ q fun z=>z)];exact q,fun b u xs q=>by rw[ah (hm b _ q fun z=>z)];exact q,fun b ps q=>⟨#[],by rw[ah (hm b _ q fun z=>z),q];simp⟩⟩
 by_cases KS:b=e
 . subst KS;exact Mg
 . exact⟨u,k b u KS q⟩
end
noncomputable def DW(h:Heap)(H:Hp):List Addr:=(List.range h.objs.size).filter fun a=>(H a).isSome
noncomputable def qc(h:Heap)(H:Hp):Heap:=PySem.W.hideAll h (DW h H)
theorem yU(h:Heap)(H:Hp):(qc h H).objs.size=h.objs.size:=PySem.W.hideAll_size _ _
theorem Co{h:Heap}(e:h.get? b=some o)(n:H b=none):(qc h H).get? b=some o:=
 PySem.W.hideAll_get _ e fun hm=>by
  have q:(H b).isSome=true:=(ag6.mp hm).2;rw[n] at q;simp at q
theorem Ft(e:(qc h H).get? b=some o):h.get? b=some o/\H b=none:=by
 have e':h.get? b=some o:=PySem.W.of_hideAll (DW h H) e;refine⟨e',?_⟩;cases q:H b with
 | none=>rfl
 | some x=>
  have hm:b∈DW h H:=ag6.mpr ⟨ad3.mpr (ZD e'),by simp [q]⟩;have z:(qc h H).get? b=none:=PySem.W.hideAll_none (DW h H) hm;rw[z] at e;cases e
structure Mod(K:PySem.W.Frag)(mg:Str->Option Value)(base:Heap):Prop where
 PL:K.In base
 glob:base.Ns mainGlobals mg
 blt: ∃mb,base.Ns builtinsNs mb/\ ∀x:Str,x≠"__name__"->mb x=bootBuiltins x
 nolimit:base.NoLimit
structure Cx where
 prog:Program
 w:World
 K:PySem.W.Frag
 mg:Str->Option Value
 base:Heap
 A:Around
 N:List Str
 s₀:Shared
 H₀:Hp
 env:Env
 outer:List Env
 stack:List Env
 ex:List Addr
 fn:Str->Bool
 calm:Bool
 pn:List (Addr × Obj)
 xe:Value->Shared->Prop
noncomputable def qT(l:List Env):List Addr:=l.filterMap (·.frame)
noncomputable abbrev Cx.fs (X:Cx):List Addr:=qT X.outer
def P8(sc:Scope)(x:Str):Prop:=sc.names.lookup x=some .local\/sc.names.lookup x=some .cell\/sc.names.lookup x=some .free
def Loc(sc:Scope)(x:Str):Prop:=sc.names.lookup x=some .local\/sc.names.lookup x=some .cell
def Look(env:Env)(h:Heap)(m:Str->Option Value)(x:Str)(u:Value):Prop:=
 (env.kindOf x=some .local/\m x=some u)\/((env.kindOf x=some .cell\/env.kindOf x=some .free)/\ ∃c,env.cells.lookup x=some c/\h.IsCell c (some u))
structure Cx.Ok(X:Cx):Prop where
 mod:Mod X.K X.mg X.base
 kind:X.env.scope.kind= .function
 glob:X.env.globals=mainGlobals
 blt:X.env.builtins=builtinsNs
 above:X.s₀.heap.objs.size<=X.env.locals
 inj: ∀x y c,X.env.cells.lookup x=some c->X.env.cells.lookup y=some c->x=y
 has: ∀x,(X.env.kindOf x=some .cell\/X.env.kindOf x=some .free)-> ∃c,X.env.cells.lookup x=some c
 OR: ∀x c,X.fn x=true->X.env.cells.lookup x=some c->X.s₀.heap.objs.size<=c
 hd:X.calm=true->X.A.handled=none
 frames:X.A.frames=some X.stack
 Pq:X.stack=X.outer\/(X.stack=X.env::X.outer/\X.env.frame=some X.env.locals)
 HL: ∀b∈X.ex,b≠X.env.locals/\ ∀x c,X.env.cells.lookup x=some c->c≠b
 bs: ∀b o,X.base.get? b=some o->X.s₀.heap.get? b=some o/\X.H₀ b=none
 Ir:X.base.objs.size<=X.s₀.heap.objs.size
 BR: ∀b o,X.base.get? b=some o->b∉X.ex
 vo: ∀b∈X.ex,b∉X.fs
 mH:X.s₀.heap.FunFrames X.base X.outer
 Mi: ∀b∈X.fs,X.H₀ b=none
structure Inv(X:Cx)(pins:List (Addr × Obj))(σ:List (Option V))(H:Hp)(s:Shared):Prop where
 ok:X.Ok
 os:s.os=X.s₀.os
 bare:AllBare s.gens
 base:Un X.fs X.ex X.H₀ H X.s₀.heap s.heap
 loc: ∃m,s.heap.Ns X.env.locals m/\ ∀(i:Nat) (x:Str) (v:V),X.N[i]?=some x->σ[i]?=some (some v)->P8 X.env.scope x-> ∃u,RelV v u/\Look X.env s.heap m x u
 cell: ∀x c,X.env.cells.lookup x=some c-> ∃v,s.heap.IsCell c v
 free:H X.env.locals=none
 gX: ∀x c,X.env.cells.lookup x=some c->H c=none
 pin: ∀p∈X.pn++pins,s.heap.get? p.1=some p.2/\H p.1=none/\p.1≠X.env.locals/\p.1∉X.fs/\ ∀v,p.2.data≠ .cell v
 aT:gm X.prog X.w H s.heap
 len:σ.length=X.N.length
section
variable{X:Cx}{pins:List (Addr × Obj)}{σ:List (Option V)}{H H':Hp}{s:Shared}{h':Heap}
theorem Cx.Ok.Rr(ok:X.Ok)(e:X.base.get? b=some o):b∉X.fs:=fun hb=>by
 have:=(ok.mH.mem hb).1;rw[e] at this;cases this
theorem Inv.bs(I:Inv X pins σ H s): ∀b o,X.base.get? b=some o->s.heap.get? b=some o/\H b=none:=fun b o e=>
 ⟨I.base.keep b o (I.ok.bs b o e).1 (I.ok.bs b o e).2 (I.ok.Rr e) (I.ok.BR b o e),I.base.free b o (I.ok.bs b o e).1 (I.ok.bs b o e).2 (I.ok.BR b o e)⟩
theorem Inv.bk(I:Inv X pins σ H s): ∀b o,X.base.get? b=some o->s.heap.get? b=some o:=fun b o e=>(I.bs b o e).1
theorem Inv.mod(I:Inv X pins σ H s):Mod X.K X.mg X.base:=I.ok.mod
theorem Inv.qR(I:Inv X pins σ H s):X.K.In s.heap:=I.ok.mod.PL.keeps I.bk
theorem Inv.lt(I:Inv X pins σ H s):X.env.locals < s.heap.objs.size:=let ⟨_,hn,_⟩:=I.loc;hn.lt
theorem Inv.sz(I:Inv X pins σ H s):X.s₀.heap.objs.size<=s.heap.objs.size:=ZE I.ok.above (Nat.le_of_lt I.lt)
theorem Inv.Rq(I:Inv X pins σ H s)(h:s.heap.objs.size<=a):a∉X.fs:=fun hb=>by
 obtain⟨_,o,ho,_⟩:=I.ok.mH.mem hb;exact absurd (ZJ (ZD ho) (ZE I.sz h)) (Z7 _)
theorem Inv.Lz(I:Inv X pins σ H s): ∀x c,X.env.cells.lookup x=some c->c≠X.env.locals:=fun x c e z=>by
 obtain⟨v,o,ho,hd⟩:=I.cell x c e;obtain⟨m,⟨o',es,ep,zQ,zS,_⟩,_⟩:=I.loc;rw[z,zQ] at ho;cases ho;rw[zS] at hd;cases hd
theorem Inv.mH(I:Inv X pins σ H s):s.heap.FunFrames X.base X.outer:=by
 have all: ∀(l:List Env),(∀b∈qT l,b∈X.fs)->X.s₀.heap.FunFrames X.base l->s.heap.FunFrames X.base l:=by
  intro l;induction l with
  | nil=>intro _ _;trivial
  | cons env r ih=>
   intro hs hl;obtain⟨hk,⟨L,o,hf,hn,ho,hd⟩,hr⟩:=hl;have hL:L∈X.fs:=hs L (by unfold qT;rw[List.filterMap_cons,hf];exact Zu);obtain⟨sl,e⟩:=I.base.slot L o ho (I.ok.Mi L hL) hL fun z=>I.ok.vo L z hL;exact⟨hk,⟨L,_,hf,hn,e,hd⟩,ih (fun b hb=>hs b (by unfold qT;rw[List.filterMap_cons,hf];exact Zn _ hb)) hr⟩
 exact all X.outer (fun _ hb=>hb) I.ok.mH
theorem Inv.stack(I:Inv X pins σ H s):s.heap.FunFrames X.base X.stack:=by
 rcases I.ok.Pq with e | ⟨e,hf⟩
 . rw[e];exact I.mH
 . rw[e];obtain⟨m,hn,_⟩:=I.loc;refine .cons (by rw[I.ok.kind];decide) hf hn ?_ I.mH;exact Heap.get?_none_of_le (ZE I.ok.Ir I.ok.above)
theorem Inv.uz(I:Inv X pins σ H s): ∀b∈qT X.stack,b∈X.env.locals::X.fs:=fun b hb=>by
 rcases I.ok.Pq with e | ⟨e,hf⟩
 . rw[e] at hb;exact Zn _ hb
 . rw[e] at hb;unfold qT at hb;rw[List.filterMap_cons,hf] at hb;exact hb
theorem Inv.we(I:Inv X pins σ H s): ∀b∈qT X.stack,H b=none:=fun b hb=>by
 rcases ZS.mp (I.uz b hb) with e | hb
 . rw[e];exact I.free
 . obtain⟨_,o,ho,_⟩:=I.ok.mH.mem hb;exact I.base.free b o ho (I.ok.Mi b hb) fun z=>I.ok.vo b z hb
theorem Inv.step{g':Array GenState}{t':Nat}{d':Drawn}{ch:List Addr}(I:Inv X pins σ H s)
  (D0: ∀b∈ch,(b∈X.ex\/X.s₀.heap.objs.size<=b)/\b≠X.env.locals/\(∀x c,X.env.cells.lookup x=some c->c≠b)/\ ∀p∈X.pn++pins,p.1≠b)
  (keep: ∀b o,b≠X.env.locals->b∉X.fs->b∉ch->s.heap.get? b=some o->H b=none->h'.get? b=some o)
  (slot: ∀b o,b≠X.env.locals->b∈X.fs->b∉ch->s.heap.get? b=some o->H b=none-> ∃sl,h'.get? b=some {o with slots:=sl}) (free: ∀b o,b∉ch->s.heap.get? b=some o->H b=none->H' b=none)
  (there: ∀b o,b∉ch->s.heap.get? b=some o-> ∃o',h'.get? b=some o')
  (nH: ∀b xs,H b=some (.tup xs)->H' b=some (.tup xs)) (qh: ∀b o u,H b=some (.ue o u)->H' b=some (.ue o u)) (rK: ∀b ps,H b=some (.IY ps)-> ∃more,H' b=some (.IY (ps++more)))
  (ns: ∀m,s.heap.Ns X.env.locals m->h'.Ns X.env.locals m) (aT:gm X.prog X.w H' h') (hg:AllBare g'):
  Inv X pins σ H' {s with heap:=h',gens:=g',drawn:=d',toks:=t'}:=by
 have Ul: ∀b o,X.s₀.heap.get? b=some o->b≠X.env.locals:=fun b o e=>ZY (ZJ (ZD e) I.ok.above);have PD: ∀b o,X.s₀.heap.get? b=some o->b∉X.ex->b∉ch:=fun b o e hx hb=>by
  rcases(D0 b hb).1 with z | z
  . exact hx z
  . exact absurd (ZJ (ZD e) z) (Z7 _)
 have cellK: ∀x c,X.env.cells.lookup x=some c-> ∀v,s.heap.IsCell c v->h'.IsCell c v:=fun x c e v cw=>(by obtain⟨o,ho,hd⟩:=cw;exact(by
  have Nr:c∉ch:=fun z=>(D0 c z).2.2.1 x c e rfl;by_cases hc:c∈X.fs
  . obtain⟨sl,q⟩:=slot c o (I.Lz x c e) hc Nr ho (I.gX x c e);exact⟨_,q,hd⟩
  . exact⟨o,keep c o (I.Lz x c e) hc Nr ho (I.gX x c e),hd⟩))
 refine⟨I.ok,I.os,hg,⟨fun b o e n hb hx=>?_,fun b o e n hb hx=>?_,fun b o e n hx=>?_,fun b o e hx=>?_,fun b xs e=>nH b xs (I.base.nH b xs e),fun b o xs e=>qh b o xs (I.base.qh b o xs e),fun b ps e=>?_⟩,?_,fun x c e=>?_,?_,fun x c e=>?_,fun p hp=>?_,aT,I.len⟩
 . exact keep b o (Ul b o e) hb (PD b o e hx) (I.base.keep b o e n hb hx) (I.base.free b o e n hx)
 . obtain⟨sl,e1⟩:=I.base.slot b o e n hb hx;obtain⟨V6,e2⟩:=slot b _ (Ul b o e) hb (PD b o e hx) e1 (I.base.free b o e n hx);exact⟨V6,e2⟩
 . obtain⟨o',e1⟩:=I.base.there b o e hx;exact free b o' (PD b o e hx) e1 (I.base.free b o e n hx)
 . obtain⟨o',e1⟩:=I.base.there b o e hx;exact there b o' (PD b o e hx) e1
 . obtain⟨m1,e1⟩:=I.base.rK b ps e;obtain⟨m2,e2⟩:=rK b _ e1;exact⟨m1++m2,by rw[e2,Array.append_assoc]⟩
 . obtain⟨m,hn,hl⟩:=I.loc;refine⟨m,ns m hn,fun i x v e1 e2 e3=>?_⟩;obtain⟨u,r,l⟩:=hl i x v e1 e2 e3;refine⟨u,r,?_⟩;rcases l with l | ⟨k,c,e,z⟩
   . exact .inl l
   . exact .inr ⟨k,c,e,cellK x c e _ z⟩
 . obtain⟨v,z⟩:=I.cell x c e;exact⟨v,cellK x c e v z⟩
 . obtain⟨m,⟨o,_,_,ho,_⟩,_⟩:=I.loc;exact free _ o (fun z=>(D0 _ z).2.1 rfl) ho I.free
 . obtain⟨v,o,ho,hd⟩:=I.cell x c e;exact free c o (fun z=>(D0 c z).2.2.1 x c e rfl) ho (I.gX x c e)
 . obtain⟨e,n,ne,nf,d⟩:=I.pin p hp;have Nr:p.1∉ch:=fun z=>(D0 p.1 z).2.2.2 p hp rfl;exact⟨keep p.1 p.2 ne nf Nr e n,free p.1 p.2 Nr e n,ne,nf,d⟩
theorem Inv.un(I:Inv X pins σ H s)(u:Un X.fs [] H H' s.heap h')(aT:gm X.prog X.w H' h'):Inv X pins σ H' {s with heap:=h',toks:=t'}:=by
 obtain⟨m,⟨o,es,ep,ho,r⟩,_⟩:=id I.loc;obtain⟨sl,hL⟩:=u.any ho I.free (by simp);exact I.step (g':=s.gens) (d':=s.drawn) (ch:= []) (fun _ z=>nomatch z) (fun b o _ hb _ e n=>u.keep b o e n hb (by simp)) (fun b o _ hb _ e n=>u.slot b o e n hb (by simp)) (fun b o _ e n=>u.free b o e n (by simp)) (fun b o _ e=>u.there b o e (by simp)) u.nH u.qh u.rK (fun m' hm=>by
  obtain⟨o',CF,F8,zQ,r'⟩:=hm;rw[ho] at zQ;cases zQ;exact⟨_,CF,F8,hL,r'⟩) aT I.bare
theorem Inv.call(I:Inv X pins σ H s)(u:Un (qT X.stack) ch H H' s.heap h')(aT:gm X.prog X.w H' h')(hg:AllBare g')(D0: ∀b∈ch,(b∈X.ex\/X.s₀.heap.objs.size<=b)/\b≠X.env.locals/\(∀x c,X.env.cells.lookup x=some c->c≠b)/\ ∀p∈X.pn++pins,p.1≠b):
  Inv X pins σ H' {s with heap:=h',gens:=g',drawn:=d',toks:=t'}:=by
 obtain⟨m,⟨o,es,ep,ho,r⟩,_⟩:=id I.loc;obtain⟨sl,hL⟩:=u.any ho I.free fun z=>(D0 _ z).2.1 rfl;exact I.step (ch:=ch) D0 (fun b o hL hb hc e n=>u.keep b o e n (fun z=>(ZS.mp (I.uz b z)).elim hL hb) hc) (fun b o _ _ hc e n=>u.any e n hc) (fun b o hc e n=>u.free b o e n hc) (fun b o hc e=>u.there b o e hc) u.nH u.qh u.rK (fun m' hm=>by
  obtain⟨o',CF,F8,zQ,r'⟩:=hm;rw[ho] at zQ;cases zQ;exact⟨_,CF,F8,hL,r'⟩) aT hg
theorem Inv.turned(I:Inv X pins σ H s)(k: ∀b o,b≠it->s.heap.get? b=some o->h'.get? b=some o)(hn:H it=none)(hL:it≠X.env.locals)(h1:it∈X.ex\/X.s₀.heap.objs.size<=it)(h2: ∀x c,X.env.cells.lookup x=some c->c≠it)(h3: ∀p∈X.pn++pins,p.1≠it):Inv X pins σ H {s with heap:=h',toks:=t'}:=by
 have Uk: ∀b u,H b=some u->b≠it:=fun b u e z=>by rw[z,hn] at e;cases e
 refine I.step (g':=s.gens) (d':=s.drawn) (ch:= [it]) (fun b hb=>?_) (fun b o _ _ hc e _=>k b o (fun z=>hc (by simp [z])) e) (fun b o _ _ hc e _=>⟨o.slots,k b o (fun z=>hc (by simp [z])) e⟩) (fun _ _ _ _ n=>n)
  (fun b o hc e=>⟨o,k b o (fun z=>hc (by simp [z])) e⟩) (fun _ _ e=>e) (fun _ _ _ e=>e) (fun b ps e=>⟨#[],by rw[e];simp⟩) (fun m hm=>?_) (fun b u e=>?_) I.bare
 . have e:b=it:=by simpa using hb
   subst e;exact⟨h1,hL,h2,h3⟩
 . obtain⟨o,es,ep,ho,r⟩:=hm;exact⟨o,es,ep,k _ o (Ne.symm hL) ho,r⟩
 . refine(I.aT b u e).uA (fun c v hc q=>k c v ?_ q) (fun _ q=>q) fun _ _ q=>q;rcases hc with z | z
   . rw[z];exact Uk b u e
   . exact Uk c _ z
theorem Inv.tok(I:Inv X pins σ H s)(t:Nat):Inv X pins σ H {s with toks:=t}:=I.un (h':=s.heap) (t':=t) Un.refl I.aT
theorem Inv.kept(I:Inv X pins σ H s)(k: ∀b u,s.heap.get? b=some u->h'.get? b=some u):Inv X pins σ H {s with heap:=h',toks:=t'}:=I.un (Un.kept k) (I.aT.kept k)
theorem Inv.laid(I:Inv X pins σ H s)(k: ∀b u,s.heap.get? b=some u->h'.get? b=some u)(hp:s.heap.objs.size<=a)(new:aQ X.prog X.w (upd H a o) h' a o):
  Inv X pins σ (upd H a o) {s with heap:=h',toks:=t'}:=I.un (Un.laid k hp (I.aT.fresh hp)) (I.aT.laid k hp new)
theorem Inv.write(I:Inv X pins σ H s)(mu:O6 (H x))(he:e=x\/H e=some (.own x))(k: ∀b u,b≠e->s.heap.get? b=some u->h'.get? b=some u)(Mg: ∃u,h'.get? e=some u)(new:aQ X.prog X.w (upd H x o) h' x o):Inv X pins σ (upd H x o) {s with heap:=h',toks:=t'}:=I.un (Un.write mu he k Mg) (I.aT.write mu he k Mg new)
theorem Inv.weak{σ':List (Option V)}(I:Inv X pins σ H s)(hl:σ'.length=σ.length)(w: ∀(i:Nat) v,σ'[i]?=some (some v)->σ[i]?=some (some v)):Inv X pins σ' H s:=
 ⟨I.ok,I.os,I.bare,I.base,let ⟨m,hn,NW⟩:=I.loc;⟨m,hn,fun i x v e1 e2 e3=>NW i x v e1 (w i v e2) e3⟩,I.cell,I.free,I.gX,I.pin,I.aT,hl.trans I.len⟩
theorem Inv.wO(I:Inv X pins σ H s)(h: ∀p∈Nb,s.heap.get? p.1=some p.2/\H p.1=none/\p.1≠X.env.locals/\p.1∉X.fs/\ ∀v,p.2.data≠ .cell v):Inv X Nb σ H s:=
 ⟨I.ok,I.os,I.bare,I.base,I.loc,I.cell,I.free,I.gX,fun p hp=>(Zz.mp hp).elim (fun z=>I.pin p (ZX _ z)) (h p),I.aT,I.len⟩
theorem sC{N:List Str}(hN:N.Nodup){i j:Nat}(a:N[i]?=some x)(b:N[j]?=some x):i=j:=by
 obtain⟨h1,e1⟩:=Zq.mp a;obtain⟨h2,e2⟩:=Zq.mp b;exact(List.getElem_inj hN).mp (e1.trans e2.symm)
theorem ou(I:Inv X pins σ H s)(hN:X.N.Nodup)(hi:X.N[i]?=some x)(hx:Loc X.env.scope x)(r:RelV v u)(h: ∀s',Inv X pins (σ.set i (some v)) H s'->(∃a,Heap.SameBut a s.heap s'.heap/\(a=X.env.locals\/X.env.cells.lookup x=some a))->Q () s')(hf:X.fn x=true\/X.env.scope.names.lookup x=some .local:=by first | exact .inl rfl | exact .inr rfl | assumption):wpAny M A (storeName X.env x u) Q E s:=by
 obtain⟨m,hn,hl⟩:=id I.loc;have Sj:(X.env.scope.kind== .class || (X.env.scope.kind== .module && X.env.locals !=X.env.globals))=false:=by rw[I.ok.kind];rfl
 have NY:i < σ.length:=by rw[I.len];exact(Zq.mp hi).1
 have Lz:=I.Lz;have tracked: ∀{a:Addr} {h':Heap},(∃o,s.heap.get? a=some o/\H a=none)->Heap.SameBut a s.heap h'->gm X.prog X.w H h':=fun{a h'} ha hs b ob e=>by
  obtain⟨_,_,oH⟩:=ha;refine(I.aT b ob e).uA (fun c w' hc q=>(hs.2 c ?_).trans q) (fun _ q=>q) fun _ _ q=>q;rintro rfl
  rcases hc with rfl | hc
  . rw[oH] at e;cases e
  . rw[oH] at hc;cases hc
 rcases hx with hk | hk
 . refine wpAny_storeName_local hk hn (fun h' WR hs=>?_) Sj;obtain⟨oL,_,_,WQ,_⟩:=id hn;refine h _ ⟨I.ok,I.os,I.bare,⟨fun b o e n hb hx=>?_,fun b o e n hb hx=>?_,I.base.free,fun b o e hx=>?_,I.base.nH,I.base.qh,I.base.rK⟩,⟨_,WR,fun j y v' e1 e2 e3=>?_⟩,fun y c e=>?_,I.free,I.gX,fun p hp=>?_,tracked ⟨oL,WQ,I.free⟩ hs,by simpa using I.len⟩ ⟨_,hs, .inl rfl⟩
   . exact(hs.2 b (ZY (ZJ (ZD e) I.ok.above))).trans (I.base.keep b o e n hb hx)
   . obtain⟨sl,e1⟩:=I.base.slot b o e n hb hx;exact⟨sl,(hs.2 b (ZY (ZJ (ZD e) I.ok.above))).trans e1⟩
   . obtain⟨o',e1⟩:=I.base.there b o e hx;exact⟨o',(hs.2 b (ZY (ZJ (ZD e) I.ok.above))).trans e1⟩
   . by_cases hj:j=i
     . subst hj;rw[hi] at e1;cases e1;rw[ZH NY] at e2;cases e2;exact⟨u,r,.inl ⟨hk,by simp⟩⟩
     . rw[Zr (Ne.symm hj)] at e2;obtain⟨u',r',q⟩:=hl j y v' e1 e2 e3;refine⟨u',r',?_⟩;rcases q with ⟨k,e⟩ | ⟨k,c,e,z⟩
       . refine .inl ⟨k,?_⟩;have:y≠x:=fun e=>hj (sC hN e1 (e▸hi));simp [this,e]
       . exact .inr ⟨k,c,e,z.sameBut hs (Lz y c e)⟩
   . obtain⟨w',z⟩:=I.cell y c e;exact⟨w',z.sameBut hs (Lz y c e)⟩
   . obtain⟨e,n,ne,nf,d⟩:=I.pin p hp;exact⟨(hs.2 p.1 ne).trans e,n,ne,nf,d⟩
 . have KI : X.fn x = true := by
     rcases hf with z | z
     . exact z
     . rw[z] at hk;cases hk
   obtain⟨c,hc⟩:=I.ok.has x (.inl hk);obtain⟨w',z⟩:=I.cell x c hc;refine wpAny_storeName_cell I.ok.kind hk hc z (fun h' HF hs=>?_);obtain⟨oc,UB,RX⟩:=id z;refine h {s with heap:=h'} ⟨I.ok,I.os,I.bare,⟨fun b o e n hb hx=>?_,fun b o e n hb hx=>?_,I.base.free,fun b o e hx=>?_,I.base.nH,I.base.qh,I.base.rK⟩,⟨m,hn.sameBut hs (Ne.symm (Lz x c hc)),fun j y v' e1 e2 e3=>?_⟩,fun y c' e=>?_,I.free,I.gX,fun p hp=>?_,tracked ⟨oc,UB,I.gX x c hc⟩ hs,by simpa using I.len⟩ ⟨c,hs,.inr hc⟩
   . exact(hs.2 b (ZY (ZJ (ZD e) (I.ok.OR x c KI hc)))).trans (I.base.keep b o e n hb hx)
   . obtain⟨sl,e1⟩:=I.base.slot b o e n hb hx;exact⟨sl,(hs.2 b (ZY (ZJ (ZD e) (I.ok.OR x c KI hc)))).trans e1⟩
   . obtain⟨o',e1⟩:=I.base.there b o e hx;exact⟨o',(hs.2 b (ZY (ZJ (ZD e) (I.ok.OR x c KI hc)))).trans e1⟩
   . by_cases hj:j=i
     . subst hj;rw[hi] at e1;cases e1;rw[ZH NY] at e2;cases e2;exact⟨u,r,.inr ⟨.inl hk,c,hc,HF⟩⟩
     . rw[Zr (Ne.symm hj)] at e2;obtain⟨u',r',q⟩:=hl j y v' e1 e2 e3;refine⟨u',r',?_⟩;rcases q with q | ⟨k,c',e,z'⟩
       . exact .inl q
       . refine .inr ⟨k,c',e,z'.sameBut hs ?_⟩;rintro rfl
         exact hj (sC hN e1 (I.ok.inj _ _ _ e hc▸hi))
   . by_cases UK:c'=c
     . subst UK;exact⟨_,HF⟩
     . obtain⟨w2,z2⟩:=I.cell y c' e;exact⟨w2,z2.sameBut hs UK⟩
   . obtain⟨e,n,ne,nf,d⟩:=I.pin p hp;refine⟨(hs.2 p.1 ?_).trans e,n,ne,nf,d⟩;intro q;rw[q,UB] at e;have q':oc=p.2:=Option.some.inj e;exact d w' (by rw[<-q'];exact RX)
theorem dN(I:Inv X pins σ H s)(hN:X.N.Nodup)(hi:X.N[i]?=some x)(hx:Loc X.env.scope x)(r:RelV v u)(h: ∀s',Inv X pins (σ.set i (some v)) H s'->Q () s')(hf:X.fn x=true\/X.env.scope.names.lookup x=some .local:=by first | exact .inl rfl | exact .inr rfl | assumption):wpAny M A (storeName X.env x u) Q E s:=
 ou I hN hi hx r (fun s' I' _=>h s' I') hf
theorem Inv.Dm{s':Shared}(I:Inv X pins σ H s)(ho:s'.os=s.os)(u:Un (qT X.stack) ch H H' s.heap s'.heap)(aT:gm X.prog X.w H' s'.heap)(hg:AllBare s'.gens)(D0: ∀b∈ch,(b∈X.ex\/X.s₀.heap.objs.size<=b)/\b≠X.env.locals/\(∀x c,X.env.cells.lookup x=some c->c≠b)/\ ∀p∈X.pn++pins,p.1≠b):Inv X pins σ H' s':=by
 obtain⟨h',g',d',t',o'⟩:=s';have e:o'=s.os:=ho;subst e;exact I.call (g':=g') (t':=t') (d':=d') u aT hg D0
end
abbrev XK:=Value->Option Addr->Hp->Prop
abbrev St:=List (Option V)
abbrev VK:=V->Hp->Prop
abbrev TE:=St->Hp->VK->Prop
abbrev TT:=St->Hp->(Bool->Hp->Prop)->Prop
abbrev TA:=St->Hp->(List V->Hp->Prop)->Prop
structure Ends where
 nx:St->Hp->Prop
 rt:VK
 bk:St->Hp->Prop:=fun _ _=>False
 ct:St->Hp->Prop:=fun _ _=>False
abbrev TS:=Ends->St->Hp->Prop
inductive EP(X:Cx)(pins:List (Addr × Obj))(σ:St)(Q:VK)(u:Value)(s':Shared):Prop
 | mk (v:V) (H':Hp) (h1:Inv X pins σ H' s') (h2:RelV v u) (h3:Q v H')
inductive TP(X:Cx)(pins:List (Addr × Obj))(σ:St)(Q:Bool->Hp->Prop)(b:Bool)(s':Shared):Prop
 | mk (H':Hp) (h1:Inv X pins σ H' s') (h2:Q b H')
inductive AP(X:Cx)(pins:List (Addr × Obj))(σ:St)(Q:List V->Hp->Prop)(us:List Value)(s':Shared):Prop
 | mk (vs:List V) (H':Hp) (h1:Inv X pins σ H' s') (h2:Vals vs us) (h3:Q vs H')
inductive OZ(X:Cx)(pins:List (Addr × Obj))(P:St->Hp->Prop)(s':Shared):Prop
 | mk (σ':St) (H':Hp) (h1:Inv X pins σ' H' s') (h2:P σ' H')
inductive XM(X:Cx)(pins:List (Addr × Obj))(P:VK)(u:Value)(s':Shared):Prop
 | mk (v:V) (σ':St) (H':Hp) (h1:Inv X pins σ' H' s') (h2:RelV v u) (h3:P v H')
def SP(X:Cx)(pins:List (Addr × Obj))(D:Ends)(f:Flow)(s':Shared):Prop:=
 match f with
 | .next=>OZ X pins D.nx s'
 | .brk=>OZ X pins D.bk s'
 | .cont=>OZ X pins D.ct s'
 | .ret u=>XM X pins D.rt u s'
def PE(X:Cx)(e:Expr)(t:TE):Prop:=
 ∀(pins:List (Addr × Obj)) (s:Shared) (σ:St) (H:Hp) (Q:VK),Inv X pins σ H s->t σ H Q->wpAny (model X.prog X.w) X.A (eval e X.env) (EP X pins σ Q) X.xe s
def PT(X:Cx)(e:Expr)(t:TT):Prop:=
 ∀(pins:List (Addr × Obj)) (s:Shared) (σ:St) (H:Hp) (Q:Bool->Hp->Prop),Inv X pins σ H s->t σ H Q->wpAny (model X.prog X.w) X.A (isTrue e X.env (eval e X.env)) (TP X pins σ Q) X.xe s
def PW(X:Cx)(e:Expr)(t:TT):Prop:=
 ∀(whole:Sem Value) (pins:List (Addr × Obj)) (s:Shared) (σ:St) (H:Hp) (Q:Bool->Hp->Prop),Inv X pins σ H s->t σ H Q->wpAny (model X.prog X.w) X.A (isTrue e X.env whole) (TP X pins σ Q) X.xe s
theorem PW.pt(h:PW X e t):PT X e t:=h _
def PA(X:Cx)(es:List Expr)(t:TA):Prop:=
 ∀(pos:Pos) (pins:List (Addr × Obj)) (s:Shared) (σ:St) (H:Hp) (Q:List V->Hp->Prop),Inv X pins σ H s->t σ H Q->wpAny (model X.prog X.w) X.A (spliced (backTo pos (starEach es X.env))) (AP X pins σ Q) X.xe s
def PS(X:Cx)(st:Stmt)(t:TS):Prop:=
 ∀(pins:List (Addr × Obj)) (s:Shared) (σ:St) (H:Hp) (D:Ends),Inv X pins σ H s->t D σ H->wpAny (model X.prog X.w) X.A (exec st X.env) (SP X pins D) X.xe s
def qL(X:Cx)(st:List Stmt)(t:TS):Prop:=
 ∀(pins:List (Addr × Obj)) (s:Shared) (σ:St) (H:Hp) (D:Ends),Inv X pins σ H s->t D σ H->wpAny (model X.prog X.w) X.A (execs st X.env) (SP X pins D) X.xe s
theorem aP(h:wpAny M A t Q E s)(hQ: ∀a s,Q a s->Q' a s):wpAny M A t Q' E s:=ZU h hQ fun _ _ x=>x
section
variable{X:Cx}
def dM(i:Nat):TE:=fun σ H Q=> ∃v,σ[i]?=some (some v)/\Q v H
def tC(v:V):TE:=fun _ H Q=>Q v H
theorem Br(hN:X.N[i]?=some x)(hv:P8 X.env.scope x)(hd:(x==("__debug__":Str))=false:=by decide)(yW:(x==("__classdict__":Str))=false:=by decide):PE X (.Name x pos) (dM i):=by
 intro pins s σ H Q I h;obtain⟨v,e,h⟩:=h;obtain⟨m,hn,hl⟩:=I.loc;obtain⟨u,r,l⟩:=hl i x v hN e hv;have fin:EP X pins σ Q u s:=⟨v,H,I,r,h⟩
 rcases l with ⟨hk,hm⟩ | ⟨hk,c,hc,oK⟩
 . exact wpAny_Name (wpAny_loadName_local I.ok.kind hk hn hm fin) hd
 . rcases hk with hk | hk
   . exact wpAny_Name (wpAny_loadName_cell I.ok.kind hk hc oK fin) hd
   . exact wpAny_Name (wpAny_loadName_free I.ok.kind hk hc oK fin yW) hd
theorem bI{i j pos}:PE X (.Constant (.int i) j pos) (tC (.int i)):=fun _ _ _ H _ I h=>wpAny_Constant_int ⟨.int i,H,I.tok _,⟨_,rfl⟩,h⟩
theorem BC{b j pos}:PE X (.Constant (.bool b) j pos) (tC (.bl b)):=fun _ _ _ H _ I h=>Constant_bool ⟨.bl b,H,I,rfl,h⟩
theorem Bu{j pos}:PE X (.Constant .none j pos) (tC .aN):=fun _ _ _ H _ I h=>Constant_none ⟨.aN,H,I,rfl,h⟩
theorem gM{x j pos}:PE X (.Constant (.str x) j pos) (tC (.str x)):=fun _ _ _ H _ I h=>Calls.Constant_str ⟨.str x,H,I.tok _,⟨_,rfl⟩,h⟩
def Gl(X:Cx)(x:Str):Prop:=X.env.kindOf x=some .globalImplicit
theorem wY(I:Inv X pins σ H s)(hg:Gl X x)(hm:X.mg x=some u)(h:Q u s)(hd:(x==("__debug__":Str))=false:=by decide):wpAny (model X.prog X.w) X.A (eval (.Name x pos) X.env) Q E s:=
 Calls.Name_function_global I.ok.kind hg (Calls.loadGlobal_global (by rw[I.ok.glob];exact I.mod.glob.keeps I.bk) hm h) hd
theorem cE(I:Inv X pins σ H s)(hg:Gl X x)(hm:X.mg x=none)(hv:bootBuiltins x=some u)(h:Q u s)(hn:x≠"__name__":=by decide)(hd:(x==("__debug__":Str))=false:=by decide):wpAny (model X.prog X.w) X.A (eval (.Name x pos) X.env) Q E s:=by
 obtain⟨mb,h1,h2⟩:=I.mod.blt;exact Calls.Name_function_global I.ok.kind hg (Calls.loadGlobal_builtin (by rw[I.ok.glob];exact I.mod.glob.keeps I.bk) hm (by rw[I.ok.blt];exact h1.keeps I.bk) ((h2 x hn).trans hv) h) hd
theorem E8(hg:Gl X x)(hm:X.mg x=some u)(r:RelV v u)(hd:(x==("__debug__":Str))=false:=by decide):PE X (.Name x pos) (tC v):=
 fun _ _ _ H _ I h=>wY I hg hm ⟨v,H,I,r,h⟩ hd
theorem aU(hg:Gl X x)(hm:X.mg x=none)(hv:bootBuiltins x=some u)(r:RelV v u)(hn:x≠"__name__":=by decide)(hd:(x==("__debug__":Str))=false:=by decide):PE X (.Name x pos) (tC v):=
 fun _ _ _ H _ I h=>cE I hg hm hv ⟨v,H,I,r,h⟩ hn hd
variable{a b:Expr}{ta tb:TE}{pos:Pos}
def PC(X:Cx)(op:CmpOp)(a b:Expr)(t:TE):Prop:=
 ∀(pins:List (Addr × Obj)) (s:Shared) (σ:St) (H:Hp) (Q:VK),Inv X pins σ H s->t σ H Q->
  wpAny (model X.prog X.w) X.A (eval a X.env) (fun v s₁=>wpAny (model X.prog X.w) X.A (eval b X.env) (fun u s₂=>wpAny (model X.prog X.w) X.A (compareOp op v u) (EP X pins σ Q) X.xe s₂) X.xe s₁) X.xe s
theorem sD(b:Expr)(h:op≠ .In)(h2:op≠ .NotIn):behindInMarks op b=false:=by
 have e1:(op==CmpOp.In)=false:=by cases op <;> first | rfl | exact absurd rfl h
 have e2:(op==CmpOp.NotIn)=false:=by cases op <;> first | rfl | exact absurd rfl h2
 cases b <;> simp [behindInMarks,e1,e2]
def MG(ta:TE):TE:=fun σ H Q=>ta σ H fun x H1=>Q (.bl (decide (x= .aN))) H1
def G4(ta:TE):TE:=fun σ H Q=>ta σ H fun x H1=>Q (.bl (!decide (x= .aN))) H1
theorem RelV.sA(r:RelV x v):(v==Value.none)=decide (x= .aN):=by
 cases x with
 | aN=>cases r;rfl
 | bl _=>cases r;rfl
 | int _=>obtain⟨t,rfl⟩:=r;rfl
 | str _=>obtain⟨t,rfl⟩:=r;rfl
 | zU _=>obtain⟨t,rfl⟩:=r;rfl
 | K5 _=>obtain⟨t,rfl⟩:=r;rfl
 | ref _=>cases r;rfl
 | ty _=>cases r;rfl
theorem BD{j pos'}(ha:PE X a ta):PC X .Is a (.Constant .none j pos') (MG ta):=by
 intro pins s σ H Q I h;refine aP (ha pins s σ H _ I h) fun v s1 kj=>?_;obtain⟨x,H1,I1,r1,q1⟩:=kj;exact Constant_none (is_none_gen ⟨.bl _,H1,I1,by rw[r1.sA];rfl,q1⟩)
theorem Fe{j pos'}(ha:PE X a ta):PC X .IsNot a (.Constant .none j pos') (G4 ta):=by
 intro pins s σ H Q I h;refine aP (ha pins s σ H _ I h) fun v s1 iP=>?_;obtain⟨x,H1,I1,r1,q1⟩:=iP;exact Constant_none (isnot_none_gen ⟨.bl _,H1,I1,by rw[r1.sA];rfl,q1⟩)
def tB(t:TE):TT:=fun σ H Q=>t σ H fun x H1=> ∃c,x= .bl c/\Q c H1
theorem JL(h:PC X op a b t)(h1:behindInMarks op b=false:=by first | exact sD _ (by decide) (by decide) | rfl):PE X (.Compare a [op] [b] pos) t:=fun pins s σ H Q I hw=>wpAny_Compare1 (h pins s σ H Q I hw) h1
theorem Bf(h:PC X op a b t)(h1:behindInMarks op b=false:=by first | exact sD _ (by decide) (by decide) | rfl):PT X (.Compare a [op] [b] pos) (tB t):=by
 intro pins s σ H Q I hw;refine wpAny_isTrue_Compare1 (aP (h pins s σ H _ I hw) fun v s1 h1=>aP h1 fun u s2 h2=>aP h2 fun c s3 iO=>?_) h1;obtain⟨x,H1,I1,r1,q1⟩:=iO;obtain⟨d,rfl,q⟩:=q1;cases r1;exact af3 ⟨H1,I1,q⟩
theorem JB(h:PE X e t)(he: ∀whole,isTrue e X.env whole=(do let v<-whole;standAt e.pos;holding [v] (truthy v)):=by intro _;rfl):PT X e (tB t):=by
 intro pins s σ H Q I hw;refine isTrue_plain (aP (h pins s σ H _ I hw) fun v s1 nF=>?_) (he _);obtain⟨x,H1,I1,r1,q1⟩:=nF;obtain⟨d,rfl,q⟩:=q1;cases r1;exact af3 ⟨H1,I1,q⟩
variable{tA Pp:TT}{rest:List Expr}
def QZ(t u:TT):TT:=fun σ H Q=>t σ H fun c H1=>if c=true then u σ H1 Q else Q false H1
def VZ(t u:TT):TT:=fun σ H Q=>t σ H fun c H1=>if c=true then Q true H1 else u σ H1 Q
def QU(t:TT):TT:=fun σ H Q=>t σ H fun c H1=>Q (!c) H1
theorem pw_and1(ha:PT X a tA):PW X (.BoolOp .And [a] pos) tA:=by
 intro wh pins s σ H Q I h;refine isTrue_and (aP (ha pins s σ H Q I h) fun c s1 e=>?_);cases c with
 | true=>exact isTrue_and_nil e
 | false=>exact e
theorem pw_or1(ha:PT X a tA):PW X (.BoolOp .Or [a] pos) tA:=by
 intro wh pins s σ H Q I h;refine isTrue_or (aP (ha pins s σ H Q I h) fun c s1 e=>?_);cases c with
 | false=>exact isTrue_or_nil e
 | true=>exact e
theorem pw_and(ha:PT X a tA)(hb:PW X (.BoolOp .And (b::rest) pos) Pp):PW X (.BoolOp .And (a::b::rest) pos) (QZ tA Pp):=by
 intro wh pins s σ H Q I h;refine isTrue_and (aP (ha pins s σ H _ I h) fun c s1 o9=>?_);obtain⟨H1,I1,q1⟩:=o9;cases c with
 | true=>exact hb wh pins s1 σ H1 Q I1 q1
 | false=>exact⟨H1,I1,q1⟩
theorem pw_or(ha:PT X a tA)(hb:PW X (.BoolOp .Or (b::rest) pos) Pp):PW X (.BoolOp .Or (a::b::rest) pos) (VZ tA Pp):=by
 intro wh pins s σ H Q I h;refine isTrue_or (aP (ha pins s σ H _ I h) fun c s1 nE=>?_);obtain⟨H1,I1,q1⟩:=nE;cases c with
 | true=>exact⟨H1,I1,q1⟩
 | false=>exact hb wh pins s1 σ H1 Q I1 q1
theorem JC(ha:PT X a tA):PT X (.UnaryOp .Not a pos) (QU tA):=by
 intro pins s σ H Q I h;refine isTrue_not (ZU (ha pins s σ H (fun c H1=>Q (!c) H1) I h) (fun c s' z=>?_) fun _ _ z=>z);obtain⟨H',I',q⟩:=z;exact⟨H',I',q⟩
def MJ(ta tb:TE):TE:=fun σ H Q=>ta σ H fun x H1=> ∃c,x= .bl c/\if c=true then tb σ H1 Q else Q (.bl false) H1
def MC(ta:TE):TE:=fun σ H Q=>ta σ H fun x H1=> ∃c,x= .bl c/\Q (.bl (!c)) H1
theorem JJ{op}(h:PE X a t):PE X (.BoolOp op [a] pos) t:=fun pins s σ H Q I hw=>BoolOp_one (h pins s σ H Q I hw)
theorem JM(ha:PE X a ta)(hb:PE X (.BoolOp .And (b::rest) pos) tb):PE X (.BoolOp .And (a::b::rest) pos) (MJ ta tb):=by
 intro pins s σ H Q I h;refine BoolOp_and (aP (ha pins s σ H _ I h) fun v s1 gn=>?_);obtain⟨x,H1,I1,r1,q1⟩:=gn;obtain⟨c,rfl,q1⟩:=q1;cases r1;refine af3 ?_;cases c with
 | true=>exact hb pins s1 σ H1 Q I1 q1
 | false=>exact⟨.bl false,H1,I1,rfl,q1⟩
theorem JK(ha:PE X a ta):PE X (.UnaryOp .Not a pos) (MC ta):=by
 intro pins s σ H Q I h;refine UnaryOp_ (aP (ha pins s σ H _ I h) fun v s1 k6=>?_);obtain⟨x,H1,I1,r1,q1⟩:=k6;obtain⟨c,rfl,q1⟩:=q1;cases r1;exact not_of (af3 ⟨.bl (!c),H1,I1,rfl,q1⟩)
def V1(t:TT)(ta tb:TE):TE:=fun σ H Q=>t σ H fun c H1=>if c=true then ta σ H1 Q else tb σ H1 Q
theorem Bx(hc:PT X c tA)(ha:PE X a ta)(hb:PE X b tb):PE X (.IfExp c a b pos) (V1 tA ta tb):=by
 intro pins s σ H Q I h;refine wpAny_IfExp (aP (hc pins s σ H _ I h) fun d s1 iy=>?_);obtain⟨H1,I1,q1⟩:=iy;cases d with
 | true=>exact ha pins s1 σ H1 Q I1 q1
 | false=>exact hb pins s1 σ H1 Q I1 q1
end
def cX(K:PySem.W.Frag)(H:Hp)(a:Addr)(xs:List V):Prop:=
 Rd H a (.lst xs)\/
  ∃(o:Obj) (ao:Array Value) (n:Nat),K.lookup a=some o/\o.cls= .type "list"/\o.dict=none/\o.data= .seq ao n/\ao.size<=sizeLine/\Vals xs ao.toList
def eV(K:PySem.W.Frag)(H:Hp)(a:Addr)(xs:List V):Prop:=
 Rd H a (.tup xs)\/
  ∃(o:Obj) (ao:Array Value) (n:Nat),K.lookup a=some o/\o.cls= .type "tuple"/\o.data= .seq ao n/\ao.size<=sizeLine/\Vals xs ao.toList
noncomputable def GN:Value->Option V
 | .none=>some .aN
 | .bool b=>some (.bl b)
 | .int i _=>some (.int i)
 | .str x _=>some (.str x)
 | .bytes b _=>some (.zU b)
 | .float b _=>some (.K5 b)
 | .ref a=>some (.ref a)
 | .type n=>some (.ty n)
 | _=>none
theorem RelV.abs(r:RelV x u):GN u=some x:=by
 cases x with
 | aN=>cases r;rfl
 | bl _=>cases r;rfl
 | int _=>obtain⟨t,rfl⟩:=r;rfl
 | str _=>obtain⟨t,rfl⟩:=r;rfl
 | zU _=>obtain⟨t,rfl⟩:=r;rfl
 | K5 _=>obtain⟨t,rfl⟩:=r;rfl
 | ref _=>cases r;rfl
 | ty _=>cases r;rfl
theorem RelV.inj(r:RelV x u)(q:RelV y u):x=y:=Option.some.inj (r.abs.symm.trans q.abs)
theorem Vals.inj: ∀{xs ys:List V} {us:List Value},Vals xs us->Vals ys us->xs=ys
 | _,_,_,.nil,.nil=>rfl
 | _,_,_,.cons r t,.cons r' t'=>by rw[r.inj r',Vals.inj t t']
theorem cX.of{K:PySem.W.Frag}(h:H a=some (.lst xs)):cX K H a xs:= .inl (.inl h)
theorem eV.of{K:PySem.W.Frag}(h:H a=some (.tup xs)):eV K H a xs:= .inl (.inl h)
theorem Inv.list(I:Inv X pins σ H s)(h:cX X.K H a xs): ∃ao:List Value,Vals xs ao/\PlainL s.heap a ao.toArray/\xs.length<=sizeLine:=by
 rcases h with h | ⟨o,ao,n,hk,hc,hd,hs,hz,r⟩
 . obtain⟨z,ao,n,r,e⟩:=h.ok I.aT;exact⟨ao,r,⟨_,n,e,rfl,rfl,rfl⟩,z⟩
 . refine⟨ao.toList,r,⟨o,n,I.qR a o hk,hc,hd,by simpa using hs⟩,?_⟩;have e:=r.length;simp only [Zv] at e;lia
theorem Inv.tuple(I:Inv X pins σ H s)(h:eV X.K H a xs): ∃ao:List Value,Vals xs ao/\IsTup s.heap a ao.toArray/\xs.length<=sizeLine:=by
 rcases h with h | ⟨o,ao,n,hk,hc,hs,hz,r⟩
 . obtain⟨z,ao,r,p⟩:=h.ok I.aT;exact⟨ao,r,p.tup,z⟩
 . refine⟨ao.toList,r,⟨o,I.qR a o hk,hc,n,by simpa using hs⟩,?_⟩;have e:=r.length;simp only [Zv] at e;lia
theorem Inv.BZ(I:Inv X pins σ H s)(h:cX X.K H a xs)(h':cX X.K H a ys):xs=ys:=by
 obtain⟨ao,r,⟨o,n,e,_,_,d⟩,_⟩:=I.list h;obtain⟨its',r',⟨o',n',e',_,_,d'⟩,_⟩:=I.list h';rw[e] at e';cases e';rw[d] at d';injection d' with d1 _
 have:ao=its':=by simpa using aa6 Array.toList d1
 subst this;exact r.inj r'
theorem Inv.yc(I:Inv X pins σ H s)(h:eV X.K H a xs)(h':eV X.K H a ys):xs=ys:=by
 obtain⟨ao,r,⟨o,e,_,n,d⟩,_⟩:=I.tuple h;obtain⟨its',r',⟨o',e',_,n',d'⟩,_⟩:=I.tuple h';rw[e] at e';cases e';rw[d] at d';injection d' with d1 _
 have:ao=its':=by simpa using aa6 Array.toList d1
 subst this;exact r.inj r'
noncomputable abbrev Cx.nG (X:Cx) (E:Value->Shared->Prop):Cx:={X with xe:=E}
noncomputable abbrev Cx.Fy (X:Cx):Cx:=X.nG fun _ _=>False
theorem Cx.Ok.nG{X:Cx}(ok:X.Ok)(E:Value->Shared->Prop):(X.nG E).Ok:=
 ⟨ok.mod,ok.kind,ok.glob,ok.blt,ok.above,ok.inj,ok.has,ok.OR,ok.hd,ok.frames,ok.Pq,ok.HL,ok.bs,ok.Ir,ok.BR,ok.vo,ok.mH,ok.Mi⟩
theorem Cx.Ok.gr{X:Cx}(ok:(X.nG E).Ok):X.Ok:=
 ⟨ok.mod,ok.kind,ok.glob,ok.blt,ok.above,ok.inj,ok.has,ok.OR,ok.hd,ok.frames,ok.Pq,ok.HL,ok.bs,ok.Ir,ok.BR,ok.vo,ok.mH,ok.Mi⟩
theorem Inv.nG(I:Inv X pins σ H s)(E:Value->Shared->Prop):Inv (X.nG E) pins σ H s:=⟨I.ok.nG E,I.os,I.bare,I.base,I.loc,I.cell,I.free,I.gX,I.pin,I.aT,I.len⟩
theorem Inv.gr(I:Inv (X.nG E) pins σ H s):Inv X pins σ H s:=⟨I.ok.gr,I.os,I.bare,I.base,I.loc,I.cell,I.free,I.gX,I.pin,I.aT,I.len⟩
theorem SP.gr(h:SP (X.nG E) pins D f s'):SP X pins D f s':=by
 cases f with
 | next=>obtain⟨σ',H',I,q⟩:=h;exact⟨σ',H',I.gr,q⟩
 | brk=>obtain⟨σ',H',I,q⟩:=h;exact⟨σ',H',I.gr,q⟩
 | cont=>obtain⟨σ',H',I,q⟩:=h;exact⟨σ',H',I.gr,q⟩
 | ret u=>obtain⟨v,σ',H',I,r,q⟩:=h;exact⟨v,σ',H',I.gr,r,q⟩
theorem qL.Fy{st:List Stmt}(h:qL X.Fy st t):qL X st t:=fun pins s σ H D I hw=>
 ZU (h pins s σ H D (I.nG _) hw) (fun _ _ q=>q.gr) fun _ _ z=>False.elim z
section
variable{X:Cx}{st:Stmt}{rest:List Stmt}{t u:TS}{e:Expr}{te:TE}{pos:Pos}
def MD:TS:=fun D σ H=>D.nx σ H
def QR(t u:TS):TS:=fun D σ H=>t {D with nx:=u D} σ H
theorem pR:qL X [] MD:=fun _ _ σ H _ I h=>wpAny_execs_nil ⟨σ,H,I,h⟩
theorem bB(h1:PS X st t)(h2:qL X rest u):qL X (st::rest) (QR t u):=by
 intro pins s σ H D I h;refine wpAny_execs_cons (aP (h1 pins s σ H {D with nx:=u D} I h) fun f s1 q=>?_);cases f with
 | next=>
  obtain⟨σ',H',I',q⟩:=q;exact h2 pins s1 σ' H' D I' q
 | ret v=>exact q
 | brk=>exact q
 | cont=>exact q
theorem iZ(h1:PS X st t):qL X [st] t:=by
 intro pins s σ H D I h;refine wpAny_execs_cons (aP (h1 pins s σ H D I h) fun f s1 q=>?_);cases f with
 | next=>exact wpAny_execs_nil q
 | ret v=>exact q
 | brk=>exact q
 | cont=>exact q
theorem Inv.quiet(I:Inv X pins σ H s):interactive X.env=false:=by simp [interactive,I.ok.kind]
def MH(te:TE):TS:=fun D σ H=>te σ H fun _ H1=>D.nx σ H1
theorem ET(he:PE X e te)(hs:swapsWith e none pos.line X.env=pure false:=by rfl):PS X (.Expr e pos) (MH te):=by
 intro pins s σ H D I h;exact wpAny_Expr_any (aP (he pins s σ H _ I h) fun v s1 IJ=>(by obtain⟨x,H1,I1,r1,q1⟩:=IJ;exact(⟨σ,H1,I1,q1⟩))) I.quiet hs
def QS(te:TE):TS:=fun D σ H=>te σ H D.rt
theorem pS(he:PE X e te):PS X (.Return (some e) pos) (QS te):=by
 intro pins s σ H D I h;exact wpAny_Return_some (aP (he pins s σ H _ I h) fun v s1 Aa=>(by obtain⟨x,H1,I1,r1,q1⟩:=Aa;exact(⟨x,σ,H1,I1,r1,q1⟩)))
def QV(c:TT)(t u:TS):TS:=fun D σ H=>c σ H fun b H1=>if b=true then t D σ H1 else u D σ H1
theorem Bh(hc:PT X c tc)(ha:qL X a t)(hb:qL X b u):PS X (.If c a b pos) (QV tc t u):=by
 intro pins s σ H D I h;refine wpAny_If (aP (hc pins s σ H _ I h) fun d s1 z0=>?_);obtain⟨H1,I1,q1⟩:=z0;cases d with
 | true=>exact ha pins s1 σ H1 D I1 q1
 | false=>exact hb pins s1 σ H1 D I1 q1
end
abbrev TG:=V->St->Hp->(St->Hp->Prop)->Prop
abbrev LI:=List V->St->Hp->(St->Hp->Prop)->Prop
def PG(X:Cx)(target:Expr)(t:TG):Prop:=
 ∀(pins:List (Addr × Obj)) (s:Shared) (σ:St) (H:Hp) (v:V) (u:Value) (Q:St->Hp->Prop),Inv X pins σ H s->RelV v u->t v σ H Q->
  wpAny (model X.prog X.w) X.A (assign target X.env u) (fun _ s'=>OZ X pins Q s') X.xe s
def Qc(X:Cx)(ts:List Expr)(t:LI):Prop:=
 ∀(pins:List (Addr × Obj)) (s:Shared) (σ:St) (H:Hp) (vs:List V) (us:List Value) (Q:St->Hp->Prop),Inv X pins σ H s->Vals vs us->t vs σ H Q->
  wpAny (model X.prog X.w) X.A (assignInOrder ((assignEach ts X.env).map (·.2)) us) (fun _ s'=>OZ X pins Q s') X.xe s
abbrev OY:=V->V->V->Hp->(Hp->Prop)->Prop
def O0(X:Cx)(t:OY):Prop:=
 ∀(pins:List (Addr × Obj)) (s:Shared) (σ:St) (H:Hp) (o i v:V) (ov iv u:Value) (Q:Hp->Prop),Inv X pins σ H s->RelV o ov->RelV i iv->RelV v u->t o i v H Q->
  wpAny (model X.prog X.w) X.A (setItem ov iv u) (fun _ s'=> ∃H',Inv X pins σ H' s'/\Q H') X.xe s
section
variable{X:Cx}{pos:Pos}
def bV(i:Nat):TG:=fun v σ H Q=>Q (σ.set i (some v)) H
theorem aE(hN:X.N.Nodup)(hi:X.N[i]?=some x)(hx:Loc X.env.scope x)(hf:X.fn x=true\/X.env.scope.names.lookup x=some .local:=by first | exact .inl rfl | exact .inr rfl | assumption):PG X (.Name x pos) (bV i):=by
 intro pins s σ H v u Q I r h;exact wpAny_assign_Name (dN I hN hi hx r (fun s' I'=>⟨_,H,I',h⟩) hf)
def vm:LI:=fun vs σ H Q=>vs= []/\Q σ H
def eJ(t:TG)(u:LI):LI:=fun vs σ H Q=> ∃v r,vs=v::r/\t v σ H fun σ' H'=>u r σ' H' Q
theorem bR:Qc X [] vm:=by
 intro pins s σ H vs us Q I r h;obtain⟨e,h⟩:=h;subst e;cases r;exact assignInOrder_nil ⟨σ,H,I,h⟩
theorem aI(h1:PG X e t)(h2:Qc X es u)(hs:(assignEach (e::es) X.env).map (·.2)=assign e X.env::(assignEach es X.env).map (·.2):=by rfl):Qc X (e::es) (eJ t u):=by
 intro pins s σ H vs us Q I r h;obtain⟨v,vr,e1,h⟩:=h;subst e1;cases r with
 | cons r rr=>
  rw[hs];refine ah4 (aP (h1 pins s σ H _ _ _ I r h) fun _ s1 zZ=>?_);obtain⟨σ1,H1,I1,q1⟩:=zZ;exact h2 pins s1 σ1 H1 _ _ Q I1 rr q1
def y9(K:PySem.W.Frag)(n:Nat)(t:LI):TG:=fun v σ H Q=> ∃a xs,v= .ref a/\eV K H a xs/\xs.length=n/\t xs σ H Q
theorem cT(hc:X.calm=true)(h:Qc X es t)(hn:(assignEach es X.env).length=n:=by rfl)(Ku:(assignEach es X.env).findIdx? (·.1)=none:=by rfl):PG X (.Tuple es k pos) (y9 X.K n t):=by
 intro pins s σ H v u Q I r hw;obtain⟨a,xs,e1,hq,hl,hw⟩:=hw;subst e1;cases r;obtain⟨ao,rv,ht,hz⟩:=I.tuple hq;refine assign_Tuple_tuple (I.ok.hd hc) ht (by simp [hn,<-hl,rv.length]) Ku fun h' hx=>?_;have I1:Inv X pins σ H {s with heap:=h'}:=I.kept (t':=s.toks) fun b o e=>hx b o (ZY (ZD e)) e;exact h pins _ σ H xs _ Q I1 (by simpa using rv) hw
def SD(to ti:TE)(t:OY):TG:=fun v σ H Q=>to σ H fun o H1=>ti σ H1 fun i H2=>t o i v H2 fun H3=>Q σ H3
theorem JG (ho : PE X o to) (hi : PE X i ti) (hs : O0 X t) (ha : ∀ v, assign (.Subscript o i pos) X.env v = (do
   let ov<-holding [v] (eval o X.env)
   let iv<-holding [v,ov] (eval i X.env)
   standAt pos
   holding [v,ov,iv] (setItem ov iv v)
   release [v,ov,iv] []):=by intro _;rfl):PG X (.Subscript o i pos) (SD to ti t):=by
 intro pins s σ H v u Q I r h;rw[ha];refine Zd (aa9 (aP (ho pins s σ H _ I h) fun ov s1 uj=>?_));obtain⟨x,H1,I1,r1,q1⟩:=uj;refine Zd (aa9 (aP (hi pins s1 σ H1 _ I1 q1) fun iv s2 ui=>?_));obtain⟨y,H2,I2,r2,q2⟩:=ui;refine Zd (ab6 (Zd (aa9 (aP (hs pins s2 σ H2 x y v ov iv u _ I2 r1 r2 r q2) fun _ s3 zY=>?_))));obtain⟨H3,I3,q3⟩:=zY;exact wpAny_release ⟨σ,H3,I3,q3⟩
def AE(te:TE)(g:TG):TS:=fun D σ H=>te σ H fun x H1=>g x σ H1 D.nx
theorem Bi(he:PE X e te)(hg:PG X tg g)(hs:swapsWithSole [tg] e pos.line X.env=pure false:=by rfl)(hw:swappedStores [tg] e X.env=pure none:=by rfl)(h1:(assignEach [tg] X.env).map (·.2)= [assign tg X.env]:=by rfl):PS X (.Assign [tg] e pos) (AE te g):=by
 intro pins s σ H D I h;refine wpAny_Assign_stores (aP (he pins s σ H _ I h) fun v s1 II=>?_) hs hw;obtain⟨x,H1,I1,r1,q1⟩:=II;rw[h1];exact aP (hg pins s1 σ H1 x v _ I1 r1 q1) fun _ s2 q=>q
theorem dj(hN:X.N.Nodup)(hi:X.N[i]?=some x)(hx:Loc X.env.scope x)(he:PE X e te)(hs:swapsWith e (some (.Name x pos')) pos.line X.env=pure false:=by rfl)(hf:X.fn x=true\/X.env.scope.names.lookup x=some .local:=by first | exact .inl rfl | exact .inr rfl | assumption):
  PS X (.Assign [.Name x pos'] e pos) (AE te (bV i)):=by
 intro pins s σ H D I h;refine wpAny_Assign_Name (aP (he pins s σ H _ I h) fun v s1 IH=>?_) hs;obtain⟨y,H1,I1,r1,q1⟩:=IH;exact dN I1 hN hi hx r1 (fun s2 I2=>⟨_,H1,I2,q1⟩) hf
def QT(i j:Nat)(ta:TA):TS:=fun D σ H=>ta σ H fun vs H1=> ∃v w,vs= [v,w]/\D.nx ((σ.set i (some v)).set j (some w)) H1
theorem JD{kt k2 uP}(hc:X.calm=true)(hN:X.N.Nodup)(hi:X.N[i]?=some x)(hj:X.N[j]?=some y)(bW:i≠j)(hx:X.env.scope.names.lookup x=some .local)(hy:X.env.scope.names.lookup y=some .local)(ha:PA X [a,b] ta)(hw:swappedStores [.Tuple [.Name x px, .Name y py] kt pt] (.Tuple [a,b] k2 uP) X.env=pure (some [x,y]))(hs:swapsWithSole [.Tuple [.Name x px, .Name y py] kt pt] (.Tuple [a,b] k2 uP) pos.line X.env=pure false:=by rfl):
  PS X (.Assign [.Tuple [.Name x px,.Name y py] kt pt] (.Tuple [a,b] k2 uP) pos) (QT i j ta):=by
 intro pins s σ H D I h;rw[exec_Assign_arm];refine Zd (ab6 ?_);rw[hs];refine Zd (Zf ?_);rw[if_neg (by decide)];refine Zd (Tuple_ (aP (ha _ pins s σ H _ I h) fun us s1 zX=>?_));obtain⟨vs,H1,I1,r1,q1⟩:=zX;obtain⟨v,w,e1,q1⟩:=q1;subst e1;obtain⟨u1,u2,rfl,rv,qQ⟩: ∃u1 u2,us= [u1,u2]/\RelV v u1/\RelV w u2:=by
  cases r1 with
  | cons p q=>
   cases q with
   | cons p' q'=>
    cases q';exact⟨_,_,rfl,p,p'⟩
 refine Z9 ?_ (by show 2<=sizeLine;decide);have I2:Inv X pins σ H1 {s1 with heap:=s1.heap.push {cls:= .type "tuple",data:= .seq [u1,u2].toArray}}:=I1.kept (t':=s1.toks) fun b o e=>Zh _ e;rw[hw];refine Zd (Zf ?_);show wpAny (model X.prog X.w) X.A (do rule "assign.swapped-stores";let items<-unpackItems (.ref s1.heap.objs.size) 2 none;assignInOrder [fun v=>bindName X.env y v,fun v=>bindName X.env x v] items.reverse;pure Flow.next) _ _ _;refine Zd (ad1 (Zd (unpackItems_tuple (items:= #[u1,u2]) (I.ok.hd hc) (IsTup.new s1.heap _) fun h' vd=>?_)));have I3:=I2.kept (h':=h') (t':=s1.toks) fun b o e=>vd b o (ZY (ZD e)) e;show wpAny _ _ (assignInOrder [fun v=>bindName X.env y v,fun v=>bindName X.env x v] [u2,u1] >>=fun _=>pure Flow.next) _ _ _;refine Zd (ah4 (an6 (dN I3 hN hj (.inl hy) qQ (fun s2 I4=>?_) (.inr hy))));refine ah4 (an6 (dN I4 hN hi (.inl hx) rv (fun s3 I5=>assignInOrder_nil (Zf ?_)) (.inr hx)));rw[List.set_comm _ _ (Ne.symm bW)] at I5;exact⟨_,H1,I5,q1⟩
end
section
variable{X:Cx}{pos:Pos}
def Jc(c:TT)(tb:TS):TS:=fun D σ H=> ∃W:Nat->St->Hp->Prop,(∃m,W m σ H)/\ ∀m σ H,W m σ H->
 c σ H fun b H1=>if b=true then∃N:St->Hp->Prop,(∀σ' H',N σ' H'-> ∃m',m' < m/\W m' σ' H')/\tb {D with nx:=N,ct:=N,bk:=D.nx} σ H1 else D.nx σ H1
theorem Bg(hp:PassesOwn (model X.prog X.w) X.A X.env X.xe)(hc:PT X c tc)(hb:qL X body tb):PS X (.While c body [] pos) (Jc tc tb):=by
 intro pins s σ H D I h;obtain⟨W,⟨m0,w0⟩,turn⟩:=h;refine wpAny_While (codeAny_whileLoop (fun n s'=> ∃σ' H',Inv X pins σ' H' s'/\W n σ' H') ?_ m0 ⟨σ,H,I,w0⟩);rintro n s1 ⟨σ1,H1,I1,w1⟩
 refine ah8 hp (aP (hc pins s1 σ1 H1 _ I1 (turn n σ1 H1 w1)) fun b s2 QD=>?_);obtain⟨H2,I2,q2⟩:=QD;cases b with
 | true=>
  obtain⟨N,hN,q2⟩:=q2;rw[if_pos rfl];refine ah8 hp (aP (hb pins s2 σ1 H2 _ I2 q2) fun f s3 q3=>?_);cases f with
  | next=>
   obtain⟨σ3,H3,I3,n3⟩:=q3;obtain⟨m',hm,w3⟩:=hN σ3 H3 n3;exact⟨m',hm,σ3,H3,I3,w3⟩
  | cont=>
   obtain⟨σ3,H3,I3,n3⟩:=q3;obtain⟨m',hm,w3⟩:=hN σ3 H3 n3;exact⟨m',hm,σ3,H3,I3,w3⟩
  | brk=>exact q3
  | ret v=>exact q3
 | false=>
  rw[if_neg Zp];exact wpAny_execs_nil ⟨σ1,H2,I2,q2⟩
end
structure It where
 go:Nat->Hp->Prop
 uo:Nat->Hp->V->Hp->Prop
 stop:Nat->Hp->Prop
def dh(X:Cx)(pins:List (Addr × Obj))(H:Hp)(b:Addr):Prop:=
 H b=none/\b≠X.env.locals/\b∉X.fs/\(b∈X.ex\/X.s₀.heap.objs.size<=b)/\(∀x c,X.env.cells.lookup x=some c->c≠b)/\ ∀p∈X.pn++pins,p.1≠b
theorem Inv.vn(I:Inv X pins σ H s)(hb:s.heap.objs.size<=b)(hn:H' b=none):dh X pins H' b:=by
 refine⟨hn,aj0 (ZJ I.lt hb),I.Rq hb,.inr (ZE I.sz hb),fun x c e z=>?_,fun p hp z=>?_⟩
 . obtain⟨v,q⟩:=I.cell x c e;exact absurd (ZJ q.lt (by rw[z];exact hb)) (Z7 _)
 . exact absurd (ZJ (ZD (I.pin p hp).1) (by rw[z];exact hb)) (Z7 _)
structure Turn(P:Program)(w:World)(K:PySem.W.Frag)(tg:Expr)(J:It)(fp:List Addr)(it:Addr)(tn:Nat->Heap->Prop):Prop where
 mem:it∈fp
 obj: ∀i h,tn i h-> ∀b∈fp,∃o,h.get? b=some o/\ ∀v,o.data≠ .cell v
 keep: ∀i h h',tn i h->(∀b∈fp,∀o,h.get? b=some o->h'.get? b=some o)->tn i h'
 item: ∀(X:Cx),X.prog=P->X.w=w->X.K=K->X.calm=true-> ∀(i:Nat) (pins:List (Addr × Obj)) (s:Shared) (σ:St) (H:Hp) (E:Value->Shared->Prop),Inv X pins σ H s->(∀b∈fp,dh X pins H b)->tn i s.heap->J.go i H->
  wpAny (model P w) X.A (pyNext (.ref it)) (fun r s1=> ∃u,r=some u/\
   wpAny (model P w) X.A (letOwnedTupleGo tg (.ref it) u) (fun _ s2=> ∃x H',Inv X pins σ H' s2/\RelV x u/\J.uo i H x H'/\tn (i+1) s2.heap/\ ∀b∈fp,H' b=none) E s1) E s
 done: ∀(X:Cx),X.prog=P->X.w=w->X.K=K->X.calm=true-> ∀(i:Nat) (pins:List (Addr × Obj)) (s:Shared) (σ:St) (H:Hp) (E:Value->Shared->Prop),Inv X pins σ H s->(∀b∈fp,dh X pins H b)->tn i s.heap->J.stop i H->
  wpAny (model P w) X.A (pyNext (.ref it)) (fun r s1=>r=none/\Inv X pins σ H s1) E s
 self: ∀(A:Around) (i:Nat) (s:Shared) (Q:Value->Shared->Prop) (E:Value->Shared->Prop),tn i s.heap->Q (.ref it) s->wpAny (model P w) A (pyIter (.ref it)) Q E s
abbrev TI:=St->Hp->(It->Hp->Prop)->Prop
def Qb(X:Cx)(pins:List (Addr × Obj))(σ:St)(tg:Expr)(R:It->Hp->Prop)(L8:Value)(s2:Shared):Prop:=
 ∃(it:Addr) (fp:List Addr) (tn:Nat->Heap->Prop) (J:It) (H':Hp),L8= .ref it/\Inv X pins σ H' s2/\Turn X.prog X.w X.K tg J fp it tn/\tn 0 s2.heap/\(∀b∈fp,dh X pins H' b)/\R J H'
def PI(X:Cx)(tg iter:Expr)(wi:TI):Prop:=
 ∀(pins:List (Addr × Obj)) (s:Shared) (σ:St) (H:Hp) (R:It->Hp->Prop),Inv X pins σ H s->wi σ H R->
  wpAny (model X.prog X.w) X.A (eval iter X.env) (fun v s1=>wpAny (model X.prog X.w) X.A (pyIter v) (Qb X pins σ tg R) X.xe s1) X.xe s
theorem HH{s:Shared}(ho:s.heap.get? it=some o)(hc:o.cls= .type n)(hd:o.data= .fields vs)(hn: ["enumerate","zip","dict_itemiterator","dict_reverseitemiterator","odict_iterator","itertools.zip_longest","itertools.pairwise"].contains n=false)(hQ:Q () s):wpAny M A (letOwnedTupleGo tg (.ref it) u) Q E s:=by
 unfold letOwnedTupleGo;cases tg <;> first
  | exact Zf hQ
  | (cases u <;> first
    | exact Zf hQ
    | (refine Zd (wpAny_load ho ?_)
       rw[hc,hd];show wpAny M A (if (["enumerate","zip","dict_itemiterator","dict_reverseitemiterator","odict_iterator","itertools.zip_longest","itertools.pairwise"].contains n && vs[0]?==some (rawInt _))=true then _ else _) Q E s;rw[if_neg (by intro h;rw[hn,Bool.false_and] at h;cases h)];exact Zf hQ))
noncomputable def TN(K:PySem.W.Frag)(a:Addr):It:=
 ⟨fun i H=> ∃xs x,cX K H a xs/\xs[i]?=some x,fun i H x H'=>H'=H/\ ∀xs,cX K H a xs->xs[i]?=some x,fun i H=> ∃xs,cX K H a xs/\xs.length<=i⟩
noncomputable def O8(lo:Int)(n:Nat):It:=⟨fun i _=>i < n,fun i H x H'=>H'=H/\x= .int (lo+i),fun i _=>n<=i⟩
theorem ya{P:Program}{w:World}{K:PySem.W.Frag}{tg:Expr}(a it:Addr):Turn P w K tg (TN K a) [it] it (fun i h=>h.IsListIter it a i) where
 mem:=by simp
 obj:=fun i h st b hb=>by
  have e:b=it:=by simpa using hb
  subst e;obtain⟨o,e,c,d⟩:=st;exact⟨o,e,fun v z=>by rw[d] at z;cases z⟩
 keep:=fun i h h' st k=>st.at fun o e=>k it (by simp) o e
 item:=by
  intro X hP hw hK hc i pins s σ H E I hf st hg;subst hP hw hK;obtain⟨xs,x,hq,hx⟩:=hg;obtain⟨ao,rv,p,hz⟩:=I.list hq;obtain⟨u,hu,ru⟩:=rv.get hx;obtain⟨f0,f1,f2,f3,f4,f5⟩:=hf it (by simp);refine wpAny_pyNext_list_item st p.isList (x:=u) (by simpa using hu) fun h' ay sb=>?_;have I1:Inv X pins σ H {s with heap:=h'}:=I.turned (t':=s.toks) (fun b o hb e=>(sb.2 b hb).trans e) f0 f1 f3 f4 f5;obtain⟨o,e,c,d⟩:=id ay;exact⟨u,rfl,HH (s:={s with heap:=h'}) e c d (by decide) ⟨x,H,I1,ru,⟨rfl,fun ys hy=>by rw[I.BZ hy hq];exact hx⟩,ay,fun b hb=>(hf b hb).1⟩⟩
 done:=by
  intro X hP hw hK hc i pins s σ H E I hf st hg;subst hP hw hK;obtain⟨xs,hq,hx⟩:=hg;obtain⟨ao,rv,p,hz⟩:=I.list hq;obtain⟨f0,f1,f2,f3,f4,f5⟩:=hf it (by simp);have hl:=rv.length;exact wpAny_pyNext_list_end (I.ok.hd hc) st p.isList (by simp;lia) fun h' eb=>⟨rfl,I.turned (t':=s.toks) (fun b o hb e=>eb b o hb e) f0 f1 f3 f4 f5⟩
 self:=fun _ _ _ _ _ st h=>wpAny_pyIter_listiter st h
theorem uu{P:Program}{w:World}{K:PySem.W.Frag}{tg:Expr}(it:Addr)(lo:Int)(n:Nat):Turn P w K tg (O8 lo n) [it] it (fun i h=>IsRangeIter h it (lo+(i:Nat)*1) ((n:Int) - (i:Nat)) 1) where
 mem:=by simp
 obj:=fun i h st b hb=>by
  have e:b=it:=by simpa using hb
  subst e;exact⟨_,st,fun v z=>by
   have z':Data.fields _=Data.cell v:=z;cases z'⟩
 keep:=fun i h h' st k=>k it (by simp) _ st
 item:=by
  intro X hP hw hK hc i pins s σ H E I hf st hg;subst hP hw hK;obtain⟨f0,f1,f2,f3,f4,f5⟩:=hf it (by simp);have W:=Walks.range (prog:=X.prog) (w:=X.w) (I.ok.hd hc) it lo 1 n;refine W.item i s _ _ hg st fun v h' tk hv ay kk=>?_;obtain⟨t,rfl⟩:=hv;have I1:Inv X pins σ H {s with heap:=h',toks:=tk}:=I.turned (fun b o hb e=>kk b o (by simpa using hb) e) f0 f1 f3 f4 f5;refine⟨_,rfl,HH (s:={s with heap:=h',toks:=tk}) (n:="range_iterator") ay rfl rfl (by decide) ⟨.int (lo+i),H,I1,⟨t,?_⟩,⟨rfl,rfl⟩,ay,fun b hb=>(hf b hb).1⟩⟩;rw[Int.mul_one]
 done:=by
  intro X hP hw hK hc i pins s σ H E I hf st hg;subst hP hw hK;obtain⟨f0,f1,f2,f3,f4,f5⟩:=hf it (by simp);exact wpAny_pyNext_range_end (I.ok.hd hc) st (by have:n<=i:=hg;lia) fun h' eb=>⟨rfl,I.turned (t':=s.toks) (fun b o hb e=>eb b o hb e) f0 f1 f3 f4 f5⟩
 self:=fun _ _ _ _ _ st h=>wpAny_pyIter_rangeiter st h
section
variable{X:Cx}{tg:Expr}
def NN(K:PySem.W.Frag)(tl:TE):TI:=fun σ H R=>tl σ H fun x H1=> ∃a,x= .ref a/\(∃xs,cX K H1 a xs)/\R (TN K a) H1
theorem EX(hl:PE X l tl):PI X tg l (NN X.K tl):=by
 intro pins s σ H R I h;refine aP (hl pins s σ H _ I h) fun v s1 QC=>?_;obtain⟨x,H1,I1,r1,q1⟩:=QC;obtain⟨a,e,⟨xs,hq⟩,q⟩:=q1;subst e;cases r1;obtain⟨ao,rv,p,hz⟩:=I1.list hq;refine ai1 p.isList ?_;refine⟨s1.heap.objs.size,[s1.heap.objs.size],_,_,H1,rfl,I1.kept (t':=s1.toks) fun b o e=>Zh _ e,ya a _,⟨_,Zs _ rfl,rfl,rfl⟩,fun b hb=>?_,q⟩;have e:b=s1.heap.objs.size:=by simpa using hb
 subst e;exact I1.vn (Zj _) (I1.aT.fresh (Zj _))
theorem rW{lo hi:Int}(I:Inv X pins σ H s)(h1: -(2^62)<=lo)(h2:lo < 2^62)(h3: -(2^62)<=hi)(h4:hi < 2^62)(q:R (O8 lo (hi - lo).toNat) H):wpAny (model X.prog X.w) X.A (pyIter (.ref s.heap.objs.size)) (Qb X pins σ tg R) E {s with heap:=s.heap.push {cls:= .type "range",data:= .fields #[.int lo t,.int hi u,.int 1 v]},toks:=tk}:=by
 refine wpAny_pyIter_range (IsRange.new ..) (small_one h1 h2 h3 h4) ?_;have I1:Inv X pins σ H {s with heap:=s.heap.push {cls:= .type "range",data:= .fields #[.int lo t,.int hi u,.int 1 v]},toks:=tk}:=I.kept fun b o e=>Zh _ e;refine⟨(s.heap.push {cls:= .type "range",data:= .fields #[.int lo t,.int hi u,.int 1 v]}).objs.size,[(s.heap.push {cls:= .type "range",data:= .fields #[.int lo t,.int hi u,.int 1 v]}).objs.size],_,_,H,rfl,
  I1.kept (t':=tk) fun b o e=>Zh _ e,uu _ lo (hi - lo).toNat,?_,fun b hb=>?_,q⟩
 . have e1:lo+((0:Nat):Int)*1=lo:=by simp
   have e2:(((hi - lo).toNat:Nat):Int) - ((0:Nat):Int)=Builtin.Range.rangeSize lo hi 1:=by rw[rangeSize_one];split <;> lia
   show IsRangeIter _ _ (lo+((0:Nat):Int)*1) ((((hi - lo).toNat:Nat):Int) - ((0:Nat):Int)) 1;rw[e1,e2];exact Zs _ rfl
 . have e:b=(s.heap.push {cls:= .type "range",data:= .fields #[.int lo t, .int hi u, .int 1 v]}).objs.size:=by simpa using hb
   subst e;exact I1.vn (Zj _) (I1.aT.fresh (Zj _))
def NM(ta:TA):TI:=fun σ H R=>ta σ H fun vs H1=> ∃j:Int,vs= [.int j]/\ -(2^62)<=j/\j < 2^62/\R (O8 0 j.toNat) H1
def NL(ta:TA):TI:=fun σ H R=>ta σ H fun vs H1=> ∃i j:Int,vs= [.int i,.int j]/\(-(2^62)<=i/\i < 2^62/\ -(2^62)<=j/\j < 2^62)/\R (O8 i (j - i).toNat) H1
theorem yo(hg:Gl X "range")(hm:X.mg "range"=none)(ha:PA X [a] ta)(hs:starEach [a] X.env= [(false,eval a X.env)]:=by rfl):PI X tg (.Call (.Name "range" p) [a] [] pos) (NM ta):=by
 intro pins s σ H R I h;refine Call_ (cE I hg hm boot_range (ac3 (aP (ha pos pins s σ H _ I h) fun us s1 QB=>?_) hs rfl));obtain⟨vs,H1,I1,r1,q1⟩:=QB;obtain⟨j,e,q1,q2,q⟩:=q1;subst e;cases r1 with
 | cons r rr=>
  cases rr;obtain⟨t,rfl⟩:=r;exact call_range_1 (rW I1 (by lia) (by lia) q1 q2 (by simpa using q))
theorem yn(hg:Gl X "range")(hm:X.mg "range"=none)(ha:PA X [a,b] ta)(hs:starEach [a,b] X.env= [(false,eval a X.env),(false,eval b X.env)]:=by rfl)(mB:starEach [b] X.env= [(false,eval b X.env)]:=by rfl):
  PI X tg (.Call (.Name "range" p) [a,b] [] pos) (NL ta):=by
 intro pins s σ H R I h;refine Call_ (cE I hg hm boot_range (ac3 (aP (ha pos pins s σ H _ I h) fun us s1 QA=>?_) (by rw[hs,mB]) (by rw[mB];rfl)));obtain⟨vs,H1,I1,r1,q1⟩:=QA;obtain⟨i,j,e,⟨q1,q2,q3,q4⟩,q⟩:=q1;subst e;cases r1 with
 | cons r rr=>
  cases rr with
  | cons r' rr=>
   cases rr;obtain⟨t,rfl⟩:=r;obtain⟨t',rfl⟩:=r';exact call_range_2 (rW I1 q1 q2 q3 q4 q)
def QW(wi:TI)(g:TG)(tb:TS):TS:=fun D σ H=>wi σ H fun J H1=> ∃W:Nat->Nat->St->Hp->Prop,(∃m,W 0 m σ H1)/\ ∀i m σ H,W i m σ H->
 (J.stop i H/\D.nx σ H)\/(J.go i H/\ ∃N:St->Hp->Prop,(∀σ' H',N σ' H'-> ∃m',m' < m/\W (i+1) m' σ' H')/\ ∀x H',J.uo i H x H'->g x σ H' fun σ2 H2=>tb {D with nx:=N,ct:=N,bk:=D.nx} σ2 H2)
noncomputable def iE(fp:List Addr)(h:Heap):List (Addr × Obj):=fp.filterMap fun b=>(h.get? b).map fun o=>(b,o)
theorem bf{h:Heap}(hb:b∈fp)(e:h.get? b=some o):(b,o)∈iE fp h:=ak2.mpr ⟨b,hb,by rw[e];rfl⟩
theorem yy(hp:p∈iE fp h):p.1∈fp/\h.get? p.1=some p.2:=by
 obtain⟨b,hb,e⟩:=ak2.mp hp;cases q:h.get? b with
 | none=>rw[q] at e;cases e
 | some o=>
  rw[q] at e;have e':(b,o)=p:=Option.some.inj e;subst e';exact⟨hb,q⟩
theorem Inv.pinned(I:Inv X pins σ H s)(hf: ∀b∈fp,dh X pins H b)(ho: ∀b∈fp,∃o,s.heap.get? b=some o/\ ∀v,o.data≠ .cell v):Inv X (pins++iE fp s.heap) σ H s:=
 I.wO fun p hp=>(Zz.mp hp).elim (fun z=>I.pin p (Zw _ z)) fun z=>by
  obtain⟨hb,e⟩:=yy z;obtain⟨f0,f1,f2,_⟩:=hf p.1 hb;obtain⟨o,e',d⟩:=ho p.1 hb;rw[e] at e';cases e';exact⟨e,f0,f1,f2,d⟩
theorem Inv.dJ(I:Inv X (pins++pl) σ H s):Inv X pins σ H s:=I.wO fun p hp=>I.pin p (Zw _ (ZX _ hp))
theorem JE(hp:PassesOwn (model X.prog X.w) X.A X.env X.xe)(hc:X.calm=true)(hi:PI X tg iter wi)(hg:PG X tg g)(hb:qL X body tb)(hs: ∀x,foldedSetIterable iter X.env x=pure x:=by intro _;rfl):PS X (.For tg iter body [] pos) (QW wi g tb):=by
 intro pins s σ H D I h;refine wpAny_For (aP (hi pins s σ H _ I h) fun v s1 h1=>aP h1 fun L8 s2 h2=>?_) hs;obtain⟨it,fp,tn,J,H2,e,I2,T,gg,f2,W,⟨m0,w0⟩,turn⟩:=h2;subst e;have uB: ∀{H':Hp},(∀b∈fp,H' b=none)-> ∀b∈fp,dh X pins H' b:=fun hn b hb=>⟨hn b hb,(f2 b hb).2⟩
 refine codeAny_forLoop_any (fun n s'=> ∃i σ' H',Inv X pins σ' H' s'/\tn i s'.heap/\(∀b∈fp,H' b=none)/\W i n σ' H') ?_ m0 ⟨0,σ,H2,I2,gg,fun b hb=>(f2 b hb).1,w0⟩;rintro n s3 ⟨i,σ3,H3,I3,fF,UQ,w3⟩
 rcases turn i n σ3 H3 w3 with ⟨stop,qn⟩ | ⟨go,N,hN,step⟩
 . refine ah8 hp (aP (T.done X rfl rfl rfl hc i pins s3 σ3 H3 X.xe I3 (uB UQ) fF stop) fun r s4 Qz=>?_);obtain⟨hr,I4⟩:=Qz;subst hr;exact wpAny_execs_nil ⟨σ3,H3,I4,qn⟩
 . refine ah8 hp (aP (T.item X rfl rfl rfl hc i pins s3 σ3 H3 X.xe I3 (uB UQ) fF go) fun r s4 Qy=>?_);obtain⟨u,hr,h4⟩:=Qy;subst hr;refine ah8 hp (aP h4 fun _ s5 Qx=>?_);obtain⟨x,H5,I5,r5,y5,uD,zb⟩:=Qx;have XY:=I5.pinned (uB zb) (T.obj _ _ uD);refine ah8 hp (aP (hg _ s5 σ3 H5 x u _ XY r5 (step x H5 y5)) fun _ s6 Qw=>?_);obtain⟨σ6,H6,I6,q6⟩:=Qw;refine ah8 hp (aP (hb _ s6 σ6 H6 _ I6 q6) fun f s7 q7=>?_);have again: ∀{σ7:St} {H7:Hp},Inv X (pins++iE fp s5.heap) σ7 H7 s7->N σ7 H7-> ∃m,m < n/\ ∃i σ' H',Inv X pins σ' H' s7/\tn i s7.heap/\(∀b∈fp,H' b=none)/\W i m σ' H':=fun{σ7 H7} I7 n7=>by
    obtain⟨m',hm,w7⟩:=hN σ7 H7 n7;refine⟨m',hm,i+1,σ7,H7,I7.dJ,T.keep _ _ _ uD fun b hb o e=>(I7.pin (b,o) (Zw _ (Zw _ (bf hb e)))).1,fun b hb=>?_,w7⟩;obtain⟨o,e,d⟩:=T.obj _ _ uD b hb;exact(I7.pin (b,o) (Zw _ (Zw _ (bf hb e)))).2.1
   cases f with
   | next=>obtain⟨σ7,H7,I7,n7⟩:=q7;exact again I7 n7
   | cont=>obtain⟨σ7,H7,I7,n7⟩:=q7;exact again I7 n7
   | brk=>obtain⟨σ7,H7,I7,q7⟩:=q7;exact⟨σ7,H7,I7.dJ,q7⟩
   | ret v=>obtain⟨x7,σ7,H7,I7,r7,q7⟩:=q7;exact⟨x7,σ7,H7,I7.dJ,r7,q7⟩
end
abbrev R2:=V->V->Hp->VK->Prop
def jA(X:Cx)(f:Value->Value->Sem Value)(r:R2):Prop:=
 ∀(pins:List (Addr × Obj)) (s:Shared) (σ:St) (H:Hp) (x y:V) (v u:Value) (Q:VK),Inv X pins σ H s->RelV x v->RelV y u->r x y H Q->
  wpAny (model X.prog X.w) X.A (f v u) (EP X pins σ Q) X.xe s
def Tw(X:Cx)(f:Value->Sem Value)(r:V->Hp->VK->Prop):Prop:=
 ∀(pins:List (Addr × Obj)) (s:Shared) (σ:St) (H:Hp) (x:V) (v:Value) (Q:VK),Inv X pins σ H s->RelV x v->r x H Q->
  wpAny (model X.prog X.w) X.A (f v) (EP X pins σ Q) X.xe s
def eB(X:Cx)(f:Value)(r:List V->Hp->VK->Prop):Prop:=
 ∀(pins:List (Addr × Obj)) (s:Shared) (σ:St) (H:Hp) (xs:List V) (us:List Value) (Q:VK),Inv X pins σ H s->Vals xs us->r xs H Q->
  wpAny (model X.prog X.w) X.A (call f us) (EP X pins σ Q) X.xe s
def G3(r:R2)(ta tb:TE):TE:=fun σ H Q=>ta σ H fun x H1=>tb σ H1 fun y H2=>r x y H2 Q
def VX(r:V->Hp->VK->Prop)(ta:TE):TE:=fun σ H Q=>ta σ H fun x H1=>r x H1 Q
def rI(C:Int->Int->Prop)(g:Int->Int->V):R2:=fun x y H Q=> ∃i j,x= .int i/\y= .int j/\C i j/\Q (g i j) H
def Hd(g:Int->Int->V):R2:=fun x y H Q=> ∃i j,x= .int i/\y= .int j/\Q (g i j) H
def rU(g:Int->V):V->Hp->VK->Prop:=fun x H Q=> ∃i,x= .int i/\Q (g i) H
section
variable{X:Cx}{a b c:Expr}{ta tb tc:TE}{pos:Pos}
theorem LF(ha:PE X a ta)(hb:PE X b tb){pins:List (Addr × Obj)}{s:Shared}{σ:St}{H:Hp}{R:V->V->Hp->Prop}(I:Inv X pins σ H s)
  (h:ta σ H fun x H1=>tb σ H1 fun y H2=>R x y H2) {Q:Value->Shared->Prop} {f:Value->Value->Sem Value}
  (hf: ∀v u s2 x y H2,Inv X pins σ H2 s2->RelV x v->RelV y u->R x y H2->wpAny (model X.prog X.w) X.A (f v u) Q X.xe s2):
  wpAny (model X.prog X.w) X.A (eval a X.env) (fun v s₁=>wpAny (model X.prog X.w) X.A (eval b X.env) (fun u s₂=>wpAny (model X.prog X.w) X.A (f v u) Q X.xe s₂) X.xe s₁) X.xe s:=by
 refine aP (ha pins s σ H _ I h) fun v s1 Qv=>?_;obtain⟨x,H1,I1,r1,q1⟩:=Qv;refine aP (hb pins s1 σ H1 _ I1 q1) fun u s2 Qu=>?_;obtain⟨y,H2,I2,r2,q2⟩:=Qu;exact hf v u s2 x y H2 I2 r1 r2 q2
theorem cC(ho:jA X (binaryOp op) r)(ha:PE X a ta)(hb:PE X b tb):PE X (.BinOp a op b pos) (G3 r ta tb):=by
 intro pins s σ H Q I h;exact wpAny_BinOp (LF ha hb I h fun v u s2 x y H2 I2 rx ry q=>ho pins s2 σ H2 x y v u Q I2 rx ry q)
theorem Nc(ho:Tw X (unaryOp op) r)(ha:PE X a ta):PE X (.UnaryOp op a pos) (VX r ta):=by
 intro pins s σ H Q I h;exact UnaryOp_ (aP (ha pins s σ H _ I h) fun v s1 Qt=>(by obtain⟨x,H1,I1,r1,q1⟩:=Qt;exact(ho pins s1 σ H1 x v Q I1 r1 q1)))
theorem Pz{C:Int->Int->Prop}{g:Int->Int->Int}(rule: ∀(i j:Int) (t u:Tok) (s:Shared) (Q:Value->Shared->Prop) (E:Value->Shared->Prop),C i j->Q (.int (g i j) s.toks) {s with toks:=s.toks+1}->wpAny (model X.prog X.w) X.A (f (.int i t) (.int j u)) Q E s):
  jA X f (rI C fun i j=> .int (g i j)):=by
 intro pins s σ H x y v u Q I rx ry h;obtain⟨i,j,rfl,rfl,hc,q⟩:=h;obtain⟨t,rfl⟩:=rx;obtain⟨t',rfl⟩:=ry;exact rule i j t t' s _ _ hc ⟨.int (g i j),H,I.tok _,⟨_,rfl⟩,q⟩
theorem Nh{g:Int->Int->Int}(rule: ∀(i j:Int) (t u:Tok) (s:Shared) (Q:Value->Shared->Prop) (E:Value->Shared->Prop),Q (.int (g i j) s.toks) {s with toks:=s.toks+1}->wpAny (model X.prog X.w) X.A (f (.int i t) (.int j u)) Q E s):
  jA X f (Hd fun i j=> .int (g i j)):=by
 intro pins s σ H x y v u Q I rx ry h;obtain⟨i,j,rfl,rfl,q⟩:=h;obtain⟨t,rfl⟩:=rx;obtain⟨t',rfl⟩:=ry;exact rule i j t t' s _ _ ⟨.int (g i j),H,I.tok _,⟨_,rfl⟩,q⟩
theorem JR{g:Int->Int->Bool}(rule: ∀(i j:Int) (t u:Tok) (s:Shared) (Q:Value->Shared->Prop) (E:Value->Shared->Prop),Q (.bool (g i j)) s->wpAny (model X.prog X.w) X.A (f (.int i t) (.int j u)) Q E s):
  jA X f (Hd fun i j=> .bl (g i j)):=by
 intro pins s σ H x y v u Q I rx ry h;obtain⟨i,j,rfl,rfl,q⟩:=h;obtain⟨t,rfl⟩:=rx;obtain⟨t',rfl⟩:=ry;exact rule i j t t' s _ _ ⟨.bl (g i j),H,I,rfl,q⟩
def TU(i j:Int):Prop:=0 < j/\j < 1073741824
def zJ(i j:Int):Prop:=0<=j/\j<=1000000/\i.natAbs < 2^64
def vW(i j:Int):Prop:=(-(2^64) < i/\i < 2^64)\/(-(2^64) < j/\j < 2^64)
theorem vW.ok(h:vW i j):IntMulOk i j:=by
 rcases h with ⟨h1,h2⟩ | ⟨h1,h2⟩
 . exact .of_left (intBits_le_64 h1 h2)
 . exact .of_right (intBits_le_64 h1 h2)
theorem lY:jA X (binaryOp .Add) (Hd fun i j=> .int (i+j)):=Nh fun _ _ _ _ _ _ _ q=>add_int q
theorem JO:jA X (binaryOp .Sub) (Hd fun i j=> .int (i - j)):=Nh fun _ _ _ _ _ _ _ q=>sub_int q
theorem iF:jA X (binaryOp .Mult) (rI vW fun i j=> .int (i*j)):=Pz fun _ _ _ _ _ _ _ hc q=>mul_int q hc.ok
theorem Fh:jA X (binaryOp .FloorDiv) (rI TU fun i j=> .int (i / j)):=Pz fun i j _ _ _ _ _ hc q=>by
 have h1:(0:Int) < j:=hc.1;have h2:j < 1073741824:=hc.2;exact floordiv_int (by lia) (by rw[Int.fdiv_eq_ediv_of_nonneg i (by lia)];exact q) (.inl (PyProof.noPylong_small (by lia)))
theorem jM:jA X (binaryOp .Mod) (rI (fun _ j=>0 < j) fun i j=> .int (i % j)):=Pz fun i j _ _ _ _ _ hc q=>by
 have h1:(0:Int) < j:=hc;exact mod_int' (by lia) (by rw[Int.fmod_eq_emod_of_nonneg i (by lia)];exact q)
theorem BG:jA X (binaryOp .Pow) (rI zJ fun i j=> .int (i^j.toNat)):=Pz fun _ _ _ _ _ _ _ hc q=>pow_int_small hc.1 hc.2.1 hc.2.2 q
theorem VU{g:Int->Int}(rule: ∀(i:Int) (t:Tok) (s:Shared) (Q:Value->Shared->Prop) (E:Value->Shared->Prop),Q (.int (g i) s.toks) {s with toks:=s.toks+1}->wpAny (model X.prog X.w) X.A (f (.int i t)) Q E s):
  Tw X f (rU fun i=> .int (g i)):=by
 intro pins s σ H x v Q I rx h;obtain⟨i,rfl,q⟩:=h;obtain⟨t,rfl⟩:=rx;exact rule i t s _ _ ⟨.int (g i),H,I.tok _,⟨_,rfl⟩,q⟩
theorem IT:Tw X (unaryOp .USub) (rU fun i=> .int (-i)):=VU fun _ _ _ _ _ q=>neg_int q
end
noncomputable def EA:V->V->Bool
 | .aN,.aN=>true | .aN,.int _=>true | .int _,.aN=>true | .aN,.bl _=>true | .bl _,.aN=>true | .aN,.str _=>true | .str _,.aN=>true
 | .int _,.int _=>true | .bl _,.bl _=>true | .str _,.str _=>true | .zU _,.zU _=>true
 | .int _,.str _=>true | .str _,.int _=>true | .bl _,.str _=>true | .str _,.bl _=>true
 | _,_=>false
def Uc:R2:=fun x y H Q=>EA x y=true/\Q (.bl (decide (x=y))) H
def T9:R2:=fun x y H Q=>EA x y=true/\Q (.bl (!decide (x=y))) H
theorem xC:decide (V.int i=V.int j)=(i==j):=by
 rw[ah9];simp
theorem CV:decide (V.bl i=V.bl j)=(i==j):=by
 rw[ah9];simp
theorem xA:decide (V.str i=V.str j)=(i==j):=by
 rw[ah9];simp
theorem xD:decide (V.zU i=V.zU j)=(i.toList==j.toList):=by
 rw[ah9];cases i;cases j;simp
section
variable{X:Cx}{a b c:Expr}{ta tb tc:TE}{pos:Pos}
theorem aO(I:Inv X pins σ H s)(q:Q (.bl k) H)(e:k=k'):EP X pins σ Q (.bool k') s:=by
 subst e;exact⟨.bl k,H,I,rfl,q⟩
theorem Ho:jA X (compareOp .Eq) Uc:=by
 intro pins s σ H x y v u Q I rx ry h;obtain⟨hs,q⟩:=h;cases x with
 | aN=>
  cases rx;cases y with
  | aN=>cases ry;exact PySem.EqNone.eq_none_none (aO I q rfl)
  | bl j=>cases ry;exact PySem.EqNone.eq_none_bool (aO I q rfl)
  | int j=>obtain⟨t',rfl⟩:=ry;exact PySem.EqNone.eq_none_int (aO I q rfl)
  | str j=>obtain⟨t',rfl⟩:=ry;exact PySem.EqNone.eq_none_str (aO I q rfl)
  | _=>exact absurd (show false=true from hs) Zp
 | bl i=>
  cases rx;cases y with
  | aN=>cases ry;exact PySem.EqNone.eq_bool_none (aO I q rfl)
  | bl j=>cases ry;exact eq_bool (aO I q CV)
  | str j=>obtain⟨t',rfl⟩:=ry;exact PySem.EqMixed.eq_bool_str (aO I q rfl)
  | _=>exact absurd (show false=true from hs) Zp
 | int i=>
  obtain⟨t,rfl⟩:=rx;cases y with
  | aN=>cases ry;exact PySem.EqNone.eq_int_none (aO I q rfl)
  | int j=>obtain⟨t',rfl⟩:=ry;exact eq_int (aO I q xC)
  | str j=>obtain⟨t',rfl⟩:=ry;exact PySem.EqMixed.eq_int_str (aO I q rfl)
  | _=>exact absurd (show false=true from hs) Zp
 | str i=>
  obtain⟨t,rfl⟩:=rx;cases y with
  | aN=>cases ry;exact PySem.EqNone.eq_str_none (aO I q rfl)
  | bl j=>cases ry;exact PySem.EqMixed.eq_str_bool (aO I q rfl)
  | int j=>obtain⟨t',rfl⟩:=ry;exact PySem.EqMixed.eq_str_int (aO I q rfl)
  | str j=>obtain⟨t',rfl⟩:=ry;exact eq_str (aO I q xA)
  | _=>exact absurd (show false=true from hs) Zp
 | zU i=>
  obtain⟨t,rfl⟩:=rx;cases y with
  | zU j=>obtain⟨t',rfl⟩:=ry;exact PySem.W.eq_bytes (aO I q xD)
  | _=>exact absurd (show false=true from hs) Zp
 | _=>exact absurd (show false=true from hs) Zp
theorem Nf:jA X (compareOp .NotEq) T9:=by
 intro pins s σ H x y v u Q I rx ry h;obtain⟨hs,q⟩:=h;cases x with
 | aN=>
  cases rx;cases y with
  | aN=>cases ry;exact PySem.EqNone.ne_none_none (aO I q rfl)
  | bl j=>cases ry;exact PySem.EqNone.ne_none_bool (aO I q rfl)
  | int j=>obtain⟨t',rfl⟩:=ry;exact PySem.EqNone.ne_none_int (aO I q rfl)
  | str j=>obtain⟨t',rfl⟩:=ry;exact PySem.EqNone.ne_none_str (aO I q rfl)
  | _=>exact absurd (show false=true from hs) Zp
 | bl i=>
  cases rx;cases y with
  | aN=>cases ry;exact PySem.EqNone.ne_bool_none (aO I q rfl)
  | bl j=>cases ry;exact ne_bool (aO I q (aa6 not CV))
  | str j=>obtain⟨t',rfl⟩:=ry;exact PySem.EqMixed.ne_bool_str (aO I q rfl)
  | _=>exact absurd (show false=true from hs) Zp
 | int i=>
  obtain⟨t,rfl⟩:=rx;cases y with
  | aN=>cases ry;exact PySem.EqNone.ne_int_none (aO I q rfl)
  | int j=>obtain⟨t',rfl⟩:=ry;exact ne_int (aO I q (aa6 not xC))
  | str j=>obtain⟨t',rfl⟩:=ry;exact PySem.EqMixed.ne_int_str (aO I q rfl)
  | _=>exact absurd (show false=true from hs) Zp
 | str i=>
  obtain⟨t,rfl⟩:=rx;cases y with
  | aN=>cases ry;exact PySem.EqNone.ne_str_none (aO I q rfl)
  | bl j=>cases ry;exact PySem.EqMixed.ne_str_bool (aO I q rfl)
  | int j=>obtain⟨t',rfl⟩:=ry;exact PySem.EqMixed.ne_str_int (aO I q rfl)
  | str j=>obtain⟨t',rfl⟩:=ry;exact ne_str (aO I q (aa6 not xA))
  | _=>exact absurd (show false=true from hs) Zp
 | zU i=>
  obtain⟨t,rfl⟩:=rx;cases y with
  | zU j=>obtain⟨t',rfl⟩:=ry;exact PySem.W.ne_bytes (aO I q (aa6 not xD))
  | _=>exact absurd (show false=true from hs) Zp
 | _=>exact absurd (show false=true from hs) Zp
theorem Hm:jA X (compareOp .LtE) (Hd fun i j=> .bl (decide (i<=j))):=JR fun _ _ _ _ _ _ _ q=>le_int q
theorem Hn:jA X (compareOp .Gt) (Hd fun i j=> .bl (decide (j < i))):=JR fun _ _ _ _ _ _ _ q=>gt_int q
theorem Ng:jA X (compareOp .GtE) (Hd fun i j=> .bl (decide (j<=i))):=JR fun _ _ _ _ _ _ _ q=>ge_int q
theorem dm(b:Expr)(h:op≠ .In:=by decide)(h2:op≠ .NotIn:=by decide):behindInMarks op b=false:=by
 have e1:(op==CmpOp.In)=false:=by cases op <;> first | rfl | exact absurd rfl h
 have e2:(op==CmpOp.NotIn)=false:=by cases op <;> first | rfl | exact absurd rfl h2
 cases b <;> simp [behindInMarks,e1,e2]
theorem wQ(ho:jA X (compareOp op) r)(ha:PE X a ta)(hb:PE X b tb)(hm:behindInMarks op b=false):PE X (.Compare a [op] [b] pos) (G3 r ta tb):=by
 intro pins s σ H Q I h;exact wpAny_Compare1 (LF ha hb I h fun v u s2 x y H2 I2 rx ry q=>ho pins s2 σ H2 x y v u Q I2 rx ry q) hm
def Mz(t:TE):TT:=fun σ H Q=>t σ H fun x H'=> ∃k,x= .bl k/\Q k H'
theorem g9(ho:jA X (compareOp op) r)(ha:PE X a ta)(hb:PE X b tb)(hm:behindInMarks op b=false):PT X (.Compare a [op] [b] pos) (Mz (G3 r ta tb)):=by
 intro pins s σ H Q I h;refine wpAny_isTrue_Compare1 (aP (ha pins s σ H _ I h) fun v s1 ⟨x,H1,I1,r1,q1⟩=>aP (hb pins s1 σ H1 _ I1 q1) fun u s2 ⟨y,H2,I2,r2,q2⟩=>
  aP (ho pins s2 σ H2 x y v u _ I2 r1 r2 q2) fun c s3 ⟨z,H3,I3,r3,k,e,q3⟩=>?_) hm
 subst e;cases r3;exact af3 ⟨H3,I3,q3⟩
theorem mn:(sizeLine:Nat) < 2^63:=by rw[ak5];decide
theorem vals1(r:Vals [x] us): ∃u,us= [u]/\RelV x u:=by
 cases r with
 | cons r1 r2=>cases r2;exact⟨_,rfl,r1⟩
theorem vals2(r:Vals [x,y] us): ∃u w',us= [u,w']/\RelV x u/\RelV y w':=by
 cases r with
 | cons r1 r2=>
  cases r2 with
  | cons r3 r4=>cases r4;exact⟨_,_,rfl,r1,r3⟩
theorem zu:eB X (.type "int") (fun xs H Q=>(∃i,xs= [.int i]/\Q (.int i) H)\/ ∃k,xs= [.bl k]/\Q (.int (if k then 1 else 0)) H):=by
 intro pins s σ H xs us Q I r h;rcases h with ⟨i,rfl,q⟩ | ⟨k,rfl,q⟩
 . obtain⟨u,rfl,t,rfl⟩:=vals1 r;exact call_int_int ⟨.int i,H,I,⟨_,rfl⟩,q⟩
 . obtain⟨u,rfl,r1⟩:=vals1 r;cases r1;exact call_int_bool ⟨.int (if k then 1 else 0),H,I.tok _,⟨_,rfl⟩,q⟩
end
structure LK(h:Heap)(x dx C:Addr)(mA:Str->Option Value):Prop where
 obj:h.get? x=some (PySem.W.instObj C dx)
 ns:h.Ns1 dx mA
 ne:dx≠x
theorem yK{h:Heap}(n:h.Ns1 dx mA): ∃od,h.get? dx=some od/\ ∀name,PySem.W.lookIn name od=some (mA name):=by
 obtain⟨o,es,ep,ho,hd,hk,_,hm⟩:=n;refine⟨o,ho,fun name=>?_⟩;have e:=hm name;unfold nsFind findBy at e;rw[<-Array.find?_toList] at e;unfold PySem.W.lookIn;rw[hd];dsimp only;split
 . rename_i y q;rw[q] at e;exact aa6 some e
 . rename_i q;rw[q] at e;have a:es.toList.any (·.refKey)=false:=by
    rw[List.any_eq_false];intro y hy;obtain⟨z,t,kA⟩:=hk y (Array.mem_toList_iff.mp hy);simp [DictEntry.refKey,kA]
   have a': ¬es.toList.any (·.refKey)=true:=by rw[a];exact Zp
   rw[if_neg a'];exact aa6 some e
theorem LK.look(I:LK h x dx C mA): ∃od,PySem.W.InstAt h x (PySem.W.instObj C dx) C (some od)/\ ∀name,PySem.W.lookIn name od=some (mA name):=
 let ⟨od,ho,hl⟩:=yK I.ns
 ⟨od,⟨I.obj,rfl,rfl,ho⟩,hl⟩
theorem kH.some_of(r:kH (some v) o): ∃u,o=some u/\RelV v u:=by
 cases o with
 | none=>exact(show False from r).elim
 | some u=>exact⟨u,rfl,r⟩
theorem FN(aT:gm P w H h)(e:H a=some (.ins C dx fs)): ∃mA,LK h a dx C mA/\(∀f,kH (fs.lookup f) (mA f))/\PySem.Within mA (fs.map (·.1))/\fs.length<=1000/\H dx=some (.own a):=by
 obtain⟨d,z,ne,ob,mA,n,r,q⟩:=(show aQ P w H h a (.ins C dx fs) from aT a _ e)
 exact⟨mA,⟨ob,n,ne⟩,r,q,z,d⟩
structure TR(K:PySem.W.Frag)(C:Addr):Prop where
 pg:PySem.W.plainGet K C Str.empty=true
 hd:PySem.W.hasDictIn K C=true
 po:PySem.W.plainOver K C=true
 sa:PySem.W.findIn K (.ref C) "__setattr__"=some (some (.builtin "object.__setattr__"))
theorem TR.get{K:PySem.W.Frag}(c:TR K C)(f:Str):PySem.W.plainGet K C f=true:=c.pg
section
variable{X:Cx}{pins:List (Addr × Obj)}{σ:St}{H:Hp}{s:Shared}{A:Around}{E:Value->Shared->Prop}{Q:Value->Shared->Prop}{c:Value}{b:Bool}
inductive kG(K:PySem.W.Frag)(H:Hp):V->Value->Prop where
 | aN:kG K H .aN (.type "NoneType")
 | bl (x:Bool):kG K H (.bl x) (.type "bool")
 | int (i:Int):kG K H (.int i) (.type "int")
 | str (x:Str):kG K H (.str x) (.type "str")
 | K5 (x:UInt64):kG K H (.K5 x) (.type "float")
 | lst {a:Addr} {xs:List V} (e:H a=some (.lst xs)):kG K H (.ref a) (.type "list")
 | ue {a:Addr} {o:Obj} {xs:List V} (e:H a=some (.ue o (.lst xs))):kG K H (.ref a) (.type "list")
 | tup {a:Addr} {xs:List V} (e:H a=some (.tup xs)):kG K H (.ref a) (.type "tuple")
 | dK {a:Addr} {aH:List (Key × V)} (e:H a=some (.dK aH)):kG K H (.ref a) (.type "dict")
 | dT {a:Addr} {aH:List (List Key × V)} (e:H a=some (.dT aH)):kG K H (.ref a) (.type "dict")
 | ins {a C dx:Addr} {fs:List (Str × V)} (e:H a=some (.ins C dx fs)) (cl:TR K C) (ha:PySem.W.findIn K (.ref C) "__class__"=some (some (.builtin "object.__class__")))
   (hn:PySem.W.specialIn K (.builtin "object.__class__") "__get__"=some (some (.builtin "getset_descriptor.__get__"))) (UA:PySem.W.takesIn K (.builtin "object.__class__")=some true)
   (hm:PySem.W.mroIn K C (.type "object")=some true):kG K H (.ref a) (.ref C)
theorem dH(I:Inv X pins σ H s)(rx:RelV x u)(ty:kG X.K H x t)(e:PySem.W.kitOne X.K t c=some b)(h: ∀tk,Q (.bool b) {s with toks:=tk}):
  wpAny (model X.prog X.w) A (call (.builtin "isinstance") [u,c]) Q E s:=by
 cases ty with
 | aN=>cases (show u=Value.none from rx);exact ad7 PySem.W.kitx_none I.qR True.intro e (fun z=>nomatch z) h
 | bl y=>cases (show u=Value.bool y from rx);exact ad7 PySem.W.kitx_bool I.qR True.intro e (fun z=>nomatch z) h
 | int i=>obtain⟨t,q⟩:=(show∃t,u=Value.int i t from rx);cases q;exact ad7 PySem.W.kitx_int I.qR True.intro e (fun z=>nomatch z) h
 | str y=>obtain⟨t,q⟩:=(show∃t,u=Value.str y t from rx);cases q;exact ad7 PySem.W.kitx_str I.qR True.intro e (fun z=>nomatch z) h
 | K5 y=>obtain⟨t,q⟩:=(show∃t,u=Value.float y t from rx);cases q;exact ad7 PySem.W.kitx_float I.qR True.intro e (fun z=>nomatch z) h
 | @lst a xs ea=>
  cases (show u=Value.ref a from rx);obtain⟨_,_,n,_,h1⟩:=(show aQ X.prog X.w H s.heap a (.lst xs) from I.aT a _ ea)
  exact ad7 PySem.W.kitx_list I.qR ⟨_,h1,rfl⟩ e (fun z=>nomatch z) h
 | @ue a ob xs ea=>
  cases (show u=Value.ref a from rx);obtain⟨_,_,_,n,_,h1⟩:=(show aQ X.prog X.w H s.heap a (.ue ob (.lst xs)) from I.aT a _ ea)
  exact ad7 PySem.W.kitx_list I.qR ⟨_,h1,rfl⟩ e (fun z=>nomatch z) h
 | @tup a xs ea=>
  cases (show u=Value.ref a from rx);obtain⟨_,_,_,p⟩:=(show aQ X.prog X.w H s.heap a (.tup xs) from I.aT a _ ea)
  obtain⟨o,h1,h2,_⟩:=p;exact ad7 PySem.W.kitx_tuple I.qR ⟨o,h1,h2⟩ e (fun z=>nomatch z) h
 | @dK a aH ea=>
  cases (show u=Value.ref a from rx);obtain⟨_,_,vs,_,p⟩:=(show aQ X.prog X.w H s.heap a (.dK aH) from I.aT a _ ea)
  obtain⟨o,es,ep,h1,h2,_⟩:=p;exact ad7 PySem.W.kitx_dict I.qR ⟨o,h1,h2.1⟩ e (fun z=>nomatch z) h
 | @dT a aH ea=>
  cases (show u=Value.ref a from rx);obtain⟨_,_,xs,_,o,es,ep,h1,h2,_⟩:=(show aQ X.prog X.w H s.heap a (.dT aH) from I.aT a _ ea)
  exact ad7 PySem.W.kitx_dict I.qR ⟨o,h1,h2.1⟩ e (fun z=>nomatch z) h
 | @ins a C dx fs ea cl ha hn UA hm=>
  cases (show u=Value.ref a from rx);obtain⟨mA,O,_⟩:=FN I.aT ea;obtain⟨od,J,_⟩:=O.look;exact ad7 (PySem.W.kitx_own (cl.get _) cl.hd ha hn UA hm) I.qR J e (fun z=>nomatch z) h
end
structure bT(k:Nat)(A:Around):Prop where
 hd:A.handled=none
 dp:A.depth+3*k+5 < recursionLimit
 un:A.units+16*k+200 < cLine
 gd:A.guards=some []
theorem bT.mono(r:bT k A)(h:j<=k):bT j A:=⟨r.hd,by have:=r.dp;lia,by have:=r.un;lia,r.gd⟩
theorem bT.deeper(r:bT (k+1) A)(env:Env):bT k (A.deeper env):=
 ⟨r.hd,by have:=r.dp;show A.depth+1+3*k+5 < _;lia,by have:=r.un;show A.units+3+16*k+200 < _;lia,r.gd⟩
theorem bT.depth(r:bT k A):A.depth < recursionLimit:=by have:=r.dp;lia
theorem bT.units(r:bT k A):A.units+64 < cLine:=by have:=r.un;lia
theorem bT.ph(r:bT k A):A.units < cLine:=by have:=r.un;lia
def rM:TA:=fun _ H Q=>Q [] H
def oq(ta:TE)(tr:TA):TA:=fun σ H Q=>ta σ H fun x H1=>tr σ H1 fun xs H2=>Q (x::xs) H2
section
variable{X:Cx}{e:Expr}{es:List Expr}{te:TE}{t:TA}{pos:Pos}
theorem aL:PA X [] rM:=fun _ _ _ _ H Q I h=>ao6 ⟨[],H,I,.nil,h⟩
theorem au(ha:PE X e te)(hr:PA X es t)(hs:starEach (e::es) X.env=(false,eval e X.env)::starEach es X.env:=by rfl):PA X (e::es) (oq te t):=by
 intro pos pins s σ H Q I h;rw[hs];show wpAny _ _ (spliced ((false,eval e X.env)::backTo pos (starEach es X.env))) _ _ s;refine ah6 (aP (ha pins s σ H _ I h) fun u s1 Qs=>?_);obtain⟨x,H1,I1,r1,q1⟩:=Qs;exact aP (hr pos pins s1 σ H1 _ I1 q1) fun us s2 Qr=>(by obtain⟨xs,H2,I2,r2,q2⟩:=Qr;exact(⟨x::xs,H2,I2,.cons r1 r2,q2⟩))
def Mx(t:TA):TE:=fun σ H Q=>t σ H fun xs H1=>xs.length<=sizeLine/\ ∀p,H1 p=none->Q (.ref p) (upd H1 p (.tup xs))
def Je(t:TA):TE:=fun σ H Q=>t σ H fun xs H1=>xs.length<=sizeLine/\ ∀p,H1 p=none->Q (.ref p) (upd H1 p (.lst xs))
theorem Bs{x1}(h:PA X es t):PE X (.Tuple es x1 pos) (Mx t):=by
 intro pins s σ H Q I hq;refine wpAny_Tuple_spliced (aP (h pos pins s σ H _ I hq) fun us s1 ⟨xs,H1,I1,r,z,q⟩=>⟨by rw[<-r.length];exact z,?_⟩);have hf:H1 s1.heap.objs.size=none:=I1.aT.fresh (Zj _);refine⟨.ref s1.heap.objs.size,upd H1 s1.heap.objs.size (.tup xs),I1.laid (t':=s1.toks) (fun b u e=>Zh _ e) (Zj _) ?_,rfl,q _ hf⟩;exact⟨z,us,r,⟨_,Zs _ rfl,rfl,rfl,_,rfl⟩⟩
theorem lU(h:PA X es t):PE X (.List es pos) (Je t):=by
 intro pins s σ H Q I hq;refine wpAny_List_spliced (aP (h pos pins s σ H _ I hq) fun us s1 ⟨xs,H1,I1,r,z,q⟩=>⟨by rw[<-r.length];exact z,?_⟩);have hf:H1 s1.heap.objs.size=none:=I1.aT.fresh (Zj _);refine⟨.ref s1.heap.objs.size,upd H1 s1.heap.objs.size (.lst xs),I1.laid (t':=s1.toks) (fun b u e=>Zh _ e) (Zj _) ?_,rfl,q _ hf⟩;exact⟨z,us,0,r,Zs _ rfl⟩
end
abbrev Sp:=List V->Hp->VK->XK->Prop
abbrev IE:=List Env->Hp->Shared->XK->Value->Shared->Prop
structure GX(P:Program)(w:World)(K:PySem.W.Frag)(mg:Str->Option Value)(base:Heap)(A:Around)(outer:List Env)(s:Shared)(H:Hp):Prop where
 frames:A.frames=some outer
 mod:Mod K mg base
 bs: ∀b o,base.get? b=some o->s.heap.get? b=some o/\H b=none
 Ir:base.objs.size<=s.heap.objs.size
 mH:s.heap.FunFrames base outer
 Mi: ∀b∈qT outer,H b=none
 aT:gm P w H s.heap
 bare:AllBare s.gens
def CE(outer:List Env)(P:Program)(w:World)(H:Hp)(s:Shared)(Q:VK)(u:Value)(s':Shared):Prop:=
 ∃v H',s'.os=s.os/\AllBare s'.gens/\Un (qT outer) [] H H' s.heap s'.heap/\gm P w H' s'.heap/\RelV v u/\Q v H'
def CR(CX:IE)(outer:List Env)(P:Program)(w:World)(H:Hp)(s:Shared)(Q:VK)(E:XK)(r:Result)(s':Shared):Prop:=
 match r with
 | .ok (.ret u)=>CE outer P w H s Q u s'
 | .ok _=>False
 | .error e=>CX outer H s E e s'
structure aY(P:Program)(w:World)(K:PySem.W.Frag)(mg:Str->Option Value)(base:Heap)(CX:IE)(k:Nat)(f:Addr)(fd:FuncData)(ps:List Str)(sp:Sp):Prop where
 len: ∀vs H Q E,sp vs H Q E->vs.length=ps.length
 run: ∀(A:Around) (outer:List Env) (s:Shared) (H:Hp) (args:Args) (us:List Value) (vs:List V) (Q:VK) (E:XK),bT k A->GX P w K mg base A outer s H->BindsTo s fd args (ps.zip us)->Vals vs us->sp vs H Q E->
  codeAny (model P w) A (.call (.ref f) args) (CR CX outer P w H s Q E) s
theorem aY.imp{P:Program}{w:World}{K:PySem.W.Frag}{k:Nat}(F:aY P w K mg base CX k f fd ps sp)(h: ∀vs H Q E,V5 vs H Q E->sp vs H Q E):aY P w K mg base CX k f fd ps V5:=
 ⟨fun vs H Q E q=>F.len vs H Q E (h _ _ _ _ q),fun A outer s H args us vs Q E hr he hb hv hs=>F.run A outer s H args us vs Q E hr he hb hv (h _ _ _ _ hs)⟩
theorem Inv.SJ(I:Inv X pins σ H s):GX X.prog X.w X.K X.mg X.base X.A X.stack s H:=
 ⟨I.ok.frames,I.ok.mod,I.bs,ZE I.ok.Ir I.sz,I.stack,I.we,I.aT,I.bare⟩
theorem Inv.after(I:Inv X pins σ H s)(h:CE X.stack X.prog X.w H s Q u s'):EP X pins σ Q u s':=by
 obtain⟨v,H',os,bare,un,aT,r,q⟩:=h;obtain⟨hh,g,d,t,Wg⟩:=s';obtain rfl:Wg=s.os:=os;exact⟨v,H',I.call (h':=hh) (g':=g) (d':=d) (t':=t) (ch:= []) un aT bare (fun b z=>absurd z (by simp)),r,q⟩
def AD(sp:Sp)(dvs:List V)(E:XK)(t:TA):TE:=fun σ H Q=>t σ H fun vs H1=>sp (vs++dvs) H1 Q E
def Binds(K:PySem.W.Frag)(fd:FuncData)(ps:List Str)(ds:List Value):Prop:=
 ∀(s:Shared) (us:List Value),K.In s.heap->(us++ds).length=ps.length->BindsTo s fd ⟨us,[]⟩ (ps.zip (us++ds))
theorem Binds.all{K:PySem.W.Frag}{ps:List Str}(h: ∀us:List Value,us.length=ps.length->bindArgs fd ⟨us,[]⟩=pure (ps.zip us)):Binds K fd ps []:=fun s us _ hl=>by
 rw[ab8] at hl ⊢;exact .of_eq (h us hl)
def Passes(CX:IE)(X:Cx)(E:XK):Prop:= ∀(pins:List (Addr × Obj)) (σ:St) (H:Hp) (s:Shared) (e:Value) (s':Shared),Inv X pins σ H s->CX X.stack H s E e s'->X.xe e s'
theorem A4(F:aY X.prog X.w X.K X.mg X.base CX k f fd ps sp)(hr:bT k X.A)(hb:Binds X.K fd ps ds)(hd:Vals dvs ds)(hx:Passes CX X E)(I:Inv X pins σ H s)(r:Vals vs us)(h:sp (vs++dvs) H Q E):wpAny (model X.prog X.w) X.A (call (.ref f) us) (EP X pins σ Q) X.xe s:=by
 have r2:Vals (vs++dvs) (us++ds):=r.append hd;have hl:(us++ds).length=ps.length:=by rw[<-r2.length];exact F.len _ _ _ _ h
 refine wpAny_call (al1 (F.run X.A X.stack s H ⟨us,[]⟩ (us++ds) (vs++dvs) Q E hr I.SJ (hb s us I.qR hl) r2 h) fun r s' hq=>?_);cases r with
 | error e=>exact hx pins σ H s e s' I hq
 | ok fl=>
  cases fl with
  | ret u=>exact I.after hq
  | next=>exact False.elim hq
  | brk=>exact False.elim hq
  | cont=>exact False.elim hq
theorem Fd(F:aY X.prog X.w X.K X.mg X.base CX k f fd ps sp)(hr:bT k X.A)(hg:Gl X x)(hm:X.mg x=some (.ref f))(hk:PySem.W.keepIn X.K (.ref f)=true)(hb:Binds X.K fd ps ds)(hd:Vals dvs ds)(hx:Passes CX X E)
  (ha:PA X (e::es) t) (nO:(x==("__debug__":Str))=false:=by decide) (he:starEach (e::es) X.env=(false,eval e X.env)::starEach es X.env:=by rfl) (dq:(backTo pos (starEach es X.env)).any (·.1)=false:=by rfl):
  PE X (.Call (.Name x p) (e::es) [] pos) (AD sp dvs E t):=by
 intro pins s σ H Q I h;refine af7 (wY I hg hm ?_ nO);refine PySem.W.callWith_K (h₀:=X.base) I.ok.mod.PL hk (aP (ha pos pins s σ H _ I h) fun us s1 ⟨vs,H1,I1,r,q⟩=>⟨I1.qR,?_⟩) he dq;exact A4 F hr hb hd hx I1 r q
def PK(X:Cx)(j7:List Keyword)(t:TA):Prop:=
 ∀(pos:Pos) (pins:List (Addr × Obj)) (s:Shared) (σ:St) (H:Hp) (Q:List V->Hp->Prop),Inv X pins σ H s->t σ H Q->wpAny (model X.prog X.w) X.A (evalAll ((backToKw pos (keywordEach j7 X.env)).map (·.2))) (AP X pins σ Q) X.xe s
theorem Bl:PK X [] rM:=fun _ _ _ _ H Q I h=>wpAny_evalAll_nil ⟨[],H,I,.nil,h⟩
theorem wN(ha:PE X e te)(hr:PK X j7 t):PK X (⟨nm,e,p7⟩::j7) (oq te t):=by
 intro pos pins s σ H Q I h;show wpAny _ _ (evalAll ((do let v<-eval e X.env;standAt pos;pure v)::(backToKw pos (keywordEach j7 X.env)).map (·.2))) _ _ s;refine wpAny_evalAll_cons (Zd (aP (ha pins s σ H _ I h) fun u s1 ⟨x,H1,I1,r1,q1⟩=>Zd (ab6 (Zf ?_))));exact aP (hr pos pins s1 σ H1 _ I1 q1) fun us s2 Qq=>(by obtain⟨xs,H2,I2,r2,q2⟩:=Qq;exact(⟨x::xs,H2,I2,.cons r1 r2,q2⟩))
structure aJ(N P:List Str)(sc:Scope):Prop where
 kind:sc.kind= .function
 co:sc.isCoroutine=false
 gen:sc.isGenerator=false
 nd:N.Nodup
 pre:N.take P.length=P
 par: ∀x∈P,sc.names.lookup x=some .local\/sc.names.lookup x=some .cell
 JX: ∀y∈sc.names,y.2≠ .free
theorem o5{kindOf:Str->Option NameKind}: ∀{binds:List (Str × Value)} {m:Str->Option Value},(∀v,(x,v)∉binds)->bindL kindOf binds m x=m x
 | [],_,_=>rfl
 | (n,v)::r,m,h=>by
  unfold bindL;rw[o5 fun w hw=>h w (Zn _ hw)];split
  . have:x≠n:=by rintro rfl;exact h v Zu
    simp [this]
  . rfl
theorem o7{kindOf:Str->Option NameKind}: ∀{binds:List (Str × Value)} {m:Str->Option Value},(∀v,(x,v)∉binds)->bindC kindOf binds m x=m x
 | [],_,_=>rfl
 | (n,v)::r,m,h=>by
  unfold bindC;rw[o7 fun w hw=>h w (Zn _ hw)];split
  . rfl
  . have:x≠n:=by rintro rfl;exact h v Zu
    simp [this]
theorem o6{kindOf:Str->Option NameKind}: ∀{P:List Str} {vs:List Value} {i:Nat} {m:Str->Option Value},P.Nodup->P[i]?=some x->vs[i]?=some v->kindOf x=some .local->
  bindL kindOf (P.zip vs) m x=some v
 | [],_,_,_,_,h,_,_=>by simp at h
 | _::_,[],_,_,_,_,h,_=>by simp at h
 | p::P,w::vs,0,m,nd,h1,h2,hk=>by
  simp at h1 h2;subst h1;subst h2;show bindL kindOf ((p,w)::P.zip vs) m p=_;unfold bindL;rw[o5 fun v hv=>(af4.mp nd).1 (List.of_mem_zip hv).1,if_pos hk];simp
 | p::P,w::vs,i+1,m,nd,h1,h2,hk=>by
  show bindL kindOf ((p,w)::P.zip vs) m x=_;unfold bindL;exact o6 (i:=i) (af4.mp nd).2 (by simpa using h1) (by simpa using h2) hk
theorem o8{kindOf:Str->Option NameKind}: ∀{P:List Str} {vs:List Value} {i:Nat} {m:Str->Option Value},P.Nodup->P[i]?=some x->vs[i]?=some v->kindOf x≠some .local->
  bindC kindOf (P.zip vs) m x=some v
 | [],_,_,_,_,h,_,_=>by simp at h
 | _::_,[],_,_,_,_,h,_=>by simp at h
 | p::P,w::vs,0,m,nd,h1,h2,hk=>by
  simp at h1 h2;subst h1;subst h2;show bindC kindOf ((p,w)::P.zip vs) m p=_;unfold bindC;rw[o7 fun v hv=>(af4.mp nd).1 (List.of_mem_zip hv).1,if_neg hk];simp
 | p::P,w::vs,i+1,m,nd,h1,h2,hk=>by
  show bindC kindOf ((p,w)::P.zip vs) m x=_;unfold bindC;exact o8 (i:=i) (af4.mp nd).2 (by simpa using h1) (by simpa using h2) hk
noncomputable def start(N:List Str)(vs:List V):St:=vs.map some++List.replicate (N.length - vs.length) none
noncomputable def mS(CX:IE)(P:Program)(w:World)(K:PySem.W.Frag)(mg:Str->Option Value)(base:Heap)(N:List Str)(qual:Str)(scope:Scope)(f:Addr)(cd:Value)(A:Around)(outer:List Env)(s:Shared)(H:Hp)(E:XK):Cx where
 prog:=P
 w:=w
 K:=K
 mg:=mg
 base:=base
 A:=A.deeper (envOfC qual scope s.heap.objs.size f cd)
 N:=N
 s₀:=s
 H₀:=H
 env:=envOfC qual scope s.heap.objs.size f cd
 outer:=outer
 stack:=envOfC qual scope s.heap.objs.size f cd::outer
 ex:= []
 calm:=true
 fn:=fun _=>true
 pn:= []
 xe:=fun e s'=>wpAny (model P w) (A.deeper (envOfC qual scope s.heap.objs.size f cd)) (leaving (envOfC qual scope s.heap.objs.size f cd) e) (fun _ MS=>CX outer H s E e MS) (fun e' MS=>CX outer H s E e' MS) s'
theorem ju{sc:Scope}(h:sc.names.lookup x=some .cell): ∃c,(cellsFrom n sc.names []).lookup x=some c:=by
 have q:=PySem.W.cellsFrom_some sc.names n [] (.inl h);exact Option.isSome_iff_exists.mp q
theorem yQ{CX:IE}{P:Program}{w:World}{K:PySem.W.Frag}{A:Around}{vs:List V}(S:aJ N ps scope)(hd:A.handled=none)(e0:GX P w K mg base A outer s H)(hl:vs.length=ps.length)(r:Vals vs us)(x:InCallC s s.heap.objs.size (bindL (envOfC qual scope s.heap.objs.size f cd).kindOf (ps.zip us) fun _=>none) (cellsFrom (s.heap.objs.size+1) scope.names []) (bindC (envOfC qual scope s.heap.objs.size f cd).kindOf (ps.zip us) fun _=>none) s1):
  Inv (mS CX P w K mg base N qual scope f cd A outer s H E) [] (start N vs) H s1:=by
 have dq:ps.length<=N.length:=by have:=aa6 List.length S.pre;rw[ae8] at this;lia
 obtain⟨h1,tk,rfl,hk⟩:=x.done;have Nq: ∀b:Addr,b∉(mS CX P w K mg base N qual scope f cd A outer s H E).ex:=fun b z=>absurd (show b∈([]:List Addr) from z) (by simp);refine⟨⟨e0.mod,S.kind,rfl,rfl,Zj _,fun y z c h1 h2=>?_,fun y hy=>?_,fun y c _ h=>?_,fun _=>hd,Around.frames_deeper e0.frames,.inr ⟨rfl,rfl⟩,fun b z=>absurd z (Nq b),e0.bs,e0.Ir,fun b _ _=>Nq b,fun b z=>absurd z (Nq b),e0.mH,e0.Mi⟩,
  rfl,e0.bare,Un.kept hk,⟨_,x.toInCall.ns,fun i y v h1 h2 h3=>?_⟩,fun y c h=>⟨_,x.cell y c h⟩,e0.aT.fresh (Zj _),fun y c h=>?_,fun p hp=>absurd (show p∈([]:List (Addr × Obj)) from hp) (by simp),e0.aT.kept hk,?_⟩
 . exact name_of_addr x.apart (ab0 h1) (ab0 h2)
 . have hy:scope.names.lookup y=some .cell\/scope.names.lookup y=some .free:=hy;rcases hy with hy | hy
   . exact ju hy
   . exact absurd rfl (S.JX _ (ab0 hy))
 . exact Nat.le_of_lt (x.above y c (ab0 h))
 . have hi : i < vs.length := by
     unfold start at h2;by_cases hi:i < vs.length
     . exact hi
     . rw[ZW (by simpa using hi)] at h2;rw[ZI] at h2;split at h2 <;> cases h2
   have ha:vs[i]?=some v:=by
    unfold start at h2;rw[ZR (by simpa using hi),Zo] at h2;cases e:vs[i]? with
    | none=>rw[e] at h2;cases h2
    | some a=>rw[e] at h2;cases h2;rfl
   obtain⟨u,hu,rv⟩:=r.get ha;have hp:ps[i]?=some y:=by
    rw[<-S.pre,List.getElem?_take_of_lt (by lia)];exact h1
   have Up:ps.Nodup:=by rw[<-S.pre];exact S.nd.sublist (List.take_sublist _ _)
   refine⟨u,rv,?_⟩;rcases S.par y (ZT hp) with k | k
   . exact .inl ⟨k,o6 Up hp hu k⟩
   . obtain⟨c,e⟩:=ju (n:=s.heap.objs.size+1) k;refine .inr ⟨.inl k,c,e,?_⟩;have q:=x.cell y c e;rw[o8 Up hp hu (by show scope.names.lookup y≠_;rw[k];decide)] at q;exact q
 . exact e0.aT.fresh (Nat.le_of_lt (x.above y c (ab0 h)))
 . unfold start;show _=N.length;rw[Zy,Ze,ad4];lia
theorem Oc {CX : IE} {P : Program} {w : World} {K : PySem.W.Frag} {mg : Str -> Option Value} {base : Heap} {k : Nat} {f : Addr} {name qual : Str} {params : Arguments} {body : List Stmt} {scope : Scope} {dV kV doc pm bP ct oc : Value} (lk : K.lookup f = some ⟨oc, od, .func (PySem.W.fnOf name qual params body scope dV kV doc pm an bP ct), JN⟩) (yW : PySem.W.codeIn K bP qual = true) (S : aJ N ps scope) (len : ∀ vs H Q E, sp vs H Q E -> vs.length = ps.length) (gU : ∀ (A : Around) (outer : List Env) (s : Shared) (H : Hp) (vs : List V) (Q : VK) (E : XK), bT k (A.deeper (envOfC qual scope s.heap.objs.size f bP)) -> sp vs H Q E ->
   ∃t,qL (mS CX P w K mg base N qual scope f bP A outer s H E) body t/\t {nx:=fun _ H'=>Q .aN H',rt:=Q} (start N vs) H):
  aY P w K mg base CX (k+1) f (PySem.W.fnOf name qual params body scope dV kV doc pm an bP ct) ps sp:=by
 refine⟨len,fun A outer s H args us vs Q E hr e0 hb r HB=>?_⟩;have hl:=len _ _ _ _ HB;have KX:K.In s.heap:=e0.mod.PL.keeps fun b o e=>(e0.bs b o e).1;have lim:s.heap.NoLimit:=e0.mod.nolimit.keeps fun b o e=>(e0.bs b o e).1;have NX: ∀y∈ps.zip us,scope.names.lookup y.1=some .local\/(scope.names.lookup y.1=some .cell/\((cellsFrom (s.heap.objs.size+1) scope.names []).lookup y.1).isSome=true):=fun Qp hy=>(by obtain⟨n,v⟩:=Qp;exact(by
  rcases S.par n (List.of_mem_zip hy).1 with q | q
  . exact .inl q
  . exact .inr ⟨q,PySem.W.cellsFrom_some _ _ _ (.inl q)⟩))
 refine codeAny_call_function hr.depth (KX _ _ lk) rfl S.co S.gen rfl (PySem.W.codeRec_of KX yW) (hb _ _ _ _ ?_);refine wpAny_newFunctionEnv_cells S.kind NX fun env he s1 x=>?_;subst he;refine⟨lim.keeps x.toInCall.keep,codeAny_func ?_⟩;obtain⟨t,ht,hq⟩:=gU A outer s H vs Q E (hr.deeper _) HB;have I:Inv (mS CX P w K mg base N qual scope f bP A outer s H E) [] (start N vs) H s1:=yQ S hr.hd e0 hl r x;refine ZU (ht [] s1 (start N vs) H _ I hq) (fun fl s' hs=>?_) fun e s' hs=>hs;have fin: ∀{σ':St} {H':Hp} {v:V} {u:Value},Inv (mS CX P w K mg base N qual scope f bP A outer s H E) [] σ' H' s'->RelV v u->Q v H'->CE outer P w H s Q u s':=
  fun{σ' H' v u} J rv q=>⟨v,H',J.os,J.bare,J.base,J.aT,rv,q⟩
 cases fl with
 | ret u=>
  obtain⟨v,σ',H',J,rv,q⟩:=hs;exact fin J rv q
 | next=>
  obtain⟨σ',H',J,q⟩:=hs;exact fin (v:=V.aN) (u:=Value.none) J rfl q
 | brk=>
  obtain⟨_,_,_,q⟩:=hs;exact False.elim q
 | cont=>
  obtain⟨_,_,_,q⟩:=hs;exact False.elim q
section
variable{X:Cx}{x:Str}{p pos:Pos}{e:Expr}{es:List Expr}{t:TA}{id T:String}{r:List V->Hp->VK->Prop}
def QX(r:List V->Hp->VK->Prop)(t:TA):TE:=fun σ H Q=>t σ H fun vs H1=>r vs H1 Q
theorem i4(hc:eB X (.builtin id) r)(hg:Gl X x)(hm:X.mg x=none)(hv:bootBuiltins x=some (.builtin id))(ha:PA X (e::es) t)(hn:x≠"__name__":=by decide)(nO:(x==("__debug__":Str))=false:=by decide)
  (he:starEach (e::es) X.env=(false,eval e X.env)::starEach es X.env:=by rfl) (dq:(backTo pos (starEach es X.env)).any (·.1)=false:=by rfl):PE X (.Call (.Name x p) (e::es) [] pos) (QX r t):=by
 intro pins s σ H Q I h;refine af7 (cE I hg hm hv ?_ hn nO);exact PyProof.Rows.callWith_builtin1 (aP (ha pos pins s σ H _ I h) fun us s1 Qo=>(by obtain⟨vs,H1,I1,r1,q1⟩:=Qo;exact(hc pins s1 σ H1 vs us Q I1 r1 q1))) he dq
theorem fe(hc:eB X (.type T) r)(hg:Gl X x)(hm:X.mg x=none)(hv:bootBuiltins x=some (.type T))(ha:PA X (e::es) t)(hn:x≠"__name__":=by decide)(nO:(x==("__debug__":Str))=false:=by decide)
  (he:starEach (e::es) X.env=(false,eval e X.env)::starEach es X.env:=by rfl) (dq:(backTo pos (starEach es X.env)).any (·.1)=false:=by rfl):PE X (.Call (.Name x p) (e::es) [] pos) (QX r t):=by
 intro pins s σ H Q I h;refine af7 (cE I hg hm hv ?_ hn nO);exact ac3 (aP (ha pos pins s σ H _ I h) fun us s1 Qn=>(by obtain⟨vs,H1,I1,r1,q1⟩:=Qn;exact(hc pins s1 σ H1 vs us Q I1 r1 q1))) he dq
end
end L2
namespace HT
open PySem PyProof.Rows
section
variable{prog:Program}{w:World}{A:Around}{E:Value->Shared->Prop}{s:Shared}
theorem GF{vs ws:List Value}(ht:IsTup s.heap t vs.toArray)(hb:IsTup s.heap b ws.toArray)(hv:vs≠ [])(h1:ws= []->Q (.ref t) s)(h2:ws≠ []->Q (.ref s.heap.objs.size) {s with heap:=s.heap.push {cls:= .type "tuple",data:= .seq (vs++ws).toArray}})(hsz:vs.length+ws.length<=sizeLine):wpAny (model prog w) A (binaryOp .Add (.ref t) (.ref b)) Q E s:=by
 obtain⟨⟨cls,dd,data,sl⟩,ho,hc,n,hd⟩:=id ht;obtain⟨⟨Xw,U2,data2,T7⟩,PR,P1,n2,hd2⟩:=id hb;simp only at hc hd P1 hd2;subst hc hd P1 hd2;have e:vs.toArray++ws.toArray=(vs++ws).toArray:=by simp
 by_cases hw:ws= []
 . exact concat_meets ⟨_, ho, rfl⟩ ⟨_, PR, rfl⟩ noFill_tuple_add seq_tuple_add PySem.F.slot_tuple_add ao0 (an4 _ _)
     (tuple_addW1 t b vs.toArray ws.toArray n n2 dd U2 sl T7 (by simpa using hv) (by simp [hw])) ⟨ho,PR,h1 hw⟩
 . refine concat_meets ⟨_, ho, rfl⟩ ⟨_, PR, rfl⟩ noFill_tuple_add seq_tuple_add PySem.F.slot_tuple_add ao0 (an4 _ _)
     (tuple_addW2 t b vs.toArray ws.toArray n n2 dd U2 sl T7 (by simpa using hv) (by simpa using hw) (by rw[ZC,ZC];exact hsz)) ⟨ho,PR,?_⟩
   rw[e];exact h2 hw
noncomputable def cB(n d:Nat):Option Int->Nat
 | none=>d
 | some v=>if v < 0 then(v+(n:Int)).toNat else min v.toNat n
theorem iW(n d:Nat):cB n d none=d:=rfl
theorem pP(n d k:Nat):cB n d (some (k:Int))=min k n:=by
 show(if (k:Int) < 0 then((k:Int)+(n:Int)).toNat else min (k:Int).toNat n)=min k n;rw[if_neg (by lia),ab5]
theorem AZ(n d:Nat)(hd:d<=n)(o:Option Int):cB n d o<=n:=by
 cases o with
 | none=>exact hd
 | some v=>
  show(if v < 0 then(v+(n:Int)).toNat else min v.toNat n)<=n;by_cases hv:v < 0
  . rw[if_pos hv];lia
  . rw[if_neg hv];exact Nat.min_le_right _ _
theorem xJ(v:Int)(n d:Nat):(if v < 0 then max (v+(n:Int)) 0 else min v (n:Int))=((cB n d (some v):Nat):Int):=by
 show(if v < 0 then max (v+(n:Int)) 0 else min v (n:Int))=(((if v < 0 then(v+(n:Int)).toNat else min v.toNat n):Nat):Int)
 by_cases hv:v < 0
 . simp only [if_pos hv];lia
 . simp only [if_neg hv];lia
theorem vO(lo hi:Option Int)(n:Nat):Builtin.Slice.sliceAdjust lo hi 1 (n:Int)=(((cB n 0 lo:Nat):Int),((cB n n hi:Nat):Int)):=by
 have h1: ¬((1:Int) < 0):=by lia
 unfold Builtin.Slice.sliceAdjust;simp only [h1,ad8];refine Prod.ext ?_ ?_
 . cases lo with
   | none=>rfl
   | some v=>exact xJ v n 0
 . cases hi with
   | none=>rfl
   | some v=>exact xJ v n n
theorem uQ(i j:Nat):Builtin.Slice.slicePlaces (i:Int) (j:Int) 1=j - i:=by
 unfold Builtin.Slice.slicePlaces;have h1:(1:Int) > 0:=by lia
 simp only [h1,al0,Int.ediv_one];split <;> lia
theorem lD(p:IsPart v o)(h:Q o s):wpAny (model prog w) A (Builtin.Slice.slicePartIndex v) Q E s:=by
 cases p with
 | none=>exact slicePart_none h
 | int i t=>exact slicePart_int h
theorem eY{sl:Addr}{vl vu:Value}{lo hi:Option Int}{n:Nat}{Q:Int × Int × Nat->Shared->Prop}(hs:s.heap.IsSliceOf sl vl vu .none)(pl:IsPart vl lo)(pu:IsPart vu hi)
  (h:Q (((cB n 0 lo:Nat):Int),1,cB n n hi - cB n 0 lo) s):wpAny (model prog w) A (Builtin.Slice.sliceApplied (.ref sl) (pure (n:Int))) Q E s:=by
 obtain⟨os,Kv,PZ,KO⟩:=id hs;unfold Builtin.Slice.sliceApplied Builtin.Slice.sliceFields;refine Zd (Zd (ad5 Kv KO (x:=vl) rfl (Zd (ad5 Kv KO (x:=vu) rfl (Zd (ad5 Kv KO (x:= .none) rfl (Zf ?_)))))));refine Zd (slicePart_none ?_);show wpAny _ _ (if ((1:Int)==0)=true then _ else _) _ _ s;rw[if_neg (by decide)];refine Zd (lD pl (Zd (lD pu (Zd (Zf ?_)))));show wpAny _ _ (match Builtin.Slice.sliceAdjust lo hi 1 (n:Int) with | (lo,hi)=>pure (lo,(1:Int),Builtin.Slice.slicePlaces lo hi 1)) _ _ s;rw[vO lo hi n];show wpAny _ _ (pure (((cB n 0 lo:Nat):Int),(1:Int),Builtin.Slice.slicePlaces ((cB n 0 lo:Nat):Int) ((cB n n hi:Nat):Int) 1)) _ _ s;rw[uQ];exact Zf h
theorem Bn(xs:Array Value)(i k:Nat):((List.range k).filterMap fun(m:Nat)=>xs[((i:Int)+(m:Int)*1).toNat]?).toArray=((xs.toList.drop i).take k).toArray:=by
 have e:(fun(m:Nat)=>xs[((i:Int)+(m:Int)*1).toNat]?)=fun m=>xs[i+m]?:=by
  funext m
  have:((i:Int)+(m:Int)*1).toNat=i+m:=by lia
  rw[this]
 rw[e];have:=pick_run xs i k;rw[List.filterMap_map] at this;have e2:((fun x=>xs[x]?) ∘ fun x=>i+x)=fun m=>xs[i+m]?:=rfl;rw[e2] at this;rw[this]
theorem je{t sl:Addr}{items:Array Value}{vl vu:Value}{lo hi:Option Int}(ht:IsTup s.heap t items)(hs:s.heap.IsSliceOf sl vl vu .none)(pl:IsPart vl lo)(pu:IsPart vu hi)(hw: ¬(cB items.size 0 lo=0/\cB items.size items.size hi=items.size))(h:Q (.ref s.heap.objs.size) {s with heap:=s.heap.push {cls:= .type "tuple",data:= .seq ((items.toList.drop (cB items.size 0 lo)).take (cB items.size items.size hi - cB items.size 0 lo)).toArray}})(hsz:items.size<=sizeLine):wpAny (model prog w) A (getItem (.ref t) (.ref sl)) Q E s:=by
 have xk:sizeOk (.seq ((items.toList.drop (cB items.size 0 lo)).take (cB items.size items.size hi - cB items.size 0 lo)).toArray):=by
  show((items.toList.drop (cB items.size 0 lo)).take (cB items.size items.size hi - cB items.size 0 lo)).toArray.size<=sizeLine;rw[ZC,ae8,aj2,Zv];lia
 have hj:cB items.size items.size hi<=items.size:=AZ _ _ (Zj _) hi;obtain⟨os,Kv,PZ,KO⟩:=id hs;have Ss:s.TypeIs (.ref sl) "slice":=⟨os,Kv,PZ⟩
 unfold getItem;try with_reducible refine aa9 ?_
 first | refine Zd (Zf ?_) | skip
 refine Zd (wpAny_sequenceKey ht.typeIs (by decide) ?_);refine Zd (ac6 (name:=Str.ofString "__getitem__") ht.typeIs ag3
  (ab4 ag3 ht.typeIs entry_tuple_getitem ?_ (args_tuple_getitem _ _)))
 show wpAny _ _ (Builtin.Tuple.tupleItemsOf (.ref t) >>=_) _ _ s;refine Zd (tupleItemsOf_ ht ?_);refine Zd (wpAny_typeOf Ss ?_);rw[if_pos (by decide)];refine Zd (eY hs pl pu ?_);have Kz: ¬((((cB items.size 0 lo:Nat):Int)==0 && (1:Int)==1 && (cB items.size items.size hi - cB items.size 0 lo)==items.size)=true):=by
  intro q;rw[aa8,aa8] at q;have q1:((cB items.size 0 lo:Nat):Int)=0:=eq_of_beq q.1.1;have q2:cB items.size items.size hi - cB items.size 0 lo=items.size:=eq_of_beq q.2;exact hw ⟨by lia,by lia⟩
 show wpAny _ _ (if (((cB items.size 0 lo:Nat):Int)==0 && (1:Int)==1 && (cB items.size items.size hi - cB items.size 0 lo)==items.size)=true then _ else _) _ _ s;rw[if_neg Kz,Bn];first
  | exact Zd (m:=Builtin.Tuple.tupleExact _) (Z9 (Zf ⟨_,rfl,Zf h⟩) xk)
  | exact Zd (m:=Builtin.Tuple.tupleExact _) (Z9 (Zd (Zf (Zf ⟨_,rfl,Zf h⟩))) xk)
  | exact Zd (Zd (m:=Builtin.Tuple.tupleExact _) (Z9 (Zf (Zf ⟨_,rfl,Zf h⟩)) xk))
  | exact Zd (Zd (m:=Builtin.Tuple.tupleExact _) (Z9 (Zf ⟨_,rfl,Zf h⟩) xk))
end
end HT
namespace L2
open PySem PySem.Spec PyProof.Rows
abbrev TO:=St->Hp->(Option Int->Hp->Prop)->Prop
def PO(X:Cx)(e:Option Expr)(t:TO):Prop:=
 ∀(pins:List (Addr × Obj)) (s:Shared) (σ:St) (H:Hp) (Q:Option Int->Hp->Prop),Inv X pins σ H s->t σ H Q->
  wpAny (model X.prog X.w) X.A (evalPart e X.env) (fun u s'=> ∃o H',Inv X pins σ H' s'/\IsPart u o/\Q o H') X.xe s
def Er:TO:=fun _ H Q=>Q none H
def MA(t:TE):TO:=fun σ H Q=>t σ H fun x H1=> ∃i,x= .int i/\Q (some i) H1
theorem intsAre_of{ns:List Int}: ∀{us:List Value},Vals (ns.map V.int) us->IntsAre us ns:=by
 induction ns with
 | nil=>intro us r;rw[List.map_nil] at r;cases r;exact .nil
 | cons n ns ih=>
  intro us r;rw[Zx] at r;cases r with
  | cons r1 r2=>
   obtain⟨t,e⟩:=r1;subst e;exact .cons n t (ih r2)
section
variable{X:Cx}{e:Expr}{te:TE}{lo hi:Option Expr}{tl th:TO}{pos p2:Pos}
theorem wM:PO X none Er:=by
 intro pins s σ H Q I h;rw[evalPart_none];exact Zf ⟨none,H,I,.none,h⟩
theorem wL(h:PE X e te):PO X (some e) (MA te):=by
 intro pins s σ H Q I hw;rw[evalPart_some];refine aP (h pins s σ H _ I hw) fun u s1 Qm=>?_;obtain⟨x,H1,I1,r1,q1⟩:=Qm;obtain⟨i,rfl,q⟩:=q1;obtain⟨t,rfl⟩:=r1;exact⟨some i,H1,I1,.int i t,q⟩
def n8(X:Cx)(r:V->Option Int->Option Int->Hp->VK->Prop):Prop:=
 ∀(pins:List (Addr × Obj)) (s:Shared) (σ:St) (H:Hp) (x:V) (v vl vu:Value) (lo hi:Option Int) (sl:Addr) (Q:VK),Inv X pins σ H s->RelV x v->s.heap.IsSliceOf sl vl vu .none->IsPart vl lo->IsPart vu hi->r x lo hi H Q->
  ∃T id,typeLookup (.type T) "__getitem__"=pure (some (.builtin id))/\s.TypeIs v T/\wpAny (model X.prog X.w) X.A (getItem v (.ref sl)) (EP X pins σ Q) X.xe s
def VY(r:V->Option Int->Option Int->Hp->VK->Prop)(te:TE)(tl th:TO):TE:=fun σ H Q=>te σ H fun x H1=>tl σ H1 fun l H2=>th σ H2 fun u H3=>r x l u H3 Q
theorem sf(hr:n8 X r)(he:PE X e te)(hl:PO X lo tl)(hu:PO X hi th):PE X (.Subscript e (.Slice lo hi none p2) pos) (VY r te tl th):=by
 intro pins s σ H Q I h;refine Subscript_ (aP (he pins s σ H _ I h) fun v s1 Ql=>?_);obtain⟨x,H1,I1,r1,q1⟩:=Ql;refine wpAny_Slice (aP (hl pins s1 σ H1 _ I1 q1) fun vl s2 ⟨l,H2,I2,pl,q2⟩=>aP (hu pins s2 σ H2 _ I2 q2) fun vu s3 Qk=>?_);obtain⟨u,H3,I3,pu,q3⟩:=Qk;rw[evalPart_none];refine Zf ?_;have I4:Inv X pins σ H3 {s3 with heap:=s3.heap.push {cls:= .type "slice",data:= .fields #[vl,vu,.none]}}:=I3.kept (t':=s3.toks) fun b ob q=>Zh _ q;obtain⟨T,id,hT,ht,hg⟩:=hr pins {s3 with heap:=s3.heap.push {cls:= .type "slice",data:= .fields #[vl,vu,.none]}} σ H3 x v vl vu l u s3.heap.objs.size Q I4 r1 (Heap.IsSliceOf.new ..) pl pu q3;show wpAny (model X.prog X.w) X.A (subscriptTail e (.Slice lo hi none p2) v (.ref s3.heap.objs.size)) (EP X pins σ Q) X.xe {s3 with heap:=s3.heap.push {cls:= .type "slice",data:= .fields #[vl,vu,.none]}};exact tail_any (ops:= [.ref s3.heap.objs.size,v]) ht hT hg (by with_unfolding_all rfl)
noncomputable def mT(xs:List V)(lo hi:Option Int):List V:=(xs.drop (HT.cB xs.length 0 lo)).take (HT.cB xs.length xs.length hi - HT.cB xs.length 0 lo)
theorem kg(xs:List V)(lo hi:Option Int):(mT xs lo hi).length<=xs.length:=by
 unfold mT;rw[ae8,aj2];lia
theorem Vals.p4(r:Vals xs us):us= []↔xs= []:=by
 cases r with
 | nil=>simp
 | cons _ _=>simp
end
noncomputable def w9(n:Nat)(i:Int):Option Nat:=if 0<=i then(if i < n then some i.toNat else none) else if -(n:Int)<=i then some (i+n).toNat else none
noncomputable def iK{α:Type}(xs:List α)(i:Int):Option α:=(w9 xs.length i).bind fun j=>xs[j]?
theorem w8(h:w9 n i=some j):seqIndex? i n=some j/\j < n/\ -(n:Int)<=i/\i < n:=by
 unfold w9 at h;by_cases h0:0<=i
 . rw[if_pos h0] at h;by_cases h1:i < n
   . rw[if_pos h1] at h;have e:i.toNat=j:=Option.some.inj h;exact⟨by rw[seqIndex_of h0 h1,e],by lia,by lia,h1⟩
   . rw[if_neg h1] at h;cases h
 . rw[if_neg h0] at h;by_cases h1: -(n:Int)<=i
   . rw[if_pos h1] at h;have e:(i+n).toNat=j:=Option.some.inj h;exact⟨by rw[seqIndex_neg (by lia) h1,e],by lia,h1,by lia⟩
   . rw[if_neg h1] at h;cases h
theorem qG(h:iK xs i=some v): ∃j,seqIndex? i xs.length=some j/\xs[j]?=some v/\j < xs.length/\ -(xs.length:Int)<=i/\i < xs.length:=by
 unfold iK at h;cases e:w9 xs.length i with
 | none=>rw[e] at h;cases h
 | some j=>
  rw[e] at h;obtain⟨h1,h2,h3,h4⟩:=w8 e;exact⟨j,h1,h,h2,h3,h4⟩
theorem a0{j:Nat}(h:xs[j]?=some v):iK xs (j:Int)=some v:=by
 have hj:j < xs.length:=(Zq.mp h).1;have e:w9 xs.length (j:Int)=some j:=by
  unfold w9;rw[if_pos (by lia),if_pos (by lia)];simp
 unfold iK;rw[e];exact h
theorem m8(xs:List α)(v:α):iK (xs++ [v]) (-1)=some v:=by
 have hl:(xs++ [v]).length=xs.length+1:=by simp
 have e:w9 (xs++ [v]).length (-1)=some xs.length:=by
  unfold w9;rw[hl,if_neg (by decide),if_pos (by lia)];congr 1
  lia
 unfold iK;rw[e];show(xs++ [v])[xs.length]?=some v;simp
def qK(b:Expr):Prop:= ∀o i,subscripted b false o i=operate [o,i] (getItem o i)
def GV(X:Cx)(r:R2):Prop:=
 ∀(value slice:Expr) (pins:List (Addr × Obj)) (s:Shared) (σ:St) (H:Hp) (x y:V) (v u:Value) (Q:VK),Inv X pins σ H s->RelV x v->RelV y u->r x y H Q->
  subscripted slice false v u=operate [v,u] (getItem v u)->wpAny (model X.prog X.w) X.A (subscriptTail value slice v u) (EP X pins σ Q) X.xe s
def TK(X:Cx)(id:String)(r:V->List V->Hp->VK->Prop):Prop:=
 ∀(pins:List (Addr × Obj)) (s:Shared) (σ:St) (H:Hp) (x:V) (xs:List V) (v:Value) (us:List Value) (Q:VK),Inv X pins σ H s->RelV x v->Vals xs us->r x xs H Q->
  wpAny (model X.prog X.w) X.A (call (.builtin id) (v::us)) (EP X pins σ Q) X.xe s
section
variable{X:Cx}{a b:Expr}{ta tb:TE}{pos:Pos}
theorem GV.or(h:GV X r)(h':GV X r'):GV X (fun x y H Q=>r x y H Q\/r' x y H Q):=by
 intro value slice pins s σ H x y v u Q I rx ry q hs;rcases q with q | q
 . exact h value slice pins s σ H x y v u Q I rx ry q hs
 . exact h' value slice pins s σ H x y v u Q I rx ry q hs
theorem Bw(hr:GV X r)(ha:PE X a ta)(hb:PE X b tb)(hs:qK b):PE X (.Subscript a b pos) (G3 r ta tb):=by
 intro pins s σ H Q I h;exact Subscript_ (LF ha hb I h fun v u s2 x y H2 I2 rx ry q=>hr a b pins s2 σ H2 x y v u Q I2 rx ry q (hs _ _))
def M6(K:PySem.W.Frag):R2:=fun x y H Q=> ∃p xs i v,x= .ref p/\y= .int i/\cX K H p xs/\iK xs i=some v/\Q v H
def MZ(K:PySem.W.Frag):R2:=fun x y H Q=> ∃p xs i v,x= .ref p/\y= .int i/\eV K H p xs/\iK xs i=some v/\Q v H
def M5:R2:=fun x y H Q=> ∃z i c,x= .str z/\y= .int i/\z.length<=sizeLine/\iK z.cps.toList i=some c/\Q (.str ⟨#[c]⟩) H
theorem p9:GV X (M6 X.K):=by
 intro value slice pins s σ H x y v u Q I rx ry h hs;obtain⟨p,xs,i,z,rfl,rfl,hq,he,q⟩:=h;cases rx;obtain⟨t,rfl⟩:=ry;obtain⟨ao,r,pl,hz⟩:=I.list hq;obtain⟨j,h1,h2,h3,h4,h5⟩:=qG he;obtain⟨w,ew,qQ⟩:=r.get h2;have hl:=r.length;have hn:=mn;have fin:EP X pins σ Q w s:=⟨z,H,I,qQ,q⟩
 by_cases h0:0<=i
 . have hj : i.toNat = j := by
     rw[seqIndex_of h0 h5] at h1;exact Option.some.inj h1
   exact item_listR pl.isList h0 (by lia) (by rw[hj];simpa using ew) fin hs
 . have hj : (i + (ao.toArray.size : Int)).toNat = j := by
     rw[seqIndex_neg (by lia) h4] at h1;rw[ZC,<-hl];exact Option.some.inj h1
   exact subscriptTail_builtinR (x:=w) pl.isList.typeIs slot_list_getitem.lookup
    (wpAny_getItem_list_neg (Q:=fun r s'=>r=w/\EP X pins σ Q r s') pl.isList (by lia) (by rw[ZC] <;> lia) (by lia) (by rw[hj];simpa using ew) ⟨rfl,fin⟩) hs
theorem Kl:GV X (MZ X.K):=by
 intro value slice pins s σ H x y v u Q I rx ry h hs;obtain⟨p,xs,i,z,rfl,rfl,hq,he,q⟩:=h;cases rx;obtain⟨t,rfl⟩:=ry;obtain⟨ao,r,pl,hz⟩:=I.tuple hq;obtain⟨j,h1,h2,h3,h4,h5⟩:=qG he;obtain⟨w,ew,qQ⟩:=r.get h2;have hl:=r.length;have hn:=mn;have fin:EP X pins σ Q w s:=⟨z,H,I,qQ,q⟩
 exact subscriptTail_builtinR (x:=w) pl.typeIs slot_tuple_getitem.lookup
  (getItem_tuple (j:=j) (Q:=fun r s'=>r=w/\EP X pins σ Q r s') pl (by lia) (by lia) (by rw[ZC,<-hl];exact h1) (by simpa using ew) ⟨rfl,fin⟩) hs
theorem Km:GV X M5:=by
 intro value slice pins s σ H x y v u Q I rx ry h hs;obtain⟨z,i,c,rfl,rfl,hz,he,q⟩:=h;obtain⟨t,rfl⟩:=rx;obtain⟨t',rfl⟩:=ry;obtain⟨j,h1,h2,h3,h4,h5⟩:=qG he;have hl:z.cps.toList.length=z.length:=by simp [Str.length]
 rw[hl] at h1 h4 h5;have hn:=mn;exact tail_any (typeIs_str s z t) slot_str_getitem.lookup (getItem_str (c:=c) (by
  have e1:decide (i < -(2^63:Int))=false:=ZO (by lia);have e2:decide (i>=2^63)=false:=ZO (by lia);rw[e1,e2,Bool.or_false]) (by rw[h1];simpa using h2) ⟨.str ⟨#[c]⟩,H,I.tok _,⟨_,rfl⟩,q⟩) hs
def Ua(K:PySem.W.Frag):R2:=fun x y H Q=>M6 K x y H Q\/MZ K x y H Q\/M5 x y H Q
theorem Kn:GV X (Ua X.K):=p9.or (Kl.or Km)
theorem u7(ao:List Value)(n j:Nat)(u:Value):Obj.mapSeq (·.setIfInBounds j u) {cls:= .type "list",data:= .seq ao.toArray n}={cls:= .type "list",data:= .seq (ao.set j u).toArray n}:=by
 simp [Obj.mapSeq]
theorem Inv.lst{pins:List (Addr × Obj)}{σ:St}{H:Hp}{s:Shared}{p:Addr}{xs:List V}(I:Inv X pins σ H s)(h:H p=some (.lst xs)):
  ∃(ao:List Value) (n:Nat),Vals xs ao/\s.heap.get? p=some {cls:= .type "list",data:= .seq ao.toArray n}/\xs.length<=sizeLine:=by
 obtain⟨z,ao,n,r,e⟩:=I.aT p _ h;exact⟨ao,n,r,e,z⟩
theorem Inv.J8{ao its':List Value}(I:Inv X pins σ H s)(h:H p=some (.lst xs))(ho:s.heap.get? p=some {cls:= .type "list",data:= .seq ao.toArray n})(hf:f {cls:= .type "list",data:= .seq ao.toArray n}={cls:= .type "list",data:= .seq its'.toArray n'})(r:Vals ys its')(hz:ys.length<=sizeLine)(t:Nat):
  Inv X pins σ (upd H p (.lst ys)) {s with heap:=s.heap.update p f,toks:=t}:=by
 have e:(s.heap.update p f).get? p=some {cls:= .type "list",data:= .seq its'.toArray n'}:=by
  rw[ag1 f ho (by rw[hf] <;> rfl),hf]
 refine I.write (x:=p) (e:=p) (by rw[h];trivial) (.inl rfl) (fun b u hb q=>(ae2 _ _ (Ne.symm hb)).trans q) ⟨_,e⟩ ?_;exact⟨hz,its',n',r,e⟩
def MX:V->V->V->Hp->(Hp->Prop)->Prop:=fun o i v H Q=> ∃p xs k j,o= .ref p/\i= .int k/\H p=some (.lst xs)/\w9 xs.length k=some j/\Q (upd H p (.lst (xs.set j v)))
theorem set_list:O0 X MX:=by
 intro pins s σ H o i v ov iv u Q I ro ri rv h;obtain⟨p,xs,k,j,rfl,rfl,hp,hj,q⟩:=h;cases ro;obtain⟨t,rfl⟩:=ri;obtain⟨ao,n,r,ho,hz⟩:=I.lst hp;obtain⟨h1,h2,h3,h4⟩:=w8 hj;have hl:=r.length;have hn:=mn;have I':Inv X pins σ (upd H p (.lst (xs.set j v))) {s with heap:=s.heap.update p (Obj.mapSeq (·.setIfInBounds j u))}:=
  I.J8 hp ho (u7 ao n j u) (r.set rv j) (by rw[ZQ];exact hz) s.toks
 by_cases h0:0<=k
 . have hk : k.toNat = j := by
     rw[seqIndex_of h0 h4] at h1;exact Option.some.inj h1
   exact PySem.W.ki_setAt ho h0 (by lia) (by rw[ZC,<-hl];exact h4) (by rw[hk];exact⟨_,I',q⟩)
 . have hk : (k + (ao.toArray.size : Int)).toNat = j := by
     rw[seqIndex_neg (by lia) h3] at h1;rw[ZC,<-hl];exact Option.some.inj h1
   exact PySem.W.ki_setBack ho (by lia) (by rw[ZC,<-hl];exact h3) (by lia) (by rw[hk];exact⟨_,I',q⟩)
theorem pF(lo hi:Option Int)(n:Nat):(sliceBounds lo hi none n).1=((HT.cB n 0 lo:Nat):Int)/\(sliceBounds lo hi none n).2.1=((HT.cB n n hi:Nat):Int)/\(sliceBounds lo hi none n).2.2=1:=by
 refine⟨?_,?_,rfl⟩
 . cases lo with
   | none=>simp [sliceBounds,HT.cB]
   | some i=>
    simp only [sliceBounds,HT.cB,Option.getD_none,show(1:Int) > 0 by decide,al0];by_cases h:i < 0
    . simp only [h,al0] <;> lia
    . simp only [h,ad8] <;> lia
 . cases hi with
   | none=>simp [sliceBounds,HT.cB]
   | some i=>
    simp only [sliceBounds,HT.cB,Option.getD_none,show(1:Int) > 0 by decide,al0];by_cases h:i < 0
    . simp only [h,al0] <;> lia
    . simp only [h,ad8] <;> lia
theorem nL(ao:List Value)(lo hi:Option Int):slicePick ao.toArray lo hi none=((ao.drop (HT.cB ao.length 0 lo)).take (HT.cB ao.length ao.length hi - HT.cB ao.length 0 lo)).toArray:=by
 obtain⟨h1,h2,h3⟩:=pF lo hi ao.toArray.size;unfold slicePick;rw[h1,h2,h3];simp only [sliceRange_one,pick_run,ZC] <;> rfl
def Rf(K:PySem.W.Frag):V->Option Int->Option Int->Hp->VK->Prop:=fun x lo hi H Q=> ∃a xs,x= .ref a/\cX K H a xs/\ ∀p,H p=none->Q (.ref p) (upd H p (.lst (mT xs lo hi)))
theorem Ew:n8 X (Rf X.K):=by
 intro pins s σ H x v vl vu lo hi sl Q I rx hs pl pu h;obtain⟨a,xs,rfl,hx,q⟩:=h;cases rx;obtain⟨ao,r,ht,hz⟩:=I.list hx;have hlen:=r.length;refine⟨"list",_,slot_list_getitem.lookup,ht.isList.typeIs,?_⟩;refine wpAny_getItem_list_slice ht.isList hs pl pu .none (by simp) ?_ (by rw[ZC] <;> lia);rw[nL,<-hlen];refine⟨.ref s.heap.objs.size,_,I.laid (t':=s.toks) (o:= .lst (mT xs lo hi)) (fun b ob q=>Zh _ q) (Zj _) ?_,rfl,q _ (I.aT.fresh (Zj _))⟩;exact⟨ZE (kg xs lo hi) hz,_,0,(r.drop (HT.cB xs.length 0 lo)).take (HT.cB xs.length xs.length hi - HT.cB xs.length 0 lo),Zs _ rfl⟩
noncomputable def dw:V->Bool
 | .aN=>true
 | .bl _=>true
 | .int _=>true
 | .str _=>true
 | _=>false
noncomputable def uf:V->V->Bool
 | .aN,.aN=>true
 | .bl a,.bl b=>a==b
 | .bl a,.int b=>(if a then 1 else 0)==b
 | .int a,.bl b=>a==(if b then 1 else 0)
 | .int a,.int b=>a==b
 | .str a,.str b=>a==b
 | _,_=>false
theorem CH(ry:RelV y u)(rx:RelV x v)(fy:dw y=true)(fx:dw x=true):SeqAt.EqAt A s u v (uf y x):=by
 cases y with
 | aN=>
  cases ry;cases x with
  | aN=>cases rx;exact SeqAt.EqAt.same _
  | bl b=>cases rx;exact SeqAt.EqAt.none_bool b
  | int b=>obtain⟨t,rfl⟩:=rx;exact SeqAt.EqAt.none_int b t
  | str b=>obtain⟨t,rfl⟩:=rx;exact SeqAt.EqAt.none_str b t
  | _=>exact absurd (show false=true from fx) Zp
 | bl a=>
  cases ry;cases x with
  | aN=>cases rx;exact SeqAt.EqAt.bool_none a
  | bl b=>cases rx;exact SeqAt.EqAt.bool_bool a b
  | int b=>obtain⟨t,rfl⟩:=rx;exact SeqAt.EqAt.bool_int a b t
  | str b=>obtain⟨t,rfl⟩:=rx;exact SeqAt.EqAt.bool_str a b t
  | _=>exact absurd (show false=true from fx) Zp
 | int a=>
  obtain⟨t',rfl⟩:=ry;cases x with
  | aN=>cases rx;exact SeqAt.EqAt.int_none a t'
  | bl b=>cases rx;exact SeqAt.EqAt.int_bool a t' b
  | int b=>obtain⟨t,rfl⟩:=rx;exact SeqAt.EqAt.int_int a t' b t
  | str b=>obtain⟨t,rfl⟩:=rx;exact SeqAt.EqAt.int_str a t' b t
  | _=>exact absurd (show false=true from fx) Zp
 | str a=>
  obtain⟨t',rfl⟩:=ry;cases x with
  | aN=>cases rx;exact SeqAt.EqAt.str_none a t'
  | bl b=>cases rx;exact SeqAt.EqAt.str_bool a t' b
  | int b=>obtain⟨t,rfl⟩:=rx;exact SeqAt.EqAt.str_int a t' b t
  | str b=>obtain⟨t,rfl⟩:=rx;exact SeqAt.EqAt.str_str a t' b t
  | _=>exact absurd (show false=true from fx) Zp
 | _=>exact absurd (show false=true from fy) Zp
noncomputable def F7(x:V)(u:Value):Bool:=match u with
 | .none=>uf .aN x
 | .bool b=>uf (.bl b) x
 | .int i _=>uf (.int i) x
 | .str z _=>uf (.str z) x
 | _=>false
theorem CG(r:RelV y u)(f:dw y=true):F7 x u=uf y x:=by
 cases y with
 | aN=>cases r;rfl
 | bl b=>cases r;rfl
 | int i=>obtain⟨t,rfl⟩:=r;rfl
 | str z=>obtain⟨t,rfl⟩:=r;rfl
 | _=>exact absurd (show false=true from f) Zp
theorem qH: ∀{xs:List V} {us:List Value},Vals xs us->xs.all dw=true->us.any (F7 x)=xs.any fun y=>uf y x
 | _,_,.nil,_=>rfl
 | y::xs,u::us,.cons r t,f=>by
  rw[ao9,aa8] at f;rw[ag9,ag9,CG r f.1,qH t f.2]
theorem mj(rx:RelV x v)(fx:dw x=true): ∀{xs:List V} {us:List Value},Vals xs us->xs.all dw=true-> ∀u∈us,SeqAt.EqAt A s u v (F7 x u)
 | _,_,.nil,_=>fun u hu=>by cases hu
 | y::xs,u::us,.cons r t,f=>fun u' hu=>by
  rw[ao9,aa8] at f;rcases ZS.mp hu with rfl | hu
  . rw[CG r f.1];exact CH r rx f.1 fx
  . exact mj rx fx t f.2 u' hu
noncomputable def nN(x:V)(xs:List V):Bool:=xs.any fun y=>uf y x
def Ub(K:PySem.W.Frag)(neg:Bool):R2:=fun x y H Q=> ∃p xs,y= .ref p/\(cX K H p xs\/eV K H p xs)/\dw x=true/\xs.all dw=true/\Q (.bl (if neg then !nN x xs else nN x xs)) H
theorem yt:jA X (compareOp .In) (Ub X.K false):=by
 intro pins s σ H x y v u Q I rx ry h;obtain⟨p,xs,rfl,hq,fx,fs,q⟩:=h;cases ry;rcases hq with hq | hq
 . obtain⟨ao,r,pl,hz⟩:=I.list hq;refine SeqAt.in_listAt (F7 x) pl.isList (fun w hw=>mj rx fx r fs w (by simpa using hw)) ⟨.bl _,H,I,rfl,?_⟩;rw[show ao.toArray.any (F7 x)=ao.any (F7 x) by simp,qH r fs];exact q
 . obtain⟨ao,r,pl,hz⟩:=I.tuple hq;refine SeqAt.in_tupleAt (F7 x) pl (fun w hw=>mj rx fx r fs w (by simpa using hw)) ⟨.bl _,H,I,rfl,?_⟩;rw[show ao.toArray.any (F7 x)=ao.any (F7 x) by simp,qH r fs];exact q
theorem jw:eB X (.builtin "len") (fun xs H Q=> ∃p ys,xs= [.ref p]/\(cX X.K H p ys\/eV X.K H p ys)/\Q (.int ys.length) H):=by
 intro pins s σ H xs us Q I r h;obtain⟨p,ys,rfl,hq,q⟩:=h;obtain⟨u,rfl,rx⟩:=vals1 r;cases rx;have hn:=mn;rcases hq with hq | hq
 . obtain⟨ao,r',pl,hz⟩:=I.list hq;have hlen:=r'.length;exact Calls.call_len_list pl.isList (by simp only [ZC] <;> lia) ⟨.int ys.length,H,I.tok _,⟨s.toks+1,by rw[ZC,hlen]⟩,q⟩
 . obtain⟨ao,r',pl,hz⟩:=I.tuple hq;have hlen:=r'.length;exact len_tuple pl (by simp only [ZC] <;> lia) ⟨.int ys.length,H,I.tok _,⟨s.toks+1,by rw[ZC,hlen]⟩,q⟩
theorem jv:eB X (.type "list") (fun xs H Q=> ∃p ys,xs= [.ref p]/\(cX X.K H p ys\/eV X.K H p ys)/\ ∀l,H l=none->Q (.ref l) (upd H l (.lst ys))):=by
 intro pins s σ H xs us Q I r h;obtain⟨p,ys,rfl,hq,q⟩:=h;obtain⟨u,rfl,rx⟩:=vals1 r;cases rx;have fin: ∀(ao:List Value),Vals ys ao->ys.length<=sizeLine-> ∀(h':Heap) (c':Nat),(∀b o',s.heap.get? b=some o'->h'.get? b=some o')->
   h'.get? s.heap.objs.size=some {cls:= .type "list",dict:=none,data:= .seq ao.toArray c',slots:= #[]}->EP X pins σ Q (.ref s.heap.objs.size) {s with heap:=h'}:=fun ao r' hz h' c' kp e=>
  ⟨.ref s.heap.objs.size,_,I.laid (t':=s.toks) kp (Zj _) (show aQ X.prog X.w _ h' _ (.lst ys) from⟨hz,ao,c',r',e⟩),rfl,q _ (I.aT.fresh (Zj _))⟩
 rcases hq with hq | hq
 . obtain⟨ao,r',pl,hz⟩:=I.list hq;have hlen:=r'.length;obtain⟨o,ho,hc,n,hd⟩:=pl.isList;exact call_list_seq p (.inl rfl) ho hc hd (fun h' c' kp e=>fin ao r' hz h' c' kp e) (by simp only [ZC] <;> lia)
 . obtain⟨ao,r',pl,hz⟩:=I.tuple hq;have hlen:=r'.length;obtain⟨o,ho,hc,n,hd⟩:=pl;exact call_list_seq p (.inr rfl) ho hc hd (fun h' c' kp e=>fin ao r' hz h' c' kp e) (by simp only [ZC] <;> lia)
theorem iw:eB X (.type "tuple") (fun xs H Q=> ∃p ys,xs= [.ref p]/\((cX X.K H p ys/\ ∀l,H l=none->Q (.ref l) (upd H l (.tup ys)))\/(eV X.K H p ys/\Q (.ref p) H))):=by
 intro pins s σ H xs us Q I r h;obtain⟨p,ys,rfl,h⟩:=h;obtain⟨u,rfl,rx⟩:=vals1 r;cases rx;rcases h with ⟨hq,q⟩ | ⟨hq,q⟩
 . obtain⟨ao,r',pl,hz⟩:=I.list hq;have hlen:=r'.length;refine call_tuple_list pl.isList (fun h' kp=>?_) (by simp only [ZC] <;> lia);have I1:Inv X pins σ H {s with heap:=h'}:=I.kept (t':=s.toks) kp;have I2:Inv X pins σ (upd H h'.objs.size (.tup ys)) {s with heap:=h'.push {cls:= .type "tuple",data:= .seq ao.toArray}}:=
    I1.laid (t':=s.toks) (fun b o e=>Zh _ e) (Zj _) (show aQ X.prog X.w _ _ _ (.tup ys) from⟨hz,ao,r',nz.new _ _⟩)
   exact⟨.ref h'.objs.size,_,I2,rfl,q _ (I1.aT.fresh (Zj _))⟩
 . obtain⟨ao,r',pl,hz⟩:=I.tuple hq;exact call_tuple_same pl ⟨.ref p,H,I,rfl,q⟩
def QK(K:PySem.W.Frag)(T:String)(x:V)(H:Hp):Prop:=match x with
 | .str _=>T="str"
 | .int _=>T="int"
 | .ref p=>(T="list"/\ ∃xs,cX K H p xs)\/(T="tuple"/\ ∃o,K.lookup p=some o/\o.cls= .type "tuple"/\o.dict=none)\/
   (T="dict"/\((∃aH,H p=some (.dK aH))\/ ∃aH,H p=some (.dT aH)))\/(T="set"/\ ∃S n,H p=some (.set S n))\/(T="tuple"/\ ∃xs,H p=some (.tup xs))
 | _=>False
theorem Ap(I:Inv X pins σ H s)(r:RelV x v)(ty:QK X.K T x H):
  s.TypeIs v T/\ ∀a,v= .ref a-> ∃ob,s.heap.get? a=some ob/\ob.dict=none:=by
 cases x with
 | str z=>
  obtain⟨t,rfl⟩:=r;cases (show T="str" from ty);exact⟨typeIs_str s z t,fun _ e=>nomatch e⟩
 | int i=>
  obtain⟨t,rfl⟩:=r;cases (show T="int" from ty);exact⟨typeIs_int s i t,fun _ e=>nomatch e⟩
 | ref p=>
  cases r;rcases ty with ⟨rfl,xs,hq⟩ | ⟨rfl,o,hk,hc,hd⟩ | ⟨rfl,hk⟩ | ⟨rfl,S,n,hk⟩ | ⟨rfl,xs,hk⟩
  . obtain⟨ao,_,pl,_⟩:=I.list hq;refine⟨pl.isList.typeIs,fun a e=>?_⟩;cases e;obtain⟨o,n,e,c,hd,_⟩:=pl;exact⟨o,e,hd⟩
  . refine⟨⟨o,I.qR p o hk,hc⟩,fun a e=>?_⟩;cases e;exact⟨o,I.qR _ o hk,hd⟩
  . have z : ∃ o, s.heap.get? p = some o /\ o.ExactDict := by
      rcases hk with ⟨aH,hk⟩ | ⟨aH,hk⟩
      . obtain⟨_,_,_,_,o,_,_,e,ex,_⟩:=I.aT p _ hk;exact⟨o,e,ex⟩
      . obtain⟨_,_,_,_,o,_,_,e,ex,_⟩:=I.aT p _ hk;exact⟨o,e,ex⟩
    obtain⟨o,e,ex⟩:=z;refine⟨⟨o,e,ex.1⟩,fun a e2=>?_⟩;cases e2;exact⟨o,e,ex.2.1⟩
  . obtain⟨o,_,_,_,e,ex,_⟩:=I.aT p _ hk;refine⟨⟨o,e,ex.1⟩,fun a e2=>?_⟩;cases e2;exact⟨o,e,ex.2.1⟩
  . obtain⟨_,_,_,o,e,c,dn,_⟩:=(show aQ X.prog X.w H s.heap p (.tup xs) from I.aT p _ hk)
    refine⟨⟨o,e,c⟩,fun a e2=>?_⟩;cases e2;exact⟨o,e,dn⟩
 | _=>exact False.elim ty
def QY(K:PySem.W.Frag)(T:String)(r:V->List V->Hp->VK->Prop)(to:TE):TE:=fun σ H Q=>to σ H fun x H1=>QK K T x H1/\r x [] H1 Q
def T3(K:PySem.W.Frag)(T:String)(r:V->List V->Hp->VK->Prop)(to:TE)(t:TA):TE:=fun σ H Q=>to σ H fun x H1=>QK K T x H1/\t σ H1 fun xs H2=>r x xs H2 Q
variable{o e:Expr}{es:List Expr}{to:TE}{t:TA}{name:Str}{apos cv:Pos}{T id:String}{r:V->List V->Hp->VK->Prop}
theorem BB(pa:PlainAttrs T)(slot:Slot T name id)(RL:typeOf (.builtin id)=pure (.type "method_descriptor"))(hm:TK X id r)(ho:PE X o to)
  (gV:attributeBase o name X.env (eval o X.env)=eval o X.env:=by rfl) (gT:(apos.endLine==cv.line)=true:=by rfl):PE X (.Call (.Attribute o name apos) [] [] cv) (QY X.K T r to):=by
 intro pins s σ H Q I h;refine wpAny_Call_method0_late gV gT (aP (ho pins s σ H _ I h) fun v s1 Qj=>?_);obtain⟨x,H1,I1,r1,ty,q1⟩:=Qj;obtain⟨h1,h2⟩:=Ap I1 r1 ty;exact⟨T,id,pa,slot,RL,h1,h2,Calls.callWith_builtin rfl (PySem.evalArgs_none (hm pins s1 σ H1 x [] v [] Q I1 r1 .nil q1))⟩
theorem Hh(pa:PlainAttrs T)(slot:Slot T name id)(RL:typeOf (.builtin id)=pure (.type "method_descriptor"))(hm:TK X id r)(ho:PE X o to)(ha:PA X (e::es) t)
  (gV:attributeBase o name X.env (eval o X.env)=eval o X.env:=by rfl)
  (Cp:((backTo cv (starEach (e::es) X.env)).all (fun x=>!x.1) && (backToKw cv (keywordEach [] X.env)).all (fun x=>x.1.isSome)
   && decide ((e::es).length+([]:List Keyword).length+(if ([]:List Keyword).isEmpty then 0 else 1) < 30))=true:=by rfl)
  (gT:(apos.endLine==cv.line)=true:=by rfl) (hs:starEach (e::es) X.env=(false,eval e X.env)::starEach es X.env:=by rfl) (mC:(backTo cv (starEach es X.env)).any (·.1)=false:=by rfl):
  PE X (.Call (.Attribute o name apos) (e::es) [] cv) (T3 X.K T r to t):=by
 intro pins s σ H Q I h;refine wpAny_Call_method_late gV Cp gT rfl (aP (ho pins s σ H _ I h) fun v s1 Qi=>?_);obtain⟨x,H1,I1,r1,ty,q1⟩:=Qi;obtain⟨h1,h2⟩:=Ap I1 r1 ty;refine⟨T,id,pa,slot,RL,h1,h2,?_⟩;have hA:=ha cv pins s1 σ H1 _ I1 q1;rw[hs] at hA ⊢;refine Calls.callWith_builtin (by show(false || (backTo cv (starEach es X.env)).any (·.1))=false;rw[mC] <;> rfl) (Calls.evalArgs_plain ?_);exact aP hA fun us s2 Qh=>(by obtain⟨vs,H2,I2,r2,q2⟩:=Qh;exact(hm pins s2 σ H2 x vs v us Q I2 r1 r2 q2))
end
def TL(X:Cx)(id:String)(r:V->List V->Hp->VK->Prop):Prop:=
 ∀(pins:List (Addr × Obj)) (s:Shared) (σ:St) (H:Hp) (x:V) (xs:List V) (v:Value) (us:List Value) (Q:VK),Inv X pins σ H s->RelV x v->Vals xs us->r x xs H Q->
  wpAny (model X.prog X.w) X.A (call (.builtin id) (v::us)) (EP X pins σ Q) X.xe s
theorem Vals.one: ∀{x:V} {us:List Value},Vals [x] us-> ∃u,us= [u]/\RelV x u
 | _,_,.cons r .nil=>⟨_,rfl,r⟩
theorem Vals.zero: ∀{us:List Value},Vals [] us->us= []
 | _,.nil=>rfl
theorem Vals.dropLast(h:Vals xs us):Vals xs.dropLast us.dropLast:=by
 induction h with
 | nil=>exact .nil
 | cons r t ih=>
  cases t with
  | nil=>exact .nil
  | cons q t'=>exact .cons r ih
theorem Vals.reverse(h:Vals xs us):Vals xs.reverse us.reverse:=by
 induction h with
 | nil=>exact .nil
 | cons r t ih=>rw[ao3,ao3];exact Vals.append ih (.cons r .nil)
theorem Vals.rep(h:Vals xs us): ∀k:Nat,Vals (List.replicate k xs).flatten (List.replicate k us).flatten
 | 0=> .nil
 | k+1=>by
  rw[ac1,ac1,aa0,aa0];exact Vals.append h (Vals.rep h k)
theorem vp{α:Type}(l:List α):l.eraseIdx (l.length - 1)=l.dropLast:=by
 induction l with
 | nil=>rfl
 | cons a r ih=>
  cases r with
  | nil=>rfl
  | cons b r=>
   have e:(a::b::r).length - 1=((b::r).length - 1)+1:=by
    have h1:(a::b::r).length=r.length+2:=rfl;have h2:(b::r).length=r.length+1:=rfl;lia
   rw[e,List.eraseIdx_cons_succ,ih];all_goals rfl
theorem foldl_rep(ao:List Value): ∀(k:Nat) (acc:List Value),
  List.foldl (fun x1 x2=>x1++x2) acc.toArray (List.replicate k ao.toArray)=(acc++(List.replicate k ao).flatten).toArray
 | 0,acc=>by simp
 | k+1,acc=>by
  have e:acc.toArray++ao.toArray=(acc++ao).toArray:=by simp
  have e2:(acc++ao)++(List.replicate k ao).flatten=acc++(List.replicate (k+1) ao).flatten:=by
   rw[ac1,aa0,Z0]
  rw[<-e2,<-foldl_rep ao k (acc++ao),<-e,ac1,List.foldl_cons]
theorem Inv.J9{ao its':List Value}(I:Inv X pins σ H s)(hH:H l=some (.lst xs))(e:s.heap.get? l=some {cls:= .type "list",data:= .seq ao.toArray n})(hf:f ao.toArray=its'.toArray)(hv:Vals ys its')(hz:ys.length<=sizeLine):
  Inv X pins σ (upd H l (.lst ys)) {s with heap:=s.heap.update l (Obj.mapSeq f),toks:=t'}:=by
 have q:=PySem.IsL.update e f;rw[hf] at q;refine I.write (x:=l) (e:=l) (by rw[hH];exact trivial) (.inl rfl) (fun b' u hb hu=>(ae2 s.heap (Obj.mapSeq f) (Ne.symm hb)).trans hu) ⟨_,q⟩ ?_;exact⟨hz,its',_,hv,q⟩
theorem Inv.Nz(I:Inv X pins σ H s)(hv:Vals ys ao)(hz:ys.length<=sizeLine):
  Inv X pins σ (upd H s.heap.objs.size (.lst ys)) {s with heap:=s.heap.push {cls:= .type "list",data:= .seq ao.toArray},toks:=t'}:=
 I.laid (fun _ _ q=>Zh _ q) (Zj _) ⟨hz,ao,0,hv,Zs _ rfl⟩
theorem Inv.fresh(I:Inv X pins σ H s):H s.heap.objs.size=none:=I.aT.fresh (Zj _)
theorem Inv.yI(I:Inv X pins σ H s)(hH:H l=some (.lst xs)):xs.length<=sizeLine/\ ∃(ao:List Value) (n:Nat),Vals xs ao/\xs.length=ao.length/\s.heap.get? l=some {cls:= .type "list",data:= .seq ao.toArray n}:=by
 obtain⟨z,ao,n,r,e⟩:=I.aT l _ hH;exact⟨z,ao,n,r,r.length,e⟩
theorem BQ(h:n<=sizeLine):Builtin.List.listTooLong n=false:=by
 unfold Builtin.List.listTooLong;exact ZO (by lia)
section
variable{X:Cx}
def EO:V->List V->Hp->VK->Prop:=fun x vs H Q=> ∃l xs y,x= .ref l/\vs= [y]/\H l=some (.lst xs)/\xs.length < sizeLine/\Q .aN (upd H l (.lst (xs++ [y])))
theorem jN:TL X "list.append" EO:=by
 intro pins s σ H x vs v us Q I rx rv h;obtain⟨l,xs,y,rfl,rfl,hH,hz,q⟩:=h;cases rx;obtain⟨u,rfl,ru⟩:=rv.one;obtain⟨z,ao,n,r,hl,e⟩:=I.yI hH;refine aj9 F.slot_list_append ⟨_,e,rfl⟩ F.entry_list_append (F.args_list_append_2 _ _) (PySem.list_append l ao.toArray n u (by rw[ZC];lia)) ⟨e,?_⟩;refine⟨.aN,_,I.J9 (its':=ao++ [u]) hH e (by simp) (r.append (.cons ru .nil)) ?_,rfl,q⟩;rw[Zy,List.length_singleton];lia
def Rh:V->List V->Hp->VK->Prop:=fun x vs H Q=> ∃l xs y,x= .ref l/\vs= []/\H l=some (.lst xs)/\xs[xs.length - 1]?=some y/\Q y (upd H l (.lst xs.dropLast))
theorem J0:TL X "list.pop" Rh:=by
 intro pins s σ H x vs v us Q I rx rv h;obtain⟨l,xs,y,rfl,rfl,hH,hy,q⟩:=h;cases rx;have RK:=rv.zero;subst RK;obtain⟨z,ao,n,r,hl,e⟩:=I.yI hH;obtain⟨u,hu,ru⟩:=r.get hy;have yR:ao.toArray[ao.toArray.size - 1]?=some u:=by
  show ao.toArray[ao.length - 1]?=some u;rw[<-aa4,<-hl];exact hu
 refine aj9 F.slot_list_pop ⟨_,e,rfl⟩ F.entry_list_pop (F.args_list_pop_1 _) (MeetsSeq.list_pop_last l ao.toArray n u yR (by rw[ZC];lia)) ⟨e,?_⟩;refine⟨y,_,I.J9 (its':=ao.dropLast) hH e ?_ r.dropLast ?_,ru,q⟩
 . show ao.toArray.eraseIdxIfInBounds (ao.toArray.size - 1)=ao.dropLast.toArray;rw[ZC,List.eraseIdxIfInBounds_toArray,vp]
 . rw[ai6];lia
def Bb:V->List V->Hp->VK->Prop:=fun x vs H Q=> ∃l xs,x= .ref l/\vs= []/\H l=some (.lst xs)/\Q .aN (upd H l (.lst xs.reverse))
theorem uZ:TL X "list.reverse" Bb:=by
 intro pins s σ H x vs v us Q I rx rv h;obtain⟨l,xs,rfl,rfl,hH,q⟩:=h;cases rx;have RK:=rv.zero;subst RK;obtain⟨z,ao,n,r,hl,e⟩:=I.yI hH;refine aj9 F.slot_list_reverse ⟨_,e,rfl⟩ F.entry_list_reverse (F.args_list_reverse_1 _) (AutoSeq1.list_reverse_list_0 l ao.toArray n (by rw[ZC];lia)) ⟨e,?_⟩;refine⟨.aN,_,I.J9 (its':=ao.reverse) hH e (by simp) r.reverse ?_,rfl,q⟩;rw[List.length_reverse];lia
def M7:R2:=fun x y H Q=> ∃l b xs zs,x= .ref l/\y= .ref b/\H l=some (.lst xs)/\H b=some (.lst zs)/\xs.length+zs.length<=sizeLine/\ ∀p,H p=none->Q (.ref p) (upd H p (.lst (xs++zs)))
theorem JQ:jA X (binaryOp .Add) M7:=by
 intro pins s σ H x y v u Q I rx ry h;obtain⟨l,b,xs,zs,rfl,rfl,hH,hB,hz,q⟩:=h;cases rx;cases ry;obtain⟨z,ao,n,r,hl,e⟩:=I.yI hH;obtain⟨z2,cJ,n2,r2,PX,e2⟩:=I.yI hB;refine PySem.P.add_list e e2 ?_ (by rw[ZC,ZC];lia);have ea:ao.toArray++cJ.toArray=(ao++cJ).toArray:=by simp
 rw[ea];exact⟨.ref _,_,I.Nz (t':=s.toks) (r.append r2) (by rw[Zy];lia),rfl,q _ I.fresh⟩
def MY:R2:=fun x y H Q=> ∃l k xs,x= .ref l/\y= .int k/\H l=some (.lst xs)/\ -(2^63)<=k/\k < 2^63/\xs.length*k.toNat<=sizeLine/\
 ∀p,H p=none->Q (.ref p) (upd H p (.lst (List.replicate k.toNat xs).flatten))
theorem len_rep{α:Type}(xs:List α)(k:Nat):(List.replicate k xs).flatten.length=k*xs.length:=by
 induction k with
 | zero=>simp
 | succ k ih=>rw[ac1,aa0,Zy,ih,Nat.succ_mul,Nat.add_comm]
theorem JP:jA X (binaryOp .Mult) MY:=by
 intro pins s σ H x y v u Q I rx ry h;obtain⟨l,k,xs,rfl,rfl,hH,h1,h2,hz,q⟩:=h;cases rx;obtain⟨t,rfl⟩:=ry;obtain⟨z,ao,n,r,hl,e⟩:=I.yI hH;have hlen:ao.toArray.size*k.toNat<=sizeLine:=by rw[ZC,<-hl];exact hz
 have KQ: ¬ao.toArray.size*k.toNat > (2^63 - 1) / 8:=by
  have:(sizeLine:Nat)<=(2^63 - 1) / 8:=by decide
  lia
 have KJ: ¬(!Builtin.List.listFitsIndex k)=true:=by
  rw[fitsIndex_both h1 h2];exact Zp
 have NV: ¬Builtin.List.listTooLong (ao.toArray.size*k.toNat)=true:=by
  rw[BQ hlen];exact Zp
 have FT:List.foldl (fun x1 x2=>x1++x2) #[] (List.replicate (if ao.toArray.isEmpty=true then 0 else k.toNat) ao.toArray)=(List.replicate k.toNat ao).flatten.toArray:=by
  have f0: ∀m:Nat,List.foldl (fun x1 x2=>x1++x2) #[] (List.replicate m ao.toArray)=(List.replicate m ao).flatten.toArray:=fun m=>by
   have:=foldl_rep ao m [];rw[List.nil_append] at this;exact this
  rw[f0];cases ao with
  | nil=>simp
  | cons a r'=>rw[if_neg (by simp)]
 refine wpAny_binaryOp_repeat_ref (T:="list") (U:="int") (by decide) ⟨_,e,rfl⟩ (fun s'=>typeIs_int s' k t) noFill_list_mul F.fills_int_mul F.slot_int_rmul repeat_list F.slot_int_index.lookup
  (aj9 F.slot_int_rmul (typeIs_int s k t) F.entry_int_rmul (F.args_int_rmul_2 _ _) (int___rmul___int_list k t l ao.toArray n)
   ⟨e,rfl,⟨_,e,rfl⟩,aj9 F.slot_list_mul ⟨_,e,rfl⟩ F.entry_list_mul (F.args_list_mul_2 _ _) (AutoListH.list___mul___list_int_3 l ao.toArray n k t KJ KQ NV) ⟨e,?_⟩⟩)
 rw[FT];exact⟨.ref _,_,I.Nz (t':=s.toks) (r.rep k.toNat) (by rw[len_rep,Nat.mul_comm];exact hz),rfl,q _ I.fresh⟩
end
section
variable{κ:Type}[DecidableEq κ]
noncomputable def fH(aH:List (κ × V))(k:κ):Option V:=(aH.find? fun kv=>decide (kv.1=k)).map (·.2)
noncomputable def putK(aH:List (κ × V))(k:κ)(v:V):List (κ × V):=
 if (aH.any fun kv=>decide (kv.1=k))=true then aH.map (fun kv=>if kv.1=k then(kv.1,v) else kv) else aH++ [(k,v)]
theorem lu{p:κ × V}(e:p.1=k):fH (p::r) k=some p.2:=by simp [fH,ae4,e]
theorem lx{p:κ × V}(e: ¬p.1=k):fH (p::r) k=fH r k:=by simp [fH,ae4,e]
theorem rB(k:κ): ∀aH:List (κ × V),(aH.any fun kv=>decide (kv.1=k))=(fH aH k).isSome
 | []=>rfl
 | p::r=>by
  rw[ag9];by_cases e:p.1=k
  . simp only [lu e,ZZ e,Bool.true_or,Option.isSome_some]
  . rw[lx e,ZO e,Bool.false_or];exact rB k r
theorem da(aH:List (κ × V))(k:κ)(v:V):(putK aH k v).length<=aH.length+1:=by
 unfold putK;split
 . rw[Ze];lia
 . rw[Zy,ZG,ag7];lia
theorem kH.jO(r:kH o u):o.isSome=u.isSome:=by
 cases o with
 | none=>cases u with
  | none=>rfl
  | some _=>exact(show False from r).elim
 | some _=>cases u with
  | none=>exact(show False from r).elim
  | some _=>rfl
theorem KV.val(r:KV aH vs)(k:κ):kH (fH aH k) (valueAt vs k):=by
 unfold KV at r;induction r with
 | nil=>exact True.intro
 | @cons p q ps qs h t ih=>
  obtain⟨h1,h2⟩:=h;by_cases e:p.1=k
  . have e':q.1=k:=h1.symm.trans e;have b:valueAt (q::qs) k=some q.2:=by simp [valueAt,ae4,e']
    rw[lu e,b];exact h2
  . have e': ¬q.1=k:=fun z=>e (h1.trans z);have b:valueAt (q::qs) k=valueAt qs k:=by simp [valueAt,ae4,e']
    rw[lx e,b];exact ih
theorem KV.any(r:KV aH vs)(k:κ):(aH.any fun kv=>decide (kv.1=k))=vs.any fun kv=>decide (kv.1=k):=by
 unfold KV at r;induction r with
 | nil=>rfl
 | cons h t ih=>rw[ag9,ag9,ih,h.1]
theorem KV.Jw(r:KV aH vs)(k:κ)(ry:RelV y u):
  KV (aH.map fun kv=>if kv.1=k then(kv.1,y) else kv) (vs.map fun kv=>if kv.1=k then(kv.1,u) else kv):=by
 unfold KV at r ⊢;induction r with
 | nil=>exact .nil
 | @cons p q ps qs h t ih=>
  rw[Zx,Zx];refine .cons ?_ ih;obtain⟨h1,h2⟩:=h;by_cases e:p.1=k
  . rw[if_pos e,if_pos (h1.symm.trans e)];exact⟨h1,ry⟩
  . rw[if_neg e,if_neg (fun z=>e (h1.trans z))];exact⟨h1,h2⟩
theorem KV.put(r:KV aH vs)(k:κ)(ry:RelV y u):KV (putK aH k y) (stored vs k u):=by
 unfold putK stored;rw[r.any k];by_cases e:(vs.any fun kv=>decide (kv.1=k))=true
 . rw[if_pos e,if_pos e];exact r.Jw k ry
 . rw[if_neg e,if_neg e];exact Paired.snoc r ⟨rfl,ry⟩
theorem KV.length{aH:List (κ × V)}(r:KV aH vs):aH.length=vs.length:=Paired.length r
end
theorem sP(r:RelV (kV k) u):(aS P w).is k u=true:=by
 cases k with
 | inl i=>obtain⟨t,e⟩:=(show∃t,u=Value.int i t from r);subst e;exact sF P w i t
 | inr x=>obtain⟨t,e⟩:=(show∃t,u=Value.str x t from r);subst e;exact sE P w x t
theorem oG: ∀{ks:List Key} {us:List Value},Vals (ks.map kV) us->ItemsAre (aS P w) ks us
 | [],_,r=>by rw[List.map_nil] at r;cases r;exact .nil
 | k::ks,_,r=>by
  rw[Zx] at r;cases r with
  | cons h t=>exact .cons (sP h) (oG t)
abbrev KT(H:Hp):List (List Key × V)->List (List Key × Addr × Value)->Prop:=Paired fun p q=>p.1=q.1/\H q.2.1=some (.tup (p.1.map kV))/\RelV p.2 q.2.2
theorem KT.val(r:KT H aH xs)(k:List Key):kH (fH aH k) ((atKey xs k).map (·.2)):=by
 induction r with
 | nil=>exact True.intro
 | @cons p q ps qs h t ih=>
  obtain⟨h1,_,h2⟩:=h;by_cases e:p.1=k
  . have e':q.1=k:=h1.symm.trans e;have b:atKey (q::qs) k=some q.2:=by simp [atKey,ae4,e']
    rw[lu e,b];exact h2
  . have e': ¬q.1=k:=fun z=>e (h1.trans z);have b:atKey (q::qs) k=atKey qs k:=by simp [atKey,ae4,e']
    rw[lx e,b];exact ih
theorem KT.Jw(r:KT H aH xs)(k:List Key)(ry:RelV y u):
  KT H (aH.map fun kv=>if kv.1=k then(kv.1,y) else kv) (xs.map (putAt k u)):=by
 induction r with
 | nil=>exact .nil
 | @cons p q ps qs h t ih=>
  rw[Zx,Zx];refine .cons ?_ ih;obtain⟨h1,h2,h3⟩:=h;unfold putAt;by_cases e:p.1=k
  . rw[if_pos e,if_pos (h1.symm.trans e)];exact⟨h1,h2,ry⟩
  . rw[if_neg e,if_neg (fun z=>e (h1.trans z))];exact⟨h1,h2,h3⟩
theorem KT.put(r:KT H aH xs)(k:List Key)(hb:H b=some (.tup (k.map kV)))(ry:RelV y u):
  KT H (putK aH k y) (storedH xs k b u):=by
 have e:(aH.any fun kv=>decide (kv.1=k))=(atKey xs k).isSome:=by
  rw[rB,(r.val k).jO,Option.isSome_map]
 unfold putK storedH;rw[e];by_cases q:(atKey xs k).isSome=true
 . rw[if_pos q,if_pos q];exact r.Jw k ry
 . rw[if_neg q,if_neg q];exact Paired.snoc r ⟨rfl,hb,ry⟩
theorem KT.keeps(r:KT H aH xs)(ht: ∀b ys,H b=some (.tup ys)->H' b=some (.tup ys)):KT H' aH xs:=
 Paired.J4 r fun _ _ z=>⟨z.1,ht _ _ z.2.1,z.2.2⟩
theorem Hb(ok:gm P w H h)(e:Rd H a u):aQ P w H h a u:=e.ok ok
theorem CN(ok:gm P w H h)(e:Rd H a (.dK aH)):aH.length<=sizeLine/\(a==sysModules)=false/\ ∃vs,KV aH vs/\h.DictOf (aS P w) a vs:=
 show aQ P w H h a (.dK aH) from Hb ok e
theorem CO(ok:gm P w H h)(e:H a=some (.dK aH)):aH.length<=sizeLine/\(a==sysModules)=false/\ ∃vs,KV aH vs/\h.DictOf (aS P w) a vs:=CN ok (.inl e)
theorem p8{ks:List Key}(ok:gm P w H h)(e:H a=some (.tup (ks.map kV))):(tupleKind (aS P w)).is h ks a:=by
 obtain⟨_,ao,r,o,h1,h2,_,n,h3⟩:=(show aQ P w H h a (.tup (ks.map kV)) from ok a _ e)
 exact⟨o,ao.toArray,n,h1,h2,h3,by simpa using oG r⟩
theorem CM(ok:gm P w H h)(e:Rd H a (.dT aH)):aH.length<=sizeLine/\(a==sysModules)=false/\
  ∃xs,KT H aH xs/\h.DictOfH (tupleKind (aS P w)) a xs:=by
 obtain⟨z,y,xs,r,o,es,ep,h1,h2,h3,h4,h5⟩:=(show aQ P w H h a (.dT aH) from Hb ok e)
 refine⟨z,y,xs,r,o,es,ep,h1,h2,h3,h4,fun x hx=>?_,h5⟩;have all: ∀{l:List (List Key × V)} {m:List (List Key × Addr × Value)},KT H l m-> ∀x∈m,(tupleKind (aS P w)).is h x.1 x.2.1:=by
  intro l m q;induction q with
  | nil=>intro x hx;exact nomatch hx
  | @cons p q ps qs hq t ih=>
   intro x hx;rcases ZS.mp hx with e | hx
   . subst e;exact p8 ok (by rw[<-hq.1];exact hq.2.1)
   . exact ih x hx
 exact all r x hx
theorem tH(ok:gm P w H h)(e:H a=some (.dT aH)):aH.length<=sizeLine/\(a==sysModules)=false/\
  ∃xs,KT H aH xs/\h.DictOfH (tupleKind (aS P w)) a xs:=CM ok (.inl e)
def kJ(H:Hp)(a:Addr)(y:V)(r:Option V):Prop:=
 (∃aH k,Rd H a (.dK aH)/\y=kV k/\r=fH aH k)\/ ∃aH k b,Rd H a (.dT aH)/\y= .ref b/\H b=some (.tup (k.map kV))/\r=fH aH k
def kI(H:Hp)(a:Addr)(y v:V)(H':Hp):Prop:=
 (∃aH k,H a=some (.dK aH)/\y=kV k/\aH.length < sizeLine/\H'=upd H a (.dK (putK aH k v)))\/
 ∃aH k b,H a=some (.dT aH)/\y= .ref b/\H b=some (.tup (k.map kV))/\aH.length < sizeLine/\H'=upd H a (.dT (putK aH k v))
theorem kJ.k{H:Hp}{a:Addr}{aH:List (Key × V)}{k:Key}(e:H a=some (.dK aH)):kJ H a (kV k) (fH aH k):= .inl ⟨aH,k,.inl e,rfl,rfl⟩
theorem kJ.t{k:List Key}(e:H a=some (.dT aH))(eb:H b=some (.tup (k.map kV))):kJ H a (.ref b) (fH aH k):= .inr ⟨aH,k,b,.inl e,rfl,eb,rfl⟩
theorem kI.k{H:Hp}{a:Addr}{aH:List (Key × V)}{k:Key}(e:H a=some (.dK aH))(hl:aH.length < sizeLine):kI H a (kV k) v (upd H a (.dK (putK aH k v))):= .inl ⟨aH,k,e,rfl,hl,rfl⟩
theorem kI.t{k:List Key}(e:H a=some (.dT aH))(eb:H b=some (.tup (k.map kV)))(hl:aH.length < sizeLine):
  kI H a (.ref b) v (upd H a (.dT (putK aH k v))):= .inr ⟨aH,k,b,e,rfl,eb,hl,rfl⟩
theorem Inv.big(I:Inv X pins σ H s):sysModules < s.heap.objs.size:=by
 have h:mainGlobals < s.heap.objs.size:=(I.mod.glob.keeps I.bk).lt;exact Nat.lt_trans (by decide) h
theorem zk(hu:A.units+1 < cLine)(I:Inv X pins σ H s)(g:kJ H a y (some v))(ry:RelV y u)(h: ∀w' s',Inv X pins σ H s'->RelV v w'->Q w' s'):
  wpAny (model X.prog X.w) A (getItem (.ref a) u) Q E s:=by
 rcases g with ⟨aH,k,e,ey,l⟩ | ⟨aH,k,b,e,ey,eb,l⟩
 . subst ey;obtain⟨z,hd,vs,rel,dd⟩:=CN I.aT e;obtain⟨w',hw,qQ⟩:=kH.some_of (v:=v) (o:=valueAt vs k) (by rw[l];exact rel.val k);exact wpAny_getItem_of (sP ry) dd.mapOf hw (h w' _ (I.tok _) qQ)
 . subst ey;cases (show u=Value.ref b from ry);obtain⟨z,hd,xs,rel,dd⟩:=CM I.aT e;obtain⟨w',hw,qQ⟩:=kH.some_of (v:=v) (o:=(atKey xs k).map (·.2)) (by rw[l];exact rel.val k);obtain⟨p,hp,RS⟩:=ae1.mp hw;refine wpAny_getItem_heap (an1 hu) (p8 I.aT eb) dd hp ?_;rw[RS];exact h w' _ (I.tok _) qQ
theorem eK(I:Inv X pins σ H s)(mu:O6 (H a))(hs:Heap.SameBut a s.heap h')(he: ∃q,h'.get? a=some q)(new:aQ X.prog X.w (upd H a ob) h' a ob):
  Inv X pins σ (upd H a ob) {s with heap:=h',toks:=t'}:=
 I.write (x:=a) (e:=a) mu (.inl rfl) (fun b q hb z=>(hs.2 b hb).trans z) he new
theorem vy{h':Heap}{aH:List (Key × V)}(z:aH.length<=sizeLine)(hd:(a==sysModules)=false)(rel:KV aH vs)(dd:h'.DictOf (aS P w) a vs):
  aQ P w H' h' a (.dK aH):=⟨z,hd,vs,rel,dd⟩
theorem zj(hu:A.units+1 < cLine)(I:Inv X pins σ H s)(g:kI H a y v H')(ry:RelV y u)(rv:RelV v r)(h: ∀s',Inv X pins σ H' s'->Q () s'):
  wpAny (model X.prog X.w) A (setItem (.ref a) u r) Q E s:=by
 rcases g with ⟨aH,k,e,ey,l,eH⟩ | ⟨aH,k,b,e,ey,eb,l,eH⟩
 . subst ey eH;obtain⟨z,hd,vs,rel,dd⟩:=CO I.aT e;have hz:vs.length<=sizeLine:=by rw[<-rel.length];exact z
   have hl:(putK aH k v).length<=sizeLine:=by have:=da aH k v;lia
   refine wpAny_setItem_pairs (hsz:=hz) (sP ry) dd fun h' ug hs=>h _ ?_;have he: ∃q,h'.get? a=some q:=let ⟨q,_,_,hq,_⟩:=ug;⟨q,hq⟩;exact eK I (by rw[e];exact True.intro) hs he (vy hl hd (rel.put k rv) ug)
 . subst ey eH;cases (show u=Value.ref b from ry);obtain⟨z,hd,xs,rel,dd⟩:=tH I.aT e;have hz:xs.length<=sizeLine:=by rw[<-Paired.length rel];exact z
   have hl:(putK aH k v).length<=sizeLine:=by have:=da aH k v;lia
   refine wpAny_setItem_heap (hsz:=hz) (an1 hu) (p8 I.aT eb) dd fun h' ug hs=>h _ ?_;obtain⟨q,es,ep,hq,h2,h3,h4,_,h5⟩:=ug;refine eK I (by rw[e];exact True.intro) hs ⟨q,hq⟩ ⟨hl,hd,_,(rel.put k eb rv).keeps fun c ys ec=>?_,q,es,ep,hq,h2,h3,h4,h5⟩;rw[ah (wU ec e (fun z=>nomatch z))];exact ec
def LL(i:Expr):Prop:= ∀ov iv,subscripted i false ov iv=operate [ov,iv] (getItem ov iv)
theorem Es{prog:Program}{w:World}{A:Around}{E:Value->Shared->Prop}{s:Shared}{env:Env}{value slice:Expr}{pos:Pos}{T id:String}(hl:typeLookup (.type T) "__getitem__"=pure (some (.builtin id)))(hs:LL slice)(h:wpAny (model prog w) A (eval value env) (fun o s₁=>wpAny (model prog w) A (eval slice env) (fun i s₂=>s₂.TypeIs o T/\wpAny (model prog w) A (getItem o i) Q E s₂) E s₁) E s):
  wpAny (model prog w) A (eval (.Subscript value slice pos) env) Q E s:=by
 refine Subscript_ (ZU h (fun o s₁ h₁=>ZU h₁ (fun i s₂ h₂=>?_) fun _ _ x=>x) fun _ _ x=>x);obtain⟨hT,h₂⟩:=h₂;unfold subscriptTail;refine Zd ?_;rw[getitemInPython_of_ne hT.not_modules];refine Zd (ah7 hT hl ?_);have fin:wpAny (model prog w) A (subscripted slice false o i) (fun r s₃=>wpAny (model prog w) A (letTemporaryGo value o r >>=fun _=>pure r) Q E s₃) E s₂:=by
  rw[hs o i];exact wpAny_operating (ZU h₂ (fun r s₃ h₃=>Zd (wpAny_letTemporaryGo (Zf h₃))) fun _ _ x=>x)
 first
  | exact Zf (Zd fin)
  | exact Zd (Zf (Zd fin))
  | exact Zd fin
theorem tJ(I:Inv X pins σ H s)(g:kJ H a y o):s.TypeIs (.ref a) "dict":=by
 rcases g with ⟨aH,k,e,_,_⟩ | ⟨aH,k,b,e,_,_,_⟩
 . obtain⟨_,_,vs,_,dd⟩:=CN I.aT e;exact dd.typeIs
 . obtain⟨_,_,xs,_,dd⟩:=CM I.aT e;exact dd.typeIs
def MI(td ty:TE):TE:=fun σ H Q=>td σ H fun x H1=>ty σ H1 fun y H2=> ∃a v,x= .ref a/\kJ H2 a y (some v)/\Q v H2
def G8(td ty tv:TE):TS:=fun D σ H=>tv σ H fun v H1=>td σ H1 fun x H2=>ty σ H2 fun y H3=> ∃a H4,x= .ref a/\kI H3 a y v H4/\D.nx σ H4
theorem i3(hu:X.A.units+1 < cLine)(ho:PE X o td)(hi:PE X i ty)(hs:LL i):PE X (.Subscript o i pos) (MI td ty):=by
 intro pins s σ H Q I h;refine Es PySem.F.slot_dict_getitem.lookup hs (aP (ho pins s σ H _ I h) fun u s1 ⟨x,H1,I1,rx,q1⟩=>aP (hi pins s1 σ H1 _ I1 q1) fun iv s2 Qg=>?_);obtain⟨y,H2,I2,ry,a,v,ex,g,q2⟩:=Qg;subst ex;obtain rfl:u=Value.ref a:=rx;exact⟨tJ I2 g,zk hu I2 g ry fun w' s3 I3 qQ=>⟨v,H2,I3,qQ,q2⟩⟩
theorem pU(hu:X.A.units+1 < cLine)(ho:PE X o td)(hi:PE X i ty)(hv:PE X value tv)(hs:swapsWith value (some (.Subscript o i pos')) pos.line X.env=pure false):
  PS X (.Assign [.Subscript o i pos'] value pos) (G8 td ty tv):=by
 intro pins s σ H D I h;refine wpAny_Assign_Subscript (aP (hv pins s σ H _ I h) fun r s1 ⟨v,H1,I1,rv,q1⟩=>aP (ho pins s1 σ H1 _ I1 q1) fun u s2 ⟨x,H2,I2,rx,q2⟩=>aP (hi pins s2 σ H2 _ I2 q2) fun iv s3 IF=>?_) hs;obtain⟨y,H3,I3,ry,a,H4,ex,g,q3⟩:=IF;subst ex;obtain rfl:u=Value.ref a:=rx;exact zj hu I3 g ry rv fun s4 I4=>⟨σ,H4,I4,q3⟩
theorem CP(h:Heap)(hb:sysModules < h.objs.size):aQ P w H (h.push {cls:= .type "dict",data:= .dict #[]}) h.objs.size (.dK []):=
 ⟨ZV _,ac0.mpr (Ne.symm (ZY hb)),[],.nil,Heap.DictOf.new h⟩
theorem mM(h:Heap)(hb:sysModules < h.objs.size):aQ P w H (h.push {cls:= .type "dict",data:= .dict #[]}) h.objs.size (.dT []):=
 ⟨ZV _,ac0.mpr (Ne.symm (ZY hb)),[],.nil,_,#[],0,Zs _ rfl,⟨rfl,rfl,rfl⟩,rfl,rfl,ac7⟩
def Jf:TE:=fun _ H Q=> ∀p,H p=none->Q (.ref p) (upd H p (.dT []))
theorem si:PE X (.Dict [] [] pos) Jf:=fun pins s σ H Q I h=>
 wpAny_Dict_empty ⟨.ref s.heap.objs.size,_,I.laid (a:=s.heap.objs.size) (o:= .dT []) (t':=s.toks) (fun _ _ q=>Zh _ q) (Zj _) (mM s.heap I.big),rfl,h _ (I.aT.fresh (Zj _))⟩
def ux:List (TE × TE)->St->Hp->(List (V × V)->Hp->Prop)->Prop
 | [],_,H,Q=>Q [] H
 | (tk,tv)::r,σ,H,Q=>tk σ H fun x H1=>tv σ H1 fun y H2=>ux r σ H2 fun ps H3=>Q ((x,y)::ps) H3
abbrev VV:List (V × V)->List (Value × Value)->Prop:=Paired fun p q=>RelV p.1 q.1/\RelV p.2 q.2
def Qa(X:Cx)(pos:Pos)(keys:List (Option Expr))(values:List Expr)(zL:List (TE × TE)):Prop:=
 ∀(pins:List (Addr × Obj)) (s:Shared) (σ:St) (H:Hp) (Q:List (V × V)->Hp->Prop),Inv X pins σ H s->ux zL σ H Q->
  wpAny (model X.prog X.w) X.A (evalPairs (pairTrees keys values X.env pos)) (fun vs s'=> ∃ps H',Inv X pins σ H' s'/\VV ps vs/\Q ps H') X.xe s
theorem EW:Qa X pos [] [] []:=fun pins s σ H Q I h=>pairTrees_nil_walk ⟨[],H,I,.nil,h⟩
theorem se(hk:PE X k tk)(hv:PE X v tv)(hr:Qa X pos ks vs zL):
  Qa X pos (some k::ks) (v::vs) ((tk,tv)::zL):=fun pins s σ H Q I h=>
 pairTrees_cons_walk (aP (hk pins s σ H _ I h) fun u s1 Mq=>(by obtain⟨x,H1,I1,rx,q1⟩:=Mq;exact(aP (hv pins s1 σ H1 _ I1 q1) fun w2 s2 Mp=>(by obtain⟨y,H2,I2,ry,q2⟩:=Mp;exact(
  aP (hr pins s2 σ H2 _ I2 q2) fun ws s3 Mo=>(by obtain⟨ps,H3,I3,rel,q3⟩:=Mo;exact(⟨(x,y)::ps,H3,I3,.cons ⟨rx,ry⟩ rel,q3⟩)))))))
noncomputable def iG(aH more:List (Key × V)):List (Key × V):=more.foldl (fun acc kv=>putK acc kv.1 kv.2) aH
theorem KV.merge: ∀{more:List (Key × V)} {rs:List (Key × Value)} {aH:List (Key × V)} {vs:List (Key × Value)},KV more rs->KV aH vs->KV (iG aH more) (merged vs rs):=by
 intro more rs aH vs r;unfold KV at r;induction r generalizing aH vs with
 | nil=>intro q;exact q
 | @cons p q ps qs h t ih=>
  intro r0;have e:KV (putK aH p.1 p.2) (stored vs q.1 q.2):=by
   have:=r0.put p.1 h.2;rw[<-h.1];exact this
  exact ih e
theorem iq: ∀(more aH:List (Key × V)),(iG aH more).length<=aH.length+more.length
 | [],aH=>by show aH.length<=aH.length+0;lia
 | p::r,aH=>by
  have h1:=iq r (putK aH p.1 p.2);have h2:=da aH p.1 p.2;show(iG (putK aH p.1 p.2) r).length<=_;rw[ZG];lia
theorem mZ: ∀{aH:List (Key × V)} {ws:List (Value × Value)},VV (aH.map fun kv=>(kV kv.1,kv.2)) ws-> ∃rs,Carries (aS P w) ws rs/\KV aH rs
 | [],_,r=>by rw[List.map_nil] at r;cases r;exact⟨[],True.intro,.nil⟩
 | p::aH,_,r=>by
  rw[Zx] at r;cases r with
  | @cons a b as bs h t=>
   obtain⟨rs,c,q⟩:=mZ (P:=P) (w:=w) t;obtain⟨b1,b2⟩:=b;exact⟨(p.1,b2)::rs,⟨sP h.1,rfl,c⟩,.cons ⟨rfl,h.2⟩ q⟩
def G5(zL:List (TE × TE)):TE:=fun σ H Q=> ∀p,H p=none->ux zL σ (upd H p (.dK [])) fun ps H2=>H2 p=some (.dK [])/\ ∃aH:List (Key × V),ps=aH.map (fun kv=>(kV kv.1,kv.2))/\aH.length<=15/\Q (.ref p) (upd H2 p (.dK (iG [] aH)))
theorem Fb(h:Qa X pos keys values zL)(yY:keys.all (·.isSome)=true)(hl:keys.length=values.length)(h0:keys≠ [])(Xk:keys.length<=15):PE X (.Dict keys values pos) (G5 zL):=by
 intro pins s σ H Q I q;have hn:=I.aT.fresh (Zj s.heap.objs.size);have I1:=I.laid (a:=s.heap.objs.size) (o:= .dK []) (h':=s.heap.push {cls:= .type "dict",data:= .dict #[]}) (t':=s.toks) (fun _ _ q=>Zh _ q) (Zj _) (CP s.heap I.big);refine wpAny_Dict_walk (knd:=aS X.prog X.w) yY hl h0 Xk (aP (h pins _ σ _ _ I1 (q _ hn)) fun ws s2 Mn=>?_);obtain⟨ps,H2,I2,rel,e,aH,ep,lk,q2⟩:=Mn;subst ep;obtain⟨rs,c,rk⟩:=mZ (P:=X.prog) (w:=X.w) rel;obtain⟨z,hd,TZ,r0,dd⟩:=CO I2.aT e;cases r0;refine⟨rs,c,dd,fun h' ug hs=>⟨.ref s.heap.objs.size,_,?_,rfl,q2⟩⟩;have hz:(iG [] aH).length<=sizeLine:=by
  have h1:=iq aH [];rw[ag7] at h1;rw[ak5];lia
 have he: ∃q,h'.get? s.heap.objs.size=some q:=let ⟨q,_,_,hq,_⟩:=ug;⟨q,hq⟩;exact eK I2 (by rw[e];exact True.intro) hs he (vy hz hd (rk.merge .nil) ug)
end L2
namespace Vx
open PySem PySem.W PySem.Calls PyProof.Rows
theorem kz: ∀(ns:List Int) (vs:List Value),WellAll P h vs (ns.map WData.int)->IntsAre vs ns:=by
 intro ns;induction ns with
 | nil=>
  intro vs w;rw[List.map_nil] at w;cases w;exact .nil
 | cons n ns ih=>
  intro vs w;rw[Zx] at w;cases w with
  | cons a b=>
   cases a;exact .cons _ _ (ih _ b)
theorem yg{l:OpenLaw}(hn:l.most=some n)(FR:l.row.toRowW.claim.pre args=true)(RI:WellAll P h vals args):
  ∃a vs ns,vals= [Value.ref a]/\args= [WData.list (ns.map WData.int)]/\h.get? a=some {cls:= .type "list",data:= .seq vs.toArray}/\IntsAre vs ns/\ns.length<=n:=by
 have WJ:WShape.hasAll [] args [.list .int]=true:=(pre_splitW FR).1;have hc:l.pre.holds [] {args:=args}=true:=(pre_splitW FR).2;obtain⟨d,r,rfl,h1,h2⟩:=hasAllW_cons WJ;obtain rfl:=hasAllW_nil h2;obtain⟨xs,rfl,h3⟩:=hasW_list h1;obtain⟨ns,rfl⟩:=items_int h3;have hlen:ns.length<=n:=by
  unfold OpenLaw.pre at hc;have h4:(WTm.not (.lt (.lit (.int (n:Int))) (.len (.arg 0)))).holds [] {args:= [.list (ns.map .int)]}=true:=by
   have h4:=(holds_andW hc).1;rw[hn] at h4;exact h4
  have h5:=condW_of h4 (w_not (w_lt w_lit (w_len_list (w_arg rfl))));rw[Ze] at h5;refine Nat.le_of_not_lt fun q=>?_;have q':(n:Int) < ((ns.length:Nat):Int):=by lia
  first
   | (rw[ZZ q'] at h5;exact absurd h5 (by decide))
   | (simp at h5;lia)
 cases RI with
 | cons w1 w2=>
  cases w2;cases w1 with
  | list ho yY=>exact⟨_,_,ns,rfl,rfl,ho,kz ns _ yY,hlen⟩
theorem ym(l:OpenLaw)(args:List WData):l.row.toRowW.claim.post args (.bool true) args=true:=
 postW_of (r:=l.row.toRowW) (X:=(true==true))
  (show WShape.has [] (.bool true) .bool=true by first | rfl | decide | simp [WShape.has,WShape.arms,WShape.armsAll])
  (show(WTm.eq .res (.lit (.bool true))).value [] {args:=args,res:=some (.bool true),after:=args}=some (.bool (true==true)) from w_eq_bool (w_res rfl) w_lit) rfl
theorem tW {l : OpenLaw} {d : DefRec} (hn : l.most = some n) (N1 : d.params.defaults = []) (call : ∀ (w : World) (s₀ s₁ : Shared) (mg mb : Str -> Option Value) (fa : Addr) (o : Obj) (pm cd doc : Value) (a : Addr) (vs : List Value) (ns : List Int),
   Ground q loose [] XP w s₀ mg mb s₁.heap->YP w s₁.heap->
   s₁.heap.get? fa=some o->o.data= .func (docDef d.name d.params d.body d.scope pm cd doc)->s₁.heap.CodeRec cd d.name->mg d.name=some (.ref fa)->
   s₁.heap.get? a=some {cls:= .type "list",data:= .seq vs.toArray}->IntsAre vs ns->ns.length<=n->s₁.gens= #[]->
   codeAny (model l.prog w) callerA (.call (.ref fa) ⟨[.ref a],[]⟩) (fun r s'=>r= .ok (.ret (.bool true))/\OldK s₁.heap s'.heap/\s'.os=s₁.os/\AllBare s'.gens) s₁):
  WalkO q loose XP YP l.row.toRowW d [] (fun f vs=>PySem.call f vs):=by
 intro w s₀ s₁ mg mb G Y fa o pm cd doc dV kV ho hd yW hD NS hg args vals as FR WT Yo RI R4;obtain rfl:dV= .none:=Dflts.none hD N1;obtain rfl:kV= .none:=Dflts.noKw hD;obtain⟨a,vs,ns,rfl,rfl,Ky,hints,hlen⟩:=yg hn FR RI;refine enter_call (al1 (call w s₀ s₁ mg mb fa o pm cd doc a vs ns G Y ho (fd_plain hd) yW NS Ky hints hlen hg) fun r s' hq=>?_);obtain⟨rfl,h2,h3,h4⟩:=hq;exact⟨.inl ⟨.bool true,.bool true,[],rfl,fun _=>rfl,.bool true,ym l _,fun _=>⟨List.Pairwise.nil,fun _ hm=>(nomatch hm)⟩⟩,h2,h3,h4⟩
end Vx
namespace L2
open PySem PySem.Spec PyProof.Rows
theorem oi: ∀{vs:List Value} {ns:List Int},IntsAre vs ns->Vals (ns.map V.int) vs
 | _,_,.nil=> .nil
 | _,_,.cons n t h=> .cons ⟨t,rfl⟩ (oi h)
def LJ(H:Hp):Prop:= ∀b,H b=none\/ ∃o xs,H b=some (.ue o (.lst xs))
theorem B4{K:PySem.W.Frag}{s₁:Shared}{vs:List Value}(KX:K.In s₁.heap)(HD:s₁.heap.Ns mainGlobals mg)(hb:s₁.heap.Ns builtinsNs mb)(W9: ∀x:Str,x≠"__name__"->mb x=bootBuiltins x)(R5:s₁.heap.NoLimit)(hg:s₁.gens= #[])(ha:s₁.heap.get? a=some {cls:= .type "list",data:= .seq vs.toArray})(hi:IntsAre vs ns)(hl:ns.length<=sizeLine)(hr:bT k callerA)(F: ∀base:Heap,K.In base->base.Ns mainGlobals mg->aY P w K mg base CX k fa fd [x] sp)(N5: ∀(s:Shared) (u:Value),BindsTo s fd ⟨[u],[]⟩ [(x,u)])(HB: ∀H:Hp,LJ H->cX K H a (ns.map V.int)->sp [.ref a] H (fun v _=>v= .bl true) fun _ _ _=>False)(Sz: ∀H e s',CX [] H s₁ (fun _ _ _=>False) e s'->False):
  codeAny (model P w) callerA (.call (.ref fa) ⟨[.ref a],[]⟩) (fun r s'=>r= .ok (.ret (.bool true))/\OldK s₁.heap s'.heap/\s'.os=s₁.os/\AllBare s'.gens) s₁:=by
 have rv:=oi hi;have Ry:=hi.length;have core: ∀H:Hp,LJ H->cX K H a (ns.map V.int)->gm P w H s₁.heap->(∀b,H b≠none->b=a)->(H a≠none->K.lookup a=none)->
   codeAny (model P w) callerA (.call (.ref fa) ⟨[.ref a],[]⟩) (fun r s'=>r= .ok (.ret (.bool true))/\OldK s₁.heap s'.heap/\s'.os=s₁.os/\AllBare s'.gens) s₁:=by
  intro H hO hS aT hA hK;have xN: ∀{b:Addr} {o:Obj},s₁.heap.get? b=some o->H b=none->(qc s₁.heap H).get? b=some o:=fun e n=>Co e n;have Nq: ∀{b:Addr} {o:Obj} {es:Array DictEntry} {ep:Nat},s₁.heap.get? b=some o->o.data= .dict es ep->H b=none:=fun{b o es ep} e d=>by
   cases q:H b with
   | none=>rfl
   | some u=>
    have e':b=a:=hA b (by rw[q];simp);subst e';rw[ha] at e;cases e;have d':Data.seq vs.toArray _=Data.dict es ep:=d;cases d'
  have PB: ∀{b:Addr} {m:Str->Option Value},s₁.heap.Ns b m->(qc s₁.heap H).Ns b m:=fun{b m} Mm=>(by obtain⟨o,es,ep,e,d,r⟩:=Mm;exact(⟨o,es,ep,xN e (Nq e d),d,r⟩))
  have UM:K.In (qc s₁.heap H):=fun b o e=>xN (KX b o e) (by
   cases q:H b with
   | none=>rfl
   | some u=>
    have e':b=a:=hA b (by rw[q];simp);subst e';rw[hK (by rw[q];simp)] at e;cases e)
  have hM:Mod K mg (qc s₁.heap H):=⟨UM,PB HD,⟨mb,PB hb,W9⟩,let ⟨mc,h1,h2⟩:=R5;⟨mc,PB h1,h2⟩⟩
  have e0:GX P w K mg (qc s₁.heap H) callerA [] s₁ H:=⟨rfl,hM,fun b o e=>Ft e,Nat.le_of_eq (yU _ _),trivial,fun b hb=>absurd (show b∈([]:List Addr) from hb) (by simp),aT,.of_eq hg⟩
  refine al1 ((F _ UM (PB HD)).run callerA [] s₁ H ⟨[.ref a],[]⟩ [.ref a] [.ref a] _ _ hr e0 (N5 s₁ (.ref a)) (.cons rfl .nil) (HB H hO hS)) fun r s' h=>?_;cases r with
  | error e=>exact(Sz H e s' h).elim
  | ok fl=>
   cases fl with
   | next=>exact False.elim h
   | brk=>exact False.elim h
   | cont=>exact False.elim h
   | ret u=>
    obtain⟨v,H',os,bare,un,RW,r',q⟩:=h;have q':v= .bl true:=q;subst q';obtain rfl:u=Value.bool true:=r';refine⟨rfl,OldK.of_keep fun b o e=>?_,os,bare⟩;cases q:H b with
    | none=>exact un.keep b o e q (by intro z;exact absurd (show b∈([]:List Addr) from z) (by simp)) (by simp)
    | some u=>
     rcases hO b with z | ⟨ob,xs,z⟩
     . rw[q] at z;cases z
     . have z2:=un.qh b ob _ z;obtain⟨e1,_⟩:=aT b _ z;obtain⟨e2,_⟩:=RW b _ z2;rw[e] at e1;cases e1;exact e2
 cases hk:K.lookup a with
 | some o=>
  have e:=KX a o hk;rw[ha] at e;cases e;refine core (fun _=>none) (fun _=> .inl rfl) (.inr ⟨_,vs.toArray,_,hk,rfl,rfl,rfl,by rw[ZC,Ry];exact hl,by simpa using rv⟩) (fun b u z=>by have z':(none:Option HO)=some u:=z;cases z') (fun b z=>absurd rfl z) fun z=>absurd rfl z
 | none=>
  refine core (fun b=>if b=a then some (.ue {cls:= .type "list",data:= .seq vs.toArray} (.lst (ns.map V.int))) else none) (fun b=>?_) (.inl (.inr ⟨{cls:= .type "list",data:= .seq vs.toArray},if_pos rfl⟩)) (fun b u z=>?_) (fun b z=>?_) fun _=>hk
  . by_cases hb:b=a
    . exact .inr ⟨_,_,if_pos hb⟩
    . exact .inl (if_neg hb)
  . by_cases hb:b=a
    . have z':=(if_pos hb).symm.trans z;cases z';subst hb;exact⟨ha,by rw[Ze];exact hl,vs,_,rv,ha⟩
    . have z':=(if_neg hb).symm.trans z;cases z'
  . by_cases hb:b=a
    . exact hb
    . exact absurd (if_neg hb) z
theorem Eg {l : PySem.W.OpenLaw} {n k : Nat} {q : Program} {loose : List Str} {XP : (Str -> Option Value) -> Heap -> Prop} {YP : World -> Heap -> Prop} {d : DefRec} {K : Params -> PySem.W.Frag} {CX : World -> IE} {sp : World -> Sp} (hn : l.most = some n) (HE : n <= sizeLine) (N1 : d.params.defaults = []) (hr : bT k callerA) (hY : ∀ (w : World) (h : Heap), YP w h -> (K w.params).In h) (F : ∀ (w : World) (mg : Str -> Option Value) (fa : Addr) (h : Heap), (K w.params).In h -> h.Ns mainGlobals mg -> mg d.name = some (.ref fa) ->
   ∃fd:FuncData,(∀(s:Shared) (u:Value),BindsTo s fd ⟨[u],[]⟩ [(x,u)])/\
    ∀base:Heap,(K w.params).In base->base.Ns mainGlobals mg->aY l.prog w (K w.params) mg base (CX w) k fa fd [x] (sp w)) (HB: ∀(w:World) (H:Hp) (a:Addr) (ns:List Int),ns.length<=n->LJ H->cX (K w.params) H a (ns.map V.int)->sp w [.ref a] H (fun v _=>v= .bl true) fun _ _ _=>False) (Sz: ∀(w:World) (H:Hp) (s:Shared) (e:Value) (s':Shared),CX w [] H s (fun _ _ _=>False) e s'->False):
  PySem.W.WalkO q loose XP YP l.row.toRowW d [] (fun f vs=>PySem.call f vs):=by
 refine Vx.tW hn N1 fun w s₀ s₁ mg mb fa o pm cd doc a vs ns G Y ho hd yW NS Ky hints hlen hg=>?_;have KX:=hY w _ Y;obtain⟨fd,hb,hF⟩:=F w mg fa _ KX G.T.g NS;exact B4 KX G.T.g G.T.b G.T.builtins G.T.nolimit hg Ky hints (ZE hlen HE) hr hF hb (fun H hO hS=>HB w H a ns hlen hO hS) fun H e s'=>Sz w H s₁ e s'
noncomputable def hG(s:Stmt):Arguments:=match s with
 | .FunctionDef _ a _ _ _ _ _ _ _ _=>a
 | _=>{posonlyargs:= [],args:= [],vararg:=none,kwonlyargs:= [],kw_defaults:= [],kwarg:=none,defaults:= []}
noncomputable def cI(s:Stmt):List Stmt:=match s with
 | .FunctionDef _ _ b _ _ _ _ _ _ _=>b
 | _=> []
noncomputable def af(s:Stmt):Scope:=match s with
 | .FunctionDef _ _ _ _ _ _ sc _ _ _=>sc
 | _=>{kind:= .function,names:= [],isGenerator:=false,isCoroutine:=false}
abbrev eC:IE:=fun _ _ _ _ _ _=>False
abbrev E0:XK:=fun _ _ _=>False
theorem Hj:Passes eC X E0:=fun _ _ _ _ _ _ _ h=>h.elim
structure gb(K:PySem.W.Frag)(x qual:Str)(st:Stmt)(f:Addr)(fd:FuncData):Prop where
 ex: ∃(oc:Value) (od:Option Addr) (kV doc pm:Value) (an:Option Addr) (bP ct:Value) (JN:Array (Option Value)),
  fd=PySem.W.fnOf x qual (hG st) (cI st) (af st) .none kV doc pm an bP ct/\K.lookup f=some ⟨oc,od,.func fd,JN⟩/\PySem.W.codeIn K bP qual=true
 kp:PySem.W.keepIn K (.ref f)=true
section
variable{P:Program}{w:World}{K:PySem.W.Frag}{mg:Str->Option Value}{base:Heap}
theorem gb.ok {x qual : Str} {st : Stmt} {k : Nat} (F : gb K x qual st f fd) (S : aJ N ps (af st)) (len : ∀ vs H Q E, sp vs H Q E -> vs.length = ps.length) (gU : ∀ (bP : Value) (A : Around) (outer : List Env) (s : Shared) (H : Hp) (vs : List V) (Q : VK) (E : XK), bT k (A.deeper (envOfC qual (af st) s.heap.objs.size f bP)) -> sp vs H Q E ->
   ∃t,qL (mS eC P w K mg base N qual (af st) f bP A outer s H E).Fy (cI st) t/\t {nx:=fun _ H'=>Q .aN H',rt:=Q} (start N vs) H):aY P w K mg base eC (k+1) f fd ps sp:=by
 obtain⟨oc,od,kV,doc,pm,an,bP,ct,JN,rfl,lk,yW⟩:=F.ex;refine Oc lk yW S len fun A outer s H vs Q E hr HB=>?_;obtain⟨t,h,q⟩:=gU bP A outer s H vs Q E hr HB;exact⟨t,h.Fy,q⟩
theorem K3{x qual:Str}{st:Stmt}{f:Addr}{oc:Value}{od an:Option Addr}{JN:Array (Option Value)}{kV doc pm bP ct:Value}(l:K.lookup f=some ⟨oc,od, .func (PySem.W.fnOf x qual (hG st) (cI st) (af st) .none kV doc pm an bP ct),JN⟩)
  (c:PySem.W.codeIn K bP qual=true) (k:PySem.W.keepIn K (.ref f)=true):gb K x qual st f (PySem.W.fnOf x qual (hG st) (cI st) (af st) .none kV doc pm an bP ct):=⟨⟨oc,od,kV,doc,pm,an,bP,ct,JN,rfl,l,c⟩,k⟩
end
theorem dW(hr:bT k A):A.units+1 < cLine:=af8 (Nat.add_le_add_left (by decide:1<=64) _) hr.units
theorem pv(i:Nat)(hN:X.N[i]?=some x:=by rfl)(hv:P8 X.env.scope x:=by first | exact Or.inl rfl | exact Or.inr (Or.inl rfl) | exact Or.inr (Or.inr rfl))(hd:(x==("__debug__":Str))=false:=by decide)(yW:(x==("__classdict__":Str))=false:=by decide):PE X (.Name x pos) (dM i):=Br hN hv hd yW
theorem bD{A B:Prop}(h:B):if false=true then A else B:=by
 rw[if_neg Zp];exact h
theorem cF{A B:Prop}(h:A):if true=true then A else B:=by
 rw[if_pos rfl];exact h
theorem RC{c A B:Prop} [Decidable c](h1:c->A)(h2: ¬c->B):if c then A else B:=by
 by_cases h:c
 . rw[if_pos h];exact h1 h
 . rw[if_neg h];exact h2 h
def aD(H H':Hp):Prop:= ∀b o,H b=some o->H' b=some o
noncomputable def m5(scope:Scope)(cl:List (Str × Addr))(C:Addr)(env:Env):Env:=
 {scope:=relabel scope env,locals:=C,globals:=env.globals,cells:=cellsFrom (C+1) scope.names cl,qual:=env.qual,func:=none,code:=env.code,frame:=env.frame,builtins:=env.builtins}
noncomputable def dz(X:Cx)(N:List Str)(scope:Scope)(s:Shared)(H:Hp)(cl:List (Str × Addr))(C:Addr)(ex:List Addr):Cx:=
 {X with N:=N,s₀:=s,H₀:=H,env:=m5 scope cl C X.env,outer:=X.stack,ex:=ex,fn:=fun x=>decide (scope.names.lookup x=some .cell),pn:= [],xe:=fun _ _=>False}
theorem aV: ∀(names:List (Str × NameKind)) (n:Nat) (acc:List (Str × Addr)),cellsFrom n names acc=cellsFrom n names []++acc
 | [],_,_=>rfl
 | (name,kind)::r,n,acc=>by
  unfold cellsFrom;split
  . rw[aV r (n+1) ((name,n)::acc),aV r (n+1) [(name,n)],Z0];rfl
  . exact aV r n acc
theorem eU: ∀(names:List (Str × NameKind)) (n:Nat) {x:Str} {c:Addr},(x,c)∈cellsFrom n names []->(x,NameKind.cell)∈names
 | [],_,_,_,h=>by simp [cellsFrom] at h
 | (name,kind)::r,n,x,c,h=>by
  unfold cellsFrom at h;split at h
  . rename_i hk;rw[aV] at h;rcases Zz.mp h with q | q
    . exact Zn _ (eU r _ q)
    . have e:(x,c)=(name,n):=by simpa using q
      cases e;have:kind= .cell:=by simpa using hk
      subst this;exact Zu
  . exact Zn _ (eU r _ h)
theorem eP{α:Type}: ∀{l:List (Str × α)} {x:Str} {v:α},(l.map (·.1)).Nodup->(x,v)∈l->l.lookup x=some v
 | (k,w)::r,x,v,nd,h=>by
  rw[Zx] at nd;obtain⟨h1,h2⟩:=af4.mp nd;rw[Z3];rcases ZS.mp h with e | h'
  . cases e;simp
  . have xm : (x == k) = false := by
      rw[ac0];intro e;exact h1 (e▸ZF.mpr ⟨(x,v),h',rfl⟩)
    rw[xm];exact eP h2 h'
theorem gN{env:Env}: ∀{names:List (Str × NameKind)} {x:Str} {k:NameKind},
  (names.map fun(n,k)=>if (k==NameKind.free && env.scope.kind== .function && env.kindOf n==some .cell) then(n,NameKind.cell) else(n,k)).lookup x=some k->
  names.lookup x=some k\/(k= .cell/\names.lookup x=some .free)
 | [],_,_,h=>by simp at h
 | (n,k0)::r,x,k,h=>by
  have ih:= @gN env r x k;rw[Zx] at h;cases hx:x==n with
  | true=>
   by_cases hc:(k0==NameKind.free && env.scope.kind== .function && env.kindOf n==some .cell)=true
   . dsimp only at h;rw[if_pos hc,Z3,hx] at h;cases h;right;refine⟨rfl,?_⟩;rw[Z3,hx];simp only [aa8] at hc;have:k0= .free:=by simpa using hc.1.1
     rw[this]
   . dsimp only at h;rw[if_neg hc,Z3,hx] at h;left;rw[Z3,hx];exact h
  | false=>
   have h':(r.map fun(n,k)=>if (k==NameKind.free && env.scope.kind== .function && env.kindOf n==some .cell) then(n,NameKind.cell) else(n,k)).lookup x=some k:=by
    by_cases hc:(k0==NameKind.free && env.scope.kind== .function && env.kindOf n==some .cell)=true
    . dsimp only at h;rw[if_pos hc,Z3,hx] at h;exact h
    . dsimp only at h;rw[if_neg hc,Z3,hx] at h;exact h
   rw[Z3,hx];exact ih h'
theorem du{env:Env}: ∀{names:List (Str × NameKind)} {x:Str},names.lookup x=some .free->
  (names.map fun(n,k)=>if (k==NameKind.free && env.scope.kind== .function && env.kindOf n==some .cell) then(n,NameKind.cell) else(n,k)).lookup x=some .free\/
  (names.map fun(n,k)=>if (k==NameKind.free && env.scope.kind== .function && env.kindOf n==some .cell) then(n,NameKind.cell) else(n,k)).lookup x=some .cell
 | [],_,h=>by simp at h
 | (n,k0)::r,x,h=>by
  have ih:= @du env r x;rw[Zx];dsimp only;cases hx:x==n with
  | true=>
   rw[Z3,hx] at h;cases h;by_cases hc:(NameKind.free==NameKind.free && env.scope.kind== .function && env.kindOf n==some .cell)=true
   . right;rw[if_pos hc,Z3,hx]
   . left;rw[if_neg hc,Z3,hx]
  | false=>
   rw[Z3,hx] at h;by_cases hc:(k0==NameKind.free && env.scope.kind== .function && env.kindOf n==some .cell)=true
   . rw[if_pos hc];simp only [Z3,hx];exact ih h
   . rw[if_neg hc];simp only [Z3,hx];exact ih h
theorem fR{scope:Scope}{env:Env}(h: ∀x∈scope.names,x.2= .free-> ∃c,env.cells.lookup x.1=some c):
  ∃cl,closureFor scope env=pure cl/\(∀x c,(x,c)∈cl->env.cells.lookup x=some c)/\ ∀x,(x,NameKind.free)∈scope.names-> ∃c,(x,c)∈cl:=by
 have gen: ∀(names:List (Str × NameKind)) (acc:List (Str × Addr)),(∀x∈names,x.2= .free-> ∃c,env.cells.lookup x.1=some c)->(∀x c,(x,c)∈acc->env.cells.lookup x=some c)->
   ∃cl,(forIn names acc (fun(x:Str × NameKind) (cs:List (Str × Addr))=>match x with | (name,kind)=>if kind== .free then(do let a<-cellOf env name;pure (ForInStep.yield ((name,a)::cs))) else pure (ForInStep.yield cs)):Sem (List (Str × Addr)))=pure cl/\
    (∀x c,(x,c)∈cl->env.cells.lookup x=some c)/\(∀p∈acc,p∈cl)/\ ∀x,(x,NameKind.free)∈names-> ∃c,(x,c)∈cl:=by
  intro names;induction names with
  | nil=>intro acc _ ha;exact⟨acc,by rw[ai9],ha,fun _ hp=>hp,fun x hx=>by simp at hx⟩
  | cons p r ih=>
   intro acc hn ha;obtain⟨n,k⟩:=p;rw[ab7];by_cases hk:(k==NameKind.free)=true
   . have KC:k= .free:=by simpa using hk
     obtain⟨c,hc⟩:=hn (n,k) Zu KC;obtain⟨cl,e1,e2,e3,e4⟩:=ih ((n,c)::acc) (fun x hx=>hn x (Zn _ hx)) (fun x c' hx=>by
      rcases ZS.mp hx with e | hx
      . cases e;exact hc
      . exact ha x c' hx)
     refine⟨cl,?_,e2,fun q hq=>e3 q (Zn _ hq),fun x hx=>?_⟩
     . dsimp only;rw[if_pos hk];have:cellOf env n=pure c:=by unfold cellOf;rw[hc]
       rw[this];exact e1
     . rcases ZS.mp hx with e | hx
       . cases e;exact⟨c,e3 _ Zu⟩
       . exact e4 x hx
   . obtain⟨cl,e1,e2,e3,e4⟩:=ih acc (fun x hx=>hn x (Zn _ hx)) ha;refine⟨cl,?_,e2,e3,fun x hx=>?_⟩
     . dsimp only;rw[if_neg hk];exact e1
     . rcases ZS.mp hx with e | hx
       . cases e;exact absurd rfl hk
       . exact e4 x hx
 obtain⟨cl,e1,e2,_,e4⟩:=gen scope.names [] h (fun _ _ hx=>nomatch hx);refine⟨cl,?_,e2,e4⟩;unfold closureFor;first
  | exact e1
  | (simp only [bind_pure];exact e1)
theorem qv (I : Nat -> Shared -> Prop) (turn : ∀ n s, I n s -> wpAny (model prog w) A (pyNext it) (fun r s₁ => match r with
   | none=>R (.ok .next) s₁
   | some v=>wpAny (model prog w) A (letOwnedTupleGo target it v) (fun _ s₀=>wpAny (model prog w) A (assign target env v) (fun _ s₂=>
     wpAny (model prog w) A (forIn ifs true fun c r=>if r=true then do let ok<-isTrue c env (eval c env);pure (ForInStep.yield ok) else pure (ForInStep.yield r)) (fun ok s₃=>
      if ok=true then wpAny (model prog w) A (eval elt env) (fun x s₄=>
       wpAny (model prog w) A (call (.builtin "list.append") [acc,x]) (fun _ s₅=> ∃m,m < n/\I m s₅) (fun _ _=>False) s₄) (fun _ _=>False) s₃
      else∃m,m < n/\I m s₃) (fun _ _=>False) s₂) (fun _ _=>False) s₀) (fun _ _=>False) s₁) (fun _ _=>False) s) (n:Nat) (h:I n s):codeAny (model prog w) A (.compLoop (.ListComp elt [⟨target,iter,ifs,0⟩] scope pos) 0 it acc env) R s:=by
 refine codeAny_loop rfl I (fun n s hI=>?_) n h;show wpAny _ A ((compTurn (.ListComp elt [⟨target,iter,ifs,0⟩] scope pos) 0 it acc env).onRaise (fun x=>do noteFrame x env;theTreesLotGoes x)) _ _ s;refine wpAny_noted ?_;rw[compTurn_list];refine Zd (ab6 (Zd (ZU (turn n s hI) (fun r s₁ h₁=>?_) fun _ _ h'=>h'.elim)));cases r with
 | none=>exact Zf h₁
 | some v=>
  refine Zd (ZU h₁ (fun _ s₀ h₀=>?_) fun _ _ h'=>h'.elim);refine Zd (ZU h₀ (fun _ s₂ h₂=>Zd (ZU h₂ (fun ok s₃ h₃=>?_) fun _ _ h'=>h'.elim)) fun _ _ h'=>h'.elim);cases ok with
  | false=>exact Zf ⟨rfl,h₃⟩
  | true=>
   exact Zd (Zd (ZU h₃ (fun x s₄ h₄=>Zd (ZU h₄ (fun _ s₅ h₅=>Zf (Zf ⟨rfl,h₅⟩)) fun _ _ h'=>h'.elim)) fun _ _ h'=>h'.elim))
def PF(X:Cx)(ifs:List Expr)(t:TT):Prop:=
 ∀(pins:List (Addr × Obj)) (s:Shared) (σ:St) (H:Hp) (Q:Bool->Hp->Prop),Inv X pins σ H s->t σ H Q->
  wpAny (model X.prog X.w) X.A (forIn ifs true fun c r=>if r=true then do let ok<-isTrue c X.env (eval c X.env);pure (ForInStep.yield ok) else pure (ForInStep.yield r)) (TP X pins σ Q) X.xe s
def My:TT:=fun _ H Q=>Q true H
theorem JI:PF X [] My:=fun _ _ _ H _ I h=>wpAny_tests_nil ⟨H,I,h⟩
theorem JH(h:PT X c t):PF X [c] t:=fun pins s σ H Q I hw=>wpAny_tests_one (h pins s σ H Q I hw)
noncomputable def ic(nt:Nat)(js:List Nat)(σ:St):St:=List.replicate nt none++js.map fun j=>(σ[j]?).join
structure jD(X:Cx)(N:List Str)(nt:Nat)(js:List Nat)(scope:Scope):Prop where
 kind:scope.kind= .function
 nd:(scope.names.map (·.1)).Nodup
 len:nt<=N.length
 Vn:js.map (fun j=>X.N[j]?)=(N.drop nt).map some
 fr: ∀x∈N.drop nt,scope.names.lookup x=some .free
 L6: ∀x∈scope.names,x.2= .free->X.env.kindOf x.1=some .cell\/X.env.kindOf x.1=some .free
theorem jD.names(S:jD X N nt js scope): ∀x∈scope.names,x.2= .local->scope.names.lookup x.1=some .local:=fun x hx e=>by
 obtain⟨n,k⟩:=x;cases e;exact eP S.nd hx
theorem jU(S:jD X N nt js scope)(hc:X.calm=true)(I:Inv X pins σ H s)(hf: ∀b∈fp,dh X pins H b)(UJ: ∀b∈fp,b < s.heap.objs.size)(c1: ∀x c,(x,c)∈cl->X.env.cells.lookup x=some c)(c2: ∀x,(x,NameKind.free)∈scope.names-> ∃c,(x,c)∈cl):
  Inv (dz X N scope s H cl s.heap.objs.size fp) [] (ic nt js σ) H {s with heap:=pushCells (s.heap.push {cls:= .type "dict",data:= .dict #[]}) scope.names,toks:=tk}:=by
 have keep: ∀b o,s.heap.get? b=some o->(pushCells (s.heap.push {cls:= .type "dict",data:= .dict #[]}) scope.names).get? b=some o:=fun b o e=>ag5 _ _ b o (Zh _ e);have ok:=cellsFrom_ok scope.names (s.heap.push {cls:= .type "dict",data:= .dict #[]}) (s.heap.objs.size+1) [] ⟨fun _ _ hm=>(nomatch hm),List.Pairwise.nil⟩ (by rw[ab2];exact Zj _);rw[ab2] at ok;have split: ∀x c,(cellsFrom (s.heap.objs.size+1) scope.names cl).lookup x=some c->(x,c)∈cellsFrom (s.heap.objs.size+1) scope.names []\/(x,c)∈cl:=fun x c e=>by
  rw[aV] at e;exact Zz.mp (ab0 e)
 have old: ∀x c,(x,c)∈cl->c < s.heap.objs.size:=fun x c h=>by
  obtain⟨v,q⟩:=I.cell x c (c1 x c h);exact q.lt
 have new: ∀x c,(x,c)∈cellsFrom (s.heap.objs.size+1) scope.names []->s.heap.objs.size+1<=c:=fun x c h=>(ok.empty x c h).2;have fresh: ∀b,s.heap.objs.size<=b->H b=none:=fun b hb=>I.aT.fresh hb;have Ip: ∀x,scope.names.lookup x=some .free-> ∀c,X.env.cells.lookup x=some c->(cellsFrom (s.heap.objs.size+1) scope.names cl).lookup x=some c:=fun x hx c W8=>by
  obtain⟨c',HF⟩:=c2 x (ab0 hx);have e1:(cellsFrom (s.heap.objs.size+1) scope.names []).lookup x=none:=by
   cases e:(cellsFrom (s.heap.objs.size+1) scope.names []).lookup x with
   | none=>rfl
   | some d=>
    have:=eP S.nd (eU _ _ (ab0 e));rw[hx] at this;cases this
  have e2: ∃d,cl.lookup x=some d:=by
   cases e:cl.lookup x with
   | some d=>exact⟨d,rfl⟩
   | none=>
    exfalso;have: ∀{l:List (Str × Addr)},(x,c')∈l->l.lookup x≠none:=fun{l}=>by
     induction l with
     | nil=>intro h;simp at h
     | cons p r ih=>
      intro h;obtain⟨k,v⟩:=p;rw[Z3];cases hb:x==k with
      | true=>simp
      | false=>
       rcases ZS.mp h with q | q
       . cases q;simp at hb
       . exact ih q
    exact this HF e
  obtain⟨d,hd⟩:=e2;have:d=c:=by
   have:=c1 x d (ab0 hd);rw[W8] at this;cases this;rfl
  subst this;rw[aV,List.lookup_append,e1,hd];rfl
 have Xm: ∀b,b≠X.env.locals->b∉X.fs->b∉qT X.stack:=fun b h1 h2 hb=>(ZS.mp (I.uz b hb)).elim h1 h2;refine⟨⟨I.ok.mod,S.kind,I.ok.glob,I.ok.blt,Zj _,fun x y c e1 e2=>?_,fun x hx=>?_,fun x c h1 h2=>?_,I.ok.hd,I.ok.frames,.inl rfl,fun b hb=>⟨?_,fun x c e=>?_⟩,fun b o e=>⟨I.bk b o e,(I.bs b o e).2⟩,?_,fun b o e hb=>?_,fun b hb=>?_,I.stack,I.we⟩,
  rfl,I.bare,Un.kept keep,⟨_,(Heap.Ns.new s.heap (.type "dict")).keeps (ag5 _ _),fun i x v e1 e2 e3=>?_⟩,fun x c e=>?_,fresh _ (Zj _),fun x c e=>?_,fun p hp=>absurd (show p∈([]:List (Addr × Obj)) from hp) (by simp),I.aT.kept keep,?_⟩
 . rcases split x c e1 with h1 | h1 <;> rcases split y c e2 with h2 | h2
   . exact name_of_addr ok.apart h1 h2
   . exact absurd (ZJ (old y c h2) (ak7 (new x c h1))) (Z7 _)
   . exact absurd (ZJ (old x c h1) (ak7 (new y c h2))) (Z7 _)
   . exact I.ok.inj x y c (c1 x c h1) (c1 y c h2)
 . have own : scope.names.lookup x = some .cell -> ∃ c, (cellsFrom (s.heap.objs.size + 1) scope.names cl).lookup x = some c := fun h => by
     obtain⟨c,e⟩:=ju (n:=s.heap.objs.size+1) h;exact⟨c,by rw[aV,List.lookup_append,e];rfl⟩
   have UP:scope.names.lookup x=some .free-> ∃c,(cellsFrom (s.heap.objs.size+1) scope.names cl).lookup x=some c:=fun h=>by
    obtain⟨c,e⟩:=I.ok.has x (S.L6 _ (ab0 h) rfl);exact⟨c,Ip x h c e⟩
   rcases hx with h | h <;> rcases gN h with q | ⟨z,q⟩
   . exact own q
   . exact UP q
   . exact UP q
   . cases z
 . have h1:scope.names.lookup x=some .cell:=by simpa [dz] using h1
   obtain⟨d,e⟩:=ju (n:=s.heap.objs.size+1) h1;have h2:(cellsFrom (s.heap.objs.size+1) scope.names cl).lookup x=some c:=h2;rw[aV,List.lookup_append,e] at h2;have:d=c:=by simpa using h2
   subst this;exact ak7 (new x d (ab0 e))
 . exact ZY (UJ b hb)
 . rcases split x c e with h | h
   . exact aj0 (ZJ (UJ b hb) (ak7 (new x c h)))
   . exact(hf b hb).2.2.2.2.1 x c (c1 x c h)
 . exact ZE I.ok.Ir I.sz
 . rcases(hf b hb).2.2.2.1 with z | z
   . exact I.ok.BR b o e z
   . exact absurd (ZJ (ZD e) (ZE I.ok.Ir z)) (Z7 _)
 . exact Xm b (hf b hb).2.1 (hf b hb).2.2.1
 . have hi : nt <= i := by
     apply Nat.le_of_not_lt;intro dX;unfold ic at e2;rw[ZR (by simpa using dX),ZI,if_pos dX] at e2;cases e2
   have Oi:(js.map fun j=>(σ[j]?).join)[i - nt]?=some (some v):=by
    unfold ic at e2;rw[ZW (by simpa using hi),ad4] at e2;exact e2
   rw[Zo] at Oi;have UZ:(N.drop nt)[i - nt]?=some x:=by
    rw[List.getElem?_drop];have:nt+(i - nt)=i:=by lia
    rw[this];exact e1
   cases hj:js[i - nt]? with
   | none=>rw[hj] at Oi;cases Oi
   | some j=>
    rw[hj] at Oi;have Ga:(σ[j]?).join=some v:=by simpa using Oi
    have hσ:σ[j]?=some (some v):=by
     cases q:σ[j]? with
     | none=>rw[q] at Ga;cases Ga
     | some o=>rw[q] at Ga;simpa using Ga
    have hX:X.N[j]?=some x:=by
     have:=aa6 (fun l=>l[i - nt]?) S.Vn;simp only [Zo,hj,UZ,Option.map_some] at this;exact Option.some.inj this
    have oH:=S.fr x (ZT UZ);have hk:=S.L6 _ (ab0 oH) rfl;obtain⟨m,_,hl⟩:=I.loc;obtain⟨u,ru,lk⟩:=hl j x v hX hσ (by rcases hk with q | q;exact .inr (.inl q);exact .inr (.inr q));refine⟨u,ru,?_⟩;rcases lk with ⟨KC,_⟩ | ⟨_,c,KR,oK⟩
    . rcases hk with q | q <;> rw[q] at KC <;> cases KC
    . refine .inr ⟨?_,c,Ip x oH c KR,oK.keeps keep⟩;rcases du (env:=X.env) oH with q | q
      . exact .inr q
      . exact .inl q
 . rcases split x c e with h | h
   . exact⟨none,(ok.empty x c h).1⟩
   . obtain⟨v,q⟩:=I.cell x c (c1 x c h);exact⟨v,q.keeps keep⟩
 . rcases split x c e with h | h
   . exact fresh _ (ak7 (new x c h))
   . exact I.gX x c (c1 x c h)
 . unfold ic;show _=N.length;rw[Zy,ad4,Ze];have:=aa6 List.length S.Vn;rw[Ze,Ze,aj2] at this;have:=S.len;lia
def jC(nt:Nat)(g:TG):Prop:= ∀v σ H (Q:St->Hp->Prop),g v σ H Q->g v σ H fun σ' H'=>Q σ' H'/\σ'.length=σ.length/\ ∀k,nt<=k->σ'[k]?=σ[k]?
def xS(nt:Nat)(g:LI):Prop:= ∀vs σ H (Q:St->Hp->Prop),g vs σ H Q->g vs σ H fun σ' H'=>Q σ' H'/\σ'.length=σ.length/\ ∀k,nt<=k->σ'[k]?=σ[k]?
theorem cj(h:i < nt:=by decide):jC nt (bV i):=fun v σ H Q q=>⟨q,by simp,fun k hk=>by rw[Zr (by lia)]⟩
theorem Cw:xS nt vm:=fun vs σ H Q cw=>(by obtain⟨e,q⟩:=cw;exact(⟨e,q,rfl,fun _ _=>rfl⟩))
def xR(g:LI):Prop:= ∀vs σ H (Q Q':St->Hp->Prop),(∀σ' H',Q σ' H'->Q' σ' H')->g vs σ H Q->g vs σ H Q'
theorem oN:xR vm:=fun vs σ H Q Q' hq fW=>(by obtain⟨e,q⟩:=fW;exact(⟨e,hq _ _ q⟩))
theorem vj(hu:xR u):xR (eJ (bV i) u):=fun vs σ H Q Q' hq kZ=>(by obtain⟨v,r,e,q⟩:=kZ;exact(⟨v,r,e,hu r _ _ Q Q' hq q⟩))
theorem oO(h:i < nt:=by decide)(hm:xR u)(hu:xS nt u):xS nt (eJ (bV i) u):=fun vs σ H Q cw=>(by obtain⟨v,r,e,q⟩:=cw;exact(by
 refine⟨v,r,e,hm _ _ _ _ _ (fun σ' H' z=>?_) (hu r (σ.set i (some v)) H Q q)⟩;obtain⟨z1,z2,z3⟩:=z;refine⟨z1,by simpa using z2,fun k hk=>?_⟩;rw[z3 k hk,Zr (by lia)]))
theorem Cv{nt n:Nat}{K:PySem.W.Frag}(h:xS nt t):jC nt (y9 K n t):=fun v σ H Q iP=>(by obtain⟨a,xs,e,sq,l,q⟩:=iP;exact(⟨a,xs,e,sq,l,h xs σ H Q q⟩))
def ID(nt:Nat)(js:List Nat)(g:TG)(tc:TT)(te:TE)(σ:St)(Q:VK)(D:Addr)(J:It)(H0:Hp):Prop:=
 ∃W:Nat->Nat->List V->Hp->Prop,(∃m,W 0 m [] H0)/\ ∀i m acc H,W i m acc H->
  (J.stop i H/\Q (.ref D) H)\/(J.go i H/\acc.length < sizeLine/\ ∃B:List V->Hp->Prop,(∀bG H',B bG H'-> ∃m',m' < m/\W (i+1) m' bG H')/\ ∀x H',J.uo i H x H'->g x (ic nt js σ) H' fun σ2 H2=>
   tc σ2 H2 fun b H3=>if b=true then te σ2 H3 fun v H4=>H4 D=some (.lst acc)/\B (acc++ [v]) (upd H4 D (.lst (acc++ [v]))) else B acc H3)
def AB(nt:Nat)(js:List Nat)(wi:TI)(g:TG)(tc:TT)(te:TE):TE:=fun σ H Q=>wi σ H fun J H1=> ∀D,H1 D=none->ID nt js g tc te σ Q D J (upd H1 D (.lst []))
theorem eO{s:Shared}(h: ∀iJ:Env,{iJ with scope:=relabel scope env}=m5 scope cl s.heap.objs.size env->iJ.locals=s.heap.objs.size->Q iJ {s with heap:=pushCells (s.heap.push {cls:= .type "dict",data:= .dict #[]}) scope.names}):
  wpAny M A (newFunctionEnv scope env.globals cl [] env.qual none .none (some env)) Q E s:=by
 simp only [newFunctionEnv,Option.isSome_some,al0];refine Zd (wpAny_alloc ?_);refine Zd (wpAny_layCells _ (fun name kind cells=>by cases WW:kind==NameKind.cell <;> simp [WW]) _ _ _ _ ?_);rw[show({s with heap:=s.heap.push {cls:= .type "dict",data:= .dict #[]}}:Shared).heap.objs.size=s.heap.objs.size+1 from ab2 ..];first
  | exact Zf (h _ rfl rfl)
  | exact Zd (Zf (Zf (h _ rfl rfl)))
theorem oX{elt tg iter:Expr}{ifs:List Expr}{pos:Pos}{g:TG}{tc:TT}{te:TE}{cl:List (Str × Addr)}{Q:VK}{E:Value->Shared->Prop}{RR:Value->Addr->Result->Shared->Prop}(S:jD X N nt js scope)(hc:X.calm=true)(hg: ∀s H cl C ex,PG (dz X N scope s H cl C ex) tg g)(eQ:jC nt g)(hf: ∀s H cl C ex,PF (dz X N scope s H cl C ex) ifs tc)(he: ∀s H cl C ex,PE (dz X N scope s H cl C ex) elt te){tn:Nat->Heap->Prop}(I:Inv X pins σ H s)(T:Turn X.prog X.w X.K tg J fp it tn)(st:tn 0 s.heap)(ff: ∀b∈fp,dh X pins H b)(c1: ∀x c,(x,c)∈cl->X.env.cells.lookup x=some c)(c2: ∀x,(x,NameKind.free)∈scope.names-> ∃c,(x,c)∈cl)(R: ∀D,H D=none->ID nt js g tc te σ Q D J (upd H D (.lst [])))(fin: ∀(D C:Addr) (s':Shared) (H':Hp),Inv X pins σ H' s'->dh X pins H' C->(∃m,s'.heap.Ns C m)->Q (.ref D) H'->RR (.ref D) C (.ok .next) s'):
  wpAny (model X.prog X.w) X.A (newList []) (fun acc s₃=>wpAny (model X.prog X.w) X.A (newFunctionEnv scope X.env.globals cl [] X.env.qual none .none (some X.env)) (fun iJ s₄=>
   codeAny (model X.prog X.w) X.A (.compStart (.ListComp elt [⟨tg,iter,ifs,0⟩] scope pos) 0 (.ref it) acc {iJ with scope:=relabel scope X.env}) (RR acc iJ.locals) s₄) E s₃) E s:=by
 refine Z9 (eO fun iJ tG CL=>?_);rw[tG,CL];dsimp only;have hD:H s.heap.objs.size=none:=I.aT.fresh (Zj _);obtain⟨W,⟨m0,w0⟩,turn⟩:=R s.heap.objs.size hD;have kD: ∀b u,s.heap.get? b=some u->(s.heap.push {cls:= .type "list",data:= .seq ([]:List Value).toArray}).get? b=some u:=fun b u e=>Zh _ e;have I3:Inv X pins σ (upd H s.heap.objs.size (.lst [])) {s with heap:=s.heap.push {cls:= .type "list",data:= .seq ([]:List Value).toArray},toks:=s.toks}:=
  I.laid kD (Zj _) ⟨ZV _,[],_,.nil,Zs _ rfl⟩
 have fs: ∀b∈fp,b < s.heap.objs.size:=fun b hb=>by
  obtain⟨o,e,_⟩:=T.obj _ _ st b hb;exact ZD e
 have HJ: ∀b∈fp,dh X pins (upd H s.heap.objs.size (.lst [])) b:=fun b hb=>⟨by rw[ah (ZY (fs b hb))];exact(ff b hb).1,(ff b hb).2⟩
 have I4:=jU (tk:=s.toks) S hc I3 HJ (fun b hb=>by show b < (s.heap.push _).objs.size;rw[ab2];exact ag8 (fs b hb)) c1 c2;dsimp only at I4;have Oa:(s.heap.push {cls:= .type "list",data:= .seq ([]:List Value).toArray}).objs.size=s.heap.objs.size+1:=ab2 ..;generalize hY:dz X N scope {s with heap:=s.heap.push {cls:= .type "list",data:= .seq ([]:List Value).toArray},toks:=s.toks} (upd H s.heap.objs.size (.lst [])) cl (s.heap.push {cls:= .type "list",data:= .seq ([]:List Value).toArray}).objs.size fp=Y at I4;have UL:=hY;have ni:Y.env=m5 scope cl (s.heap.push {cls:= .type "list",data:= .seq ([]:List Value).toArray}).objs.size X.env:=by rw[<-hY];rfl
 have bO:Y.prog=X.prog:=by rw[<-hY];rfl
 have Yw:Y.w=X.w:=by rw[<-hY];rfl
 have YA:Y.A=X.A:=by rw[<-hY];rfl
 have YK:Y.K=X.K:=by rw[<-hY];rfl
 have jz:Y.calm=true:=by rw[<-hY];exact hc
 have qU:Y.xe=fun _ _=>False:=by rw[<-hY];rfl
 have tX:Y.ex=fp:=by rw[<-hY];rfl
 have OV:Y.pn= []:=by rw[<-hY];rfl
 have OW:Y.fs=qT X.stack:=by rw[<-hY];rfl
 have Iy:Y.s₀={s with heap:=s.heap.push {cls:= .type "list",data:= .seq ([]:List Value).toArray},toks:=s.toks}:=by rw[<-hY];rfl
 have OX:Y.H₀=upd H s.heap.objs.size (.lst []):=by rw[<-hY];rfl
 have N0:PG Y tg g:=by rw[<-hY];exact hg _ _ _ _ _
 have Se:PF Y ifs tc:=by rw[<-hY];exact hf _ _ _ _ _
 have Si:PE Y elt te:=by rw[<-hY];exact he _ _ _ _ _
 have hm:(Y.N.length:Nat)=(ic nt js σ).length:=I4.len.symm;rw[<-ni,<-bO,<-Yw,<-YA];have CA: ∀{H':Hp} (_: ∀b∈fp,H' b=none),∀b∈fp,dh Y [] H' b:=fun{H'} hn b hb=>by
  refine⟨hn b hb,(I4.ok.HL b (by rw[tX];exact hb)).1,I4.ok.vo b (by rw[tX];exact hb),.inl (by rw[tX];exact hb),(I4.ok.HL b (by rw[tX];exact hb)).2,fun p hp=>?_⟩;rw[OV] at hp;simp at hp
 have back: ∀{H':Hp} {s':Shared} {σ':St},Inv Y [] σ' H' s'->Inv X pins σ H' s'/\dh X pins H' Y.env.locals/\ ∃m,s'.heap.Ns Y.env.locals m:=fun{H' s' σ'} J=>by
  have hb:Un (qT X.stack) fp (upd H s.heap.objs.size (.lst [])) H' (s.heap.push {cls:= .type "list",data:= .seq ([]:List Value).toArray}) s'.heap:=by
   have:=J.base;rw[OW,tX,OX,Iy] at this;exact this
  have loc:Y.env.locals=s.heap.objs.size+1:=by rw[ni];exact Oa
  have os:s'.os=s.os:=by
   have:=J.os;rw[Iy] at this;exact this
  have aT:gm X.prog X.w H' s'.heap:=by
   have:=J.aT;rw[bO,Yw] at this;exact this
  refine⟨I3.Dm (ch:=fp) os hb aT J.bare fun b hb=>⟨(ff b hb).2.2.2.1,(ff b hb).2.1,(ff b hb).2.2.2.2.1,(ff b hb).2.2.2.2.2⟩,?_,let ⟨m,q,_⟩:=J.loc;⟨m,q⟩⟩;exact I.vn (by rw[loc];exact ao7 _) J.free
 have loop:codeAny (model Y.prog Y.w) Y.A (.compLoop (.ListComp elt [⟨tg,iter,ifs,0⟩] scope pos) 0 (.ref it) (.ref s.heap.objs.size) Y.env) (RR (.ref s.heap.objs.size) Y.env.locals)
   {s with heap:=pushCells ((s.heap.push {cls:= .type "list",data:= .seq ([]:List Value).toArray}).push {cls:= .type "dict",data:= .dict #[]}) scope.names}:=by
  refine qv (fun n s'=> ∃i acc H',Inv Y [] (ic nt js σ) H' s'/\tn i s'.heap/\(∀b∈fp,H' b=none)/\W i n acc H') ?_ m0
   ⟨0,[],_,I4,T.keep _ _ _ st fun b _ o e=>ag5 _ _ b o (Zh _ (kD b o e)),fun b hb=>(HJ b hb).1,w0⟩
  rintro n s5 ⟨i,acc,H5,I5,uD,zb,w5⟩
  rcases turn i n acc H5 w5 with ⟨stop,q⟩ | ⟨go,hlen,B,hB,step⟩
  . have hd:=T.done Y bO Yw YK jz i [] s5 _ H5 (fun _ _=>False) I5 (CA zb) uD stop;rw[<-bO,<-Yw] at hd;refine aP hd fun r s6 iO=>?_;obtain⟨hr,I6⟩:=iO;subst hr;obtain⟨b1,b2,b3⟩:=back I6;exact fin _ _ _ _ b1 b2 b3 q
  . have hd:=T.item Y bO Yw YK jz i [] s5 _ H5 (fun _ _=>False) I5 (CA zb) uD go;rw[<-bO,<-Yw] at hd;refine aP hd fun r s6 nF=>?_;obtain⟨u,hr,h6⟩:=nF;subst hr;refine aP h6 fun _ s7 o9=>?_;obtain⟨x,H7,I7,r7,y7,uC,K4⟩:=o9;have LS:=I7.pinned (CA K4) (T.obj _ _ uC);have g7:=eQ _ _ _ _ (step x H7 y7);have h7:=N0 _ s7 _ H7 x u _ LS r7 g7;rw[qU] at h7;refine aP h7 fun _ s8 nE=>?_;obtain⟨σ8,H8,I8,q8,l8,k8⟩:=nE;have h8:=Se _ s8 σ8 H8 _ I8 q8;rw[qU] at h8;refine aP h8 fun b s9 gn=>?_;obtain⟨H9,I9,q9⟩:=gn;have again: ∀{ki:Hp} {fb:Shared} {bG:List V},Inv Y ([]++iE fp s7.heap) σ8 ki fb->B bG ki-> ∃m,m < n/\ ∃i acc H',Inv Y [] (ic nt js σ) H' fb/\tn i fb.heap/\(∀b∈fp,H' b=none)/\W i m acc H':=fun{ki fb bG} t6 tV=>by
     obtain⟨m',DZ,IS⟩:=hB bG ki tV;refine⟨m',DZ,i+1,bG,ki,t6.dJ.weak l8.symm fun k v e=>?_,T.keep _ _ _ uC fun b hb o e=>(t6.pin (b,o) (Zw _ (Zw _ (bf hb e)))).1,fun b hb=>?_,IS⟩
     . by_cases hk:nt<=k
       . rw[k8 k hk];exact e
       . exfalso;unfold ic at e;rw[ZR (by simp;lia),ZI,if_pos (by lia)] at e;cases e
     . obtain⟨o,e,d⟩:=T.obj _ _ uC b hb;exact(t6.pin (b,o) (Zw _ (Zw _ (bf hb e)))).2.1
    cases b with
    | false=>
     rw[if_neg Zp] at q9 ⊢;exact again I9 q9
    | true=>
     rw[if_pos rfl] at q9 ⊢;have h9:=Si _ s9 σ8 H9 _ I9 q9;rw[qU] at h9;refine aP h9 fun y fb k9=>?_;obtain⟨v,ki,t6,M8,KZ,Jz⟩:=k9;have F1:=(jN (X:=Y) _ fb σ8 ki (.ref s.heap.objs.size) [v] (.ref s.heap.objs.size) [y] (fun _ H'=>B (acc++ [v]) H') t6 rfl (.cons M8 .nil) ⟨_,acc,v,rfl,rfl,KZ,hlen,Jz⟩)
     rw[qU] at F1;refine aP F1 fun _ MR k6=>?_;obtain⟨_,D6,GW,_,Ri⟩:=k6;exact again GW Ri
 have tF:(s.heap.push {cls:= .type "list",data:= .seq ([]:List Value).toArray}).objs.size=Y.env.locals:=by rw[ni];rfl
 rw[tF];exact codeAny_compStart_list loop (by rw[bO,Yw,YA] at*;exact T.self _ 0 _ _ _ (T.keep _ _ _ st fun b _ o e=>ag5 _ _ b o (Zh _ (kD b o e))) loop)
theorem Fc(S:jD X N nt js scope)(hc:X.calm=true)(hi:PI X tg iter wi)(hg: ∀s H cl C ex,PG (dz X N scope s H cl C ex) tg g)(eQ:jC nt g)(hf: ∀s H cl C ex,PF (dz X N scope s H cl C ex) ifs tc)(he: ∀s H cl C ex,PE (dz X N scope s H cl C ex) elt te)(hs: ∀x,foldedSetIterable iter X.env x=pure x:=by intro _;rfl):PE X (.ListComp elt [⟨tg,iter,ifs,0⟩] scope pos) (AB nt js wi g tc te):=by
 intro pins s σ H Q I h;obtain⟨cl,KP,c1,c2⟩:=fR (scope:=scope) (env:=X.env) fun x hx e=>I.ok.has x.1 (S.L6 x hx e);rw[eval_ListComp];refine aj5 (use:=none) rfl hs KP S.kind S.names (aP (hi pins s σ H _ I h) fun v s1 h1=>aP h1 fun L8 s2 h2=>?_);obtain⟨it,fp,tn,J,H2,rfl,I2,T,gg,f2,R⟩:=h2;refine oX (RR:=fun acc C=>compPost (model X.prog X.w) X.A X.xe none (EP X pins σ Q) acc C) S hc hg eQ hf he I2 T gg f2 c1 c2 R fun D C s' H' I' fo iy q=>?_;obtain⟨m,hn⟩:=iy;refine⟨m,hn,fun h' sb=>⟨.ref D,H',?_,rfl,q⟩⟩;obtain⟨f0,f1,_,f3,f4,f5⟩:=fo;exact I'.turned (t':=s'.toks) (fun b o hb e=>(sb.2 b hb).trans e) f0 f1 f3 f4 f5
theorem EU{pos pos' py:Pos}(hN:X.N.Nodup)(R8:X.N[i]?=some y)(hy:Loc X.env.scope y)(S:jD X N nt js scope)(hc:X.calm=true)(hi:PI X tg iter wi)(hg: ∀s H cl C ex,PG (dz X N scope s H cl C ex) tg g)(eQ:jC nt g)(hf: ∀s H cl C ex,PF (dz X N scope s H cl C ex) ifs tc)(he: ∀s H cl C ex,PE (dz X N scope s H cl C ex) elt te)(RM:swapsWith (.ListComp elt [⟨tg,iter,ifs,0⟩] scope pos) (some (.Name y py)) pos'.line X.env=pure true:=by rfl)(hs: ∀x,foldedSetIterable iter X.env x=pure x:=by intro _;rfl)(KI:X.fn y=true\/X.env.scope.names.lookup y=some .local:=by first | exact .inl rfl | exact .inr rfl | assumption):
  PS X (.Assign [.Name y py] (.ListComp elt [⟨tg,iter,ifs,0⟩] scope pos) pos') (AE (AB nt js wi g tc te) (bV i)):=by
 intro pins s σ H D I h;obtain⟨cl,KP,c1,c2⟩:=fR (scope:=scope) (env:=X.env) fun x hx e=>I.ok.has x.1 (S.L6 x hx e);rw[exec_Assign_Name_used _ _ _ _ RM];refine Zd (ab6 (Zd ?_));show wpAny _ _ (do let _<-comprehension (.ListComp elt [⟨tg,iter,ifs,0⟩] scope pos) scope X.env _ (newList []) false (eval iter X.env) (some (assign (.Name y py) X.env))) _ _ s;refine Zd (ZU (aj5 (use:=some (assign (.Name y py) X.env)) (Q:=fun _ s'=>SP X pins D .next s') rfl hs KP S.kind S.names
  (aP (hi pins s σ H _ I h) fun v s1 h1=>aP h1 fun L8 s2 h2=>?_)) (fun _ s' hq=>Zf (Zf hq)) fun _ _ e=>e)
 obtain⟨it,fp,tn,J,H2,rfl,I2,T,gg,f2,R⟩:=h2;refine oX (RR:=fun acc C=>compPost (model X.prog X.w) X.A X.xe (some (assign (.Name y py) X.env)) (fun _ s'=>SP X pins D .next s') acc C) (Q:=fun x H1=>bV i x σ H1 D.nx) S hc hg eQ hf he I2 T gg f2 c1 c2 R fun Da C s' H' I' fo Ab q=>?_;obtain⟨m,hn⟩:=Ab;show wpAny _ _ (assign (.Name y py) X.env (.ref Da)) _ _ _;obtain⟨f0,f1,_,f3,f4,f5⟩:=fo;refine wpAny_assign_Name (ou I' hN R8 hy (v:= .ref Da) rfl (fun MS XZ pd=>?_) KI);obtain⟨a,sb,ha⟩:=pd;have Xh:C≠a:=by
  rcases ha with z | z
  . rw[z];exact f1
  . exact Ne.symm (f4 _ _ z)
 refine⟨m,hn.sameBut sb Xh,fun h' V7=>⟨_,H',?_,q⟩⟩;exact XZ.turned (t':=MS.toks) (fun b o hb e=>(V7.2 b hb).trans e) f0 f1 f3 f4 f5
open AutoSeq1 (wpAny_loadPart')
theorem Kq(q1:typeLookup (.type T) "__init__"=pure (some (.builtin "object.__init__")))(q2:Bind.madeBy (.type T)=pure (some newId))(q3:(some newId !=some "object.__new__")=true):Meets (Builtin.«object.__init__» ⟨me::more,kw⟩) (fun _ R s=>s.TypeIs me T/\R (.ok (.ret .none)) s):=by
 refine Meets.of_wp fun prog w A R s cw=>?_;obtain⟨hT,hq⟩:=cw;cases more with
 | nil=>
  cases kw with
  | nil=>exact Zf ⟨_,rfl,hq⟩
  | cons p r=>
   repeat (any_goals (first | assumption | wp_step))
   all_goals exact⟨_,rfl,hq⟩
 | cons a r=>
  repeat (any_goals (first | assumption | wp_step))
  all_goals exact⟨_,rfl,hq⟩
theorem m4(ft:TypeCalled T newId "object.__init__")(xm:(some newId !=some "object.__new__")=true)(c1:checkTypeCall T ⟨xs,kw⟩=pure ())(c2:checkBuiltinCall newId ⟨.type T::xs,kw⟩=pure ())(c3: ∀ob,argsOk "object.__init__" ⟨ob::xs,kw⟩)(eN:entryFor table newId=some B)(mt:Meets (B ⟨.type T::xs,kw⟩) S)(h:S A.in1 (wants (fun ob z=>z.TypeIs ob T/\Q ob z) E) s):wpAny (model prog w) A (call (.type T) xs kw) Q E s:=by
 obtain⟨c,tl,R0⟩:=ft.mro;have UG:=ft.made;have FQ:=ft.sub;refine wpAny_call (codeAny_of_tree (show wpAny _ _ (callAny (.type T) _) _ _ _ from Zf ⟨Code.quiet_builtin _ (by decide+kernel),ak0 F.entry_type_call ?_⟩));rw[Around.under_plain (weight_type_call_type T xs kw) (units_type_call_type T xs kw)];have k1:=ft.notType;have k2:=ft.canCreate;repeat (any_goals (first | assumption | wp_step))
 refine al1 (codeAny_call_builtin ft.plain eN (wpAny_of_eq c2 (mt prog w A.in1 _ s h))) fun r z hr=>?_;match r,hr with
 | .error e,hr=>exact hr
 | .ok (.ret ob),hr=>
  obtain⟨hT,hq⟩:=hr;have l1:=ft.init.lookup;have l2:=ft.init.bind ob;repeat (any_goals (first | assumption | wp_step))
  refine al1 (codeAny_call_builtin ft.init.plain F.entry_object_init (ft.init.check _ _ _ _ _ _ _ _ hT (c3 ob) (Kq ft.init.lookup ft.made xm prog w A.in1 (wants (fun v z'=>v= .none/\Q ob z') E) z ⟨hT,rfl,hq⟩))) fun r2 z2 yS=>?_;match r2,yS with
  | .error e,yS=>exact yS
  | .ok (.ret v),yS=>
   obtain⟨rfl,Yp⟩:=yS;repeat (any_goals (first | assumption | wp_step))
  | .ok .next,yS=>exact yS.elim
  | .ok .brk,yS=>exact yS.elim
  | .ok .cont,yS=>exact yS.elim
 | .ok .next,hr=>exact hr.elim
 | .ok .brk,hr=>exact hr.elim
 | .ok .cont,hr=>exact hr.elim
open AutoSeq1 (wpAny_loadPart')
noncomputable def jj(h:Heap)(t:Addr)(k:Int):Heap:=
 (h.push {cls:= .type "tuple_iterator",data:= .fields #[.ref t,.int 0 0]}).push {cls:= .type "enumerate",data:= .fields #[.none,.bool false,.ref h.objs.size,rawInt k,.none,.none]}
def tu(t:Addr)(k:Int):PySem.Spec:=fun _ R s=>(∃items,s.heap.IsTuple t items)/\R (.ok (.ret (.ref (s.heap.push {cls:= .type "tuple_iterator",data:= .fields #[.ref t,.int 0 0]}).objs.size))) {s with heap:=jj s.heap t k}
theorem CK(t:Addr):Meets (Builtin.«enumerate.__new__» ⟨[.type "enumerate",.ref t],[]⟩) (tu t 0):=
 .of_wp fun prog w A R s cw=>(by obtain⟨⟨items,hT⟩,h⟩:=cw;exact(by
  obtain⟨hp,g,d,tk,os⟩:=s;have FQ:=sub_enumerate;obtain⟨⟨c,SR,dt,sl⟩,hl,hc,n,hd⟩:=id hT;replace hc:c= .type "tuple":=hc
  replace hd:dt= .seq items n:=hd
  subst hc hd;wp_walk using aa7 hl
  refine wpAny_stack_any fun st=>Zf ?_;split
  . rename_i c _ _ _ _ _;cases (c==Value.type "enumerate") <;> (wp_walk using aa7 hl,af0 hT;exact⟨_,rfl,h⟩)
  . wp_walk using aa7 hl,af0 hT
    exact⟨_,rfl,h⟩))
theorem CJ(t:Addr)(u:Tok):Meets (Builtin.«enumerate.__new__» ⟨[.type "enumerate",.ref t],[("start",.int 1 u)]⟩) (tu t 1):=
 .of_wp fun prog w A R s fW=>(by obtain⟨⟨items,hT⟩,h⟩:=fW;exact(by
  obtain⟨hp,g,d,tk,os⟩:=s;have FQ:=sub_enumerate;obtain⟨⟨c,SR,dt,sl⟩,hl,hc,n,hd⟩:=id hT;replace hc:c= .type "tuple":=hc
  replace hd:dt= .seq items n:=hd
  subst hc hd;wp_walk using aa7 hl
  refine wpAny_stack_any fun st=>Zf ?_;split
  . rename_i c _ _ _ _ _;cases (c==Value.type "enumerate") <;> (wp_walk using aa7 hl,af0 hT;exact⟨_,rfl,h⟩)
  . wp_walk using aa7 hl,af0 hT
    exact⟨_,rfl,h⟩))
open AutoSeq1 (wpAny_loadPart')
theorem rF(a1:s.heap.IsTupleIter it t j)(a2:s.heap.IsTuple t ao)(a3:ao[j]?=some y)(k: ∀h',h'.IsTupleIter it t (j+1)->Heap.SameBut it s.heap h'->Q y {s with heap:=h'}):wpAny (model prog w) A (Builtin.SmallTypes.nextOf (.ref it)) Q E s:=by
 obtain⟨ob,b1,b2,b3⟩:=id a1;obtain⟨ot,d1,_,nt,d2⟩:=a2;unfold Builtin.SmallTypes.nextOf;refine Zd (ac6 (name:=Str.ofString "__next__") a1.typeIs ai0 (ab4 ai0 a1.typeIs F.entry_tuple_iterator_next ?_ (F.args_tuple_iterator_next_1 _)));show wpAny _ _ (field (.ref it) 0 >>=_) _ _ s;refine Zd (ad5 b1 b3 (x:= .ref t) rfl ?_);show wpAny _ _ (if (Value.ref t==Value.none)=true then _ else _) _ _ s;rw[if_neg (show¬(Value.ref t==Value.none)=true from fun z=>nomatch (show false=true from z))];show wpAny _ _ (field (.ref it) 1 >>=_) _ _ s;refine Zd (ad5 b1 b3 (x:= .int j 0) rfl ?_);show wpAny _ _ (seqItems? (.ref t) >>=_) _ _ s;refine Zd (ad2 d1 d2 ?_);simp only [ab5,a3];refine Zd (wpAny_setField b1 b3 (by simp) (Zf ⟨y,rfl,Zf (k _ ⟨_,ag1 _ b1 (Obj.isFreed_of_fields (an2 b3 _)),(Obj.cls_mapFields ..).trans b2,by rw[an2 b3];simp [rawInt]⟩ (aj7 ..))⟩))
theorem rG(hh:A.handled=none)(a1:s.heap.IsTupleIter it t j)(a2:s.heap.IsTuple t ao)(a3:ao[j]?=none)(k: ∀h' e,Heap.ExtBut it s.heap h'->(∃o,h'.get? e=some o/\o.cls= .type "StopIteration")->E (.ref e) {s with heap:=h'}):wpAny (model prog w) A (Builtin.SmallTypes.nextOf (.ref it)) Q E s:=by
 obtain⟨ob,b1,b2,b3⟩:=id a1;obtain⟨ot,d1,_,nt,d2⟩:=a2;unfold Builtin.SmallTypes.nextOf;refine Zd (ac6 (name:=Str.ofString "__next__") a1.typeIs ai0 (ab4 ai0 a1.typeIs F.entry_tuple_iterator_next ?_ (F.args_tuple_iterator_next_1 _)));show wpAny _ _ (field (.ref it) 0 >>=_) _ _ s;refine Zd (ad5 b1 b3 (x:= .ref t) rfl ?_);show wpAny _ _ (if (Value.ref t==Value.none)=true then _ else _) _ _ s;rw[if_neg (show¬(Value.ref t==Value.none)=true from fun z=>nomatch (show false=true from z))];show wpAny _ _ (field (.ref it) 1 >>=_) _ _ s;refine Zd (ad5 b1 b3 (x:= .int j 0) rfl ?_);show wpAny _ _ (seqItems? (.ref t) >>=_) _ _ s;refine Zd (ad2 d1 d2 ?_);simp only [ab5,a3];refine Zd (ad1 (Zd (wpAny_setField b1 b3 (by simp) ?_)));show wpAny _ _ (newExc (.type "StopIteration") [] >>=_) _ _ _;refine Zd ?_;simp only [newExc,newTuple];refine Zd (Z9 ?_ (by size_fits));refine Zd (m:=firstArgMember _ _) (wpAny_of_eq (a:=Value.none) (by first | rfl | (simp only [firstArgMember];rfl)) (Z9 ?_ (by size_fits)));simp only [raiseNew];refine Zd (wpAny_handled ?_);first | rw[show A.in1.handled=none from hh] | rw[hh]
 exact Zd (Zf (wpAny_throw (k _ _ (((aj7 ..).extBut.push _).push _) ⟨_,Zs _ rfl,rfl⟩)))
theorem tI{prog:Program}{w:World}{A:Around}(hh:A.handled=none)(it t:Addr)(xm:t≠it)(ao:Array Value)(k:Nat):
  Draws prog w A it [it,t] (ao.size+k) (fun i v=>k<=i/\ao[i - k]?=some v) (fun i h=>k<=i/\h.IsTupleIter it t (i - k)/\h.IsTuple t ao) where
 live:=fun _ _ cw=>(by obtain⟨_,st,_⟩:=cw;exact(let ⟨o,ho,_⟩:=st;⟨o,ho⟩))
 frame:=fun _ _ _ fW hk=>(by obtain⟨l,st,gg⟩:=fW;exact(⟨l,let ⟨o,q,r⟩:=st;⟨o,hk it (by simp) o q,r⟩,let ⟨o,q,r⟩:=gg;⟨o,hk t (by simp) o q,r⟩⟩))
 item:=fun i s Q E hi ⟨l,st,gg⟩ hQ=>by
  have dX:i - k < ao.size:=by grind
  refine rF st gg (y:=ao[i - k]) (by simp [dX]) fun h' q1 q2=>hQ _ h' s.toks ⟨l,by simp [dX]⟩ ⟨by grind,?_,?_⟩ q2
  . rw[show i+1 - k=i - k+1 by grind];exact q1
  . obtain⟨o,q,r⟩:=gg;exact⟨o,(q2.2 t xm).trans q,r⟩
 done:=fun s Q E kj hE=>(by obtain⟨l,st,gg⟩:=kj;exact(rG hh st gg (by simp) hE))
section
variable{X:Cx}{pins:List (Addr × Obj)}{σ:St}{H:Hp}{s:Shared}
theorem Inv.oj{h':Heap}{t':Nat}{ch:List Addr}(I:Inv X pins σ H s)(hc: ∀b∈ch,dh X pins H b)(hT:s.heap.objs.size<=T)(k: ∀b u,b∉ch->s.heap.get? b=some u->h'.get? b=some u)(new:aQ X.prog X.w (upd H T o) h' T o):Inv X pins σ (upd H T o) {s with heap:=h',toks:=t'}:=by
 have nT:H T=none:=I.aT.fresh hT;have ne: ∀b u,s.heap.get? b=some u->b≠T:=fun b u e z=>absurd (ZJ (ZD e) (z▸hT)) (Z7 _);have DW: ∀b u,H b=some u->b∉ch:=fun b u e z=>by rw[(hc b z).1] at e;cases e
 refine I.step (g':=s.gens) (d':=s.drawn) (ch:=ch) (fun b hb=>?_) (fun b u _ _ hn e _=>k b u hn e) (fun b u _ _ hn e _=>⟨u.slots,k b u hn e⟩) (fun b u hn e n=>by rw[ah (ne b u e)];exact n)
  (fun b u hn e=>⟨u,k b u hn e⟩) (fun b xs e=>by rw[ah (aj e nT)];exact e) (fun b ob u e=>by rw[ah (aj e nT)];exact e) (fun b ps e=>⟨#[],by rw[ah (aj e nT),e];simp⟩) (fun m hm=>?_) (fun b u e=>?_) I.bare
 . obtain⟨f0,f1,f2,f3,f4,f5⟩:=hc b hb;exact⟨f3,f1,f4,f5⟩
 . obtain⟨ob,es,ep,ho,r⟩:=hm;exact⟨ob,es,ep,k _ ob (fun z=>(hc _ z).2.1 rfl) ho,r⟩
 . by_cases hb:b=T
   . subst hb;rw[ag] at e;cases e;exact new
   . rw[ah hb] at e;refine(I.aT b u e).uA (fun c v HF q=>k c v ?_ q) (fun c q=>by rw[ah (aj q nT)];exact q) fun c xs q=>by rw[ah (aj q nT)];exact q
     rcases HF with z | z
     . rw[z];exact DW b u e
     . exact DW c _ z
noncomputable def Ml(K:PySem.W.Frag)(a:Addr)(k:Nat):It:=
 ⟨fun i H=> ∃xs x,eV K H a xs/\xs[i]?=some x,fun i H x H'=> ∃p y,x= .ref p/\H p=none/\H'=upd H p (.tup [.int ((i+k:Nat):Int),y])/\ ∀xs,eV K H a xs->xs[i]?=some y,fun i H=> ∃xs,eV K H a xs/\xs.length=i⟩
theorem yb{P:Program}{w:World}{K:PySem.W.Frag}{es:List Expr}{x1}{tp:Pos}(a e it:Addr)(k:Nat)(Sh:e≠it):
  Turn P w K (.Tuple es x1 tp) (Ml K a k) [e,it] e (fun i h=>(∃old,IsEnum h e it ((i+k:Nat):Int) old)/\h.IsTupleIter it a i) where
 mem:=by simp
 obj:=fun i h st b hb=>by
  obtain⟨⟨old,rN⟩,gg⟩:=st;rcases ZS.mp hb with q | q
  . subst q;exact⟨_,rN,fun v z=>nomatch (show Data.fields _=Data.cell v from z)⟩
  . have q:b=it:=by simpa using q
    subst q;obtain⟨o,q1,q2,q3⟩:=gg;exact⟨o,q1,fun v z=>by rw[q3] at z;cases z⟩
 keep:=fun i h h' st kk=>by
  obtain⟨⟨old,rN⟩,gg⟩:=st;exact⟨⟨old,kk e (by simp) _ rN⟩,gg.at fun o q=>kk it (by simp) o q⟩
 item:=by
  intro X hP hw hK hc i pins s σ H E I hf st hg;subst hP hw hK;obtain⟨xs,x,hq,hx⟩:=hg;obtain⟨ao,rv,p,hz⟩:=I.tuple hq;obtain⟨u,hu,ru⟩:=rv.get hx;obtain⟨⟨old,rN⟩,gg⟩:=st;have ha: ∃o,s.heap.get? a=some o:=let ⟨o,q,_⟩:=p;⟨o,q⟩;have Xa:a≠e:=by
   rintro rfl
   obtain⟨o,q1,q2,_⟩:=p;rw[rN] at q1;cases q1;injection q2 with z;exact absurd z (by decide)
  have Sn:a≠it:=by
   rintro rfl
   obtain⟨o,q1,q2,_⟩:=p;obtain⟨o',r1,r2,_⟩:=gg;rw[r1] at q1;cases q1;rw[r2] at q2;injection q2 with z;exact absurd z (by decide)
  have D:=tI (prog:=X.prog) (w:=X.w) (A:=X.A.in1) (I.ok.hd hc) it a Sn ao.toArray k;have hlen:i < ao.length:=(Zq.mp hu).1;refine wpAny_pyNext_enum_itemD D rN ⟨by lia,by rw[show i+k - k=i by lia];exact gg,p⟩ (by simp;lia) Sh (by simp [Sh,Ne.symm Xa]) fun y h' tk hy ho Ck ht hsz hk=>?_;obtain⟨_,hy⟩:=hy;rw[show i+k - k=i by lia] at hy;have ey:y=u:=by
   have:ao[i]?=some y:=by simpa using hy
   rw[hu] at this;cases this;rfl
  subst ey;refine⟨_,rfl,?_⟩;refine wpAny_letOwnedTupleGo_enum ho fun h2 W5 Q3=>?_;have N7:e < s.heap.objs.size:=ZD rN;have NZ:it < s.heap.objs.size:=let ⟨o,q,_⟩:=gg;ZD q;have I1:Inv X pins σ (upd H s.heap.objs.size (.tup [.int ((i+k:Nat):Int),x])) {s with heap:=h2,toks:=tk+1}:=by
   refine I.oj (ch:= [e,it]) hf (Zj _) (fun b o hb q=>?_) ⟨by show 2<=sizeLine;decide,[.int ((i+k:Nat):Int) tk,y],.cons ⟨_,rfl⟩ (.cons ru .nil),?_⟩
   . have h1:b≠e:=fun z=>hb (by simp [z]);have qS:b≠it:=fun z=>hb (by simp [z]);exact(Q3.2 b h1).trans (hk b o h1 qS q)
   . exact⟨_,(Q3.2 _ (aj0 N7)).trans ht,rfl,rfl,_,rfl⟩
  refine⟨.ref s.heap.objs.size,_,I1,rfl,⟨_,x,rfl,I.aT.fresh (Zj _),rfl,fun ys hy=>by rw[I.yc hy hq];exact hx⟩,⟨⟨y,?_⟩,?_⟩,fun b hb=>?_⟩
  . rw[show((i+1+k:Nat):Int)=((i+k:Nat):Int)+1 by lia];exact W5
  . obtain⟨_,q,_⟩:=Ck;rw[show i+k+1 - k=i+1 by lia] at q;exact q.at fun o z=>(Q3.2 it (Ne.symm Sh)).trans z
  . rw[ah (fun z=>?_)]
    . exact(hf b hb).1
    . rcases ZS.mp hb with q | q
      . subst q;exact absurd (z▸N7) (Z7 _)
      . have q:b=it:=by simpa using q
        subst q;exact absurd (z▸NZ) (Z7 _)
 done:=by
  intro X hP hw hK hc i pins s σ H E I hf st hg;subst hP hw hK;obtain⟨xs,hq,hx⟩:=hg;obtain⟨ao,rv,p,hz⟩:=I.tuple hq;obtain⟨⟨old,rN⟩,gg⟩:=st;have Sn:a≠it:=by
   rintro rfl
   obtain⟨o,q1,q2,_⟩:=p;obtain⟨o',r1,r2,_⟩:=gg;rw[r1] at q1;cases q1;rw[r2] at q2;injection q2 with z;exact absurd z (by decide)
  have hl:=rv.length;have D:=tI (prog:=X.prog) (w:=X.w) (A:=X.A.in1) (I.ok.hd hc) it a Sn ao.toArray k;obtain⟨f0,f1,f2,f3,f4,f5⟩:=hf it (by simp);refine wpAny_pyNext_enum_endD D rN ⟨by simp,?_,p⟩ fun h' eb=>⟨rfl,I.turned (t':=s.toks) (fun b o hb q=>eb b o hb q) f0 f1 f3 f4 f5⟩
  rw[show ao.toArray.size+k - k=i by simp;lia];exact gg
 self:=fun A i s Q E st h=>by
  obtain⟨⟨old,rN⟩,_⟩:=st;exact wpAny_pyIter_enum rN h
end
section
variable{X:Cx}{tg:Expr}{a b:Expr}{ta tb:TE}{pos:Pos}
def NO(K:PySem.W.Frag)(k:Nat)(ta:TA):TI:=fun σ H R=>ta σ H fun vs H1=> ∃a,vs= [.ref a]/\(∃xs,eV K H1 a xs)/\R (Ml K a k) H1
def Kr(K:PySem.W.Frag)(ta:TA)(tk:TA):TI:=fun σ H R=>ta σ H fun vs H1=>tk σ H1 fun zs H2=> ∃a,vs= [.ref a]/\zs= [.int 1]/\(∃xs,eV K H2 a xs)/\R (Ml K a 1) H2
theorem kd{x1}{k:Nat}(I:Inv X pins σ H s)(q:R (Ml X.K p k) H):
  wpAny (model X.prog X.w) X.A (pyIter (.ref (s.heap.push {cls:= .type "tuple_iterator",data:= .fields #[.ref p,.int 0 0]}).objs.size)) (Qb X pins σ (.Tuple es x1 tp) R) E {s with heap:=jj s.heap p k,toks:=tk}:=by
 have z:(s.heap.push {cls:= .type "tuple_iterator",data:= .fields #[.ref p,.int 0 0]}).objs.size=s.heap.objs.size+1:=ab2 ..;have he:IsEnum (jj s.heap p k) (s.heap.objs.size+1) s.heap.objs.size k .none:=by
  have:=Zs (s.heap.push {cls:= .type "tuple_iterator",data:= .fields #[.ref p,.int 0 0]}) (o:={cls:= .type "enumerate",data:= .fields #[.none,.bool false,.ref s.heap.objs.size,rawInt k,.none,.none]}) rfl;rw[z] at this;exact this
 have hi:(jj s.heap p k).IsTupleIter s.heap.objs.size p 0:=⟨_,Zh _ (Zs _ rfl),rfl,rfl⟩
 rw[z];refine wpAny_pyIter_enum he ?_;refine⟨s.heap.objs.size+1,[s.heap.objs.size+1,s.heap.objs.size],_,Ml X.K p k,H,rfl,I.kept fun c o e=>Zh _ (Zh _ e),yb p _ _ k (Nat.succ_ne_self _),⟨⟨.none,?_⟩,hi⟩,fun c hc=>?_,q⟩
 . rw[Nat.zero_add];exact he
 . have hle : s.heap.objs.size <= c := by
     rcases ZS.mp hc with q | q
     . rw[q];exact ao7 _
     . have q:c=s.heap.objs.size:=by simpa using q
       rw[q];exact Zj _
   exact I.vn hle (I.aT.fresh hle)
theorem Bp{x1}(hg:Gl X "enumerate")(hm:X.mg "enumerate"=none)(ha:PA X [e] t)(hs:starEach [e] X.env= [(false,eval e X.env)]:=by rfl):
  PI X (.Tuple es x1 tp) (.Call (.Name "enumerate" p) [e] [] pos) (NO X.K 0 t):=by
 intro pins s σ H R I h;refine Call_ (cE I hg hm boot_enumerate (ac3 (aP (ha pos pins s σ H _ I h) fun us s1 cw=>?_) hs rfl));obtain⟨vs,H1,I1,r1,q1⟩:=cw;obtain⟨p,rfl,⟨xs,hq⟩,q⟩:=q1;obtain⟨u,rfl,ru⟩:=vals1 r1;cases ru;obtain⟨ao,rv,pt,hz⟩:=I1.tuple hq;exact m4 F.called_enumerate (by decide) (F.typeCall_enumerate_1 _) (F.newCall_enumerate_1 _) (fun obj=>F.args_object_init_2 obj _) F.entry_enumerate_new (CK p) ⟨⟨_,pt⟩,⟨_,Zs _ rfl,rfl⟩,kd (k:=0) I1 q⟩
theorem ze(a b:Value):checkTypeCall "enumerate" ⟨[a],[("start",b)]⟩=pure ():=by kernel_rfl
theorem zf(a b:Value):checkBuiltinCall "enumerate.__new__" ⟨[.type "enumerate",a],[("start",b)]⟩=pure ():=by kernel_rfl
theorem BP(a b c:Value):argsOk "object.__init__" ⟨[a,b],[("start",c)]⟩:=by unfold argsOk;kernel_rfl
theorem n4{M:Model}{A:Around}{E:Value->Shared->Prop}{s:Shared}{env:Env}{pos:Pos}{T:String}{Q:Value->Shared->Prop}{e:Expr}{rest:List Expr}(h:wpAny M A (spliced (backTo pos (starEach (e::rest) env))) (fun vs z=>wpAny M A (evalAll ((backToKw pos (keywordEach j7 env)).map (·.2))) (fun ks z2=>wpAny M A (call (.type T) vs (((backToKw pos (keywordEach j7 env)).filterMap (·.1)).zip ks)) Q E z2) E z) E s)(k1:backTo pos (starEach (e::rest) env)=(false,eval e env)::backTo pos (starEach rest env):=by rfl)(k2:(backTo pos (starEach (e::rest) env)).any (·.1)=false:=by rfl)(k3:(backToKw pos (keywordEach j7 env)).all (·.1.isSome)=true:=by rfl)(k4:(backToKw pos (keywordEach j7 env)).any (·.1.isNone)=false:=by rfl):
  wpAny M A (callWith pos (.type T) [] (backTo pos (starEach (e::rest) env)) (backToKw pos (keywordEach j7 env))) Q E s:=by
 have g:wpAny M A (evalArgs (.type T) true (backTo pos (starEach (e::rest) env)) (backToKw pos (keywordEach j7 env))) (fun a z=>wpAny M A (call (.type T) ([]++a.pos) a.kw) Q E z) E s:=by
  rw[k1] at h ⊢;exact evalArgs_kwB k3 h
 unfold callWith;refine Zd (aa9 (ZU g (fun a z gz=>Zd (ab6 ?_)) fun _ _ x=>x));simp only [k2,k4,Bool.or_false];exact Zd (Zf (Zd (ZU gz (fun r z2 hr=>Zd (aa9 (wpAny_point (Zf hr)))) fun _ _ x=>x)))
theorem Bo{x1}(hg:Gl X "enumerate")(hm:X.mg "enumerate"=none)(ha:PA X [e] t)(hk:PK X j7 tk)(FV:(backToKw pos (keywordEach j7 X.env)).filterMap (·.1)=(["start"]:List Str):=by rfl)(k1:backTo pos (starEach [e] X.env)=(false,eval e X.env)::backTo pos (starEach [] X.env):=by rfl)(k2:(backTo pos (starEach [e] X.env)).any (·.1)=false:=by rfl)(k3:(backToKw pos (keywordEach j7 X.env)).all (·.1.isSome)=true:=by rfl)(k4:(backToKw pos (keywordEach j7 X.env)).any (·.1.isNone)=false:=by rfl):
  PI X (.Tuple es x1 tp) (.Call (.Name "enumerate" p) [e] j7 pos) (Kr X.K t tk):=by
 intro pins s σ H R I h;refine af7 (cE I hg hm boot_enumerate (n4 (aP (ha pos pins s σ H _ I h) fun us s1 kZ=>?_) k1 k2 k3 k4));obtain⟨vs,H1,I1,r1,q1⟩:=kZ;refine aP (hk pos pins s1 σ H1 _ I1 q1) fun ws s2 kj=>?_;obtain⟨zs,H2,I2,rz,q2⟩:=kj;obtain⟨p,rfl,rfl,⟨xs,hq⟩,q⟩:=q2;obtain⟨u,rfl,ru⟩:=vals1 r1;cases ru;obtain⟨u2,rfl,⟨DX,rfl⟩⟩:=vals1 rz;obtain⟨ao,rv,pt,hz⟩:=I2.tuple hq;rw[FV];exact m4 F.called_enumerate (by decide) (ze _ _) (zf _ _) (fun obj=>BP obj _ _) F.entry_enumerate_new (CJ p DX) ⟨⟨_,pt⟩,⟨_,Zs _ rfl,rfl⟩,kd (k:=1) I2 q⟩
def EN(K:PySem.W.Frag):R2:=fun x y H Q=> ∃p q xs,x= .ref p/\y= .ref q/\cX K H p xs/\cX K H q []/\Q (.bl xs.isEmpty) H
def wG(K:PySem.W.Frag):R2:=fun x y H Q=> ∃p q xs,x= .ref p/\y= .ref q/\cX K H p xs/\cX K H q []/\Q (.bl (!xs.isEmpty)) H
theorem yu(hu:X.A.units < cLine):jA X (compareOp .Eq) (EN X.K):=by
 intro pins s σ H x y v u Q I rx ry h;obtain⟨p,q,xs,rfl,rfl,h1,h2,hq⟩:=h;cases rx;cases ry;obtain⟨ao,rv,pl,_⟩:=I.list h1;obtain⟨cJ,zN,Hg,_⟩:=I.list h2;cases zN;cases rv with
 | nil=>exact SeqAt.eq_listAt (e:=fun _=>true) pl.isList Hg.isList rfl hu (fun j h1 _=>absurd h1 (by simp)) ⟨.bl true,H,I,rfl,hq⟩
 | cons r rr=>exact SeqAt.eq_list_lengthsAt pl.isList Hg.isList (by simp) hu ⟨.bl false,H,I,rfl,hq⟩
def Pn(i j:Int):Prop:=0 < j/\j < 2^64
theorem Rt(h1:0 < j)(h2:j < 2^64):Builtin.divisionGoesByPylong i j=false:=by
 have e:j.natAbs < 2^64:=by lia
 have l:j.natAbs.log2 < 64:=by
  rw[Nat.log2_lt (by lia)];exact e
 unfold Builtin.divisionGoesByPylong;have: ¬(if (j==0)=true then 0 else j.natAbs.log2 / 30+1) > 300:=by
  split <;> lia
 simp only [ZO this,Bool.false_and]
theorem jy:eB X (.builtin "divmod") (fun xs H Q=> ∃i j,xs= [.int i,.int j]/\Pn i j/\ ∀p,H p=none->Q (.ref p) (upd H p (.tup [.int (i / j),.int (i % j)]))):=by
 intro pins s σ H xs us Q I r h;obtain⟨i,j,rfl,⟨h1,h2⟩,q⟩:=h;obtain⟨u,u2,rfl,⟨t,rfl⟩,⟨t',rfl⟩⟩:=vals2 r;refine divmod_int (by lia) ?_ (.inl (Rt h1 h2));rw[Int.fdiv_eq_ediv_of_nonneg i (by lia),Int.fmod_eq_emod_of_nonneg i (by lia)];refine⟨.ref s.heap.objs.size,_,I.laid (o:= .tup [.int (i / j),.int (i % j)]) (fun b o e=>Zh _ e) (Zj _) ⟨by show 2<=sizeLine;decide,[.int (i / j) s.toks,.int (i % j) (s.toks+1)],.cons ⟨_,rfl⟩ (.cons ⟨_,rfl⟩ .nil),_,Zs s.heap rfl,rfl,rfl,0,rfl⟩,rfl,q _ (I.aT.fresh (Zj _))⟩
noncomputable def sR(T:String)(H:Hp):V->Option Bool
 | .aN=>some false
 | .bl _=>some (T=="bool" || T=="int")
 | .int _=>some (T=="int")
 | .str _=>some (T=="str")
 | .ref a=>match H a with
  | some (.lst _)=>some (T=="list")
  | some (.tup _)=>some (T=="tuple")
  | _=>none
 | _=>none
theorem Ko(hT:T="int"\/T="bool"\/T="tuple"\/T="list"\/T="str"):eB X (.builtin "isinstance") (fun xs H Q=> ∃x b,xs= [x,.ty T]/\sR T H x=some b/\Q (.bl b) H):=by
 intro pins s σ H xs us Q I r h;obtain⟨x,b,rfl,e,q⟩:=h;obtain⟨u,u2,rfl,ru,MT⟩:=vals2 r;cases (show u2=Value.type T from MT);have fin: ∀tk:Nat,EP X pins σ Q (.bool b) {s with toks:=tk}:=fun tk=>⟨.bl b,H,I.tok _,rfl,q⟩
 cases x with
 | aN=>cases e;rcases hT with rfl | rfl | rfl | rfl | rfl <;> exact dH I ru .aN rfl fin
 | bl y=>cases e;rcases hT with rfl | rfl | rfl | rfl | rfl <;> exact dH I ru (.bl y) rfl fin
 | int y=>cases e;rcases hT with rfl | rfl | rfl | rfl | rfl <;> exact dH I ru (.int y) rfl fin
 | str y=>cases e;rcases hT with rfl | rfl | rfl | rfl | rfl <;> exact dH I ru (.str y) rfl fin
 | ref a=>
  cases ha:H a with
  | none=>simp only [sR,ha] at e;cases e
  | some o=>
   cases o with
   | lst xs=>simp only [sR,ha] at e;cases e;rcases hT with rfl | rfl | rfl | rfl | rfl <;> exact dH I ru (.lst ha) rfl fin
   | tup xs=>simp only [sR,ha] at e;cases e;rcases hT with rfl | rfl | rfl | rfl | rfl <;> exact dH I ru (.tup ha) rfl fin
   | _=>simp only [sR,ha] at e;cases e
 | _=>cases e
end
inductive fT:List Value->List Bool->Prop
 | nil:fT [] []
 | cons (b:Bool) {vs:List Value} {bs:List Bool}:fT vs bs->fT (.bool b::vs) (b::bs)
theorem fT.of: ∀{bs:List Bool} {us:List Value},Vals (bs.map V.bl) us->fT us bs
 | [],_,.nil=> .nil
 | b::bs,_,.cons r rr=>by
  cases (show _=Value.bool b from r);exact .cons b (fT.of rr)
theorem fT.get(h:fT vs bs): ∀(i:Nat) (v:Value),vs[i]?=some v-> ∃b,bs[i]?=some b/\v= .bool b:=by
 induction h with
 | nil=>intro i v e;simp at e
 | cons b _ ih=>
  intro i v e;cases i with
  | zero=>simp at e;subst e;exact⟨b,rfl,rfl⟩
  | succ i=>simpa using ih i v (by simpa using e)
theorem Ba(bs:List Bool):((List.range bs.length).all fun i=>(bs[i]?).getD true)=bs.all id:=by
 rw[ah9,Z4,Z4];constructor
 . intro h b hb;obtain⟨i,hi,e⟩:=aa5 hb;have:=h i (ad3.mpr hi);simp only [Zg hi,al6,e] at this;exact this
 . intro h i hi;have nD:=ad3.mp hi;simp only [Zg nD,al6];exact h _ (ae9 nD)
theorem Dl{X:Cx}(hc:X.calm=true):eB X (.builtin "all") (fun xs H Q=> ∃a bs,xs= [.ref a]/\cX X.K H a (List.map V.bl bs)/\Q (.bl (bs.all id)) H):=by
 intro pins s σ H xs us Q I r h;obtain⟨a,bs,rfl,hq,q⟩:=h;obtain⟨u,rfl,ru⟩:=vals1 r;cases ru;obtain⟨ao,rv,pl,_⟩:=I.list hq;have hl:=pl.isList;have hb:=fT.of rv;have hlen:ao.length=bs.length:=by rw[<-rv.length,Ze]
 have dX:a < s.heap.objs.size:=by obtain⟨_,e,_⟩:=hl;exact ZD e
 refine call_all_walk (ai1 hl ?_);refine⟨s.heap.objs.size,[s.heap.objs.size,a],[s.heap.objs.size],ao.toArray.size,_,_,fun i=>(bs[i]?).getD true,rfl,Walks.list (A:=X.A.in1) (I.ok.hd hc) _ a (ZY dX) ao.toArray,
  ⟨⟨_,Zs _ rfl,rfl,rfl⟩,hl.push _⟩,fun i v s' Q' E' hP hQ=>?_,fun h' tk hk=>?_⟩
 . obtain⟨b,e,rfl⟩:=hb.get i v (by simpa using hP);simp only [e,al6] at hQ;exact af3 hQ
 . have e : ((List.range ao.toArray.size).all fun i => (bs[i]?).getD true) = bs.all id := by
     rw[ZC,hlen];exact Ba bs
   rw[e];exact⟨.bl (bs.all id),H,I.kept fun b x e=>hk b x (fun hm=>by rw[Zl.mp hm] at e;exact Z7 _ (ZD e)) (Zh _ e),rfl,q⟩
end L2
namespace L2
open PySem PySem.Spec PyProof.Rows HT
def tZ(H:Hp)(zs:List V)(p:Addr)(H':Hp):Prop:=(H'=H/\H p=some (.tup zs))\/(H p=none/\H'=upd H p (.tup zs))
theorem tZ.at(h:tZ H zs p H'):H' p=some (.tup zs):=by
 rcases h with ⟨rfl,h⟩ | ⟨_,rfl⟩
 . exact h
 . exact ag
theorem tZ.keep(h:tZ H zs p H'):aD H H':=by
 rcases h with ⟨rfl,h⟩ | ⟨h,rfl⟩
 . exact fun _ _ e=>e
 . exact fun b o e=>by rw[ah (aj e h)];exact e
theorem Di{vs ws:List Value}(ht:IsTup s.heap t vs.toArray)(hb:IsTup s.heap b ws.toArray)(hv:vs= [])(h:Q (.ref b) s):wpAny (model prog w) A (binaryOp .Add (.ref t) (.ref b)) Q E s:=by
 obtain⟨⟨c1,d1,t1,l1⟩,a1,a2,n1,a3⟩:=id ht;obtain⟨⟨c2,d2,t2,l2⟩,b1,b2,n2,b3⟩:=id hb;simp only at a2 a3 b2 b3;subst a2 a3 b2 b3;exact concat_meets ⟨_,a1,rfl⟩ ⟨_,b1,rfl⟩ noFill_tuple_add seq_tuple_add PySem.F.slot_tuple_add ao0 (an4 _ _) (tuple_addW0 t b vs.toArray ws.toArray n1 n2 d1 d2 l1 l2 (by simp [hv])) ⟨a1,b1,h⟩
theorem jf{t sl:Addr}{items:Array Value}{vl vu:Value}{lo hi:Option Int}(ht:IsTup s.heap t items)(hs:s.heap.IsSliceOf sl vl vu .none)(pl:IsPart vl lo)(pu:IsPart vu hi)(hw:cB items.size 0 lo=0/\cB items.size items.size hi=items.size)(h:Q (.ref t) s):wpAny (model prog w) A (getItem (.ref t) (.ref sl)) Q E s:=by
 obtain⟨os,Kv,PZ,KO⟩:=id hs;have Ss:s.TypeIs (.ref sl) "slice":=⟨os,Kv,PZ⟩
 unfold getItem;try with_reducible refine aa9 ?_
 first | refine Zd (Zf ?_) | skip
 refine Zd (wpAny_sequenceKey ht.typeIs (by decide) ?_);refine Zd (ac6 (name:=Str.ofString "__getitem__") ht.typeIs ag3
  (ab4 ag3 ht.typeIs entry_tuple_getitem ?_ (args_tuple_getitem _ _)))
 show wpAny _ _ (Builtin.Tuple.tupleItemsOf (.ref t) >>=_) _ _ s;refine Zd (tupleItemsOf_ ht ?_);refine Zd (wpAny_typeOf Ss ?_);rw[if_pos (by decide)];refine Zd (eY hs pl pu ?_);rw[hw.1,hw.2];obtain⟨ob,k1,k2,k3⟩:=id ht;show wpAny _ _ (if (((0:Nat):Int)==0 && (1:Int)==1 && (items.size - 0)==items.size)=true then _ else _) _ _ s;rw[if_pos (by simp)];wp_walk using AutoSeq1.wpAny_loadPart' k1
 all_goals exact⟨_,rfl,Zf h⟩
section
variable{X:Cx}{e:Expr}{te:TE}{pos p2:Pos}
def He:R2:=fun x y H Q=> ∃a b xs ys,x= .ref a/\y= .ref b/\H a=some (.tup xs)/\H b=some (.tup ys)/\xs.length+ys.length<=sizeLine/\ ∀p H',tZ H (xs++ys) p H'->Q (.ref p) H'
theorem Fi:jA X (binaryOp .Add) He:=by
 intro pins s σ H x y v u Q I rx ry h;obtain⟨a,b,xs,ys,rfl,rfl,h1,h2,hz,q⟩:=h;cases rx;cases ry;obtain⟨ao,r1,p1,_⟩:=I.tuple (eV.of h1);obtain⟨cJ,r2,p2,_⟩:=I.tuple (eV.of h2);by_cases e1:ao= []
 . have ex:xs= []:=r1.p4.mp e1;refine Di p1 p2 e1 ⟨.ref b,H,I,rfl,q b H (.inl ⟨rfl,?_⟩)⟩;rw[ex];exact h2
 . refine GF p1 p2 e1 (fun e2=>⟨.ref a,H,I,rfl,q a H (.inl ⟨rfl,?_⟩)⟩) (fun e2=>?_) (by rw[<-r1.length,<-r2.length];exact hz)
   . have ey:ys= []:=r2.p4.mp e2;rw[ey,ab8];exact h1
   . refine⟨.ref s.heap.objs.size,_,I.laid (t':=s.toks) (o:= .tup (xs++ys)) (fun b ob q=>Zh _ q) (Zj _) ⟨by rw[Zy];exact hz,_,r1.append r2,nz.new _ _⟩,rfl,q _ _ (.inr ⟨I.aT.fresh (Zj _),rfl⟩)⟩
def Rg:V->Option Int->Option Int->Hp->VK->Prop:=fun x lo hi H Q=> ∃a xs,x= .ref a/\H a=some (.tup xs)/\ ∀p H',tZ H (mT xs lo hi) p H'->Q (.ref p) H'
theorem Eu:n8 X Rg:=by
 intro pins s σ H x v vl vu lo hi sl Q I rx hs pl pu h;obtain⟨a,xs,rfl,hx,q⟩:=h;cases rx;obtain⟨ao,r,ht,hz⟩:=I.tuple (eV.of hx);have hlen:ao.toArray.size=xs.length:=by rw[ZC];exact r.length.symm
 refine⟨"tuple",_,PyProof.Rows.slot_tuple_getitem.lookup,ht.typeIs,?_⟩;by_cases hw:cB xs.length 0 lo=0/\cB xs.length xs.length hi=xs.length
 . refine jf ht hs pl pu (by rw[hlen];exact hw) ⟨.ref a,H,I,rfl,q a H (.inl ⟨rfl,?_⟩)⟩;unfold mT;rw[hw.1,hw.2,an8,am9,ad9];exact hx
 . refine HT.je ht hs pl pu (by rw[hlen];exact hw) ?_ (by rw[hlen];exact hz);rw[hlen];refine⟨.ref s.heap.objs.size,_,I.laid (t':=s.toks) (o:= .tup (mT xs lo hi)) (fun b ob q=>Zh _ q) (Zj _) ?_,rfl,q _ _ (.inr ⟨I.aT.fresh (Zj _),rfl⟩)⟩;exact⟨ZE (kg xs lo hi) hz,_,(r.drop (HT.cB xs.length 0 lo)).take (HT.cB xs.length xs.length hi - HT.cB xs.length 0 lo),nz.new _ _⟩
end
end L2
namespace L2
open PySem PySem.Spec PyProof.Rows
theorem GK(h:0<=i)(e:xs[i.toNat]?=some v):iK xs i=some v:=by
 have:i=((i.toNat:Nat):Int):=by lia
 rw[this];exact a0 e
theorem FK{n:Nat}{i:Int}(h:0<=i)(hl:i < n):w9 n i=some i.toNat:=by
 unfold w9;rw[if_pos h,if_pos hl]
def gk(P:Program)(w:World)(K:PySem.W.Frag)(mg:Str->Option Value)(base:Heap)(x:Str)(k:Nat)(ps:List Str)(sp:Sp):Prop:=
 ∃f fd,mg x=some (.ref f)/\PySem.W.keepIn K (.ref f)=true/\Binds K fd ps []/\aY P w K mg base eC k f fd ps sp
theorem pW{X:Cx}(h:gk X.prog X.w X.K X.mg X.base x k ps sp)(hr:bT k X.A)(hg:Gl X x)(ha:PA X (e::es) t)(nO:(x==("__debug__":Str))=false:=by decide)(he:starEach (e::es) X.env=(false,eval e X.env)::starEach es X.env:=by rfl)(dq:(backTo pos (starEach es X.env)).any (·.1)=false:=by rfl):
  PE X (.Call (.Name x p) (e::es) [] pos) (AD sp [] E0 t):=by
 obtain⟨f,fd,h1,h2,h3,h4⟩:=h;exact Fd h4 hr hg h1 h2 h3 .nil Hj ha nO he dq
end L2
namespace LB
open PySem L2 PyProof.Rows
theorem jT:bootBuiltins "int"=some (.type "int"):=by decide+kernel
theorem bM:bootBuiltins "tuple"=some (.type "tuple"):=by decide+kernel
theorem cU:bootBuiltins "bool"=some (.type "bool"):=by decide+kernel
theorem fB:bootBuiltins "str"=some (.type "str"):=by decide+kernel
theorem zw:bootBuiltins "sum"=some (.builtin "sum"):=by decide+kernel
theorem bN:bootBuiltins "list"=some (.type "list"):=by decide+kernel
theorem qE:bootBuiltins "divmod"=some (.builtin "divmod"):=by decide+kernel
theorem RB: ¬(("cells":Str)="turn"):=by decide+kernel
noncomputable def bx(c:Addr)(t:Int):List (Key × V):= [(Sum.inr "cells",.ref c),(Sum.inr "turn",.int t)]
theorem tT(c:Addr)(t:Int):fH (bx c t) (Sum.inr "cells":Key)=some (.ref c):=by
 simp [fH,bx]
theorem GG(c:Addr)(t:Int):fH (bx c t) (Sum.inr "turn":Key)=some (.int t):=by
 simp [fH,bx,RB]
theorem LC(c:Addr)(t u:Int):putK (bx c t) (Sum.inr "turn":Key) (.int u)=bx c u:=by
 simp [putK,bx,RB]
structure vX(H:Hp)(d c:Addr)(t:Int):Prop where
 dc:H d=some (.dK (bx c t))
 cs: ∃ns:List Int,H c=some (.lst (ns.map V.int))/\0 < ns.length/\ns.length<=63
 t0:0<=t
 t1:t<=1000000
theorem vX.ne(b:vX H d c t):d≠c:=let ⟨_,h,_⟩:=b.cs;wU b.dc h (by intro z;cases z)
def Kp(d c:Addr)(H H':Hp):Prop:= ∀b o,H b=some o->b≠d->b≠c->H' b=some o
theorem vX.same(b:vX H d c t)(s:aD H H'):vX H' d c t:=⟨s _ _ b.dc,let ⟨ns,h,r⟩:=b.cs;⟨ns,s _ _ h,r⟩,b.t0,b.t1⟩
def AH:Sp:=fun vs H Q _=> ∃(d c:Addr) (t m:Int),vs= [.ref d,.int m]/\vX H d c t/\t < 1000000/\0 < m/\m < 2^64/\ ∀(r:Int) (H':Hp),0<=r->r < m->vX H' d c (t+1)->Kp d c H H'->Q (.int r) H'
def pD(K:PySem.W.Frag):Sp:=fun vs H Q _=> ∃(a:Addr) (ns:List Int),vs= [.ref a]/\cX K H a (ns.map V.int)/\ns.length<=63/\ ∀(d c:Addr) (H':Hp),vX H' d c 0->aD H H'->Q (.ref d) H'
theorem aD.new(h:H p=none):aD H (upd H p o):=fun b u e=>by rw[ah (aj e h)];exact e
end LB
namespace L2
open PySem PySem.Spec PyProof.Rows
theorem Dj(hc:X.calm=true):eB X (.builtin "sum") (fun xs H Q=> ∃a ns,xs= [.ref a]/\cX X.K H a (List.map V.int ns)/\Q (.int ns.sum) H):=by
 intro pins s σ H xs us Q I r h;obtain⟨a,ns,rfl,hq,q⟩:=h;obtain⟨u,rfl,ru⟩:=vals1 r;cases ru;obtain⟨ao,rv,pl,_⟩:=I.list hq;have hi:=intsAre_of rv;obtain⟨xs,hx⟩:=hi.allInts.items;have NW:s.heap.IsList a (intItems xs):=hx▸pl.isList;refine sum_intListG (I.ok.hd hc) NW fun h' tk t' hk=>?_;have e1:ns=xs.toList.map (·.1):=by
  rw[<-nums_intItems,<-hx];exact(show numsOf ao.toArray.toList=ns from hi.numsOf).symm
 have e2:preSum (numAt xs) xs.size=ns.sum:=by
  rw[preSum_eq,List.take_of_length_le (by simp),e1]
 rw[e2];exact⟨.int ns.sum,H,I.kept hk,⟨_,rfl⟩,q⟩
theorem rA: ∀{xs:List V} {us:List Value},xs.length=us.length->(∀(j:Nat) x u,xs[j]?=some x->us[j]?=some u->RelV x u)->Vals xs us
 | [],[],_,_=> .nil
 | [],_::_,h,_=>by simp at h
 | _::_,[],h,_=>by simp at h
 | x::xs,u::us,h,r=> .cons (r 0 x u rfl rfl) (rA (by simpa using h) fun j y v h1 h2=>r (j+1) y v (by simpa using h1) (by simpa using h2))
def V0(ta:TA):TE:=fun σ H Q=>ta σ H fun vs H1=> ∃(i:Int) (n:Nat),vs= [.int i,.int (i+n)]/\ -(2^61)<=i/\i < 2^61/\n<=1000/\ ∀p,H1 p=none->Q (.ref p) (upd H1 p (.lst ((List.range n).map fun k=>V.int (i+(k:Nat)))))
theorem Bv(hc:X.calm=true)(KG:Gl X "list")(FU:X.mg "list"=none)(sV:Gl X "range")(R1:X.mg "range"=none)(ha:PA X [a,b] ta)(Cj:starEach [.Call (.Name "range" p2) [a,b] [] pV] X.env= [(false,eval (.Call (.Name "range" p2) [a,b] [] pV) X.env)]:=by rfl)(hs:starEach [a,b] X.env= [(false,eval a X.env),(false,eval b X.env)]:=by rfl)(mB:starEach [b] X.env= [(false,eval b X.env)]:=by rfl):
  PE X (.Call (.Name "list" p) [.Call (.Name "range" p2) [a,b] [] pV] [] pos) (V0 ta):=by
 intro pins s σ H Q I h;refine Call_ (cE I KG FU LB.bN (ac3 ?_ Cj rfl));rw[Cj];show wpAny _ _ (spliced ((false,eval (.Call (.Name "range" p2) [a,b] [] pV) X.env)::backTo pos (starEach [] X.env))) _ _ s;refine ah6 (Call_ (cE I sV R1 boot_range (ac3 (aP (ha pV pins s σ H _ I h) fun us s1 cw=>?_) (by rw[hs,mB]) (by rw[mB];rfl))));obtain⟨vs,H1,I1,r1,q1⟩:=cw;obtain⟨i,n,rfl,h1,h2,hn,q⟩:=q1;obtain⟨u,u2,rfl,⟨t,rfl⟩,⟨t',rfl⟩⟩:=vals2 r1;refine call_range_2 (ao6 ?_);have sz:Builtin.Range.rangeSize i (i+n) 1=(n:Int):=by rw[rangeSize_one];split <;> lia
 refine call_list_range (n:=n) (I.ok.hd hc) (IsRange.new ..) (small_one (by lia) (by lia) (by lia) (by lia)) sz (ZE hn (by decide)) fun h' tk acc c' hk hS sZ=>?_;have I2:Inv X pins σ H1 {s1 with heap:=s1.heap.push {cls:= .type "range",data:= .fields #[.int i t,.int (i+n) t',.int 1 s1.toks]},toks:=s1.toks+1}:=I1.kept fun b o e=>Zh _ e;refine⟨.ref _,_,I2.laid (t':=tk) (o:= .lst ((List.range n).map fun k=>V.int (i+(k:Nat)))) hk (Zj _) ⟨by rw[Ze,ZN];exact ZE hn (by decide),acc.toList,c',?_,by simpa using hS⟩,rfl,q _ (I2.aT.fresh (Zj _))⟩;refine rA (by rw[Ze,ZN,Zv,sZ.1]) fun j x v hx hv=>?_;have hj:j < n:=by
  have:=(Zq.mp hx).1;rw[Ze,ZN] at this;exact this
 rw[Zo,ad0 hj] at hx;cases hx;obtain⟨t2,rfl⟩:=sZ.2 j v (by simpa using hv);exact⟨t2,by rw[Int.mul_one]⟩
section
variable{X:Cx}
def wD(K:PySem.W.Frag):R2:=fun x y H Q=> ∃p q xs,x= .ref p/\y= .ref q/\eV K H p xs/\eV K H q []/\Q (.bl (!xs.isEmpty)) H
theorem oE(hu:X.A.units < cLine):jA X (compareOp .NotEq) (wG X.K):=by
 intro pins s σ H x y v u Q I rx ry h;obtain⟨p,q,xs,rfl,rfl,h1,h2,hq⟩:=h;cases rx;cases ry;obtain⟨ao,rv,pl,_⟩:=I.list h1;obtain⟨cJ,zN,Hg,_⟩:=I.list h2;cases zN;cases rv with
 | nil=>exact SeqAt.RcNeAt.lists (e:=fun _=>true) pl.isList Hg.isList rfl hu (fun j h1 _=>absurd h1 (by simp)) _ _ _ _ ⟨.bl false,H,I,rfl,hq⟩
 | cons r rr=>exact SeqAt.RcNeAt.lists_lengths pl.isList Hg.isList (by simp) hu _ _ _ _ ⟨.bl true,H,I,rfl,hq⟩
theorem yr(hu:X.A.units < cLine):jA X (compareOp .NotEq) (wD X.K):=by
 intro pins s σ H x y v u Q I rx ry h;obtain⟨p,q,xs,rfl,rfl,h1,h2,hq⟩:=h;cases rx;cases ry;obtain⟨ao,rv,pl,_⟩:=I.tuple h1;obtain⟨cJ,zN,Hg,_⟩:=I.tuple h2;cases zN;cases rv with
 | nil=>exact SeqAt.RcNeAt.tuples (e:=fun _=>true) (show s.heap.IsTuple p _ from pl) (show s.heap.IsTuple q _ from Hg) hu (fun j h1 _=>absurd h1 (by simp)) _ _ _ _ ⟨.bl false,H,I,by simp [RelV],hq⟩
 | cons r rr=>exact SeqAt.RcNeAt.tuples (e:=fun _=>true) (show s.heap.IsTuple p _ from pl) (show s.heap.IsTuple q _ from Hg) hu (fun j _ h2=>absurd h2 (by simp)) _ _ _ _ ⟨.bl true,H,I,by simp [RelV],hq⟩
end
def nj(h:Heap)(it a:Addr)(xs:Array Value)(k:Nat):Prop:=(h.IsListIter it a k/\h.IsList a xs)\/(h.IsTupleIter it a k/\h.IsTuple a xs)
theorem nj.ext{h h':Heap}(z:nj h it a xs k)(e1: ∀o,h.get? it=some o->h'.get? it=some o)(e2: ∀o,h.get? a=some o->h'.get? a=some o):nj h' it a xs k:=by
 rcases z with ⟨z1,z2⟩ | ⟨z1,z2⟩
 . exact .inl ⟨let ⟨o,q,r⟩:=z1;⟨o,e1 o q,r⟩,let ⟨o,q,r⟩:=z2;⟨o,e2 o q,r⟩⟩
 . exact .inr ⟨let ⟨o,q,r⟩:=z1;⟨o,e1 o q,r⟩,let ⟨o,q,r⟩:=z2;⟨o,e2 o q,r⟩⟩
theorem uY(z:nj s.heap it a xs k)(xm:a≠it)(hy:xs[k]?=some y)(hQ: ∀h',nj h' it a xs (k+1)->Heap.SameBut it s.heap h'->Q y {s with heap:=h'}):wpAny (model prog w) A (Builtin.SmallTypes.nextOf (.ref it)) Q E s:=by
 rcases z with ⟨z1,z2⟩ | ⟨z1,z2⟩
 . exact wpAny_nextOf_list_item z1 z2 hy fun h' q sb=>hQ h' (.inl ⟨q,let ⟨o,e,r⟩:=z2;⟨o,(sb.2 a xm).trans e,r⟩⟩) sb
 . exact rF z1 z2 hy fun h' q sb=>hQ h' (.inr ⟨q,let ⟨o,e,r⟩:=z2;⟨o,(sb.2 a xm).trans e,r⟩⟩) sb
theorem BU(hh:A.handled=none)(z:nj s.heap it a xs k)(hy:xs[k]?=none)(hE: ∀h' e,Heap.ExtBut it s.heap h'->(∃o,h'.get? e=some o/\o.cls= .type "StopIteration")->E (.ref e) {s with heap:=h'}):wpAny (model prog w) A (Builtin.SmallTypes.nextOf (.ref it)) Q E s:=by
 rcases z with ⟨z1,z2⟩ | ⟨z1,z2⟩
 . exact wpAny_nextOf_list_end hh z1 z2 hy hE
 . exact rG hh z1 z2 hy hE
theorem xY{z TI TO i1 i2 l1 l2:Addr}{k1 k2:Nat}{xs ys:Array Value}{x y a b:Value}{Q:Value->Shared->Prop}(D:ZipApart z TI TO i1 i2 l1 l2)(hz:IsZip s.heap z TI TO .none)(KW:IsPair s.heap TI (.ref i1) (.ref i2))(KU:IsPair s.heap TO a b)
  (h1:nj s.heap i1 l1 xs k1) (h2:nj s.heap i2 l2 ys k2) (hx:xs[k1]?=some x) (hy:ys[k2]?=some y)
  (hQ: ∀h',IsZip h' z TI TO (rawInt s.heap.objs.size)->IsPair h' TO x y->nj h' i1 l1 xs (k1+1)->nj h' i2 l2 ys (k2+1)->IsPair h' s.heap.objs.size x y->h'.objs.size=s.heap.objs.size+1->
   (∀c o,c≠z->c≠TO->c≠i1->c≠i2->s.heap.get? c=some o->h'.get? c=some o)->Q (.ref s.heap.objs.size) {s with heap:=h'}):wpAny (model prog w) A (Builtin.«zip.__next__» ⟨[.ref z],[]⟩) (fun fin s'=> ∃v,fin= .done (.ret v)/\Q v s') E s:=by
 show wpAny _ _ (field (.ref z) 2 >>=_) _ _ _;refine Zd (ad5 hz rfl (x:= .bool false) rfl ?_);show wpAny _ _ (field (.ref z) 3 >>=_) _ _ _;refine Zd (ad5 hz rfl (x:= .ref TI) rfl ?_);refine Zd (ad2 KW rfl ?_);show wpAny _ _ (Builtin.SmallTypes.ownedTupleIsFree (.ref z) >>=_) _ _ _;refine Zd ?_;unfold Builtin.SmallTypes.ownedTupleIsFree;refine Zd (ad5 hz rfl (x:= .none) rfl (Zf ?_));simp only [al0];refine Zd (ad1 ?_);refine Zd (ad5 hz rfl (x:= .ref TO) rfl ?_);refine Zd (ah3 hz (by simp) fun h₁ j9 gS=>?_);replace j9:IsZip h₁ z TI TO .ellipsis:=j9;refine Zd ?_;simp only [List.zipIdx_cons,List.zipIdx_nil,ab7,ai9]
 refine Zd (Zd (wpAny_onRaise ?_));show wpAny _ _ (Builtin.SmallTypes.nextOf (.ref i1) >>=_) _ _ _;refine Zd (uY (h1.ext (fun o e=>gS.extBut _ _ D.i1z e) fun o e=>gS.extBut _ _ D.l1z e) D.l1i1 hx fun h₂ HG gR=>Zf ?_);have mF:IsPair h₂ TO a b:=gR.extBut _ _ D.TOi1 (gS.extBut _ _ D.TOz KU);refine Zd (ad2 mF rfl ?_);refine Zd (wpAny_updateSeq_pair mF fun h₃ qe gQ=>?_);replace qe:IsPair h₃ TO x b:=qe;refine Zd (am6 (Zf ?_));refine Zd (Zd (wpAny_onRaise ?_));show wpAny _ _ (Builtin.SmallTypes.nextOf (.ref i2) >>=_) _ _ _;have k3: ∀c o,c≠z->c≠i1->c≠TO->s.heap.get? c=some o->h₃.get? c=some o:=fun c o c1 c2 c3 e=>gQ.extBut _ _ c3 (gR.extBut _ _ c2 (gS.extBut _ _ c1 e));refine Zd (uY (h2.ext (fun o e=>k3 _ o D.i2z D.i12.symm D.TOi2.symm e) fun o e=>k3 _ o D.l2z D.l2i1 D.l2TO e) D.l2i2 hy fun h₄ N8 i9=>Zf ?_);have Cr:IsPair h₄ TO x b:=i9.extBut _ _ D.TOi2 qe;refine Zd (ad2 Cr rfl ?_);refine Zd (wpAny_updateSeq_pair Cr fun h₅ qd ir=>?_);replace qd:IsPair h₅ TO x y:=qd;refine Zd (am6 (Zf (Zf ?_)));refine Zd (ad2 qd rfl ?_);refine Zd (wpAny_newTuple ?_);have hsz:h₅.objs.size=s.heap.objs.size:=by rw[ir.1,i9.1,gQ.1,gR.1,gS.1]
 have k5: ∀c o,c≠z->c≠TO->c≠i1->c≠i2->s.heap.get? c=some o->h₅.get? c=some o:=fun c o c1 c2 c3 c4 e=>ir.extBut _ _ c2 (i9.extBut _ _ c4 (k3 c o c1 c3 c2 e));have Hy:IsZip h₅ z TI TO .ellipsis:=ir.extBut _ _ D.TOz.symm (i9.extBut _ _ D.i2z.symm (gQ.extBut _ _ D.TOz.symm (gR.extBut _ _ D.i1z.symm j9)));have f1:nj h₅ i1 l1 xs (k1+1):=HG.ext (fun o e=>ir.extBut _ _ D.TOi1.symm (i9.extBut _ _ D.i12 (gQ.extBut _ _ D.TOi1.symm e))) fun o e=>ir.extBut _ _ D.l1TO (i9.extBut _ _ D.l1i2 (gQ.extBut _ _ D.l1TO e));have f2:nj h₅ i2 l2 ys (k2+1):=N8.ext (fun o e=>ir.extBut _ _ D.TOi2.symm e) fun o e=>ir.extBut _ _ D.l2TO e;have Mr:z < h₅.objs.size:=ZD Hy;show wpAny _ _ (Builtin.SmallTypes.ownedTupleHandOut (.ref z) (.ref h₅.objs.size) >>=_) _ _ _;refine Zd ?_;unfold Builtin.SmallTypes.ownedTupleHandOut;have NP:IsZip (h₅.push {cls:= .type "tuple",data:= .seq #[x,y]}) z TI TO .ellipsis:=Zh _ Hy;refine Zd (ah3 NP (by simp) fun h₇ Cf Ci=>?_);replace Cf:IsZip h₇ z TI TO (rawInt h₅.objs.size):=Cf;refine ah3 Cf (by simp) fun h₈ xj Cg=>?_
 replace xj:IsZip h₈ z TI TO (rawInt h₅.objs.size):=xj
 have up: ∀c o,c≠z->h₅.get? c=some o->h₈.get? c=some o:=fun c o c1 e=>Cg.extBut _ _ c1 (Ci.extBut _ _ c1 (Zh _ e));have pT:IsPair h₈ h₅.objs.size x y:=Cg.extBut _ _ (aj0 Mr) (Ci.extBut _ _ (aj0 Mr) (Zs _ rfl));have s8:h₈.objs.size=h₅.objs.size+1:=by rw[Cg.1,Ci.1,ab2]
 rw[hsz] at xj pT s8;refine Zf ⟨_,rfl,?_⟩;show Q (.ref h₅.objs.size) _;rw[hsz];exact hQ h₈ xj (up _ _ D.TOz qd) (f1.ext (fun o e=>up _ o D.i1z e) fun o e=>up _ o D.l1z e) (f2.ext (fun o e=>up _ o D.i2z e) fun o e=>up _ o D.l2z e) pT s8 fun c o c1 c2 c3 c4 e=>up c o c1 (k5 c o c1 c2 c3 c4 e)
theorem xW{z TI TO i1 i2 l1 l2:Addr}{k1 k2:Nat}(hh:A.handled=none)(D:ZipApart z TI TO i1 i2 l1 l2)(hz:IsZip s.heap z TI TO .none)(KW:IsPair s.heap TI (.ref i1) (.ref i2))(KU:IsPair s.heap TO a b)(h1:nj s.heap i1 l1 xs k1)(h2:nj s.heap i2 l2 ys k2)(KN:xs[k1]?=none\/ys[k2]?=none)(hE: ∀h' e,(∀c o,c≠z->c≠TO->c≠i1->c≠i2->s.heap.get? c=some o->h'.get? c=some o)->(∃o,h'.get? e=some o/\o.cls= .type "StopIteration")->E (.ref e) {s with heap:=h'}):wpAny (model prog w) A (Builtin.«zip.__next__» ⟨[.ref z],[]⟩) Q E s:=by
 show wpAny _ _ (field (.ref z) 2 >>=_) _ _ _;refine Zd (ad5 hz rfl (x:= .bool false) rfl ?_);show wpAny _ _ (field (.ref z) 3 >>=_) _ _ _;refine Zd (ad5 hz rfl (x:= .ref TI) rfl ?_);refine Zd (ad2 KW rfl ?_);show wpAny _ _ (Builtin.SmallTypes.ownedTupleIsFree (.ref z) >>=_) _ _ _;refine Zd ?_;unfold Builtin.SmallTypes.ownedTupleIsFree;refine Zd (ad5 hz rfl (x:= .none) rfl (Zf ?_));simp only [al0];refine Zd (ad1 ?_);refine Zd (ad5 hz rfl (x:= .ref TO) rfl ?_);refine Zd (ah3 hz (by simp) fun h₁ j9 gS=>?_);replace j9:IsZip h₁ z TI TO .ellipsis:=j9;refine Zd ?_;simp only [List.zipIdx_cons,List.zipIdx_nil,ab7,ai9]
 refine Zd (Zd (wpAny_onRaise ?_));show wpAny _ _ (Builtin.SmallTypes.nextOf (.ref i1) >>=_) _ _ _;have g1:nj h₁ i1 l1 xs k1:=h1.ext (fun o e=>gS.extBut _ _ D.i1z e) fun o e=>gS.extBut _ _ D.l1z e;cases hx:xs[k1]? with
 | none=>
  refine Zd (BU hh g1 hx fun h₂ e gR he=>?_);obtain⟨oe,Kw,N4⟩:=he;have HA:IsZip h₂ z TI TO .ellipsis:=gR _ _ D.i1z.symm j9;have Sg:e≠z:=fun y=>by subst y;rw[HA] at Kw;cases Kw;simp at N4
  exact ah3 HA (by simp) fun h₃ _ gQ=>hE h₃ e (fun c o c1 _ c3 _ y=>gQ.extBut _ _ c1 (gR _ _ c3 (gS.extBut _ _ c1 y))) ⟨oe,gQ.extBut _ _ Sg Kw,N4⟩
 | some x=>
  have hy:ys[k2]?=none:=KN.resolve_left fun q=>by rw[hx] at q;cases q
  refine Zd (uY g1 D.l1i1 hx fun h₂ HG gR=>Zf ?_);have mF:IsPair h₂ TO a b:=gR.extBut _ _ D.TOi1 (gS.extBut _ _ D.TOz KU);refine Zd (ad2 mF rfl ?_);refine Zd (wpAny_updateSeq_pair mF fun h₃ qe gQ=>?_);refine Zd (am6 (Zf ?_));refine Zd (Zd (wpAny_onRaise ?_));show wpAny _ _ (Builtin.SmallTypes.nextOf (.ref i2) >>=_) _ _ _;have k3: ∀c o,c≠z->c≠i1->c≠TO->s.heap.get? c=some o->h₃.get? c=some o:=fun c o c1 c2 c3 e=>gQ.extBut _ _ c3 (gR.extBut _ _ c2 (gS.extBut _ _ c1 e));refine Zd (BU hh (h2.ext (fun o e=>k3 _ o D.i2z D.i12.symm D.TOi2.symm e) fun o e=>k3 _ o D.l2z D.l2i1 D.l2TO e) hy fun h₄ e i9 he=>?_);obtain⟨oe,Kw,N4⟩:=he;have Hz:IsZip h₄ z TI TO .ellipsis:=i9 _ _ D.i2z.symm (gQ.extBut _ _ D.TOz.symm (gR.extBut _ _ D.i1z.symm j9));have Sg:e≠z:=fun y=>by subst y;rw[Hz] at Kw;cases Kw;simp at N4
  exact ah3 Hz (by simp) fun h₅ _ ir=>hE h₅ e (fun c o c1 c2 c3 c4 y=>ir.extBut _ _ c1 (i9 _ _ c4 (k3 c o c1 c3 c2 y))) ⟨oe,ir.extBut _ _ Sg Kw,N4⟩
theorem xX {z TI TO i1 i2 l1 l2 : Addr} {k1 k2 : Nat} (D : ZipApart z TI TO i1 i2 l1 l2) (hz : IsZip s.heap z TI TO .none) (KW : IsPair s.heap TI (.ref i1) (.ref i2)) (KU : IsPair s.heap TO a b) (h1 : nj s.heap i1 l1 xs k1) (h2 : nj s.heap i2 l2 ys k2) (hx : xs[k1]? = some x) (hy : ys[k2]? = some y) (hQ : ∀ h', IsZip h' z TI TO (rawInt s.heap.objs.size) -> IsPair h' TO x y -> nj h' i1 l1 xs (k1 + 1) -> nj h' i2 l2 ys (k2 + 1) -> IsPair h' s.heap.objs.size x y -> h'.objs.size = s.heap.objs.size + 1 ->
   (∀c o,c≠z->c≠TO->c≠i1->c≠i2->s.heap.get? c=some o->h'.get? c=some o)->Q (some (.ref s.heap.objs.size)) {s with heap:=h'}):wpAny (model prog w) A (pyNext (.ref z)) Q E s:=by
 have hT:s.TypeIs (.ref z) "zip":=⟨_,hz,rfl⟩;unfold pyNext;exact Zd (ao8 (ac6 (name:=Str.ofString "__next__") hT F.slot_zip_next (ab4 F.slot_zip_next hT F.entry_zip_next
   (xY D hz KW KU h1 h2 hx hy fun h' a1 a2 a3 a4 a5 a6 a7=>Zf (hQ h' a1 a2 a3 a4 a5 a6 a7)) (F.args_zip_next_1 _))))
theorem Ac{z TI TO i1 i2 l1 l2:Addr}{k1 k2:Nat}(hh:A.handled=none)(D:ZipApart z TI TO i1 i2 l1 l2)(hz:IsZip s.heap z TI TO .none)(KW:IsPair s.heap TI (.ref i1) (.ref i2))(KU:IsPair s.heap TO a b)(h1:nj s.heap i1 l1 xs k1)(h2:nj s.heap i2 l2 ys k2)(KN:xs[k1]?=none\/ys[k2]?=none)(hQ: ∀h',(∀c o,c≠z->c≠TO->c≠i1->c≠i2->s.heap.get? c=some o->h'.get? c=some o)->Q none {s with heap:=h'}):wpAny (model prog w) A (pyNext (.ref z)) Q E s:=by
 have hT:s.TypeIs (.ref z) "zip":=⟨_,hz,rfl⟩;unfold pyNext;refine Zd (ao8 (ac6 (name:=Str.ofString "__next__") hT F.slot_zip_next (ab4 F.slot_zip_next hT F.entry_zip_next (xW hh D hz KW KU h1 h2 KN fun h' e hk he=>?_) (F.args_zip_next_1 _))));obtain⟨o,ho,hc⟩:=he;refine Zd (al5 (T:="StopIteration") (b:=true) ⟨o,ho,hc⟩ isSubtype_stop ?_);exact Zf (hQ _ hk)
open AutoSeq1 (wpAny_loadPart')
noncomputable def yP(b:Bool)(a:Addr):Obj:={cls:= .type (if b then "tuple_iterator" else "list_iterator"),data:= .fields #[.ref a,.int 0 0]}
def vU(b:Bool)(h:Heap)(a:Addr)(xs:Array Value):Prop:=match b with
 | true=>h.IsTuple a xs
 | false=>h.IsList a xs
noncomputable def eW(h:Heap)(b1 b2:Bool)(a1 a2:Addr):Heap:=(h.push (yP b1 a1)).push (yP b2 a2)
noncomputable def gp(h:Heap)(b1 b2:Bool)(a1 a2:Addr):Heap:=((eW h b1 b2 a1 a2).push {cls:= .type "tuple",data:= .seq #[.ref h.objs.size,.ref (h.push (yP b1 a1)).objs.size]}).push {cls:= .type "tuple",data:= .seq #[.none,.none]}
noncomputable def cY(h:Heap)(b1 b2:Bool)(a1 a2:Addr):Heap:=
 (gp h b1 b2 a1 a2).push {cls:= .type "zip",data:= .fields #[.none,.bool false,.bool false,.ref (eW h b1 b2 a1 a2).objs.size,.ref ((eW h b1 b2 a1 a2).push {cls:= .type "tuple",data:= .seq #[.ref h.objs.size,.ref (h.push (yP b1 a1)).objs.size]}).objs.size]}
theorem IK(b1 b2:Bool)(a1 a2:Addr)(xs ys:Array Value):
  Meets (Builtin.«zip.__new__» ⟨[.type "zip",.ref a1,.ref a2],[]⟩) (fun _ R s=>vU b1 s.heap a1 xs/\vU b2 s.heap a2 ys/\R (.ok (.ret (.ref (gp s.heap b1 b2 a1 a2).objs.size))) {s with heap:=cY s.heap b1 b2 a1 a2}):=
 .of_wp fun prog w A R s h=>by
  obtain⟨hp,g,d,tk,os⟩:=s;obtain⟨h1,h2,h⟩:=h;have FQ:=sub_zip;cases b1 <;> cases b2
  . have q1:Heap.IsList (Shared.heap ⟨hp,g,d,tk,os⟩) a1 xs:=h1;have q2:Heap.IsList (Shared.heap ⟨hp.push {cls:= .type "list_iterator",data:= .fields #[.ref a1, .int 0 0]},g,d,tk,os⟩) a2 ys:=Heap.IsList.push h2 _;wp_walk using ai1 q1,ai1 q2
    exact⟨_,rfl,h⟩
  . have q1:Heap.IsList (Shared.heap ⟨hp,g,d,tk,os⟩) a1 xs:=h1;have q2:Heap.IsTuple (Shared.heap ⟨hp.push {cls:= .type "list_iterator",data:= .fields #[.ref a1, .int 0 0]},g,d,tk,os⟩) a2 ys:=let ⟨o,e,r⟩:=h2;⟨o,Zh _ e,r⟩;wp_walk using ai1 q1,af0 q2
    exact⟨_,rfl,h⟩
  . have q1:Heap.IsTuple (Shared.heap ⟨hp,g,d,tk,os⟩) a1 xs:=h1;have q2:Heap.IsList (Shared.heap ⟨hp.push {cls:= .type "tuple_iterator",data:= .fields #[.ref a1, .int 0 0]},g,d,tk,os⟩) a2 ys:=Heap.IsList.push h2 _;wp_walk using af0 q1,ai1 q2
    exact⟨_,rfl,h⟩
  . have q1:Heap.IsTuple (Shared.heap ⟨hp,g,d,tk,os⟩) a1 xs:=h1;have q2:Heap.IsTuple (Shared.heap ⟨hp.push {cls:= .type "tuple_iterator",data:= .fields #[.ref a1, .int 0 0]},g,d,tk,os⟩) a2 ys:=let ⟨o,e,r⟩:=h2;⟨o,Zh _ e,r⟩;wp_walk using af0 q1,af0 q2
    exact⟨_,rfl,h⟩
def n6(b:Bool)(H:Hp)(a:Addr)(xs:List V):Prop:=match b with
 | true=>H a=some (.tup xs)
 | false=>H a=some (.lst xs)
theorem n6.inj(h:n6 b H a xs)(k:n6 b H a ys):xs=ys:=by
 cases b
 . have h:H a=some (.lst xs):=h;have k:H a=some (.lst ys):=k;rw[h] at k;cases k;rfl
 . have h:H a=some (.tup xs):=h;have k:H a=some (.tup ys):=k;rw[h] at k;cases k;rfl
theorem n6.some{b:Bool}{H:Hp}{a:Addr}{xs:List V}(h:n6 b H a xs): ∃o,H a=some o:=by
 cases b
 . exact⟨_,h⟩
 . exact⟨_,h⟩
def zV(b:Bool)(h:Heap)(it a:Addr)(k:Nat):Prop:=match b with
 | true=>h.IsTupleIter it a k
 | false=>h.IsListIter it a k
theorem zV.obj(z:zV b h it a k): ∃o,h.get? it=Option.some o/\ ∀v,o.data≠ .cell v:=by
 cases b
 . obtain⟨o,q,_,d⟩:=(show h.IsListIter it a k from z);exact⟨o,q,fun v y=>by rw[d] at y;cases y⟩
 . obtain⟨o,q,_,d⟩:=(show h.IsTupleIter it a k from z);exact⟨o,q,fun v y=>by rw[d] at y;cases y⟩
theorem zV.keep{h h':Heap}(z:zV b h it a k)(e: ∀o,h.get? it=Option.some o->h'.get? it=Option.some o):zV b h' it a k:=by
 cases b
 . obtain⟨o,q,r⟩:=(show h.IsListIter it a k from z);exact(show h'.IsListIter it a k from⟨o,e o q,r⟩)
 . obtain⟨o,q,r⟩:=(show h.IsTupleIter it a k from z);exact(show h'.IsTupleIter it a k from⟨o,e o q,r⟩)
theorem zV.Pt(z:zV b h it a k)(q:vU b h a xs):nj h it a xs k:=by
 cases b
 . exact .inl ⟨z,q⟩
 . exact .inr ⟨z,q⟩
theorem B9(z:nj h it a xs k)(q:vU b h a xs):zV b h it a k:=by
 cases b
 . rcases z with ⟨z1,_⟩ | ⟨_,o,e1,e2,_⟩
   . exact z1
   . obtain⟨o',f1,f2,_⟩:=(show h.IsList a xs from q)
     rw[f1] at e1;cases e1;rw[f2] at e2;injection e2 with y;exact absurd y (by decide)
 . rcases z with ⟨_,o,e1,e2,_⟩ | ⟨z1,_⟩
   . obtain⟨o',f1,f2,_⟩:=(show h.IsTuple a xs from q)
     rw[f1] at e1;cases e1;rw[f2] at e2;injection e2 with y;exact absurd y (by decide)
   . exact z1
theorem Inv.L3(I:Inv X pins σ H s)(h:n6 b H a xs): ∃ao:List Value,Vals xs ao/\vU b s.heap a ao.toArray:=by
 cases b
 . obtain⟨ao,rv,pl,_⟩:=I.list (cX.of (show H a=Option.some (.lst xs) from h));exact⟨ao,rv,pl.isList⟩
 . obtain⟨ao,rv,pl,_⟩:=I.tuple (eV.of (show H a=Option.some (.tup xs) from h));exact⟨ao,rv,pl⟩
theorem Inv.x9{h':Heap}{t':Nat}{ch:List Addr}(I:Inv X pins σ H s)(hc: ∀b∈ch,dh X pins H b)(k: ∀b u,b∉ch->s.heap.get? b=some u->h'.get? b=some u):Inv X pins σ H {s with heap:=h',toks:=t'}:=by
 have DW: ∀b u,H b=some u->b∉ch:=fun b u e z=>by rw[(hc b z).1] at e;cases e
 refine I.step (g':=s.gens) (d':=s.drawn) (ch:=ch) (fun b hb=>?_) (fun b u _ _ hn e _=>k b u hn e) (fun b u _ _ hn e _=>⟨u.slots,k b u hn e⟩) (fun _ _ _ _ n=>n)
  (fun b u hn e=>⟨u,k b u hn e⟩) (fun _ _ e=>e) (fun _ _ _ e=>e) (fun b ps e=>⟨#[],by rw[e];simp⟩) (fun m hm=>?_) (fun b u e=>?_) I.bare
 . obtain⟨f0,f1,f2,f3,f4,f5⟩:=hc b hb;exact⟨f3,f1,f4,f5⟩
 . obtain⟨ob,es,ep,ho,r⟩:=hm;exact⟨ob,es,ep,k _ ob (fun z=>(hc _ z).2.1 rfl) ho,r⟩
 . refine(I.aT b u e).uA (fun c v HF q=>k c v ?_ q) (fun c q=>q) fun c xs q=>q;rcases HF with z | z
   . rw[z];exact DW b u e
   . exact DW c _ z
structure Z5(n:Nat):Prop where
 a:n+2≠n+4
 b:n+3≠n+4
 c:n≠n+4
 d:n+1≠n+4
 e:n+2≠n+3
 f:n+2≠n
 g:n+2≠n+1
 h:n+3≠n
 i:n+3≠n+1
 j:n≠n+1
theorem bp(n:Nat):Z5 n:=⟨by lia,by lia,by lia,by lia,by lia,by lia,by lia,by lia,by lia,by lia⟩
noncomputable def O7(b1 b2:Bool)(a1 a2:Addr):It:=
 ⟨fun i H=> ∃xs x ys y,n6 b1 H a1 xs/\xs[i]?=some x/\n6 b2 H a2 ys/\ys[i]?=some y,
  fun i H v H'=> ∃p x y,v= .ref p/\H p=none/\H'=upd H p (.tup [x,y])/\(∀xs,n6 b1 H a1 xs->xs[i]?=some x)/\ ∀ys,n6 b2 H a2 ys->ys[i]?=some y,
  fun i H=> ∃xs ys,n6 b1 H a1 xs/\n6 b2 H a2 ys/\(xs.length<=i\/ys.length<=i)⟩
theorem Aq{P:Program}{w:World}{K:PySem.W.Frag}{es:List Expr}{x1}{tp:Pos}(b1 b2:Bool)(a1 a2:Addr)(n:Nat):
  Turn P w K (.Tuple es x1 tp) (O7 b1 b2 a1 a2) [n+4,n+2,n+3,n,n+1] (n+4) (fun i h=>IsZip h (n+4) (n+2) (n+3) .none/\IsPair h (n+2) (.ref n) (.ref (n+1))/\(∃a b,IsPair h (n+3) a b)/\zV b1 h n a1 i/\zV b2 h (n+1) a2 i) where
 mem:=by simp
 obj:=fun i h st b hb=>by
  obtain⟨z1,z2,⟨u,v,z3⟩,z4,z5⟩:=st;simp only [ZS,Zi,or_false] at hb;rcases hb with rfl | rfl | rfl | rfl | rfl
  . exact⟨_,z1,fun v y=>nomatch (show Data.fields _=Data.cell v from y)⟩
  . exact⟨_,z2,fun v y=>nomatch (show Data.seq _ _=Data.cell v from y)⟩
  . exact⟨_,z3,fun v y=>nomatch (show Data.seq _ _=Data.cell v from y)⟩
  . exact z4.obj
  . exact z5.obj
 keep:=fun i h h' st kk=>by
  obtain⟨z1,z2,⟨u,v,z3⟩,z4,z5⟩:=st;exact⟨kk _ (by simp) _ z1,kk _ (by simp) _ z2,⟨u,v,kk _ (by simp) _ z3⟩,z4.keep fun o q=>kk _ (by simp) o q,z5.keep fun o q=>kk _ (by simp) o q⟩
 item:=by
  intro X hP hw hK hc i pins s σ H E I hf st hg;subst hP hw hK;obtain⟨xs,x,ys,y,q1,hx,q2,hy⟩:=hg;obtain⟨ao,rv,p1⟩:=I.L3 q1;obtain⟨cJ,zN,p2⟩:=I.L3 q2;obtain⟨u,hu,ru⟩:=rv.get hx;obtain⟨u2,Kt,MT⟩:=zN.get hy;obtain⟨z1,z2,⟨c1,c2,z3⟩,z4,z5⟩:=st;have ap: ∀{b:Bool} {a:Addr} {zs:List V},n6 b H a zs-> ∀f∈ [n+4,n+2,n+3,n,n+1],a≠f:=fun hq f FX e=>by
   obtain⟨o,q⟩:=hq.some;have:=(hf f FX).1;rw[<-e,q] at this;cases this
  have D:ZipApart (n+4) (n+2) (n+3) n (n+1) a1 a2:=⟨(bp n).a,(bp n).b,(bp n).c,(bp n).d,(bp n).e,(bp n).f,(bp n).g,(bp n).h,(bp n).i,(bp n).j,ap q1 _ (by simp),ap q1 _ (by simp),ap q1 _ (by simp),ap q1 _ (by simp),ap q2 _ (by simp),ap q2 _ (by simp),ap q2 _ (by simp),ap q2 _ (by simp)⟩
  refine xX D z1 z2 z3 (z4.Pt p1) (z5.Pt p2) (x:=u) (y:=u2) (by simpa using hu) (by simpa using Kt) fun h' e1 e2 e3 e4 e5 e6 e7=>⟨_,rfl,?_⟩
  refine wpAny_letOwnedTupleGo_zip e1 fun h2 g1 sb=>?_;have Mr:n+4 < s.heap.objs.size:=ZD z1;have I1:Inv X pins σ (upd H s.heap.objs.size (.tup [x,y])) {s with heap:=h2,toks:=s.toks}:=by
   refine I.oj (ch:= [n+4,n+2,n+3,n,n+1]) hf (Zj _) (fun b o hb q=>?_) ⟨by show 2<=sizeLine;decide,[u,u2],.cons ru (.cons MT .nil),?_⟩
   . have m: ∀f,f∈ [n+4,n+2,n+3,n,n+1]->b≠f:=fun f FX e=>hb (e▸FX);exact(sb.2 b (m _ (by simp))).trans (e7 b o (m _ (by simp)) (m _ (by simp)) (m _ (by simp)) (m _ (by simp)) q)
   . exact⟨_,(sb.2 _ (aj0 Mr)).trans e5,rfl,rfl,_,rfl⟩
  have up: ∀b o,b≠n+4->h'.get? b=some o->h2.get? b=some o:=fun b o hb q=>(sb.2 b hb).trans q;have Hx: ∀{b:Bool} {a:Addr} {zs:Array Value} {ws:List V},n6 b H a ws->vU b s.heap a zs->vU b h' a zs:=fun{b a zs ws} hq hs=>by
   have k: ∀o,s.heap.get? a=some o->h'.get? a=some o:=fun o q=>e7 a o (ap hq _ (by simp)) (ap hq _ (by simp)) (ap hq _ (by simp)) (ap hq _ (by simp)) q;cases b
   . obtain⟨o,f1,f2⟩:=(show s.heap.IsList a zs from hs);exact(show h'.IsList a zs from⟨o,k o f1,f2⟩)
   . obtain⟨o,f1,f2⟩:=(show s.heap.IsTuple a zs from hs);exact(show h'.IsTuple a zs from⟨o,k o f1,f2⟩)
  refine⟨.ref s.heap.objs.size,_,I1,rfl,⟨_,x,y,rfl,I.aT.fresh (Zj _),rfl,fun zs hz=>by rw[hz.inj q1];exact hx,fun zs hz=>by rw[hz.inj q2];exact hy⟩,⟨g1,?_,⟨u,u2,up _ _ (bp n).b e2⟩,?_,?_⟩,fun b hb=>?_⟩
  . exact up _ _ (bp n).a (e7 _ _ (bp n).a (bp n).e (bp n).f (bp n).g z2)
  . exact(B9 e3 (Hx q1 p1)).keep fun o q=>up _ o (bp n).c q
  . exact(B9 e4 (Hx q2 p2)).keep fun o q=>up _ o (bp n).d q
  . rw[ah (fun z=>?_)]
    . exact(hf b hb).1
    . have VA:n+4 < s.heap.objs.size:=Mr;have: ∀f:Nat,f∈ [n+4,n+2,n+3,n,n+1]->f < s.heap.objs.size:=fun f FX=>by
       simp only [ZS,Zi,or_false] at FX;lia
      exact absurd (z▸this b hb) (Z7 _)
 done:=by
  intro X hP hw hK hc i pins s σ H E I hf st hg;subst hP hw hK;obtain⟨xs,ys,q1,q2,hx⟩:=hg;obtain⟨ao,rv,p1⟩:=I.L3 q1;obtain⟨cJ,zN,p2⟩:=I.L3 q2;have l1:=rv.length;have l2:=zN.length;obtain⟨z1,z2,⟨c1,c2,z3⟩,z4,z5⟩:=st;have ap: ∀{b:Bool} {a:Addr} {zs:List V},n6 b H a zs-> ∀f∈ [n+4,n+2,n+3,n,n+1],a≠f:=fun hq f FX e=>by
   obtain⟨o,q⟩:=hq.some;have:=(hf f FX).1;rw[<-e,q] at this;cases this
  have D:ZipApart (n+4) (n+2) (n+3) n (n+1) a1 a2:=⟨(bp n).a,(bp n).b,(bp n).c,(bp n).d,(bp n).e,(bp n).f,(bp n).g,(bp n).h,(bp n).i,(bp n).j,ap q1 _ (by simp),ap q1 _ (by simp),ap q1 _ (by simp),ap q1 _ (by simp),ap q2 _ (by simp),ap q2 _ (by simp),ap q2 _ (by simp),ap q2 _ (by simp)⟩
  refine Ac (I.ok.hd hc) D z1 z2 z3 (z4.Pt p1) (z5.Pt p2) (hx.elim (fun h=> .inl (by rw[List.getElem?_toArray];exact ac2 (by lia))) fun h=> .inr (by rw[List.getElem?_toArray];exact ac2 (by lia))) fun h' kk=>⟨rfl,?_⟩
  refine I.x9 (ch:= [n+4,n+2,n+3,n,n+1]) hf fun b o hb q=>?_;have m: ∀f,f∈ [n+4,n+2,n+3,n,n+1]->b≠f:=fun f FX e=>hb (e▸FX);exact kk b o (m _ (by simp)) (m _ (by simp)) (m _ (by simp)) (m _ (by simp)) q
 self:=fun A i s Q E st h=>wpAny_pyIter_zip st.1 h
theorem zv:bootBuiltins "zip"=some (.type "zip"):=by decide+kernel
def NK(ta:TA):TI:=fun σ H R=>ta σ H fun vs H1=> ∃b1 b2 a1 a2 xs ys,vs= [.ref a1,.ref a2]/\n6 b1 H1 a1 xs/\n6 b2 H1 a2 ys/\R (O7 b1 b2 a1 a2) H1
theorem um{x1}(I:Inv X pins σ H s)(q:R (O7 b1 b2 a1 a2) H):
  wpAny (model X.prog X.w) X.A (pyIter (.ref (gp s.heap b1 b2 a1 a2).objs.size)) (Qb X pins σ (.Tuple es x1 tp) R) E {s with heap:=cY s.heap b1 b2 a1 a2,toks:=tk}:=by
 have z1:(s.heap.push (yP b1 a1)).objs.size=s.heap.objs.size+1:=ab2 ..;have z2:(eW s.heap b1 b2 a1 a2).objs.size=s.heap.objs.size+2:=by unfold eW;rw[ab2,z1]
 have z3:((eW s.heap b1 b2 a1 a2).push {cls:= .type "tuple",data:= .seq #[.ref s.heap.objs.size,.ref (s.heap.push (yP b1 a1)).objs.size]}).objs.size=s.heap.objs.size+3:=by rw[ab2,z2]
 have z4:(gp s.heap b1 b2 a1 a2).objs.size=s.heap.objs.size+4:=by unfold gp;rw[ab2,z3]
 have keep: ∀c o,s.heap.get? c=some o->(cY s.heap b1 b2 a1 a2).get? c=some o:=fun c o e=>by
  unfold cY gp eW;exact Zh _ (Zh _ (Zh _ (Zh _ (Zh _ e))))
 have g5:IsZip (cY s.heap b1 b2 a1 a2) (s.heap.objs.size+4) (s.heap.objs.size+2) (s.heap.objs.size+3) .none:=by
  have:=Zs (gp s.heap b1 b2 a1 a2) (o:={cls:= .type "zip",data:= .fields #[.none,.bool false,.bool false,.ref (eW s.heap b1 b2 a1 a2).objs.size,.ref ((eW s.heap b1 b2 a1 a2).push {cls:= .type "tuple",data:= .seq #[.ref s.heap.objs.size,.ref (s.heap.push (yP b1 a1)).objs.size]}).objs.size]}) rfl;rw[z4,z2,z3] at this;unfold cY;rw[z2,z3];exact this
 have g3:IsPair (cY s.heap b1 b2 a1 a2) (s.heap.objs.size+2) (.ref s.heap.objs.size) (.ref (s.heap.objs.size+1)):=by
  have:=Zs (eW s.heap b1 b2 a1 a2) (o:={cls:= .type "tuple",data:= .seq #[.ref s.heap.objs.size,.ref (s.heap.push (yP b1 a1)).objs.size]}) rfl;rw[z2] at this;have h2:(cY s.heap b1 b2 a1 a2).get? (s.heap.objs.size+2)=some {cls:= .type "tuple",data:= .seq #[.ref s.heap.objs.size,.ref (s.heap.push (yP b1 a1)).objs.size]}:=by
   unfold cY gp;exact Zh _ (Zh _ this)
  rw[z1] at h2;exact h2
 have g4:IsPair (cY s.heap b1 b2 a1 a2) (s.heap.objs.size+3) .none .none:=by
  have:=Zs ((eW s.heap b1 b2 a1 a2).push {cls:= .type "tuple",data:= .seq #[.ref s.heap.objs.size,.ref (s.heap.push (yP b1 a1)).objs.size]}) (o:={cls:= .type "tuple",data:= .seq #[.none,.none]}) rfl;rw[z3] at this;unfold cY gp;exact Zh _ this
 have i1:zV b1 (cY s.heap b1 b2 a1 a2) s.heap.objs.size a1 0:=by
  have h:(cY s.heap b1 b2 a1 a2).get? s.heap.objs.size=some (yP b1 a1):=by
   unfold cY gp eW;refine Zh _ (Zh _ (Zh _ (Zh _ (Zs _ ?_))));cases b1 <;> rfl
  cases b1
  . exact(show Heap.IsListIter _ _ _ _ from⟨_,h,rfl,rfl⟩)
  . exact(show Heap.IsTupleIter _ _ _ _ from⟨_,h,rfl,rfl⟩)
 have i2:zV b2 (cY s.heap b1 b2 a1 a2) (s.heap.objs.size+1) a2 0:=by
  have h:(cY s.heap b1 b2 a1 a2).get? (s.heap.push (yP b1 a1)).objs.size=some (yP b2 a2):=by
   unfold cY gp eW;refine Zh _ (Zh _ (Zh _ (Zs _ ?_)));cases b2 <;> rfl
  rw[z1] at h;cases b2
  . exact(show Heap.IsListIter _ _ _ _ from⟨_,h,rfl,rfl⟩)
  . exact(show Heap.IsTupleIter _ _ _ _ from⟨_,h,rfl,rfl⟩)
 rw[z4];refine wpAny_pyIter_zip g5 ?_;refine⟨s.heap.objs.size+4,_,_,O7 b1 b2 a1 a2,H,rfl,I.kept keep,Aq b1 b2 a1 a2 s.heap.objs.size,⟨g5,g3,⟨_,_,g4⟩,i1,i2⟩,fun c hc=>?_,q⟩;have hle:s.heap.objs.size<=c:=by
  have: ∀n f:Nat,f∈ [n+4,n+2,n+3,n,n+1]->n<=f:=fun n f hf=>by
   simp only [ZS,Zi,or_false] at hf;omega
  exact this _ _ hc
 exact I.vn hle (I.aT.fresh hle)
theorem lR{x1}(hg:Gl X "zip")(hm:X.mg "zip"=none)(ha:PA X [e,f] t)(hs:starEach [e,f] X.env= [(false,eval e X.env),(false,eval f X.env)]:=by rfl)(mB:starEach [f] X.env= [(false,eval f X.env)]:=by rfl):
  PI X (.Tuple es x1 tp) (.Call (.Name "zip" p) [e,f] [] pos) (NK t):=by
 intro pins s σ H R I h;refine Call_ (cE I hg hm zv (ac3 (aP (ha pos pins s σ H _ I h) fun us s1 cw=>?_) (by rw[hs,mB]) (by rw[mB];rfl)));obtain⟨vs,H1,I1,r1,q1⟩:=cw;obtain⟨b1,b2,a1,a2,xs,ys,rfl,k1,k2,q⟩:=q1;obtain⟨u,u2,rfl,ru,MT⟩:=vals2 r1;cases ru;cases MT;obtain⟨ao,rv,p1⟩:=I1.L3 k1;obtain⟨cJ,zN,p2⟩:=I1.L3 k2;exact m4 F.called_zip (by decide) (F.typeCall_zip_2 _ _) (F.newCall_zip_2 _ _) (fun obj=>F.args_object_init_3 obj _ _) F.entry_zip_new (IK b1 b2 a1 a2 ao.toArray cJ.toArray) ⟨p1,p2,⟨_,Zs _ rfl,rfl⟩,um I1 q⟩
end L2
namespace LW
open PySem PySem.Spec PyProof.Rows HT L2
def vZ:V->Prop
 | .aN=>True
 | .bl _=>True
 | .int i=>i.natAbs < 2^140
 | .str x=>x.length<=15/\ ∀c∈x.cps.toList,c < 16^8
 | _=>False
def Td(c:Addr->Prop)(H:Hp):Nat->V->Prop
 | 0,v=>vZ v
 | k+1,v=>Td c H k v\/ ∃a xs,v= .ref a/\((H a=some (.lst xs)/\c a)\/H a=some (.tup xs))/\ ∀x∈xs,Td c H k x
theorem Td.tup{c:Addr->Prop}{a:Addr}{H:Hp}{xs:List V}{k:Nat}(h:H a=some (.tup xs))(e: ∀x∈xs,Td c H k x):Td c H (k+1) (.ref a):= .inr ⟨a,xs,rfl,.inr h,e⟩
theorem Td.lst{c:Addr->Prop}{a:Addr}{H:Hp}{xs:List V}{k:Nat}(h:H a=some (.lst xs))(n:c a)(e: ∀x∈xs,Td c H k x):Td c H (k+1) (.ref a):= .inr ⟨a,xs,rfl,.inl ⟨h,n⟩,e⟩
theorem Td.kind: ∀{k:Nat},Td c H k v->vZ v\/ ∃a xs,v= .ref a/\((H a=some (.lst xs)/\c a)\/H a=some (.tup xs))
 | 0,h=> .inl h
 | k+1,h=>by
  rcases h with h | ⟨a,xs,e,q,_⟩
  . exact h.kind
  . exact .inr ⟨a,xs,e,q⟩
noncomputable def dat(H:Hp):Nat->V->PyData
 | _,.aN=> .none
 | _,.bl b=> .bool b
 | _,.int i=> .int i
 | _,.str x=> .str x
 | m+1,.ref a=>match H a with
  | some (.lst xs)=> .list (xs.map (dat H m))
  | some (.tup xs)=> .tuple (xs.map (dat H m))
  | _=> .none
 | _,_=> .none
noncomputable def wt(H:Hp):Nat->V->Nat
 | m+1,.ref a=>match H a with
  | some (.lst xs)=>3+(xs.map fun x=>wt H m x+2).sum
  | some (.tup xs)=>3+(xs.map fun x=>wt H m x+2).sum
  | _=>200
 | _,_=>200
theorem Af(h:vZ v):wt H m v=200:=by
 cases v <;> first | (cases m <;> rfl) | exact h.elim
theorem Ae(h:H a=some (.lst xs)):wt H (m+1) (.ref a)=3+(xs.map fun x=>wt H m x+2).sum:=by
 simp only [wt,h]
theorem Ad(h:H a=some (.tup xs)):wt H (m+1) (.ref a)=3+(xs.map fun x=>wt H m x+2).sum:=by
 simp only [wt,h]
theorem qm(h:H a=some (.lst xs)):dat H (m+1) (.ref a)= .list (xs.map (dat H m)):=by
 simp only [dat,h]
theorem qk(h:H a=some (.tup xs)):dat H (m+1) (.ref a)= .tuple (xs.map (dat H m)):=by
 simp only [dat,h]
structure D5(k n:Nat)(d:PyData):Prop where
 ok:d.showable=true
 nd:d.hasDict=false
 dp:d.depth<=k
 len:d.shown.length<=n
theorem D5.up(h:D5 k n d)(e:k<=m):D5 m n d:=⟨h.ok,h.nd,ZE h.dp e,h.len⟩
theorem qI: ∀{ds:List PyData},(∀d∈ds,d.showable=true)->PyData.showableAll ds=true
 | [],_=>rfl
 | d::r,h=>by
  rw[PyData.showableAll,h d Zu,qI fun x hx=>h x (Zn _ hx)];rfl
theorem jV: ∀{ds:List PyData},(∀d∈ds,d.hasDict=false)->PyData.hasDictAll ds=false
 | [],_=>rfl
 | d::r,h=>by
  rw[PyData.hasDictAll,h d Zu,jV fun x hx=>h x (Zn _ hx)];rfl
theorem m9: ∀{ds:List PyData},(∀d∈ds,d.depth<=k)->PyData.depthAll ds<=k
 | [],_=>ZV _
 | d::r,h=>by
  rw[PyData.depthAll];exact Nat.max_le.mpr ⟨h d Zu,m9 fun x hx=>h x (Zn _ hx)⟩
theorem Dv{f:V->PyData}{g:V->Nat}: ∀{xs:List V},(∀x∈xs,(f x).shown.length<=g x)->((PyData.shownAll (xs.map f)).map (·.length)).sum+2*(PyData.shownAll (xs.map f)).length<=(xs.map fun x=>g x+2).sum
 | [],_=>by simp [PyData.shownAll]
 | x::r,h=>by
  have ih:=Dv (f:=f) (g:=g) (xs:=r) fun y hy=>h y (Zn _ hy);have:=h x Zu;rw[Zx,PyData.shownAll,Zx,List.sum_cons,ZG,Zx,List.sum_cons];omega
theorem Td.Q1: ∀{k m:Nat} {v:V},Td c H k v->k<=m->D5 k (wt H m v) (dat H m v)
 | 0,m,v,h,_=>by
  rw[Af h];cases v with
  | aN=>
   have q:D5 0 200 .none:=⟨rfl,rfl,Zj _,by decide+kernel⟩
   cases m <;> exact q
  | bl b=>
   have q:D5 0 200 (.bool b):=by cases b <;> exact⟨rfl,rfl,Zj _,by decide+kernel⟩
   cases m <;> exact q
  | int i=>
   have h:i.natAbs < 2^140:=h;have hl:i.natAbs.log2 < 1920:=by
    by_cases z:i.natAbs=0
    . rw[z];decide
    . rw[Nat.log2_lt z];exact ZJ h (Nat.pow_le_pow_right (by decide) (by decide))
   have q:D5 0 200 (.int i):=⟨by show decide (i.natAbs.log2 < 1920)=true;exact ZZ hl,rfl,Zj _,by
    have e:=int_text_length_le10 (a:=i) (k:=60) (by decide) (ZJ h (by decide));show(Str.ofString (toString i)).length<=200;rw[PySem.ofString_length];omega⟩
   cases m <;> exact q
  | str x=>
   have q:D5 0 200 (.str x):=⟨rfl,rfl,Zj _,by
    have:=StrLaws.reprText_len x h.2;have:=h.1;show(reprText x).length<=_;omega⟩
   cases m <;> exact q
  | _=>exact h.elim
 | k+1,0,_,_,hk=>absurd hk (by omega)
 | k+1,m+1,v,h,hk=>by
  rcases h with h | ⟨a,xs,rfl,q,r⟩
  . exact(Td.Q1 h (by omega)).up (ao7 _)
  . have all: ∀x∈xs,D5 k (wt H m x) (dat H m x):=fun x hx=>Td.Q1 (r x hx) (by omega);have zF: ∀d∈xs.map (dat H m),∃n,D5 k n d:=fun d hd=>by
     obtain⟨x,hx,rfl⟩:=ZF.mp hd;exact⟨_,all x hx⟩
    have hlen:=Dv (f:=dat H m) (g:=wt H m) (xs:=xs) fun x hx=>(all x hx).len;rcases q with ⟨q,n⟩ | q
    . rw[qm q,Ae q];exact⟨qI fun d hd=>(zF d hd).elim fun _ z=>z.ok,jV fun d hd=>(zF d hd).elim fun _ z=>z.nd,Nat.succ_le_succ (m9 fun d hd=>(zF d hd).elim fun _ z=>z.dp),by have:=listText_len_le (PyData.shownAll (xs.map (dat H m)));exact ZE this (by omega)⟩
    . rw[qk q,Ad q];exact⟨qI fun d hd=>(zF d hd).elim fun _ z=>z.ok,jV fun d hd=>(zF d hd).elim fun _ z=>z.nd,Nat.succ_le_succ (m9 fun d hd=>(zF d hd).elim fun _ z=>z.dp),by have:=tupleText_len_le (PyData.shownAll (xs.map (dat H m)));exact ZE this (by omega)⟩
theorem A8(a:vZ v)(r:RelV v u):Reads h u (dat H m v) []:=by
 cases v with
 | aN=>cases (show u=Value.none from r);cases m <;> exact .none
 | bl b=>cases (show u=Value.bool b from r);cases m <;> exact .bool b
 | int i=>obtain⟨t,rfl⟩:=(show∃t,u=Value.int i t from r);cases m <;> exact .int i t
 | str x=>obtain⟨t,rfl⟩:=(show∃t,u=Value.str x t from r);cases m <;> exact .str x t
 | _=>exact a.elim
theorem readsAll: ∀{xs:List V} {us:List Value},Vals xs us->(∀x∈xs,∀u,RelV x u-> ∃as,Reads h u (f x) as)-> ∃as,ReadsAll h us (xs.map f) as
 | _,_,.nil,_=>⟨[],.nil⟩
 | _,_,.cons r t,k=>by
  obtain⟨a1,r1⟩:=k _ Zu _ r;obtain⟨a2,r2⟩:=readsAll t fun x hx=>k x (Zn _ hx);exact⟨_,.cons r1 r2⟩
theorem Td.reads(ok:gm P w H h): ∀{k m:Nat} {v:V} {u:Value},Td c H k v->k<=m->RelV v u-> ∃as,Reads h u (dat H m v) as
 | 0,_,_,_,a,_,r=>⟨_,A8 a r⟩
 | k+1,0,_,_,_,hk,_=>absurd hk (by omega)
 | k+1,m+1,v,u,a,hk,r=>by
  rcases a with a | ⟨p,xs,rfl,q,rr⟩
  . exact Td.reads ok a (by omega) r
  . cases (show u=Value.ref p from r);rcases q with ⟨q,n⟩ | q
    . obtain⟨_,ao,n',rv,e⟩:=(show aQ P w H h p (.lst xs) from ok p _ q)
      obtain⟨as,ra⟩:=readsAll (f:=dat H m) rv fun x hx u ru=>Td.reads ok (rr x hx) (by omega) ru;rw[qm q];exact⟨_,.list e rfl rfl (by simpa using ra)⟩
    . obtain⟨_,ao,rv,o,e1,e2,_,n',e3⟩:=(show aQ P w H h p (.tup xs) from ok p _ q)
      obtain⟨as,ra⟩:=readsAll (f:=dat H m) rv fun x hx u ru=>Td.reads ok (rr x hx) (by omega) ru;rw[qk q];exact⟨_,.tuple e1 e2 e3 (by simpa using ra)⟩
noncomputable def ML(H:Hp):V->Str
 | .str x=>x
 | v=>(dat H 9 v).shown
theorem zt(hr:bT k X.A):eB X (.type "str") (fun xs H Q=> ∃x c,xs= [x]/\Td c H 9 x/\wt H 9 x<=sizeLine/\Q (.str (ML H x)) H):=by
 intro pins s σ H xs us Q I r h;obtain⟨x,c,rfl,td,hw,q⟩:=h;obtain⟨u,rfl,ru⟩:=vals1 r;have sh:=td.Q1 (Zj 9);have hsz:(dat H 9 x).shown.length<=sizeLine:=ZE sh.len hw;obtain⟨as,rd⟩:=td.reads I.aT (Zj 9) ru;have un:=hr.un;cases x with
 | ref a=>
  cases (show u=Value.ref a from ru);exact str_of_reads rd sh.ok (fun z=>by rw[sh.nd] at z;cases z) hr.gd (by have:=sh.dp;omega) (fun _ _ e=>e) (fun h' u tk kk=>⟨.str _,H,I.kept kk,⟨_,rfl⟩,q⟩) hsz
 | aN=>cases (show u=Value.none from ru);exact PySem.P.str_of_none ⟨.str _,H,I.tok _,⟨_,rfl⟩,q⟩
 | bl b=>
  cases (show u=Value.bool b from ru);refine PySem.P.str_of_bool ⟨.str _,H,I.tok _,⟨_,rfl⟩,?_⟩;cases b <;> exact q
 | int i=>obtain⟨t,rfl⟩:=(show∃t,u=Value.int i t from ru);exact PySem.P.str_of_int (ZL sh.ok) ⟨.str _,H,I.tok _,⟨_,rfl⟩,q⟩
 | str y=>obtain⟨t,rfl⟩:=(show∃t,u=Value.str y t from ru);exact PySem.P.str_of_str ⟨.str _,H,I,⟨_,rfl⟩,q⟩
 | _=>
  rcases td.kind with z | ⟨a,_,z,_⟩
  . exact z.elim
  . cases z
end LW
namespace LW
open PySem L2 LB PyProof.Rows
theorem aD.none{H H':Hp}{a:Addr}(s:aD H H')(h:H' a=none):H a=none:=by
 cases e:H a with
 | none=>rfl
 | some o=>rw[s _ _ e] at h;cases h
end LW
namespace LD
open PySem PySem.Spec L2 LB PyProof.Rows
inductive Dt where
 | aN | bl (b:Bool) | int (i:Int) | str (x:Str) | lst (ds:List Dt) | tup (ds:List Dt) | xx (ks:List Key) (ds:List Dt) | kC (ks:List (List Key)) (ds:List Dt)
noncomputable def Dt.RE:Dt->Bool
 | .aN=>true
 | _=>false
inductive Rep(M:Addr->Prop)(H:Hp):V->Dt->Prop where
 | aN:Rep M H .aN .aN
 | bl (b:Bool):Rep M H (.bl b) (.bl b)
 | int (i:Int):Rep M H (.int i) (.int i)
 | str (x:Str):Rep M H (.str x) (.str x)
 | lst {a:Addr} {xs:List V} {ds:List Dt}:H a=some (.lst xs)-> ¬M a->xs.length=ds.length->(∀(i:Nat) x d,xs[i]?=some x->ds[i]?=some d->Rep M H x d)->Rep M H (.ref a) (.lst ds)
 | tup {a:Addr} {xs:List V} {ds:List Dt}:H a=some (.tup xs)-> ¬M a->xs.length=ds.length->(∀(i:Nat) x d,xs[i]?=some x->ds[i]?=some d->Rep M H x d)->Rep M H (.ref a) (.tup ds)
 | xx {a:Addr} {vs:List (Key × V)} {ks:List Key} {ds:List Dt}:H a=some (.dK vs)-> ¬M a->vs.map (·.1)=ks->(vs.map (·.2)).length=ds.length->(∀(i:Nat) x d,(vs.map (·.2))[i]?=some x->ds[i]?=some d->Rep M H x d)->Rep M H (.ref a) (.xx ks ds)
 | kC {a:Addr} {vs:List (List Key × V)} {ks:List (List Key)} {ds:List Dt}:H a=some (.dT vs)-> ¬M a->vs.map (·.1)=ks->(vs.map (·.2)).length=ds.length->(∀(i:Nat) x d,(vs.map (·.2))[i]?=some x->ds[i]?=some d->Rep M H x d)->Rep M H (.ref a) (.kC ks ds)
def az(M:Addr->Prop)(H:Hp)(xs:List V)(ds:List Dt):Prop:=xs.length=ds.length/\ ∀(i:Nat) x d,xs[i]?=some x->ds[i]?=some d->Rep M H x d
theorem Rep.mono(h:Rep M H v d)(m: ∀a o,H a=some o-> ¬M a->H' a=some o/\ ¬M' a):Rep M' H' v d:=by
 induction h with
 | aN=>exact .aN
 | bl b=>exact .bl b
 | int i=>exact .int i
 | str x=>exact .str x
 | lst h n l r ih=>exact .lst (m _ _ h n).1 (m _ _ h n).2 l ih
 | tup h n l r ih=>exact .tup (m _ _ h n).1 (m _ _ h n).2 l ih
 | xx h n e l r ih=>exact .xx (m _ _ h n).1 (m _ _ h n).2 e l ih
 | kC h n e l r ih=>exact .kC (m _ _ h n).1 (m _ _ h n).2 e l ih
theorem az.mono(h:az M H xs ds)(m: ∀a o,H a=some o-> ¬M a->H' a=some o/\ ¬M' a):az M' H' xs ds:=⟨h.1,fun i x d h1 h2=>(h.2 i x d h1 h2).mono m⟩
theorem Rep.same(h:Rep M H v d)(s:aD H H'):Rep M H' v d:=h.mono fun a o e n=>⟨s _ _ e,n⟩
theorem az.same(h:az M H xs ds)(s:aD H H'):az M H' xs ds:=h.mono fun a o e n=>⟨s _ _ e,n⟩
theorem az.nil:az M H [] []:=⟨rfl,fun i x d h=>by simp at h⟩
theorem az.cons{M:Addr->Prop}{H:Hp}{x:V}{d:Dt}{xs:List V}{ds:List Dt}(h:Rep M H x d)(r:az M H xs ds):az M H (x::xs) (d::ds):=
 ⟨by rw[ZG,ZG,r.1],fun i y e h1 h2=>by
  cases i with
  | zero=>cases h1;cases h2;exact h
  | succ j=>exact r.2 j y e (by simpa using h1) (by simpa using h2)⟩
theorem az.append(h:az M H xs ds)(r:az M H ys es):az M H (xs++ys) (ds++es):=
 ⟨by rw[Zy,Zy,h.1,r.1],fun i y e h1 h2=>by
  by_cases hi:i < xs.length
  . rw[ZR hi] at h1;rw[ZR (by rw[<-h.1];exact hi)] at h2;exact h.2 i y e h1 h2
  . rw[ZW (by omega)] at h1;rw[ZW (by have:=h.1;omega),<-h.1] at h2;exact r.2 _ y e h1 h2⟩
theorem az.one(h:Rep M H x d):az M H [x] [d]:= .cons h .nil
theorem az.get(h:az M H xs ds){i:Nat}(e:ds[i]?=some d): ∃x,xs[i]?=some x/\Rep M H x d:=by
 have hi:=(Zq.mp e).1;have hx:xs[i]?=some (xs[i]'(by rw[h.1];exact hi)):=Zg _;exact⟨_,hx,h.2 i _ _ hx e⟩
theorem az.take(h:az M H xs ds)(n:Nat):az M H (xs.take n) (ds.take n):=
 ⟨by rw[ae8,ae8,h.1],fun i y e h1 h2=>by
  rw[List.getElem?_take] at h1 h2;split at h1
  . rename_i hi;rw[if_pos hi] at h2;exact h.2 i y e h1 h2
  . cases h1⟩
theorem az.drop(h:az M H xs ds)(n:Nat):az M H (xs.drop n) (ds.drop n):=
 ⟨by rw[aj2,aj2,h.1],fun i y e h1 h2=>by
  rw[List.getElem?_drop] at h1 h2;exact h.2 _ y e h1 h2⟩
theorem az.aK(h:az M H xs (d::ds)): ∃x ys,xs=x::ys/\Rep M H x d/\az M H ys ds:=by
 cases xs with
 | nil=>have:=h.1;simp at this
 | cons x ys=>exact⟨x,ys,rfl,h.2 0 x d rfl rfl,⟨by have:=h.1;simpa using this,fun i y e h1 h2=>h.2 (i+1) y e (by simpa using h1) (by simpa using h2)⟩⟩
theorem az.cz(h:az M H xs []):xs= []:=List.length_eq_zero_iff.mp (by rw[h.1];rfl)
theorem Rep.rJ(h:H a=some (.lst xs))(n: ¬M a)(r:az M H xs ds):Rep M H (.ref a) (.lst ds):= .lst h n r.1 r.2
theorem Rep.ik(h:H a=some (.tup xs))(n: ¬M a)(r:az M H xs ds):Rep M H (.ref a) (.tup ds):= .tup h n r.1 r.2
theorem Rep.dS(h:Rep M H v (.lst ds)): ∃a xs,v= .ref a/\H a=some (.lst xs)/\ ¬M a/\az M H xs ds:=by
 cases h with
 | lst h n l r=>exact⟨_,_,rfl,h,n,l,r⟩
theorem Rep.bJ(h:Rep M H v (.tup ds)): ∃a xs,v= .ref a/\H a=some (.tup xs)/\ ¬M a/\az M H xs ds:=by
 cases h with
 | tup h n l r=>exact⟨_,_,rfl,h,n,l,r⟩
theorem Rep.Hq(h:Rep M H v (.kC ks ds)): ∃a vs,v= .ref a/\H a=some (.dT vs)/\ ¬M a/\vs.map (·.1)=ks/\az M H (vs.map (·.2)) ds:=by
 cases h with
 | kC h n e l r=>exact⟨_,_,rfl,h,n,e,l,r⟩
theorem Rep.ofInt(h:Rep M H v (.int i)):v= .int i:=by cases h;rfl
theorem Rep.sv(h:Rep M H v (.bl i)):v= .bl i:=by cases h;rfl
theorem Rep.Nm(h:Rep M H v .aN):v= .aN:=by cases h;rfl
structure TB where
 rel:(Addr->Prop)->Hp->V->List Addr->Prop
 st: ∀{M M':Addr->Prop} {H H':Hp} {v:V} {as:List Addr},rel M H v as->(∀a∈as,∀o,H a=some o->H' a=some o)->(∀a o,H a=some o-> ¬M a->H' a=some o/\ ¬M' a)->rel M' H' v as
inductive Sl where
 | no | im (d:Dt) | ow (ds:List Dt) | bx (t:Int) | dk (ks:List Key) (ds:List Dt) | ob (R:TB) | fn (f:Addr)
def n8(M:Addr->Prop)(H:Hp)(o:Option V):Sl->List Addr->Prop
 | .no,as=>as= []
 | .im d,as=>as= []/\ ∃v,o=some v/\Rep M H v d
 | .ow ds,as=> ∃a xs,as= [a]/\o=some (.ref a)/\H a=some (.lst xs)/\az M H xs ds
 | .bx t,as=> ∃d c,as= [d,c]/\o=some (.ref d)/\vX H d c t
 | .dk ks ds,as=> ∃a vs,as= [a]/\o=some (.ref a)/\H a=some (.dK vs)/\vs.map (·.1)=ks/\az M H (vs.map (·.2)) ds
 | .ob R,as=> ∃v,o=some v/\R.rel M H v as
 | .fn f,as=>as= []/\o=some (.ref f)
structure Wd where
 H0:Hp
 A0:Addr->Prop
 M0:Addr->Prop
 M1:Addr->Prop
 box:Option (Addr × Addr)
noncomputable def Sl.bK:Sl->Bool
 | .bx _=>true
 | _=>false
structure P7(W:Wd)(M:Addr->Prop)(α:List (List Addr))(H:Hp)(δ:List Sl):Prop where
 bs: ∀b o,W.H0 b=some o-> ¬W.A0 b->H b=some o
 ex: ∀b,W.H0 b≠none->H b≠none
 fr: ∀a∈α.flatten,W.A0 a\/W.H0 a=none
 m0: ∀a,W.M0 a->M a
 m1: ∀a,M a->W.M1 a\/W.H0 a=none
 bx: ∀d c,W.box=some (d,c)-> ∃t,δ[0]?=some (.bx t)/\α[0]?=some [d,c]
 fz: ∀(i:Nat) s as,δ[i]?=some s->α[i]?=some as->s.bK=false-> ∀a∈as,¬W.M0 a
def kh(M:Addr->Prop)(H:Hp):Prop:= ∀a,M a-> ∃o,H a=some o/\ ∀xs,o≠ .tup xs
structure aB(Ws:List Wd)(M:Addr->Prop)(α:List (List Addr))(H:Hp)(σ:L2.St)(δ:List Sl):Prop where
 ls:σ.length=δ.length
 la:α.length=δ.length
 sl: ∀(i:Nat) (s:Sl),δ[i]?=some s-> ∃o as,σ[i]?=some o/\α[i]?=some as/\n8 M H o s as
 nd:α.flatten.Nodup
 mu: ∀a∈α.flatten,M a
 al:kh M H
 w: ∀W∈Ws,P7 W M α H δ
def cQ(α:List (List Addr))(H H':Hp):Prop:= ∀b o,H b=some o->b∉α.flatten->H' b=some o
theorem cQ.rf:cQ α H H:=fun _ _ e _=>e
theorem cQ.tr(a:cQ α H H1)(b:cQ α H1 H2):cQ α H H2:=fun x o e n=>b _ _ (a _ _ e n) n
theorem cQ.of(s:aD H H'):cQ α H H':=fun x o e _=>s _ _ e
theorem Rep.chg(h:Rep M H v d)(E:aB W M α H σ δ)(c:cQ α H H'):Rep M H' v d:=h.mono fun a o e n=>⟨c _ _ e fun z=>n (E.mu a z),n⟩
theorem az.chg(h:az M H v d)(E:aB W M α H σ δ)(c:cQ α H H'):az M H' v d:=h.mono fun a o e n=>⟨c _ _ e fun z=>n (E.mu a z),n⟩
theorem n8.same(h:n8 M H o s as)(z:aD H H'):n8 M H' o s as:=by
 cases s with
 | no=>exact h
 | im d=>exact⟨h.1,let ⟨v,e,r⟩:=h.2;⟨v,e,r.same z⟩⟩
 | ow ds=>obtain⟨a,xs,e1,e2,e3,r⟩:=h;exact⟨a,xs,e1,e2,z _ _ e3,r.same z⟩
 | bx t=>obtain⟨d,c,e1,e2,r⟩:=h;exact⟨d,c,e1,e2,r.same z⟩
 | dk ks ds=>obtain⟨a,vs,e1,e2,e3,e4,r⟩:=h;exact⟨a,vs,e1,e2,z _ _ e3,e4,r.same z⟩
 | ob R=>obtain⟨v,e,r⟩:=h;exact⟨v,e,R.st r (fun a _ o q=>z _ _ q) fun a o q n=>⟨z _ _ q,n⟩⟩
 | fn f=>exact h
theorem aB.same(E:aB W M α H σ δ)(z:aD H H'):aB W M α H' σ δ:=by
 refine⟨E.ls,E.la,fun i s h=>?_,E.nd,E.mu,fun a h=>?_,fun W hW=>let k:=E.w W hW;⟨fun b o e n=>z _ _ (k.bs b o e n),fun b n y=>k.ex b n (LW.aD.none z y),k.fr,k.m0,k.m1,k.bx,k.fz⟩⟩
 . obtain⟨o,as,h1,h2,h3⟩:=E.sl i s h;exact⟨o,as,h1,h2,h3.same z⟩
 . obtain⟨o,e,n⟩:=E.al a h;exact⟨o,z _ _ e,n⟩
theorem aB.fresh(E:aB W M α H σ δ)(h:H p=none): ¬M p:=fun z=>let ⟨_,e,_⟩:=E.al p z;by rw[h] at e;cases e
theorem kh.fresh(h:kh M H)(e:H p=none): ¬M p:=fun z=>let ⟨_,e',_⟩:=h p z;by rw[e] at e';cases e'
theorem kh.tup{M:Addr->Prop}{H:Hp}(h:kh M H){p:Addr}{xs:List V}(e:H p=some (.tup xs)): ¬M p:=fun z=>let ⟨_,e',n⟩:=h p z;by rw[e] at e';cases e';exact n xs rfl
theorem kh.JY(h:kh M H)(n:tZ H xs p H'): ¬M p:=by
 rcases n with ⟨_,e⟩ | ⟨e,_⟩
 . exact h.tup e
 . exact h.fresh e
abbrev bq:=List Sl->(Dt->List Sl->Prop)->Prop
abbrev nA:=List Sl->(Bool->List Sl->Prop)->Prop
abbrev gf:=List Sl->(List Dt->List Sl->Prop)->Prop
inductive lE(t:bq)(σ:L2.St)(H:Hp)(Q:VK):Prop
 | mk (W:List Wd) (M:Addr->Prop) (α:List (List Addr)) (δ:List Sl) (Qd:Dt->List Sl->Prop) (h1:aB W M α H σ δ) (h2:t δ Qd) (h3: ∀d δ' H' v,Qd d δ'->aB W M α H' σ δ'->cQ α H H'->Rep M H' v d->Q v H')
inductive lT(t:nA)(σ:L2.St)(H:Hp)(Q:Bool->Hp->Prop):Prop
 | mk (W:List Wd) (M:Addr->Prop) (α:List (List Addr)) (δ:List Sl) (Qd:Bool->List Sl->Prop) (h1:aB W M α H σ δ) (h2:t δ Qd) (h3: ∀b δ' H',Qd b δ'->aB W M α H' σ δ'->cQ α H H'->Q b H')
inductive lA(t:gf)(σ:L2.St)(H:Hp)(Q:List V->Hp->Prop):Prop
 | mk (W:List Wd) (M:Addr->Prop) (α:List (List Addr)) (δ:List Sl) (Qd:List Dt->List Sl->Prop) (h1:aB W M α H σ δ) (h2:t δ Qd) (h3: ∀ds δ' H' vs,Qd ds δ'->aB W M α H' σ δ'->cQ α H H'->az M H' vs ds->Q vs H')
abbrev xU:=List Sl->(List Dt->List Sl->Prop)->Prop
inductive lO(t:xU)(σ:L2.St)(H:Hp)(Q:VK):Prop
 | mk (W:List Wd) (M:Addr->Prop) (α:List (List Addr)) (δ:List Sl) (Qd:List Dt->List Sl->Prop) (h1:aB W M α H σ δ) (h2:t δ Qd) (h3: ∀ds δ' H1 xs a,Qd ds δ'->aB W M α H1 σ δ'->cQ α H H1->az M H1 xs ds->H1 a=none->Q (.ref a) (upd H1 a (.lst xs)))
theorem PE.imp(h:PE X e t)(i: ∀σ H Q,t' σ H Q->t σ H Q):PE X e t':=fun pins s σ H Q I q=>h pins s σ H Q I (i _ _ _ q)
theorem PT.imp(h:PT X e t)(i: ∀σ H Q,t' σ H Q->t σ H Q):PT X e t':=fun pins s σ H Q I q=>h pins s σ H Q I (i _ _ _ q)
theorem PW.imp(h:PW X e t)(i: ∀σ H Q,t' σ H Q->t σ H Q):PW X e t':=fun w pins s σ H Q I q=>h w pins s σ H Q I (i _ _ _ q)
theorem PA.imp(h:PA X e t)(i: ∀σ H Q,t' σ H Q->t σ H Q):PA X e t':=fun pos pins s σ H Q I q=>h pos pins s σ H Q I (i _ _ _ q)
theorem PS.imp(h:PS X e t)(i: ∀D σ H,t' D σ H->t D σ H):PS X e t':=fun pins s σ H D I q=>h pins s σ H D I (i _ _ _ q)
theorem qL.imp(h:qL X e t)(i: ∀D σ H,t' D σ H->t D σ H):qL X e t':=fun pins s σ H D I q=>h pins s σ H D I (i _ _ _ q)
abbrev Ev(X:Cx)(e:Expr)(t:bq):Prop:=PE X e (lE t)
abbrev Tv(X:Cx)(e:Expr)(t:nA):Prop:=PT X e (lT t)
abbrev Av(X:Cx)(es:List Expr)(t:gf):Prop:=PA X es (lA t)
abbrev Ov(X:Cx)(e:Expr)(t:xU):Prop:=PE X e (lO t)
section
variable{X:Cx}{a b c e:Expr}{es:List Expr}{ta tb t:bq}{pos:Pos}
inductive zp(i:Nat)(δ:List Sl)(Q:Dt->List Sl->Prop):Prop
 | mk (d:_) (h1:δ[i]?=some (.im d)) (h2:Q d δ)
theorem aB.im(E:aB W M α H σ δ){i:Nat}(h:δ[i]?=some (.im d)): ∃v,σ[i]?=some (some v)/\Rep M H v d:=by
 obtain⟨o,as,h1,_,_,v,rfl,r⟩:=E.sl i _ h;exact⟨v,h1,r⟩
theorem aB.ow(E:aB W M α H σ δ){i:Nat}(h:δ[i]?=some (.ow ds)): ∃a xs,σ[i]?=some (some (.ref a))/\α[i]?=some [a]/\H a=some (.lst xs)/\az M H xs ds:=by
 obtain⟨o,as,h1,h2,a,xs,rfl,rfl,e,r⟩:=E.sl i _ h;exact⟨a,xs,h1,h2,e,r⟩
theorem K7(i:Nat)(h:PE X (.Name x pos) (dM i)):Ev X (.Name x pos) (zp i):=PE.imp h fun σ H Q cw=>(by obtain⟨W,M,α,δ,Qd,E,⟨d,hd,q⟩,k⟩:=cw;exact(by
 obtain⟨v,h1,r⟩:=E.im hd;exact⟨v,h1,k _ _ _ _ q E cQ.rf r⟩))
theorem dv(i:Nat)(hN:X.N[i]?=some x:=by rfl)(hv:P8 X.env.scope x:=by first | exact Or.inl rfl | exact Or.inr (Or.inl rfl) | exact Or.inr (Or.inr rfl))(hd:(x==("__debug__":Str))=false:=by decide)(yW:(x==("__classdict__":Str))=false:=by decide):Ev X (.Name x pos) (zp i):=K7 i (Br hN hv hd yW)
def dC(d:Dt):bq:=fun δ Q=>Q d δ
theorem aA{i j pos}:Ev X (.Constant (.int i) j pos) (dC (.int i)):=PE.imp bI fun σ H Q fW=>(by obtain⟨W,M,α,δ,Qd,E,q,k⟩:=fW;exact(k _ _ _ _ q E cQ.rf (.int i)))
theorem zo{i j pos}:Ev X (.Constant (.bool i) j pos) (dC (.bl i)):=PE.imp BC fun σ H Q kZ=>(by obtain⟨W,M,α,δ,Qd,E,q,k⟩:=kZ;exact(k _ _ _ _ q E cQ.rf (.bl i)))
theorem fw{j pos}:Ev X (.Constant .none j pos) (dC .aN):=PE.imp Bu fun σ H Q kj=>(by obtain⟨W,M,α,δ,Qd,E,q,k⟩:=kj;exact(k _ _ _ _ q E cQ.rf .aN))
theorem tK{i j pos}:Ev X (.Constant (.str i) j pos) (dC (.str i)):=PE.imp gM fun σ H Q iP=>(by obtain⟨W,M,α,δ,Qd,E,q,k⟩:=iP;exact(k _ _ _ _ q E cQ.rf (.str i)))
def dO(t:xU):bq:=fun δ Q=>t δ fun ds δ'=>Q (.lst ds) δ'
theorem Ov.ev{t:xU}(h:Ov X e t):Ev X e (dO t):=PE.imp h fun σ H Q cw=>(by obtain⟨W,M,α,δ,Qd,E,q,k⟩:=cw;exact(by
 refine⟨W,M,α,δ,_,E,q,fun ds δ' H1 xs a q1 E1 c1 r1 h1=>?_⟩;have s:aD H1 (upd H1 a (.lst xs)):=aD.new h1;exact k _ _ _ _ q1 (E1.same s) (c1.tr (cQ.of s)) (Rep.rJ ag (E1.fresh h1) (r1.same s))))
abbrev D2:=Dt->Dt->(Dt->Prop)->Prop
def xV(r:R2)(R:D2):Prop:= ∀(M:Addr->Prop) (H:Hp) (x y:V) (d1 d2:Dt) (Qd:Dt->Prop) (Q:VK),kh M H->Rep M H x d1->Rep M H y d2->R d1 d2 Qd->(∀H' v d,Qd d->aD H H'->Rep M H' v d->Q v H')->r x y H Q
def nS(R:D2)(ta tb:bq):bq:=fun δ Q=>ta δ fun d1 δ1=>tb δ1 fun d2 δ2=>R d1 d2 fun d=>Q d δ2
theorem kO(hd:xV r R): ∀σ H Q,lE (nS R ta tb) σ H Q->G3 r (lE ta) (lE tb) σ H Q:=fun σ H Q nF=>(by obtain⟨W,M,α,δ,Qd,E,q,k⟩:=nF;exact(
 ⟨W,M,α,δ,_,E,q,fun d1 δ1 H1 x q1 E1 c1 r1=>⟨W,M,α,δ1,_,E1,q1,fun d2 δ2 H2 y q2 E2 c2 r2=>hd M H2 x y d1 d2 _ _ E2.al (r1.chg E1 c2) r2 q2 fun H' v d q3 s r3=>k _ _ _ _ q3 (E2.same s) ((c1.tr c2).tr (cQ.of s)) r3⟩⟩))
theorem tM(ho:jA X (binaryOp op) r)(hd:xV r R)(ha:Ev X a ta)(hb:Ev X b tb):Ev X (.BinOp a op b pos) (nS R ta tb):=PE.imp (cC ho ha hb) (kO hd)
theorem C4(ho:jA X (compareOp op) r)(hd:xV r R)(ha:Ev X a ta)(hb:Ev X b tb)(hm:behindInMarks op b=false):Ev X (.Compare a [op] [b] pos) (nS R ta tb):=PE.imp (wQ ho ha hb hm) (kO hd)
inductive SX(Q:Bool->List Sl->Prop)(d:Dt)(δ':List Sl):Prop
 | mk (c:_) (h1:d= .bl c) (h2:Q c δ')
def dT(t:bq):nA:=fun δ Q=>t δ fun d δ'=>SX Q d δ'
theorem dG: ∀σ H (Q:Bool->Hp->Prop),lT (dT t) σ H Q->lE t σ H fun x H1=> ∃c,x= .bl c/\Q c H1:=fun σ H Q o9=>(by obtain⟨W,M,α,δ,Qd,E,q,k⟩:=o9;exact(
 ⟨W,M,α,δ,_,E,q,fun d δ' H' v nE E1 c1 r1=>(by obtain⟨c,e,q1⟩:=nE;exact(⟨c,by subst e;exact r1.sv,k _ _ _ q1 E1 c1⟩))⟩))
theorem mO(ho:jA X (compareOp op) r)(hd:xV r R)(ha:Ev X a ta)(hb:Ev X b tb)(hm:behindInMarks op b=false):Tv X (.Compare a [op] [b] pos) (dT (nS R ta tb)):=
 PT.imp (g9 ho ha hb hm) fun σ H Q h=>kO hd _ _ _ (dG _ _ _ h |> fun gn=>(by obtain⟨W,M,α,δ,Qd,E,q,k⟩:=gn;exact(⟨W,M,α,δ,Qd,E,q,k⟩)))
theorem mN(h:Ev X e t)(he: ∀whole,isTrue e X.env whole=(do let v<-whole;standAt e.pos;holding [v] (truthy v)):=by intro _;rfl):Tv X e (dT t):=PT.imp (JB h he) fun σ H Q h=>dG _ _ _ h
def Lw(ta:bq):bq:=fun δ Q=>ta δ fun d δ'=>Q (.bl d.RE) δ'
def Ia(ta:bq):bq:=fun δ Q=>ta δ fun d δ'=>Q (.bl (!d.RE)) δ'
theorem Ca(r:Rep M H v d):decide (v= .aN)=d.RE:=by cases r <;> rfl
theorem sQ: ∀σ H Q,lE (Lw ta) σ H Q->MG (lE ta) σ H Q:=fun σ H Q k9=>(by obtain⟨W,M,α,δ,Qd,E,q,k⟩:=k9;exact(
 ⟨W,M,α,δ,_,E,q,fun d δ' H' v q1 E1 c1 r1=>by show Q (V.bl (decide (v=V.aN))) H';rw[Ca r1];exact k _ _ _ _ q1 E1 c1 (.bl _)⟩))
theorem yz: ∀σ H Q,lE (Ia ta) σ H Q->G4 (lE ta) σ H Q:=fun σ H Q k6=>(by obtain⟨W,M,α,δ,Qd,E,q,k⟩:=k6;exact(
 ⟨W,M,α,δ,_,E,q,fun d δ' H' v q1 E1 c1 r1=>by show Q (V.bl !decide (v=V.aN)) H';rw[Ca r1];exact k _ _ _ _ q1 E1 c1 (.bl _)⟩))
theorem HW{j pos'}(ha:Ev X a ta):Ev X (.Compare a [.Is] [.Constant .none j pos'] pos) (Lw ta):=PE.imp (JL (BD ha)) sQ
theorem lC{j pos'}(ha:Ev X a ta):Tv X (.Compare a [.Is] [.Constant .none j pos'] pos) (dT (Lw ta)):=PT.imp (Bf (BD ha)) fun σ H Q h=>sQ _ _ _ (dG _ _ _ h)
theorem pB{j pos'}(ha:Ev X a ta):Tv X (.Compare a [.IsNot] [.Constant .none j pos'] pos) (dT (Ia ta)):=PT.imp (Bf (Fe ha)) fun σ H Q h=>yz _ _ _ (dG _ _ _ h)
end
section
variable{X:Cx}{a b c e:Expr}{es rest:List Expr}{ta tb t:bq}{u v:nA}{pos:Pos}
def Tb(t u:nA):nA:=fun δ Q=>t δ fun c δ1=>if c=true then u δ1 Q else Q false δ1
def Xt(t u:nA):nA:=fun δ Q=>t δ fun c δ1=>if c=true then Q true δ1 else u δ1 Q
def S4(t:nA):nA:=fun δ Q=>t δ fun c δ1=>Q (!c) δ1
theorem IQ(h:Tv X a u):PW X (.BoolOp .And [a] pos) (lT u):=pw_and1 h
theorem rp(h:Tv X a u):PW X (.BoolOp .Or [a] pos) (lT u):=pw_or1 h
theorem w_and(ha:Tv X a u)(hb:PW X (.BoolOp .And (b::rest) pos) (lT v)):PW X (.BoolOp .And (a::b::rest) pos) (lT (Tb u v)):=PW.imp (pw_and ha hb) fun σ H Q iy=>(by obtain⟨W,M,α,δ,Qd,E,q,k⟩:=iy;exact(
 ⟨W,M,α,δ,_,E,q,fun c δ1 H1 q1 E1 c1=>by
  cases c with
  | true=>rw[if_pos rfl] at q1 ⊢;exact⟨W,M,α,δ1,_,E1,q1,fun c2 δ2 H2 q2 E2 Iq=>k _ _ _ q2 E2 (c1.tr Iq)⟩
  | false=>rw[if_neg Zp] at q1 ⊢;exact k _ _ _ q1 E1 c1⟩))
theorem w_or(ha:Tv X a u)(hb:PW X (.BoolOp .Or (b::rest) pos) (lT v)):PW X (.BoolOp .Or (a::b::rest) pos) (lT (Xt u v)):=PW.imp (pw_or ha hb) fun σ H Q Ab=>(by obtain⟨W,M,α,δ,Qd,E,q,k⟩:=Ab;exact(
 ⟨W,M,α,δ,_,E,q,fun c δ1 H1 q1 E1 c1=>by
  cases c with
  | false=>rw[if_neg Zp] at q1 ⊢;exact⟨W,M,α,δ1,_,E1,q1,fun c2 δ2 H2 q2 E2 Iq=>k _ _ _ q2 E2 (c1.tr Iq)⟩
  | true=>rw[if_pos rfl] at q1 ⊢;exact k _ _ _ q1 E1 c1⟩))
theorem Mw(ha:Tv X a u):Tv X (.UnaryOp .Not a pos) (S4 u):=PT.imp (JC ha) fun σ H Q pd=>(by obtain⟨W,M,α,δ,Qd,E,q,k⟩:=pd;exact(⟨W,M,α,δ,_,E,q,fun c δ1 H1 q1 E1 c1=>k _ _ _ q1 E1 c1⟩))
inductive GA(tb:bq)(Q:Dt->List Sl->Prop)(d:Dt)(δ1:List Sl):Prop
 | mk (c:_) (h1:d= .bl c) (h2:if c=true then tb δ1 Q else Q (.bl false) δ1)
def OP(ta tb:bq):bq:=fun δ Q=>ta δ fun d δ1=>GA tb Q d δ1
inductive Gs(Q:Dt->List Sl->Prop)(d:Dt)(δ1:List Sl):Prop
 | mk (c:_) (h1:d= .bl c) (h2:Q (.bl (!c)) δ1)
def OG(ta:bq):bq:=fun δ Q=>ta δ fun d δ1=>Gs Q d δ1
theorem jo{op}(h:Ev X a t):Ev X (.BoolOp op [a] pos) t:=JJ h
theorem g6(ha:Ev X a ta)(hb:Ev X (.BoolOp .And (b::rest) pos) tb):Ev X (.BoolOp .And (a::b::rest) pos) (OP ta tb):=PE.imp (JM ha hb) fun σ H Q IJ=>(by obtain⟨W,M,α,δ,Qd,E,q,k⟩:=IJ;exact(
 ⟨W,M,α,δ,_,E,q,fun d δ1 H1 x Aa E1 c1 r1=>(by obtain⟨c,e,q1⟩:=Aa;exact(⟨c,by subst e;exact r1.sv,by
  cases c with
  | true=>rw[if_pos rfl] at q1 ⊢;exact⟨W,M,α,δ1,_,E1,q1,fun d2 δ2 H2 y q2 E2 c2 r2=>k _ _ _ _ q2 E2 (c1.tr c2) r2⟩
  | false=>rw[if_neg Zp] at q1 ⊢;exact k _ _ _ _ q1 E1 c1 (.bl _)⟩))⟩))
theorem HV(ha:Ev X a ta):Ev X (.UnaryOp .Not a pos) (OG ta):=PE.imp (JK ha) fun σ H Q uj=>(by obtain⟨W,M,α,δ,Qd,E,q,k⟩:=uj;exact(
 ⟨W,M,α,δ,_,E,q,fun d δ1 H1 x ui E1 c1 r1=>(by obtain⟨c,e,q1⟩:=ui;exact(⟨c,by subst e;exact r1.sv,k _ _ _ _ q1 E1 c1 (.bl _)⟩))⟩))
def Xu(t:nA)(ta tb:bq):bq:=fun δ Q=>t δ fun c δ1=>if c=true then ta δ1 Q else tb δ1 Q
theorem fP(hc:Tv X c u)(ha:Ev X a ta)(hb:Ev X b tb):Ev X (.IfExp c a b pos) (Xu u ta tb):=PE.imp (Bx hc ha hb) fun σ H Q zY=>(by obtain⟨W,M,α,δ,Qd,E,q,k⟩:=zY;exact(
 ⟨W,M,α,δ,_,E,q,fun c δ1 H1 q1 E1 c1=>by
  cases c with
  | true=>rw[if_pos rfl] at q1 ⊢;exact⟨W,M,α,δ1,_,E1,q1,fun d2 δ2 H2 y q2 E2 c2 r2=>k _ _ _ _ q2 E2 (c1.tr c2) r2⟩
  | false=>rw[if_neg Zp] at q1 ⊢;exact⟨W,M,α,δ1,_,E1,q1,fun d2 δ2 H2 y q2 E2 c2 r2=>k _ _ _ _ q2 E2 (c1.tr c2) r2⟩⟩))
def vD:gf:=fun δ Q=>Q [] δ
def mR(ta:bq)(tr:gf):gf:=fun δ Q=>ta δ fun d δ1=>tr δ1 fun ds δ2=>Q (d::ds) δ2
theorem ae:Av X [] vD:=PA.imp aL fun σ H Q II=>(by obtain⟨W,M,α,δ,Qd,E,q,k⟩:=II;exact(k _ _ _ _ q E cQ.rf .nil))
theorem aa{tr:gf}(ha:Ev X e ta)(hr:Av X es tr)(hs:starEach (e::es) X.env=(false,eval e X.env)::starEach es X.env:=by rfl):Av X (e::es) (mR ta tr):=PA.imp (au ha hr hs) fun σ H Q IH=>(by obtain⟨W,M,α,δ,Qd,E,q,k⟩:=IH;exact(
 ⟨W,M,α,δ,_,E,q,fun d δ1 H1 x q1 E1 c1 r1=>⟨W,M,α,δ1,_,E1,q1,fun ds δ2 H2 xs q2 E2 c2 r2=>k _ _ _ _ q2 E2 (c1.tr c2) (.cons (r1.chg E1 c2) r2)⟩⟩))
def SW(t:gf):bq:=fun δ Q=>t δ fun ds δ'=>ds.length<=sizeLine/\Q (.tup ds) δ'
def OH(t:gf):xU:=fun δ Q=>t δ fun ds δ'=>ds.length<=sizeLine/\Q ds δ'
theorem bt{x1}{t:gf}(h:Av X es t):Ev X (.Tuple es x1 pos) (SW t):=PE.imp (Bs h) fun σ H Q zX=>(by obtain⟨W,M,α,δ,Qd,E,q,k⟩:=zX;exact(
 ⟨W,M,α,δ,_,E,q,fun ds δ1 H1 xs IG E1 c1 r1=>(by obtain⟨l,q1⟩:=IG;exact(⟨by rw[r1.1];exact l,fun p hp=>by
  have s:aD H1 (upd H1 p (.tup xs)):=aD.new hp;exact k _ _ _ _ q1 (E1.same s) (c1.tr (cQ.of s)) (Rep.ik ag (E1.fresh hp) (r1.same s))⟩))⟩))
theorem j6{t:gf}(h:Av X es t):Ov X (.List es pos) (OH t):=PE.imp (lU h) fun σ H Q QG=>(by obtain⟨W,M,α,δ,Qd,E,q,k⟩:=QG;exact(
 ⟨W,M,α,δ,_,E,q,fun ds δ1 H1 xs QF E1 c1 r1=>(by obtain⟨l,q1⟩:=QF;exact(⟨by rw[r1.1];exact l,fun p hp=>k _ _ _ _ _ q1 E1 c1 r1 hp⟩))⟩))
theorem df{t:gf}(h:Av X es t):Ev X (.List es pos) (dO (OH t)):=Ov.ev (j6 h)
abbrev DN:=List Dt->(Dt->Prop)->Prop
def Pl(r:List V->Hp->VK->Prop)(R:DN):Prop:= ∀(M:Addr->Prop) (H:Hp) (xs:List V) (ds:List Dt) (Qd:Dt->Prop) (Q:VK),kh M H->az M H xs ds->R ds Qd->(∀H' v d,Qd d->aD H H'->Rep M H' v d->Q v H')->r xs H Q
def vE(R:DN)(t:gf):bq:=fun δ Q=>t δ fun ds δ'=>R ds fun d=>Q d δ'
theorem oZ{r:List V->Hp->VK->Prop}{R:DN}{t:gf}(hd:Pl r R): ∀σ H Q,lE (vE R t) σ H Q->QX r (lA t) σ H Q:=fun σ H Q QE=>(by obtain⟨W,M,α,δ,Qd,E,q,k⟩:=QE;exact(
 ⟨W,M,α,δ,_,E,q,fun ds δ1 H1 xs q1 E1 c1 r1=>hd M H1 xs ds _ _ E1.al r1 q1 fun H' v d q3 s r3=>k _ _ _ _ q3 (E1.same s) (c1.tr (cQ.of s)) r3⟩))
theorem jq{id:String}{x:Str}{p:Pos}{r:List V->Hp->VK->Prop}{R:DN}{t:gf}(hc:eB X (.builtin id) r)(hd:Pl r R)(hg:Gl X x)(hm:X.mg x=none)(hv:bootBuiltins x=some (.builtin id))(ha:Av X (e::es) t)(hn:x≠"__name__":=by decide)(nO:(x==("__debug__":Str))=false:=by decide)
  (he:starEach (e::es) X.env=(false,eval e X.env)::starEach es X.env:=by rfl) (dq:(backTo pos (starEach es X.env)).any (·.1)=false:=by rfl):Ev X (.Call (.Name x p) (e::es) [] pos) (vE R t):=
 PE.imp (i4 hc hg hm hv ha hn nO he dq) (oZ hd)
theorem mQ{T:String}{x:Str}{p:Pos}{r:List V->Hp->VK->Prop}{R:DN}{t:gf}(hc:eB X (.type T) r)(hd:Pl r R)(hg:Gl X x)(hm:X.mg x=none)(hv:bootBuiltins x=some (.type T))(ha:Av X (e::es) t)(hn:x≠"__name__":=by decide)(nO:(x==("__debug__":Str))=false:=by decide)
  (he:starEach (e::es) X.env=(false,eval e X.env)::starEach es X.env:=by rfl) (dq:(backTo pos (starEach es X.env)).any (·.1)=false:=by rfl):Ev X (.Call (.Name x p) (e::es) [] pos) (vE R t):=
 PE.imp (fe hc hg hm hv ha hn nO he dq) (oZ hd)
end
inductive Pg(g:Int->Int->Dt)(d1:Dt)(d2:Dt)(Q:Dt->Prop):Prop
 | mk (i j:_) (h1:d1= .int i) (h2:d2= .int j) (h3:Q (g i j))
inductive LX(C:Int->Int->Prop)(g:Int->Int->Dt)(d1:Dt)(d2:Dt)(Q:Dt->Prop):Prop
 | mk (i j:_) (h1:d1= .int i) (h2:d2= .int j) (h3:C i j) (h4:Q (g i j))
theorem zh(h: ∀M H i j,Rep M H (g i j) (gd i j)):xV (Hd g) (Pg gd):=fun M H x y d1 d2 Qd Q al r1 r2 cw k=>(by obtain⟨i,j,e1,e2,q⟩:=cw;exact(by
 subst e1;subst e2;exact⟨i,j,r1.ofInt,r2.ofInt,k H _ _ q (fun _ _ z=>z) (h M H i j)⟩))
theorem HQ(h: ∀M H i j,Rep M H (g i j) (gd i j)):xV (rI C g) (LX C gd):=fun M H x y d1 d2 Qd Q al r1 r2 fW k=>(by obtain⟨i,j,e1,e2,c,q⟩:=fW;exact(by
 subst e1;subst e2;exact⟨i,j,r1.ofInt,r2.ofInt,c,k H _ _ q (fun _ _ z=>z) (h M H i j)⟩))
section
variable{X:Cx}{a b c e:Expr}{es rest:List Expr}{ta tb tc t:bq}{pos:Pos}
abbrev Tc(ta tb:bq):bq:=nS (Pg fun i j=> .int (i+j)) ta tb
abbrev SY(ta tb:bq):bq:=nS (Pg fun i j=> .int (i - j)) ta tb
theorem dy(ha:Ev X a ta)(hb:Ev X b tb):Ev X (.BinOp a .Add b pos) (Tc ta tb):=tM lY (zh fun _ _ _ _=> .int _) ha hb
theorem iu(ha:Ev X a ta)(hb:Ev X b tb):Ev X (.BinOp a .Sub b pos) (SY ta tb):=tM JO (zh fun _ _ _ _=> .int _) ha hb
theorem xF(ha:Ev X a ta)(hb:Ev X b tb):Ev X (.BinOp a .Mult b pos) (nS (LX vW fun i j=> .int (i*j)) ta tb):=tM iF (HQ fun _ _ _ _=> .int _) ha hb
theorem HU(ha:Ev X a ta)(hb:Ev X b tb):Ev X (.BinOp a .Pow b pos) (nS (LX zJ fun i j=> .int (i^j.toNat)) ta tb):=tM BG (HQ fun _ _ _ _=> .int _) ha hb
abbrev Pd:D2:=Pg fun i j=> .bl (decide (i<=j))
abbrev Ph:D2:=Pg fun i j=> .bl (decide (j < i))
theorem SS(ha:Ev X a ta)(hb:Ev X b tb):Ev X (.Compare a [.LtE] [b] pos) (nS Pd ta tb):=C4 Hm (zh fun _ _ _ _=> .bl _) ha hb (dm _)
theorem SU(ha:Ev X a ta)(hb:Ev X b tb):Ev X (.Compare a [.Gt] [b] pos) (nS Ph ta tb):=C4 Hn (zh fun _ _ _ _=> .bl _) ha hb (dm _)
theorem QP(ha:Ev X a ta)(hb:Ev X b tb):Tv X (.Compare a [.LtE] [b] pos) (dT (nS Pd ta tb)):=mO Hm (zh fun _ _ _ _=> .bl _) ha hb (dm _)
theorem QQ(ha:Ev X a ta)(hb:Ev X b tb):Tv X (.Compare a [.Gt] [b] pos) (dT (nS Ph ta tb)):=mO Hn (zh fun _ _ _ _=> .bl _) ha hb (dm _)
noncomputable def eq2:Dt->Dt->Option Bool
 | .aN,.aN=>some true | .aN,.int _=>some false | .int _,.aN=>some false | .aN,.bl _=>some false | .bl _,.aN=>some false | .aN,.str _=>some false | .str _,.aN=>some false
 | .int i,.int j=>some (decide (i=j)) | .bl i,.bl j=>some (decide (i=j)) | .str i,.str j=>some (decide (i=j))
 | .int _,.str _=>some false | .str _,.int _=>some false | .bl _,.str _=>some false | .str _,.bl _=>some false
 | _,_=>none
inductive LY(d1:Dt)(d2:Dt)(Q:Dt->Prop):Prop
 | mk (b:_) (h1:eq2 d1 d2=some b) (h2:Q (.bl b))
inductive Pc(d1:Dt)(d2:Dt)(Q:Dt->Prop):Prop
 | mk (b:_) (h1:eq2 d1 d2=some b) (h2:Q (.bl (!b)))
noncomputable def K6:Dt->Option V
 | .aN=>some .aN | .bl b=>some (.bl b) | .int i=>some (.int i) | .str x=>some (.str x) | _=>none
theorem Rep.fl(r:Rep M H v d)(h:K6 d=some u):v=u:=by
 cases r <;> cases h <;> rfl
theorem Xr:decide (V.int i=V.int j)=decide (i=j):=by simp
theorem Xs:decide (V.bl i=V.bl j)=decide (i=j):=by simp
theorem Xq:decide (V.str i=V.str j)=decide (i=j):=by simp
inductive E2(d1 d2:Dt)(b:Bool):Prop
 | mk (u1 u2:V) (h1:K6 d1=some u1) (h2:K6 d2=some u2) (h3:EA u1 u2=true/\decide (u1=u2)=b)
def Vu(d1 d2:Dt):Option Bool->Prop
 | none=>True
 | some b=>E2 d1 d2 b
theorem Lb:Vu d1 d2 (eq2 d1 d2):=by
 cases d1 with
 | lst _=>trivial
 | tup _=>trivial
 | xx _ _=>trivial
 | kC _ _=>trivial
 | _=>cases d2 with
  | lst _=>trivial
  | tup _=>trivial
  | xx _ _=>trivial
  | kC _ _=>trivial
  | _=>first | trivial | exact⟨_,_,rfl,rfl,rfl,rfl⟩ | exact⟨_,_,rfl,rfl,rfl,Xr⟩ | exact⟨_,_,rfl,rfl,rfl,Xs⟩ | exact⟨_,_,rfl,rfl,rfl,Xq⟩
theorem CI{b:Bool}(r1:Rep M H x d1)(r2:Rep M H y d2)(h:eq2 d1 d2=some b):EA x y=true/\decide (x=y)=b:=by
 have z:Vu d1 d2 (some b):=h▸Lb;obtain⟨u1,u2,e1,e2,q⟩:=z;rw[r1.fl e1,r2.fl e2];exact q
theorem HR:xV Uc LY:=fun M H x y d1 d2 Qd Q al r1 r2 kZ k=>(by obtain⟨b,e,q⟩:=kZ;exact(by
 obtain⟨h1,h2⟩:=CI r1 r2 e;exact⟨h1,by rw[h2];exact k H _ _ q (fun _ _ z=>z) (.bl b)⟩))
theorem Ol:xV T9 Pc:=fun M H x y d1 d2 Qd Q al r1 r2 kj k=>(by obtain⟨b,e,q⟩:=kj;exact(by
 obtain⟨h1,h2⟩:=CI r1 r2 e;exact⟨h1,by rw[h2];exact k H _ _ q (fun _ _ z=>z) (.bl _)⟩))
theorem tN(ha:Ev X a ta)(hb:Ev X b tb):Ev X (.Compare a [.Eq] [b] pos) (nS LY ta tb):=C4 Ho HR ha hb (dm _)
theorem Ep(ha:Ev X a ta)(hb:Ev X b tb):Tv X (.Compare a [.Eq] [b] pos) (dT (nS LY ta tb)):=mO Ho HR ha hb (dm _)
theorem uw(ha:Ev X a ta)(hb:Ev X b tb):Tv X (.Compare a [.NotEq] [b] pos) (dT (nS Pc ta tb)):=mO Nf Ol ha hb (dm _)
inductive O9(g:Int->Dt)(Q:Dt->List Sl->Prop)(d:Dt)(δ':List Sl):Prop
 | mk (i:_) (h1:d= .int i) (h2:Q (g i) δ')
def X6(g:Int->Dt)(ta:bq):bq:=fun δ Q=>ta δ fun d δ'=>O9 g Q d δ'
theorem mP(ha:Ev X a ta):Ev X (.UnaryOp .USub a pos) (X6 (fun i=> .int (-i)) ta):=PE.imp (Nc IT ha) fun σ H Q iP=>(by obtain⟨W,M,α,δ,Qd,E,q,k⟩:=iP;exact(
 ⟨W,M,α,δ,_,E,q,fun d δ1 H1 x iO E1 c1 r1=>(by obtain⟨i,e,q1⟩:=iO;exact(⟨i,by subst e;exact r1.ofInt,k _ _ _ _ q1 E1 c1 (.int _)⟩))⟩))
theorem qF(r:az M H xs ds)(h:iK ds i=some d): ∃x,iK xs i=some x/\Rep M H x d:=by
 unfold iK at h ⊢;rw[r.1];cases hn:w9 ds.length i with
 | none=>rw[hn] at h;cases h
 | some j=>rw[hn] at h;exact r.get h
inductive Pe(d1:Dt)(d2:Dt)(Q:Dt->Prop):Prop
 | mk (ds i d:_) (h1:(d1= .lst ds\/d1= .tup ds)) (h2:d2= .int i) (h3:iK ds i=some d) (h4:Q d)
theorem Om{K:PySem.W.Frag}:xV (Ua K) Pe:=fun M H x y d1 d2 Qd Q al r1 r2 nF k=>(by obtain⟨ds,i,d,e1,e2,h,q⟩:=nF;exact(by
 subst e2;rcases e1 with e1 | e1
 . subst e1;obtain⟨a,xs,rfl,ha,n,rr⟩:=r1.dS;obtain⟨v,hv,rv⟩:=qF rr h;exact .inl ⟨a,xs,i,v,rfl,r2.ofInt,cX.of ha,hv,k H _ _ q (fun _ _ z=>z) rv⟩
 . subst e1;obtain⟨a,xs,rfl,ha,n,rr⟩:=r1.bJ;obtain⟨v,hv,rv⟩:=qF rr h;exact .inr (.inl ⟨a,xs,i,v,rfl,r2.ofInt,eV.of ha,hv,k H _ _ q (fun _ _ z=>z) rv⟩)))
theorem dF(ha:Ev X a ta)(hb:Ev X b tb)(hs:qK b:=by exact fun _ _=>rfl):Ev X (.Subscript a b pos) (nS Pe ta tb):=PE.imp (Bw Kn ha hb hs) (kO Om)
noncomputable def cutD(ds:List Dt)(lo hi:Option Int):List Dt:=(ds.drop (HT.cB ds.length 0 lo)).take (HT.cB ds.length ds.length hi - HT.cB ds.length 0 lo)
theorem az.cut(r:az M H xs ds)(lo hi:Option Int):az M H (mT xs lo hi) (cutD ds lo hi):=by
 unfold mT cutD;rw[r.1];exact(r.drop _).take _
abbrev Pk:=List Sl->(Option Int->List Sl->Prop)->Prop
inductive lP(t:Pk)(σ:L2.St)(H:Hp)(Q:Option Int->Hp->Prop):Prop
 | mk (W:List Wd) (M:Addr->Prop) (α:List (List Addr)) (δ:List Sl) (Qd:Option Int->List Sl->Prop) (h1:aB W M α H σ δ) (h2:t δ Qd) (h3: ∀o δ' H',Qd o δ'->aB W M α H' σ δ'->cQ α H H'->Q o H')
def S5:Pk:=fun δ Q=>Q none δ
inductive Gp(Q:Option Int->List Sl->Prop)(d:Dt)(δ':List Sl):Prop
 | mk (i:_) (h1:d= .int i) (h2:Q (some i) δ')
def OD(t:bq):Pk:=fun δ Q=>t δ fun d δ'=>Gp Q d δ'
abbrev Pv(X:Cx)(o:Option Expr)(t:Pk):Prop:=PO X o (lP t)
theorem PO.imp{X:Cx}{e:Option Expr}{t t':L2.TO}(h:PO X e t)(i: ∀σ H Q,t' σ H Q->t σ H Q):PO X e t':=fun pins s σ H Q I q=>h pins s σ H Q I (i _ _ _ q)
theorem lX:Pv X none S5:=PO.imp wM fun σ H Q o9=>(by obtain⟨W,M,α,δ,Qd,E,q,k⟩:=o9;exact(k _ _ _ q E cQ.rf))
theorem lV(h:Ev X e t):Pv X (some e) (OD t):=PO.imp (wL h) fun σ H Q nE=>(by obtain⟨W,M,α,δ,Qd,E,q,k⟩:=nE;exact(
 ⟨W,M,α,δ,_,E,q,fun d δ1 H1 x gn E1 c1 r1=>(by obtain⟨i,e,q1⟩:=gn;exact(⟨i,by subst e;exact r1.ofInt,k _ _ _ q1 E1 c1⟩))⟩))
inductive Ln(Q:Dt->List Sl->Prop)(d:Dt)(lo:Option Int)(hi:Option Int)(δ3:List Sl):Prop
 | mk (ds:_) (h1:d= .tup ds) (h2:Q (.tup (cutD ds lo hi)) δ3)
def S0(ta:bq)(tl th:Pk):bq:=fun δ Q=>ta δ fun d δ1=>tl δ1 fun lo δ2=>th δ2 fun hi δ3=>Ln Q d lo hi δ3
theorem tL{lo hi:Option Expr}(ha:Ev X a ta)(hl:Pv X lo tl)(hh:Pv X hi th):Ev X (.Subscript a (.Slice lo hi none p2) pos) (S0 ta tl th):=PE.imp (sf Eu ha hl hh) fun σ H Q cw=>(by obtain⟨W,M,α,δ,Qd,E,q,k⟩:=cw;exact(
 ⟨W,M,α,δ,_,E,q,fun d δ1 H1 x q1 E1 c1 r1=>⟨W,M,α,δ1,_,E1,q1,fun o2 δ2 H2 q2 E2 c2=>⟨W,M,α,δ2,_,E2,q2,fun o3 δ3 H3 fW E3 c3=>(by obtain⟨ds,e,q3⟩:=fW;exact(by
  subst e;obtain⟨a,xs,rfl,ha,n,rr⟩:=((r1.chg E1 c2).chg E2 c3).bJ;refine⟨a,xs,rfl,ha,fun p H' nt=>?_⟩;have s:aD H3 H':=nt.keep;exact k _ _ _ _ q3 (E3.same s) (((c1.tr c2).tr c3).tr (cQ.of s)) (Rep.ik nt.at (E3.al.JY nt) ((rr.cut _ _).same s))))⟩⟩⟩))
inductive DO(d1:Dt)(d2:Dt)(Q:Dt->Prop):Prop
 | mk (ds es:_) (h1:d1= .tup ds) (h2:d2= .tup es) (h3:ds.length+es.length<=sizeLine) (h4:Q (.tup (ds++es)))
inductive DP(d1:Dt)(d2:Dt)(Q:Dt->Prop):Prop
 | mk (ds es:_) (h1:d1= .lst ds) (h2:d2= .lst es) (h3:ds.length+es.length<=sizeLine) (h4:Q (.lst (ds++es)))
theorem Ge:xV He DO:=fun M H x y d1 d2 Qd Q al r1 r2 pd k=>(by obtain⟨ds,es,e1,e2,l,q⟩:=pd;exact(by
 subst e1;subst e2;obtain⟨a,xs,rfl,ha,n,rr⟩:=r1.bJ;obtain⟨b,ys,rfl,hb,n2,EG⟩:=r2.bJ;exact⟨a,b,xs,ys,rfl,rfl,ha,hb,by rw[rr.1,EG.1];exact l,fun p H' nt=>k H' _ _ q nt.keep (Rep.ik nt.at (al.JY nt) ((rr.append EG).same nt.keep))⟩))
theorem Gf:xV M7 DP:=fun M H x y d1 d2 Qd Q al r1 r2 iP k=>(by obtain⟨ds,es,e1,e2,l,q⟩:=iP;exact(by
 subst e1;subst e2;obtain⟨a,xs,rfl,ha,n,rr⟩:=r1.dS;obtain⟨b,ys,rfl,hb,n2,EG⟩:=r2.dS;refine⟨a,b,xs,ys,rfl,rfl,ha,hb,by rw[rr.1,EG.1];exact l,fun p hp=>?_⟩;have s:aD H (upd H p (.lst (xs++ys))):=aD.new hp;exact k _ _ _ q s (Rep.rJ ag (al.fresh hp) ((rr.append EG).same s))))
theorem jQ(ha:Ev X a ta)(hb:Ev X b tb):Ev X (.BinOp a .Add b pos) (nS DO ta tb):=tM Fi Ge ha hb
theorem qr(ha:Ev X a ta)(hb:Ev X b tb):Ev X (.BinOp a .Add b pos) (nS DP ta tb):=tM JQ Gf ha hb
inductive DL(d1:Dt)(d2:Dt)(Q:Dt->Prop):Prop
 | mk (ds k:_) (h1:d1= .lst ds) (h2:d2= .int k) (h3: -(2^63)<=k) (h4:k < 2^63) (h5:ds.length*k.toNat<=sizeLine) (h6:Q (.lst (List.replicate k.toNat ds).flatten))
theorem az.rep(r:az M H xs ds): ∀n:Nat,az M H (List.replicate n xs).flatten (List.replicate n ds).flatten
 | 0=> .nil
 | n+1=>by
  rw[ac1,ac1,aa0,aa0];exact r.append (r.rep n)
theorem Gd:xV MY DL:=fun M H x y d1 d2 Qd Q al r1 r2 iO k=>(by obtain⟨ds,n,e1,e2,h1,h2,l,q⟩:=iO;exact(by
 subst e1;subst e2;obtain⟨a,xs,rfl,ha,nn,rr⟩:=r1.dS;refine⟨a,n,xs,rfl,r2.ofInt,ha,h1,h2,by rw[rr.1];exact l,fun p hp=>?_⟩;have s:aD H (upd H p (.lst (List.replicate n.toNat xs).flatten)):=aD.new hp;exact k _ _ _ q s (Rep.rJ ag (al.fresh hp) ((rr.rep _).same s))))
theorem vB(ha:Ev X a ta)(hb:Ev X b tb):Ev X (.BinOp a .Mult b pos) (nS DL ta tb):=tM JP Gd ha hb
noncomputable def dY:Dt->Bool
 | .lst _=>false
 | .tup _=>false
 | .xx _ _=>false
 | .kC _ _=>false
 | _=>true
noncomputable def HM:Dt->Dt->Bool
 | .aN,.aN=>true
 | .bl a,.bl b=>a==b
 | .bl a,.int b=>(if a then 1 else 0)==b
 | .int a,.bl b=>a==(if b then 1 else 0)
 | .int a,.int b=>a==b
 | .str a,.str b=>a==b
 | _,_=>false
noncomputable def inD(d:Dt)(ds:List Dt):Bool:=ds.any fun e=>HM e d
theorem mI(r:Rep M H v d)(h:dY d=true):dw v=true:=by cases r <;> first | rfl | cases h
def X4(d e:Dt):Option V->Option V->Prop
 | some u,some v=>uf u v=HM d e
 | _,_=>False
theorem La{d e:Dt}(h:dY d=true)(h2:dY e=true):X4 d e (K6 d) (K6 e):=by
 cases d with
 | lst _=>cases h
 | tup _=>cases h
 | xx _ _=>cases h
 | kC _ _=>cases h
 | _=>cases e with
  | lst _=>cases h2
  | tup _=>cases h2
  | xx _ _=>cases h2
  | kC _ _=>cases h2
  | _=>exact(rfl:_=_)
theorem qj{M:Addr->Prop}{H:Hp}{v w:V}{d e:Dt}(r:Rep M H v d)(r2:Rep M H w e)(h:dY d=true)(h2:dY e=true):uf v w=HM d e:=by
 have z:=La h h2;cases e1:K6 d with
 | none=>rw[e1] at z;exact z.elim
 | some u=>
  cases e2:K6 e with
  | none=>rw[e1,e2] at z;exact z.elim
  | some u2=>
   rw[e1,e2] at z;rw[r.fl e1,r2.fl e2];exact z
theorem oQ(r:az M H xs ds)(h:ds.all dY=true):xs.all dw=true:=Z4.mpr fun x hx=>by
 obtain⟨i,hi,e⟩:=aa5 hx;have h1:xs[i]?=some x:=by rw[Zg hi,e]
 have h2:ds[i]?=some (ds[i]'(by rw[<-r.1];exact hi)):=Zg _;exact mI (r.2 i _ _ h1 h2) (Z4.mp h _ (ZT h2))
theorem xg(r:Rep M H v d)(hd:dY d=true): ∀{xs:List V} {ds:List Dt},az M H xs ds->ds.all dY=true->nN v xs=inD d ds
 | [],[],_,_=>rfl
 | [],_::_,h,_=>by have:=h.1;simp at this
 | _::_,[],h,_=>by have:=h.1;simp at this
 | x::xs,e::ds,h,hf=>by
  obtain⟨y,ys,e1,e2,e3⟩:=h.aK;cases e1;rw[ao9,aa8] at hf;have ih:=xg r hd e3 hf.2;unfold nN inD at ih ⊢;rw[ag9,ag9,ih,qj e2 r hf.1 hd]
inductive Pf(neg:Bool)(d1:Dt)(d2:Dt)(Q:Dt->Prop):Prop
 | mk (ds:_) (h1:(d2= .lst ds\/d2= .tup ds)) (h2:dY d1=true) (h3:ds.all dY=true) (h4:Q (.bl (if neg then !inD d1 ds else inD d1 ds)))
theorem Oo{K:PySem.W.Frag}{neg:Bool}:xV (Ub K neg) (Pf neg):=fun M H x y d1 d2 Qd Q al r1 r2 zZ k=>(by obtain⟨ds,e2,f1,f2,q⟩:=zZ;exact(by
 have fin: ∀xs,az M H xs ds->dw x=true/\xs.all dw=true/\Q (.bl (if neg then !nN x xs else nN x xs)) H:=fun xs rr=>⟨mI r1 f1,oQ rr f2,by rw[xg r1 f1 rr f2];exact k H _ _ q (fun _ _ z=>z) (.bl _)⟩
 rcases e2 with e2 | e2
 . subst e2;obtain⟨a,xs,rfl,ha,n,rr⟩:=r2.dS;exact⟨a,xs,rfl,.inl (cX.of ha),fin xs rr⟩
 . subst e2;obtain⟨a,xs,rfl,ha,n,rr⟩:=r2.bJ;exact⟨a,xs,rfl,.inr (eV.of ha),fin xs rr⟩))
theorem Eo(ha:Ev X a ta)(hb:Ev X b tb)(hm:behindInMarks .In b=false:=by rfl):Tv X (.Compare a [.In] [b] pos) (dT (nS (Pf false) ta tb)):=mO yt Oo ha hb hm
inductive IC(ds:List Dt)(Q:Dt->Prop):Prop
 | mk (es:_) (h1:(ds= [.lst es]\/ds= [.tup es])) (h2:Q (.int es.length))
theorem Lh{K:PySem.W.Frag}:Pl (fun xs H Q=> ∃p ys,xs= [.ref p]/\(cX K H p ys\/eV K H p ys)/\Q (.int ys.length) H) IC:=fun M H xs ds Qd Q al r uj k=>(by obtain⟨es,e,q⟩:=uj;exact(by
 rcases e with e | e <;> subst e <;> obtain⟨x,ys,rfl,r1,r2⟩:=r.aK <;> cases r2.cz
 . obtain⟨a,zs,rfl,ha,n,rr⟩:=r1.dS;exact⟨a,zs,rfl,.inl (cX.of ha),by rw[rr.1];exact k H _ _ q (fun _ _ z=>z) (.int _)⟩
 . obtain⟨a,zs,rfl,ha,n,rr⟩:=r1.bJ;exact⟨a,zs,rfl,.inr (eV.of ha),by rw[rr.1];exact k H _ _ q (fun _ _ z=>z) (.int _)⟩))
theorem cN(hm:X.mg "len"=none)(ha:Av X [e] tA)(hg:Gl X "len":=by rfl)(he:starEach [e] X.env=(false,eval e X.env)::starEach [] X.env:=by rfl)(dq:(backTo pos (starEach [] X.env)).any (·.1)=false:=by rfl):
  Ev X (.Call (.Name "len" p) [e] [] pos) (vE IC tA):=jq jw Lh hg hm PySem.boot_len ha (by decide) (by decide) he dq
inductive xT(ds:List Dt)(Q:Dt->Prop):Prop
 | mk (es:_) (h1:(ds= [.lst es]\/ds= [.tup es])) (h2:Q (.tup es))
theorem CW{K:PySem.W.Frag}:Pl (fun xs H Q=> ∃p ys,xs= [.ref p]/\((cX K H p ys/\ ∀l,H l=none->Q (.ref l) (upd H l (.tup ys)))\/(eV K H p ys/\Q (.ref p) H))) xT:=fun M H xs ds Qd Q al r nF k=>(by obtain⟨es,e,q⟩:=nF;exact(by
 rcases e with e | e <;> subst e <;> obtain⟨x,ys,rfl,r1,r2⟩:=r.aK <;> cases r2.cz
 . obtain⟨a,zs,rfl,ha,n,rr⟩:=r1.dS;refine⟨a,zs,rfl,.inl ⟨cX.of ha,fun l hl=>?_⟩⟩;have s:aD H (upd H l (.tup zs)):=aD.new hl;exact k _ _ _ q s (Rep.ik ag (al.fresh hl) (rr.same s))
 . obtain⟨a,zs,rfl,ha,n,rr⟩:=r1.bJ;exact⟨a,zs,rfl,.inr ⟨eV.of ha,k H _ _ q (fun _ _ z=>z) r1⟩⟩))
theorem jm(hm:X.mg "tuple"=none)(ha:Av X [e] tA)(hg:Gl X "tuple":=by rfl)(he:starEach [e] X.env=(false,eval e X.env)::starEach [] X.env:=by rfl)(dq:(backTo pos (starEach [] X.env)).any (·.1)=false:=by rfl):
  Ev X (.Call (.Name "tuple" p) [e] [] pos) (vE xT tA):=mQ iw CW hg hm bM ha (by decide) (by decide) he dq
end
theorem bL{α:List (List Addr)}(h:x∈(α.set i as).flatten):x∈α.flatten\/x∈as:=by
 obtain⟨l,hl,hx⟩:=al8.mp h;rcases List.mem_or_eq_of_mem_set hl with y | y
 . exact .inl (al8.mpr ⟨l,y,hx⟩)
 . exact .inr (y▸hx)
theorem aW{α:List (List Addr)}{i:Nat}(h:α[i]?=some as)(hx:x∈as):x∈α.flatten:=al8.mpr ⟨as,ZT h,hx⟩
theorem ck: ∀{α:List (List Addr)} {i:Nat} {as:List Addr},α.flatten.Nodup->as.Nodup->(∀x∈as,x∉α.flatten)->(α.set i as).flatten.Nodup
 | [],_,_,_,_,_=>by simp
 | l::r,0,as,h,ha,hx=>by
  rw[List.set_cons_zero,aa0];rw[aa0] at h;refine ac4.mpr ⟨ha,(ac4.mp h).2.1,fun x h1 y h2 e=>?_⟩;subst e;exact hx x h1 (by rw[aa0];exact Zw _ h2)
 | l::r,i+1,as,h,ha,hx=>by
  rw[List.set_cons_succ,aa0];rw[aa0] at h;obtain⟨h1,h2,h3⟩:=ac4.mp h;refine ac4.mpr ⟨h1,ck h2 ha fun x z y=>hx x z (by rw[aa0];exact Zw _ y),fun x z y w e=>?_⟩;subst e;rcases bL w with q | q
  . exact h3 x z x q rfl
  . exact hx x q (by rw[aa0];exact ZX _ z)
theorem fM: ∀{α:List (List Addr)} {i j:Nat} {as bs:List Addr} {x:Addr},α.flatten.Nodup->α[i]?=some as->α[j]?=some bs->i≠j->x∈as->x∉bs
 | [],i,j,as,bs,x,_,h1,_,_,_=>by simp at h1
 | l::r,i,j,as,bs,x,h,h1,h2,bW,hx=>by
  rw[aa0] at h;obtain⟨n1,n2,n3⟩:=ac4.mp h;cases i with
  | zero=>
   cases j with
   | zero=>exact absurd rfl bW
   | succ j=>
    simp at h1 h2;subst h1;exact fun y=>n3 x hx x (aW h2 y) rfl
  | succ i=>
   cases j with
   | zero=>
    simp at h1 h2;subst h2;exact fun y=>n3 x y x (aW h1 hx) rfl
   | succ j=>exact fM n2 (by simpa using h1) (by simpa using h2) (by lia) hx
section
variable{Ws:List Wd}{M:Addr->Prop}{α:List (List Addr)}{H H':Hp}{σ:L2.St}{δ:List Sl}{i:Nat}{v:V}{d:Dt}{s:Sl}
def bC(δ:List Sl)(i:Nat):Prop:= ∃s,δ[i]?=some s/\s.bK=false
theorem bC.lt(h:bC δ i):i < δ.length:=let ⟨s,e,_⟩:=h;(Zq.mp e).1
theorem aB.gw(E:aB Ws M α H σ δ)(r:Rep M H v d)(ok:bC δ i):aB Ws M (α.set i []) H (σ.set i (some v)) (δ.set i (.im d)):=by
 have hi:=ok.lt;obtain⟨s0,Cj,nb⟩:=ok;refine⟨by rw[ZQ,ZQ,E.ls],by rw[ZQ,ZQ,E.la],fun j s hj=>?_,ck E.nd ac7 (fun x hx=>absurd hx Zi),fun a ha=>(bL ha).elim (E.mu a) fun z=>absurd z Zi,E.al,fun W hW=>?_⟩
 . by_cases bW:i=j
   . subst bW;rw[ZH hi] at hj;cases hj;exact⟨some v,[],by rw[ZH (by rw[E.ls];exact hi)],by rw[ZH (by rw[E.la];exact hi)],rfl,v,rfl,r⟩
   . rw[Zr bW] at hj;obtain⟨o,as,h1,h2,h3⟩:=E.sl j s hj;exact⟨o,as,by rw[Zr bW];exact h1,by rw[Zr bW];exact h2,h3⟩
 . have k:=E.w W hW;refine⟨k.bs,k.ex,fun a ha=>(bL ha).elim (k.fr a) fun z=>absurd z Zi,k.m0,k.m1,fun d c e=>?_,fun j s as h1 h2 nb'=>?_⟩
   . obtain⟨t,e1,e2⟩:=k.bx d c e;have:i≠0:=fun z=>by subst z;rw[Cj] at e1;cases e1;cases nb
     exact⟨t,by rw[Zr this];exact e1,by rw[Zr this];exact e2⟩
   . by_cases bW:i=j
     . subst bW;rw[ZH (by rw[E.la];exact hi)] at h2;cases h2;exact fun a ha=>absurd ha Zi
     . rw[Zr bW] at h1 h2;exact k.fz j s as h1 h2 nb'
theorem az.grow(r:az M H xs ds)(hp:H p=none):az (fun b=>M b\/b=p) (upd H p o) xs ds:=r.mono fun a u e n=>⟨by rw[ah (aj e hp)];exact e,fun z=>z.elim n (aj e hp)⟩
theorem Rep.grow(r:Rep M H x d)(hp:H p=none):Rep (fun b=>M b\/b=p) (upd H p o) x d:=r.mono fun a u e n=>⟨by rw[ah (aj e hp)];exact e,fun z=>z.elim n (aj e hp)⟩
theorem n8.grow(h:n8 M H o s as)(hp:H p=none):n8 (fun b=>M b\/b=p) (upd H p u) o s as:=by
 have sm:aD H (upd H p u):=aD.new hp;cases s with
 | no=>exact h
 | im d=>exact⟨h.1,let ⟨v,e,r⟩:=h.2;⟨v,e,r.grow hp⟩⟩
 | ow ds=>obtain⟨a,xs,e1,e2,e3,r⟩:=h;exact⟨a,xs,e1,e2,sm _ _ e3,r.grow hp⟩
 | bx t=>obtain⟨d,c,e1,e2,r⟩:=h;exact⟨d,c,e1,e2,r.same sm⟩
 | dk ks ds=>obtain⟨a,vs,e1,e2,e3,e4,r⟩:=h;exact⟨a,vs,e1,e2,sm _ _ e3,e4,r.grow hp⟩
 | ob R=>obtain⟨v,e,r⟩:=h;exact⟨v,e,R.st r (fun a _ o q=>sm _ _ q) fun a u q n=>⟨sm _ _ q,fun z=>z.elim n (aj q hp)⟩⟩
 | fn f=>exact h
theorem aB.pH(E:aB Ws M α H σ δ)(hp:H p=none)(hu: ∀xs,u≠ .tup xs)(ok:bC δ i)(nb:s.bK=false)(hs:n8 (fun b=>M b\/b=p) (upd H p u) (some (.ref p)) s [p]):
  aB Ws (fun b=>M b\/b=p) (α.set i [p]) (upd H p u) (σ.set i (some (.ref p))) (δ.set i s):=by
 have hi:=ok.lt;have sm:aD H (upd H p u):=aD.new hp;have np:p∉α.flatten:=fun z=>E.fresh hp (E.mu p z);obtain⟨s0,Cj,Wm⟩:=ok;refine⟨by rw[ZQ,ZQ,E.ls],by rw[ZQ,ZQ,E.la],fun j s' hj=>?_,ck E.nd (by simp) (fun x hx=>by rw[Zl.mp hx];exact np),fun a ha=>(bL ha).elim (fun z=> .inl (E.mu a z)) fun z=> .inr (Zl.mp z),fun a ha=>?_,fun W hW=>?_⟩
 . by_cases bW:i=j
   . subst bW;rw[ZH hi] at hj;cases hj;exact⟨_,_,by rw[ZH (by rw[E.ls];exact hi)],by rw[ZH (by rw[E.la];exact hi)],hs⟩
   . rw[Zr bW] at hj;obtain⟨o,as,h1,h2,h3⟩:=E.sl j s' hj;exact⟨o,as,by rw[Zr bW];exact h1,by rw[Zr bW];exact h2,h3.grow hp⟩
 . rcases ha with ha | ha
   . obtain⟨o,e,n⟩:=E.al a ha;exact⟨o,sm _ _ e,n⟩
   . subst ha;exact⟨u,ag,hu⟩
 . have k:=E.w W hW;have Xc:W.A0 p\/W.H0 p=none:=by
    by_cases z:W.A0 p
    . exact .inl z
    . right;cases e:W.H0 p with
      | none=>rfl
      | some o=>have:=k.bs p o e z;rw[hp] at this;cases this
   refine⟨fun b o e n=>sm _ _ (k.bs b o e n),fun b n y=>k.ex b n (LW.aD.none sm y),fun a ha=>(bL ha).elim (k.fr a) fun z=>by rw[Zl.mp z];exact Xc,fun a h=> .inl (k.m0 a h),fun a h=>?_,fun d c e=>?_,fun j s' as h1 h2 nb'=>?_⟩
   . rcases h with h | h
     . exact k.m1 a h
     . subst h;by_cases z:W.H0 a=none
       . exact .inr z
       . exact absurd hp (k.ex a z)
   . obtain⟨t,e1,e2⟩:=k.bx d c e;have:i≠0:=fun z=>by subst z;rw[Cj] at e1;cases e1;cases Wm
     exact⟨t,by rw[Zr this];exact e1,by rw[Zr this];exact e2⟩
   . by_cases bW:i=j
     . subst bW;rw[ZH (by rw[E.la];exact hi)] at h2;cases h2;exact fun a ha z=>by rw[Zl.mp ha] at z;exact E.fresh hp (k.m0 _ z)
     . rw[Zr bW] at h1 h2;exact k.fz j s' as h1 h2 nb'
theorem aB.mod(E:aB Ws M α H σ δ){s s':Sl}(hi:δ[i]?=some s)(ho:σ[i]?=some o)(ha:α[i]?=some as)(hb:s'.bK=s.bK)(hs:n8 M H' o s' as)(keep: ∀b u,H b=some u->b∉as->H' b=some u)(ex: ∀a∈as,∃u,H' a=some u/\ ∀xs,u≠ .tup xs):aB Ws M α H' σ (δ.set i s')/\cQ α H H':=by
 have dX:=(Zq.mp hi).1;have Tt: ∀a∈as,M a:=fun a h=>E.mu a (aW ha h);have rep: ∀{v:V} {d:Dt},Rep M H v d->Rep M H' v d:=fun r=>r.mono fun a u e n=>⟨keep a u e fun z=>n (Tt a z),n⟩
 have MW: ∀{v:List V} {d:List Dt},az M H v d->az M H' v d:=fun r=>r.mono fun a u e n=>⟨keep a u e fun z=>n (Tt a z),n⟩
 refine⟨⟨by rw[ZQ,E.ls],by rw[ZQ,E.la],fun j s2 hj=>?_,E.nd,E.mu,fun a h=>?_,fun W hW=>?_⟩,fun b u e n=>keep b u e fun z=>n (aW ha z)⟩
 . by_cases bW:i=j
   . subst bW;rw[ZH dX] at hj;cases hj;exact⟨o,as,ho,ha,hs⟩
   . rw[Zr bW] at hj;obtain⟨o2,Ds,h1,h2,h3⟩:=E.sl j s2 hj;have ap: ∀x∈Ds,x∉as:=fun x hx=>fM E.nd h2 ha (Ne.symm bW) hx;refine⟨o2,Ds,h1,h2,?_⟩;cases s2 with
     | no=>exact h3
     | im d=>exact⟨h3.1,let ⟨v,e,r⟩:=h3.2;⟨v,e,rep r⟩⟩
     | ow ds=>obtain⟨a,xs,e1,e2,e3,r⟩:=h3;subst e1;exact⟨a,xs,rfl,e2,keep _ _ e3 (ap a (by simp)),MW r⟩
     | bx t=>
      obtain⟨d,c,e1,e2,r⟩:=h3;subst e1;refine⟨d,c,rfl,e2,keep _ _ r.dc (ap d (by simp)),?_,r.t0,r.t1⟩;obtain⟨ns,h,q⟩:=r.cs;exact⟨ns,keep _ _ h (ap c (by simp)),q⟩
     | dk ks ds=>obtain⟨a,vs,e1,e2,e3,e4,r⟩:=h3;subst e1;exact⟨a,vs,rfl,e2,keep _ _ e3 (ap a (by simp)),e4,MW r⟩
     | ob R=>obtain⟨v,e,r⟩:=h3;exact⟨v,e,R.st r (fun a ha u q=>keep _ _ q (ap a ha)) fun a u q n=>⟨keep a u q fun z=>n (Tt a z),n⟩⟩
     | fn f=>exact h3
 . by_cases z:a∈as
   . exact ex a z
   . obtain⟨u,e,n⟩:=E.al a h;exact⟨u,keep _ _ e z,n⟩
 . have k:=E.w W hW;have WA: ∀a∈as,W.A0 a\/W.H0 a=none:=fun a z=>k.fr a (aW ha z);refine⟨fun b u e n=>keep _ _ (k.bs b u e n) fun z=>?_,fun b n y=>?_,k.fr,k.m0,k.m1,fun d c e=>?_,fun j s2 Ds h1 h2 nb=>?_⟩
   . rcases WA b z with q | q
     . exact n q
     . rw[q] at e;cases e
   . by_cases z:b∈as
     . obtain⟨u,e,_⟩:=ex b z;rw[e] at y;cases y
     . cases e:H b with
       | none=>exact k.ex b n e
       | some u=>rw[keep _ _ e z] at y;cases y
   . obtain⟨t,e1,e2⟩:=k.bx d c e;by_cases bW:i=0
     . subst bW;rw[hi] at e1;cases e1;cases s' with
       | bx t'=>exact⟨t',by rw[ZH dX],e2⟩
       | _=>cases hb
     . exact⟨t,by rw[Zr bW];exact e1,e2⟩
   . by_cases bW:i=j
     . subst bW;rw[ZH dX] at h1;cases h1;exact k.fz i s Ds hi h2 (by rw[<-hb];exact nb)
     . rw[Zr bW] at h1;exact k.fz j s2 Ds h1 h2 nb
theorem aB.Ob(E:aB Ws M α H σ δ)(hi:δ[i]?=some (.ow ds))(ha:α[i]?=some [a]):aB Ws (fun b=>M b/\b≠a) (α.set i []) H σ (δ.set i (.im (.lst ds))):=by
 have dX:=(Zq.mp hi).1;obtain⟨a',xs,h1,h2,h3,r⟩:=E.ow hi;rw[ha] at h2;cases h2;have mono: ∀{v:V} {d:Dt},Rep M H v d->Rep (fun b=>M b/\b≠a) H v d:=fun r=>r.mono fun b u e n=>⟨e,fun z=>n z.1⟩
 have l7: ∀{v:List V} {d:List Dt},az M H v d->az (fun b=>M b/\b≠a) H v d:=fun r=>r.mono fun b u e n=>⟨e,fun z=>n z.1⟩
 refine⟨by rw[ZQ,E.ls],by rw[ZQ,ZQ,E.la],fun j s hj=>?_,ck E.nd ac7 (fun x hx=>absurd hx Zi),fun b hb=>?_,fun b hb=>E.al b hb.1,fun W hW=>?_⟩
 . by_cases bW:i=j
   . subst bW;rw[ZH dX] at hj;cases hj;exact⟨some (.ref a),[],h1,by rw[ZH (by rw[E.la];exact dX)],rfl,_,rfl,Rep.rJ h3 (fun z=>z.2 rfl) (l7 r)⟩
   . rw[Zr bW] at hj;obtain⟨o2,Ds,g1,g2,g3⟩:=E.sl j s hj;refine⟨o2,Ds,g1,by rw[Zr bW];exact g2,?_⟩;cases s with
     | no=>exact g3
     | im d=>exact⟨g3.1,let ⟨v,e,r⟩:=g3.2;⟨v,e,mono r⟩⟩
     | ow ds=>obtain⟨b,xs,e1,e2,e3,r⟩:=g3;exact⟨b,xs,e1,e2,e3,l7 r⟩
     | bx t=>exact g3
     | dk ks ds=>obtain⟨b,vs,e1,e2,e3,e4,r⟩:=g3;exact⟨b,vs,e1,e2,e3,e4,l7 r⟩
     | ob R=>obtain⟨v,e,r⟩:=g3;exact⟨v,e,R.st r (fun _ _ _ q=>q) fun b u q n=>⟨q,fun z=>n z.1⟩⟩
     | fn f=>exact g3
 . obtain⟨l,hl,hx⟩:=al8.mp hb;obtain⟨j,hj,e⟩:=aa5 hl;have ej:(α.set i [])[j]?=some l:=by rw[Zg hj,e]
   by_cases bW:i=j
   . subst bW;rw[ZH (by rw[E.la];exact dX)] at ej;cases ej;exact absurd hx Zi
   . rw[Zr bW] at ej;refine⟨E.mu b (aW ej hx),fun z=>?_⟩;subst z;exact fM E.nd ej ha (Ne.symm bW) hx (by simp)
 . have k:=E.w W hW;refine⟨k.bs,k.ex,fun b hb=>(bL hb).elim (k.fr b) fun z=>absurd z Zi,fun b z=>⟨k.m0 b z,fun y=>?_⟩,fun b z=>k.m1 b z.1,fun d c e=>?_,fun j s as g1 g2 nb=>?_⟩
   . subst y;exact k.fz i _ _ hi ha rfl b (by simp) z
   . obtain⟨t,e1,e2⟩:=k.bx d c e;have:i≠0:=fun z=>by subst z;rw[hi] at e1;cases e1
     exact⟨t,by rw[Zr this];exact e1,by rw[Zr this];exact e2⟩
   . by_cases bW:i=j
     . subst bW;rw[ZH (by rw[E.la];exact dX)] at g2;cases g2;exact fun b hb=>absurd hb Zi
     . rw[Zr bW] at g1 g2;exact k.fz j s as g1 g2 nb
theorem aB.ue(E:aB Ws M α H σ δ){ds:List Dt}(hi:δ[i]?=some (.ow ds)): ∃M' α',aB Ws M' α' H σ (δ.set i (.im (.lst ds)))/\ ∀a,M' a->M a:=by
 obtain⟨a,xs,h1,h2,h3,r⟩:=E.ow hi;exact⟨_,_,E.Ob hi h2,fun b z=>z.1⟩
theorem aB.drop(E:aB (W::Ws) M α H σ δ):aB Ws M α H σ δ:=⟨E.ls,E.la,E.sl,E.nd,E.mu,E.al,fun W' h=>E.w W' (Zn _ h)⟩
theorem aB.loop(E:aB Ws M α H σ δ):aB (⟨H,M,fun _=>False,M,none⟩::Ws) M α H σ δ:=⟨E.ls,E.la,E.sl,E.nd,E.mu,E.al,fun W h=>by
 rcases ZS.mp h with e | e
 . subst e;exact⟨fun b o e _=>e,fun b n=>n,fun a h=> .inl (E.mu a h),fun a h=>h.elim,fun a h=> .inl h,fun d c e=>(by cases e),fun j s as _ _ _ a _ z=>z⟩
 . exact E.w W e⟩
end
structure cO where
 nx:List Sl->Prop
 rt:Dt->List Sl->Prop
 bk:List Sl->Prop:=fun _=>False
 ct:List Sl->Prop:=fun _=>False
abbrev jF:=cO->List Sl->Prop
structure Lk(Ws:List Wd)(D:Ends)(Δ:cO):Prop where
 nx: ∀M α H σ δ,aB Ws M α H σ δ->Δ.nx δ->D.nx σ H
 rt: ∀M α H σ δ v d,aB Ws M α H σ δ->Rep M H v d->Δ.rt d δ->D.rt v H
 bk: ∀M α H σ δ,aB Ws M α H σ δ->Δ.bk δ->D.bk σ H
 ct: ∀M α H σ δ,aB Ws M α H σ δ->Δ.ct δ->D.ct σ H
inductive lS(T:jF)(D:L2.Ends)(σ:L2.St)(H:Hp):Prop
 | mk (Ws:List Wd) (M:Addr->Prop) (α:List (List Addr)) (δ:List Sl) (Δ:cO) (h1:aB Ws M α H σ δ) (h2:Lk Ws D Δ) (h3:T Δ δ)
abbrev Ex(X:Cx)(s:Stmt)(T:jF):Prop:=PS X s (lS T)
abbrev zW(X:Cx)(s:List Stmt)(T:jF):Prop:=qL X s (lS T)
section
variable{X:Cx}{st:Stmt}{rest:List Stmt}{T U:jF}{e a b c:Expr}{es:List Expr}{t ta tb:bq}{u:nA}{pos:Pos}
def Ig:jF:=fun Δ δ=>Δ.nx δ
def Gk(T U:jF):jF:=fun Δ δ=>T {Δ with nx:=U Δ} δ
theorem bU:zW X [] Ig:=qL.imp pR fun D σ H cw=>(by obtain⟨Ws,M,α,δ,Δ,E,L,q⟩:=cw;exact(L.nx _ _ _ _ _ E q))
theorem aq(h1:Ex X st T)(h2:zW X rest U):zW X (st::rest) (Gk T U):=qL.imp (bB h1 h2) fun D σ H fW=>(by obtain⟨Ws,M,α,δ,Δ,E,L,q⟩:=fW;exact(
 ⟨Ws,M,α,δ,{Δ with nx:=U Δ},E,⟨fun M α H σ δ E q=>⟨Ws,M,α,δ,Δ,E,L,q⟩,L.rt,L.bk,L.ct⟩,q⟩))
theorem aG(h1:Ex X st T):zW X [st] T:=iZ h1
def S2(t:bq):jF:=fun Δ δ=>t δ Δ.rt
theorem aM(h:Ev X e t):Ex X (.Return (some e) pos) (S2 t):=PS.imp (pS h) fun D σ H kj=>(by obtain⟨Ws,M,α,δ,Δ,E,L,q⟩:=kj;exact(⟨Ws,M,α,δ,_,E,q,fun d δ' H' v q1 E1 c1 r1=>L.rt _ _ _ _ _ _ _ E1 r1 q1⟩))
def OK(u:nA)(T U:jF):jF:=fun Δ δ=>u δ fun b δ'=>if b=true then T Δ δ' else U Δ δ'
theorem eD(hc:Tv X c u)(ha:zW X sa T)(hb:zW X sb U):Ex X (.If c sa sb pos) (OK u T U):=PS.imp (Bh hc ha hb) fun D σ H iP=>(by obtain⟨Ws,M,α,δ,Δ,E,L,q⟩:=iP;exact(
 ⟨Ws,M,α,δ,_,E,q,fun b δ' H' q1 E1 c1=>by
  cases b with
  | true=>rw[if_pos rfl] at q1 ⊢;exact⟨Ws,M,α,δ',Δ,E1,L,q1⟩
  | false=>rw[if_neg Zp] at q1 ⊢;exact⟨Ws,M,α,δ',Δ,E1,L,q1⟩⟩))
def Ii(t:bq):jF:=fun Δ δ=>t δ fun _ δ'=>Δ.nx δ'
theorem gB(h:Ev X e t)(hs:swapsWith e none pos.line X.env=pure false:=by rfl):Ex X (.Expr e pos) (Ii t):=PS.imp (ET h hs) fun D σ H iO=>(by obtain⟨Ws,M,α,δ,Δ,E,L,q⟩:=iO;exact(⟨Ws,M,α,δ,_,E,q,fun d δ' H' v q1 E1 c1 r1=>L.nx _ _ _ _ _ E1 q1⟩))
def Oz(i:Nat)(t:bq):jF:=fun Δ δ=>t δ fun d δ'=>bC δ' i/\Δ.nx (δ'.set i (.im d))
theorem cA(i:Nat){x:Str}{pos':Pos}(hN:X.N.Nodup)(he:Ev X e t)(hi:X.N[i]?=some x:=by rfl)(hx:Loc X.env.scope x:=by first | exact Or.inl rfl | exact Or.inr rfl)(hs:swapsWith e (some (.Name x pos')) pos.line X.env=pure false:=by rfl)(hf:X.fn x=true\/X.env.scope.names.lookup x=some .local:=by first | exact .inl rfl | exact .inr rfl | assumption):
  Ex X (.Assign [.Name x pos'] e pos) (Oz i t):=PS.imp (dj hN hi hx he hs hf) fun D σ H nF=>(by obtain⟨Ws,M,α,δ,Δ,E,L,q⟩:=nF;exact(⟨Ws,M,α,δ,_,E,q,fun d δ' H' v o9 E1 c1 r1=>(by obtain⟨ok,q1⟩:=o9;exact(L.nx _ _ _ _ _ (E1.gw r1 ok) q1))⟩))
def C8(i:Nat)(t:xU):jF:=fun Δ δ=>t δ fun ds δ'=>bC δ' i/\Δ.nx (δ'.set i (.ow ds))
theorem yf{i:Nat}{t:xU}: ∀D σ H,lS (C8 i t) D σ H->AE (lO t) (bV i) D σ H:=fun D σ H nE=>(by obtain⟨Ws,M,α,δ,Δ,E,L,q⟩:=nE;exact(⟨Ws,M,α,δ,_,E,q,fun ds δ' H1 xs a gn E1 c1 r1 h1=>(by obtain⟨ok,q1⟩:=gn;exact(
 L.nx _ _ _ _ _ (E1.pH (s:= .ow ds) h1 (fun xs z=>by cases z) ok rfl ⟨a,xs,rfl,rfl,ag,r1.grow h1⟩) q1))⟩))
theorem jJ(i:Nat){x:Str}{pos':Pos}{t:xU}(hN:X.N.Nodup)(he:Ov X e t)(hi:X.N[i]?=some x:=by rfl)(hx:Loc X.env.scope x:=by first | exact Or.inl rfl | exact Or.inr rfl)(hs:swapsWith e (some (.Name x pos')) pos.line X.env=pure false:=by rfl)(hf:X.fn x=true\/X.env.scope.names.lookup x=some .local:=by first | exact .inl rfl | exact .inr rfl | assumption):
  Ex X (.Assign [.Name x pos'] e pos) (C8 i t):=PS.imp (dj hN hi hx he hs hf) yf
inductive OL(i:Nat)(T:jF)(Δ:cO)(δ:List Sl):Prop
 | mk (ds:_) (h1:δ[i]?=some (.ow ds)) (h2:T Δ (δ.set i (.im (.lst ds))))
theorem Cz: ∀D σ H,lS (OL i T) D σ H->lS T D σ H:=fun D σ H k9=>(by obtain⟨Ws,M,α,δ,Δ,E,L,ds,h,q⟩:=k9;exact(by
 obtain⟨M',α',E',_⟩:=E.ue h;exact⟨Ws,M',α',_,Δ,E',L,q⟩))
theorem oy(i:Nat)(h:Ex X st T):Ex X st (OL i T):=PS.imp h Cz
theorem pX{Ws:List Wd}{M:Addr->Prop}{α:List (List Addr)}{H:Hp}{σ:L2.St}{δ:List Sl}{i:Nat}{ds U1:List Dt}{a:Addr}(E:aB Ws M α H σ δ)(h:δ[i]?=some (.ow ds))(h1:σ[i]?=some (some (.ref a)))(h2:α[i]?=some [a])(r:az M H QI U1):
  aB Ws M α (upd H a (.lst QI)) σ (δ.set i (.ow U1))/\cQ α H (upd H a (.lst QI)):=
 E.mod h h1 h2 rfl ⟨a,QI,rfl,rfl,ag,r.mono fun b u e n=>⟨by rw[ah (fun z=>n (by rw[z];exact E.mu a (aW h2 (by simp))))];exact e,n⟩⟩ (fun b u e n=>by rw[ah (fun z=>n (by rw[z];simp))];exact e) (fun b hb=>by rw[Zl.mp hb];exact⟨_,ag,fun xs z=>by cases z⟩)
inductive Ly(i:Nat)(Q:Dt->List Sl->Prop)(es:List Dt)(δ':List Sl):Prop
 | mk (ds d:_) (h1:es= [d]) (h2:δ'[i]?=some (.ow ds)) (h3:ds.length < sizeLine) (h4:Q .aN (δ'.set i (.ow (ds++ [d]))))
def OO(i:Nat)(t:gf):bq:=fun δ Q=>(∃HP,δ[i]?=some (.ow HP))/\t δ fun es δ'=>Ly i Q es δ'
theorem fA(i:Nat){xp apos cv:Pos}(ho:PE X (.Name x xp) (dM i))(ha:Av X [e] tA)(gV:attributeBase (.Name x xp) "append" X.env (eval (.Name x xp) X.env)=eval (.Name x xp) X.env:=by rfl)(Cp:((backTo cv (starEach [e] X.env)).all (fun x=>!x.1) && (backToKw cv (keywordEach [] X.env)).all (fun x=>x.1.isSome) && decide ([e].length+([]:List Keyword).length+(if ([]:List Keyword).isEmpty then 0 else 1) < 30))=true:=by rfl)(gT:(apos.endLine==cv.line)=true:=by rfl)(hs:starEach [e] X.env=(false,eval e X.env)::starEach [] X.env:=by rfl)(mC:(backTo cv (starEach [] X.env)).any (·.1)=false:=by rfl):
  Ev X (.Call (.Attribute (.Name x xp) "append" apos) [e] [] cv) (OO i tA):=
 PE.imp (Hh an9 PySem.F.slot_list_append PySem.F.type_list_append jN ho ha gV Cp gT hs mC) fun σ H Q cw=>(by obtain⟨W,M,α,δ,Qd,E,⟨⟨HP,h0⟩,q⟩,k⟩:=cw;exact(by
  obtain⟨a,VJ,h1,h2,h3,r3⟩:=E.ow h0;refine⟨_,h1,.inl ⟨rfl,_,cX.of h3⟩,W,M,α,δ,_,E,q,fun es δ' H' vs iy E1 c1 r1=>?_⟩;obtain⟨ds,d,e,hd,l,q1⟩:=iy;subst e;obtain⟨y,ys,rfl,ry,rn⟩:=r1.aK;cases rn.cz;obtain⟨a',xs,uc,qS,K0,Hf⟩:=E1.ow hd;rw[h1] at uc;cases uc;refine⟨a,xs,y,rfl,rfl,K0,by rw[Hf.1];exact l,?_⟩;obtain⟨E2,c2⟩:=pX E1 hd h1 qS (Hf.append (.one ry));exact k _ _ _ _ q1 E2 (c1.tr c2) .aN))
inductive S3(i:Nat)(δ:List Sl)(Q:Dt->List Sl->Prop):Prop
 | mk (ds d:_) (h1:δ[i]?=some (.ow ds)) (h2:ds[ds.length - 1]?=some d) (h3:Q d (δ.set i (.ow ds.dropLast)))
theorem Oq(i:Nat){xp apos cv:Pos}(ho:PE X (.Name x xp) (dM i))(gV:attributeBase (.Name x xp) "pop" X.env (eval (.Name x xp) X.env)=eval (.Name x xp) X.env:=by rfl)(gT:(apos.endLine==cv.line)=true:=by rfl):
  Ev X (.Call (.Attribute (.Name x xp) "pop" apos) [] [] cv) (S3 i):=
 PE.imp (BB an9 PySem.F.slot_list_pop PySem.F.type_list_pop J0 ho gV gT) fun σ H Q fW=>(by obtain⟨W,M,α,δ,Qd,E,⟨ds,d,hd,hl,q⟩,k⟩:=fW;exact(by
  obtain⟨a,xs,h1,h2,h3,r3⟩:=E.ow hd;obtain⟨y,hy,ry⟩:=r3.get hl;refine⟨_,h1,.inl ⟨rfl,_,cX.of h3⟩,a,xs,y,rfl,rfl,h3,by rw[r3.1];exact hy,?_⟩;have rd:az M H xs.dropLast ds.dropLast:=by rw[List.dropLast_eq_take,List.dropLast_eq_take,r3.1];exact r3.take _
  obtain⟨E2,c2⟩:=pX E hd h1 h2 rd;exact k _ _ _ _ q E2 c2 (ry.chg E c2)))
inductive Lr(i:Nat)(Q:Dt->List Sl->Prop)(d2:Dt)(δ':List Sl):Prop
 | mk (ds k d:_) (h1:δ'[i]?=some (.ow ds)) (h2:d2= .int k) (h3:iK ds k=some d) (h4:Q d δ')
def S6(i:Nat)(tb:bq):bq:=fun δ Q=>(∃HP,δ[i]?=some (.ow HP))/\tb δ fun d2 δ'=>Lr i Q d2 δ'
theorem C1(i:Nat)(ho:PE X (.Name x xp) (dM i))(hb:Ev X b tb)(hs:qK b:=by exact fun _ _=>rfl):Ev X (.Subscript (.Name x xp) b pos) (S6 i tb):=
 PE.imp (Bw p9 ho hb hs) fun σ H Q kj=>(by obtain⟨W,M,α,δ,Qd,E,⟨⟨HP,h0⟩,q⟩,k⟩:=kj;exact(by
  obtain⟨a,VJ,h1,h2,h3,r3⟩:=E.ow h0;refine⟨_,h1,W,M,α,δ,_,E,q,fun d2 δ' H' v z0 E1 c1 r1=>?_⟩;obtain⟨ds,n,d,hd,e,hg,q1⟩:=z0;subst e;obtain⟨a',xs,uc,qS,K0,Hf⟩:=E1.ow hd;rw[h1] at uc;cases uc;obtain⟨y,hy,ry⟩:=qF Hf hg;exact⟨a,xs,n,y,rfl,r1.ofInt,cX.of K0,hy,k _ _ _ _ q1 E1 c1 ry⟩))
inductive Ot(i:Nat)(δ:List Sl)(Q:Dt->List Sl->Prop):Prop
 | mk (ds:_) (h1:δ[i]?=some (.ow ds)) (h2:Q (.tup ds) δ)
theorem CY(i:Nat)(hm:X.mg "tuple"=none)(ho:PE X (.Name x xp) (dM i))(hg:Gl X "tuple":=by rfl)(he:starEach [.Name x xp] X.env=(false,eval (.Name x xp) X.env)::starEach [] X.env:=by rfl)(dq:(backTo pos (starEach [] X.env)).any (·.1)=false:=by rfl):
  Ev X (.Call (.Name "tuple" p) [.Name x xp] [] pos) (Ot i):=PE.imp (fe iw hg hm bM (au ho aL he) (by decide) (by decide) he dq) fun σ H Q iP=>(by obtain⟨W,M,α,δ,Qd,E,⟨ds,hd,q⟩,k⟩:=iP;exact(by
  obtain⟨a,xs,h1,h2,h3,r3⟩:=E.ow hd;refine⟨_,h1,a,xs,rfl,.inl ⟨cX.of h3,fun l hl=>?_⟩⟩;have s:aD H (upd H l (.tup xs)):=aD.new hl;exact k _ _ _ _ q (E.same s) (cQ.of s) (Rep.ik ag (E.fresh hl) (r3.same s))))
inductive Gx(Q:List Dt->List Sl->Prop)(ds:List Dt)(δ':List Sl):Prop
 | mk (es:_) (h1:(ds= [.lst es]\/ds= [.tup es])) (h2:Q es δ')
def dList(t:gf):xU:=fun δ Q=>t δ fun ds δ'=>Gx Q ds δ'
theorem JV(hm:X.mg "list"=none)(ha:Av X [e] tA)(hg:Gl X "list":=by rfl)(he:starEach [e] X.env=(false,eval e X.env)::starEach [] X.env:=by rfl)(dq:(backTo pos (starEach [] X.env)).any (·.1)=false:=by rfl):
  Ov X (.Call (.Name "list" p) [e] [] pos) (dList tA):=PE.imp (fe jv hg hm bN ha (by decide) (by decide) he dq) fun σ H Q ui=>(by obtain⟨W,M,α,δ,Qd,E,q,k⟩:=ui;exact(
 ⟨W,M,α,δ,_,E,q,fun ds δ1 H1 xs zY E1 c1 r0=>(by obtain⟨es,e,q1⟩:=zY;exact(by
  rcases e with e | e <;> subst e <;> obtain⟨x,ys,rfl,r1,r2⟩:=r0.aK <;> cases r2.cz
  . obtain⟨a,zs,rfl,ha,n,rr⟩:=r1.dS;exact⟨a,zs,rfl,.inl (cX.of ha),fun l hl=>k _ _ _ _ _ q1 E1 c1 rr hl⟩
  . obtain⟨a,zs,rfl,ha,n,rr⟩:=r1.bJ;exact⟨a,zs,rfl,.inr (eV.of ha),fun l hl=>k _ _ _ _ _ q1 E1 c1 rr hl⟩))⟩))
inductive C9(Q:List Dt->List Sl->Prop)(ds:List Dt)(δ':List Sl):Prop
 | mk (i:Int) (n:Nat) (h1:ds= [.int i,.int (i+n)]) (h2: -(2^61)<=i) (h3:i < 2^61) (h4:n<=1000) (h5:Q ((List.range n).map fun k=> .int (i+(k:Nat))) δ')
def Lp(t:gf):xU:=fun δ Q=>t δ fun ds δ'=>C9 Q ds δ'
theorem Fu(hc:X.calm=true)(FU:X.mg "list"=none)(R1:X.mg "range"=none)(ha:Av X [a,b] tA)(KG:Gl X "list":=by rfl)(sV:Gl X "range":=by rfl)(Cj:starEach [.Call (.Name "range" p2) [a,b] [] pV] X.env= [(false,eval (.Call (.Name "range" p2) [a,b] [] pV) X.env)]:=by rfl)(hs:starEach [a,b] X.env= [(false,eval a X.env),(false,eval b X.env)]:=by rfl)(mB:starEach [b] X.env= [(false,eval b X.env)]:=by rfl):
  Ov X (.Call (.Name "list" p) [.Call (.Name "range" p2) [a,b] [] pV] [] pos) (Lp tA):=PE.imp (Bv hc KG FU sV R1 ha Cj hs mB) fun σ H Q iO=>(by obtain⟨W,M,α,δ,Qd,E,q,k⟩:=iO;exact(
 ⟨W,M,α,δ,_,E,q,fun ds δ1 H1 xs nF E1 c1 r0=>(by obtain⟨i,n,e,l1,l2,l3,q1⟩:=nF;exact(by
  subst e;obtain⟨x,ys,rfl,r1,r2⟩:=r0.aK;obtain⟨y,zs,rfl,r4,r3⟩:=r2.aK;cases r3.cz;cases r1.ofInt;cases r4.ofInt;refine⟨i,n,rfl,l1,l2,l3,fun p hp=>k _ _ _ _ _ q1 E1 c1 ⟨by simp,fun j x d h1 h2=>?_⟩ hp⟩;rw[Zo] at h1 h2;cases hj:(List.range n)[j]? with
  | none=>rw[hj] at h1;cases h1
  | some m=>rw[hj] at h1 h2;cases h1;cases h2;exact .int _))⟩))
theorem jP(r:az M H xs ds):xs.isEmpty=ds.isEmpty:=by
 have:=r.1;cases xs <;> cases ds <;> simp at this ⊢
end
def cM(S:DN):Sp:=fun vs H Q _=> ∃M ds Qd,kh M H/\az M H vs ds/\S ds Qd/\ ∀r H' v',Qd r->aD H H'->Rep M H' v' r->Q v' H'
abbrev DB:=Int->List Dt->(Dt->Int->Prop)->Prop
def zM(S:DB):Sp:=fun vs H Q _=> ∃M d c t ws ds Qd,vs= .ref d::ws/\kh M H/\M d/\M c/\vX H d c t/\az M H ws ds/\S t ds Qd/\ ∀r t' H' v',Qd r t'->Kp d c H H'->vX H' d c t'->Rep M H' v' r->Q v' H'
section
variable{X:Cx}{e:Expr}{es:List Expr}{pos p:Pos}{x:Str}{k:Nat}{ps:List Str}
theorem bE(h:gk X.prog X.w X.K X.mg X.base x k ps (cM S))(hr:bT k X.A)(ha:Av X (e::es) t)(hg:Gl X x:=by rfl)(nO:(x==("__debug__":Str))=false:=by decide)(he:starEach (e::es) X.env=(false,eval e X.env)::starEach es X.env:=by rfl)(dq:(backTo pos (starEach es X.env)).any (·.1)=false:=by rfl):
  Ev X (.Call (.Name x p) (e::es) [] pos) (vE S t):=PE.imp (pW h hr hg ha nO he dq) fun σ H Q cw=>(by obtain⟨W,M,α,δ,Qd,E,q,k⟩:=cw;exact(
 ⟨W,M,α,δ,_,E,q,fun ds δ' H' vs q1 E1 c1 r1=>by
  show cM S (vs++ []) H' Q E0;rw[ab8];exact⟨M,ds,_,E1.al,r1,q1,fun r H2 v2 q2 s r2=>k _ _ _ _ q2 (E1.same s) (c1.tr (cQ.of s)) r2⟩⟩))
theorem aB.box{i:Nat}(E:aB Ws M α H σ δ)(h:δ[i]?=some (.bx t)): ∃d c,σ[i]?=some (some (.ref d))/\α[i]?=some [d,c]/\vX H d c t:=by
 obtain⟨o,as,h1,h2,d,c,rfl,rfl,r⟩:=E.sl i _ h;exact⟨d,c,h1,h2,r⟩
theorem GH(E:aB Ws M α H σ δ)(h:δ[i]?=some (.bx t))(h1:σ[i]?=some (some (.ref d)))(h2:α[i]?=some [d,c])(k:Kp d c H H')(B:vX H' d c t'):
  aB Ws M α H' σ (δ.set i (.bx t'))/\cQ α H H':=
 E.mod h h1 h2 rfl ⟨d,c,rfl,rfl,B⟩ (fun b u e n=>k b u e (fun z=>n (by rw[z];simp)) (fun z=>n (by rw[z];simp))) (fun b hb=>by
  simp only [ZS,Zi,or_false] at hb;rcases hb with rfl | rfl
  . exact⟨_,B.dc,fun xs z=>by cases z⟩
  . obtain⟨ns,h,_⟩:=B.cs;exact⟨_,h,fun xs z=>by cases z⟩)
def S9(S:DB)(i:Nat)(t:gf):bq:=fun δ Q=>(∃t0,δ[i]?=some (.bx t0))/\t δ fun ds δ'=> ∃t,δ'[i]?=some (.bx t)/\S t ds fun r t'=>Q r (δ'.set i (.bx t'))
theorem g0(i:Nat)(h:gk X.prog X.w X.K X.mg X.base x k ps (zM S))(hr:bT k X.A)(ho:PE X (.Name y yp) (dM i))(ha:Av X es t)(hg:Gl X x:=by rfl)(nO:(x==("__debug__":Str))=false:=by decide)(he:starEach (.Name y yp::es) X.env=(false,eval (.Name y yp) X.env)::starEach es X.env:=by rfl)(dq:(backTo pos (starEach es X.env)).any (·.1)=false:=by rfl):
  Ev X (.Call (.Name x p) (.Name y yp::es) [] pos) (S9 S i t):=PE.imp (pW h hr hg (au ho ha he) nO he dq) fun σ H Q cw=>(by obtain⟨W,M,α,δ,Qd,E,⟨⟨t0,h0⟩,q⟩,k⟩:=cw;exact(by
  obtain⟨d,c,h1,h2,B⟩:=E.box h0;refine⟨_,h1,W,M,α,δ,_,E,q,fun ds δ' H' vs kZ E1 c1 r1=>?_⟩;obtain⟨t,hd,q1⟩:=kZ;obtain⟨d',c',uc,qS,B'⟩:=E1.box hd;rw[h1] at uc;cases uc;show zM S ((V.ref d::vs)++ []) H' Q E0;rw[ab8];refine⟨M,d,c',t,vs,ds,_,rfl,E1.al,E1.mu d (aW qS (by simp)),E1.mu c' (aW qS (by simp)),B',r1,q1,fun r t' H2 v2 q2 kp B2 r2=>?_⟩;obtain⟨E2,c2⟩:=GH E1 hd h1 qS kp B2;exact k _ _ _ _ q2 E2 (c1.tr c2) r2))
end
section
variable{P:Program}{w:World}{K:PySem.W.Frag}{mg:Str->Option Value}{base:Heap}
theorem oT(al:kh M H)(r:az M H vs ds)(w: ∀W∈Ws,P7 W M (List.replicate (ds.length+n) []) H (ds.map .im++List.replicate n .no)):
  aB Ws M (List.replicate (ds.length+n) []) H (vs.map some++List.replicate n none) (ds.map .im++List.replicate n .no):=by
 have bz:(List.replicate (ds.length+n) ([]:List Addr)).flatten= []:=by simp
 refine⟨by simp [r.1],by simp,fun i s h=>?_,by rw[bz];exact ac7,fun a ha=>by rw[bz] at ha;exact absurd ha Zi,al,w⟩;have hi:=(Zq.mp h).1;rw[Zy,Ze,ad4] at hi;have ha:(List.replicate (ds.length+n) ([]:List Addr))[i]?=some []:=by rw[ZI,if_pos hi]
 by_cases hl:i < ds.length
 . rw[ZR (by rw[Ze];exact hl),Zo,Zg hl] at h;cases h;obtain⟨v,hv,rv⟩:=r.get (Zg hl);exact⟨some v,[],by rw[ZR (by rw[Ze,r.1];exact hl),Zo,hv];rfl,ha,rfl,v,rfl,rv⟩
 . rw[ZW (by rw[Ze];omega),ZI] at h;split at h
   . rename_i hn;cases h;rw[Ze] at hn;exact⟨none,[],by rw[ZW (by rw[Ze,r.1];omega),ZI,if_pos (by rw[Ze,r.1];exact hn)],ha,rfl⟩
   . cases h
theorem nP {x qual : Str} {st : Stmt} {k : Nat} (F : gb K x qual st f fd) (sc : aJ N ps (af st)) (len : ∀ ds Qd, S ds Qd -> ds.length = ps.length) (gU : ∀ (bP : Value) (A : Around) (outer : List Env) (s : Shared) (H : Hp) (E : XK), bT k (A.deeper (envOfC qual (af st) s.heap.objs.size f bP)) ->
   ∃T,zW (mS eC P w K mg base N qual (af st) f bP A outer s H E).Fy (cI st) T/\ ∀ds Qd,S ds Qd->T {nx:=fun _=>Qd .aN,rt:=fun d _=>Qd d} (ds.map .im++List.replicate (N.length - ps.length) .no)):
  aY P w K mg base eC (k+1) f fd ps (cM S):=by
 refine F.ok sc (fun vs H Q E h=>?_) (fun bP A outer s H vs Q E hr h=>?_)
 . obtain⟨M,ds,Qd,al,r,q,_⟩:=h;rw[r.1];exact len ds Qd q
 . obtain⟨M,ds,Qd,al,r,q,kk⟩:=h;obtain⟨T,hT,hq⟩:=gU bP A outer s H E hr;refine⟨lS T,hT,[⟨H,fun _=>False,M,M,none⟩],M,List.replicate (ds.length+(N.length - ps.length)) [],ds.map .im++List.replicate (N.length - ps.length) .no,_,?_,?_,hq ds Qd q⟩
   . have e:L2.start N vs=vs.map some++List.replicate (N.length - ps.length) none:=by unfold L2.start;rw[r.1,len ds Qd q]
     rw[e];refine oT al r fun W hW=>?_;rw[Zl.mp hW];have bz:(List.replicate (ds.length+(N.length - ps.length)) ([]:List Addr)).flatten= []:=by simp
     refine⟨fun b o e _=>e,fun b n=>n,fun a ha=>by rw[bz] at ha;exact absurd ha Zi,fun a h=>h,fun a h=> .inl h,fun d c e=>(by cases e),fun j s as h1 h2 _ a ha=>?_⟩;rw[ZI] at h2;split at h2
     . cases h2;exact absurd ha Zi
     . cases h2
   . have same : ∀ {M' α' H' σ' δ'}, aB [⟨H, fun _ => False, M, M, none⟩] M' α' H' σ' δ' -> aD H H' /\ ∀ a, M a -> M' a := fun E' => by
       have k:=E'.w _ (Zl.mpr rfl);exact⟨fun b o e=>k.bs b o e (fun z=>z),k.m0⟩
     refine⟨fun M' α' H' σ' δ' E' q=>kk _ _ _ q (same E').1 .aN,fun M' α' H' σ' δ' v d E' r' q=>kk _ _ _ q (same E').1 (r'.mono fun a o e n=>⟨e,fun z=>n ((same E').2 a z)⟩),fun _ _ _ _ _ _ z=>z.elim,fun _ _ _ _ _ _ z=>z.elim⟩
theorem vt(al:kh M H)(r:az M H vs ds)(B:vX H d c t)(Md:M d)(Mc:M c)(h0:W=⟨H,fun a=>a=d\/a=c,M,M,some (d,c)⟩):
  aB [W] M ([d,c]::List.replicate (ds.length+n) []) H (some (.ref d)::(vs.map some++List.replicate n none)) (.bx t::(ds.map .im++List.replicate n .no)):=by
 have E0:=oT (Ws:= []) (n:=n) al r (fun W hW=>absurd hW Zi);have bz:(List.replicate (ds.length+n) ([]:List Addr)).flatten= []:=by simp
 have ef:(([d,c]:List Addr)::List.replicate (ds.length+n) []).flatten= [d,c]:=by rw[aa0,bz,ab8]
 refine⟨by rw[ZG,ZG,E0.ls],by rw[ZG,ZG,E0.la],fun i s h=>?_,?_,fun a ha=>?_,al,fun W' hW=>?_⟩
 . cases i with
   | zero=>cases h;exact⟨_,_,rfl,rfl,d,c,rfl,rfl,B⟩
   | succ i=>obtain⟨o,as,h1,h2,h3⟩:=E0.sl i s (by simpa using h);exact⟨o,as,by simpa using h1,by simpa using h2,h3⟩
 . rw[ef];simp [B.ne]
 . rw[ef] at ha;simp only [ZS,Zi,or_false] at ha;rcases ha with rfl | rfl <;> assumption
 . rw[Zl.mp hW,h0];refine⟨fun b o e _=>e,fun b n=>n,fun a ha=>?_,fun a h=>h,fun a h=> .inl h,fun d' c' e=>?_,fun j s as h1 h2 nb a ha=>?_⟩
   . rw[ef] at ha;simp only [ZS,Zi,or_false] at ha;exact .inl ha
   . cases e;exact⟨t,rfl,rfl⟩
   . cases j with
     | zero=>cases h1;cases nb
     | succ j=>
      rw[List.getElem?_cons_succ,ZI] at h2;split at h2
      . cases h2;exact absurd ha Zi
      . cases h2
theorem UT {x qual : Str} {st : Stmt} {k : Nat} (F : gb K x qual st f fd) (sc : aJ N ps (af st)) (len : ∀ t ds Qd, S t ds Qd -> ds.length + 1 = ps.length) (gU : ∀ (bP : Value) (A : Around) (outer : List Env) (s : Shared) (H : Hp) (E : XK), bT k (A.deeper (envOfC qual (af st) s.heap.objs.size f bP)) ->
   ∃T,zW (mS eC P w K mg base N qual (af st) f bP A outer s H E).Fy (cI st) T/\ ∀t ds Qd,S t ds Qd->T {nx:=fun δ=> ∃t',δ[0]?=some (.bx t')/\Qd .aN t',rt:=fun d δ=> ∃t',δ[0]?=some (.bx t')/\Qd d t'} (.bx t::(ds.map .im++List.replicate (N.length - ps.length) .no))):
  aY P w K mg base eC (k+1) f fd ps (zM S):=by
 refine F.ok sc (fun vs H Q E h=>?_) (fun bP A outer s H vs Q E hr h=>?_)
 . obtain⟨M,d,c,t,ws,ds,Qd,rfl,al,md,mc,B,r,q,_⟩:=h;rw[ZG,r.1];exact len t ds Qd q
 . obtain⟨M,d,c,t,ws,ds,Qd,rfl,al,md,mc,B,r,q,kk⟩:=h;obtain⟨T,hT,hq⟩:=gU bP A outer s H E hr;refine⟨lS T,hT,[⟨H,fun a=>a=d\/a=c,M,M,some (d,c)⟩],M,[d,c]::List.replicate (ds.length+(N.length - ps.length)) [], .bx t::(ds.map .im++List.replicate (N.length - ps.length) .no),_,?_,?_,hq t ds Qd q⟩
   . have e : L2.start N (.ref d :: ws) = some (.ref d) :: (ws.map some ++ List.replicate (N.length - ps.length) none) := by
       unfold L2.start;rw[Zx,List.cons_append,ZG,r.1,len t ds Qd q]
     rw[e];exact vt al r B md mc rfl
   . have same : ∀ {M' α' H' σ' δ' t'}, aB [⟨H, fun a => a = d \/ a = c, M, M, some (d, c)⟩] M' α' H' σ' δ' -> δ'[0]? = some (.bx t') -> Kp d c H H' /\ (∀ a, M a -> M' a) /\ vX H' d c t' := fun {M' α' H' σ' δ' t'} E' ht => by
       have k:=E'.w _ (Zl.mpr rfl);refine⟨fun b o e n1 n2=>k.bs b o e (fun z=>z.elim n1 n2),k.m0,?_⟩;obtain⟨t2,e1,e2⟩:=k.bx d c rfl;obtain⟨d3,c3,e3,e4,B3⟩:=E'.box ht;rw[e2] at e4;cases e4;exact B3
     refine⟨fun M' α' H' σ' δ' E' kj=>(by obtain⟨t',ht,q⟩:=kj;exact(kk _ _ _ _ q (same E' ht).1 (same E' ht).2.2 .aN)),fun M' α' H' σ' δ' v dd E' r' iP=>(by obtain⟨t',ht,q⟩:=iP;exact(kk _ _ _ _ q (same E' ht).1 (same E' ht).2.2 (r'.mono fun a o e n=>⟨e,fun z=>n ((same E' ht).2.1 a z)⟩))),fun _ _ _ _ _ _ z=>z.elim,fun _ _ _ _ _ _ z=>z.elim⟩
end
def Kf(M:Addr->Prop)(H H1:Hp):Prop:= ∀b o,H b=some o-> ¬M b->H1 b=some o
structure Yl(M:Addr->Prop)(H:Hp)(J:It)(ao:List Dt):Prop where
 go: ∀i H1 M',Kf M H H1->kh M' H1->(∀b,H b≠none-> ¬M b-> ¬M' b)->i < ao.length->J.go i H1/\ ∀x H2,J.uo i H1 x H2->aD H1 H2/\ ∃d,ao[i]?=some d/\Rep M' H2 x d
 stop: ∀H1,Kf M H H1->J.stop ao.length H1
abbrev qV:=List Sl->(List Dt->List Sl->Prop)->Prop
inductive lI(t:qV)(σ:L2.St)(H:Hp)(R:It->Hp->Prop):Prop
 | mk (W:List Wd) (M:Addr->Prop) (α:List (List Addr)) (δ:List Sl) (Qd:List Dt->List Sl->Prop) (h1:aB W M α H σ δ) (h2:t δ Qd) (h3: ∀ao δ' H' J,Qd ao δ'->aB W M α H' σ δ'->cQ α H H'->Yl M H' J ao->R J H')
theorem PI.imp(h:PI X tg iter t)(i: ∀σ H R,t' σ H R->t σ H R):PI X tg iter t':=fun pins s σ H R I q=>h pins s σ H R I (i _ _ _ q)
abbrev Iv(X:Cx)(tg iter:Expr)(t:qV):Prop:=PI X tg iter (lI t)
section
variable{X:Cx}{tg e a b:Expr}{ta t:bq}{tA:gf}{p pos:Pos}
theorem qW{lo:Int}:Yl M H (O8 lo n) ((List.range n).map fun k=> .int (lo+(k:Nat))):=by
 refine⟨fun i H1 M' kf mo hb hi=>⟨?_,fun x H2 cw=>?_⟩,fun H1 _=>?_⟩
 . rw[Ze,ZN] at hi;exact hi
 . obtain⟨e1,e2⟩:=cw;rw[Ze,ZN] at hi;subst e1;subst e2;exact⟨fun _ _ z=>z,.int (lo+i),by rw[Zo,ad0 hi];rfl,.int _⟩
 . show n<=_;rw[Ze,ZN];exact Zj _
inductive Gn(Q:List Dt->List Sl->Prop)(ds:List Dt)(δ':List Sl):Prop
 | mk (j:Int) (h1:ds= [.int j]) (h2: -(2^62)<=j) (h3:j < 2^62) (h4:Q ((List.range j.toNat).map fun k=> .int (0+(k:Nat))) δ')
def OB(t:gf):qV:=fun δ Q=>t δ fun ds δ'=>Gn Q ds δ'
inductive Gm(Q:List Dt->List Sl->Prop)(ds:List Dt)(δ':List Sl):Prop
 | mk (i j:Int) (h1:ds= [.int i,.int j]) (h2:(-(2^62)<=i/\i < 2^62/\ -(2^62)<=j/\j < 2^62)) (h3:Q ((List.range (j - i).toNat).map fun k=> .int (i+(k:Nat))) δ')
def OA(t:gf):qV:=fun δ Q=>t δ fun ds δ'=>Gm Q ds δ'
theorem iH(hm:X.mg "range"=none)(ha:Av X [a] tA)(hg:Gl X "range":=by rfl)(hs:starEach [a] X.env= [(false,eval a X.env)]:=by rfl):Iv X tg (.Call (.Name "range" p) [a] [] pos) (OB tA):=PI.imp (yo hg hm ha hs) fun σ H R fW=>(by obtain⟨W,M,α,δ,Qd,E,q,k⟩:=fW;exact(
 ⟨W,M,α,δ,_,E,q,fun ds δ' H' vs kZ E1 c1 r1=>(by obtain⟨j,e,l1,l2,q1⟩:=kZ;exact(by
  subst e;obtain⟨x,ys,rfl,r2,r3⟩:=r1.aK;cases r3.cz;cases r2.ofInt;exact⟨j,rfl,l1,l2,k _ _ _ _ q1 E1 c1 qW⟩))⟩))
theorem gP(hm:X.mg "range"=none)(ha:Av X [a,b] tA)(hg:Gl X "range":=by rfl)(hs:starEach [a,b] X.env= [(false,eval a X.env),(false,eval b X.env)]:=by rfl)(mB:starEach [b] X.env= [(false,eval b X.env)]:=by rfl):Iv X tg (.Call (.Name "range" p) [a,b] [] pos) (OA tA):=PI.imp (yn hg hm ha hs mB) fun σ H R kj=>(by obtain⟨W,M,α,δ,Qd,E,q,k⟩:=kj;exact(
 ⟨W,M,α,δ,_,E,q,fun ds δ' H' vs iP E1 c1 r1=>(by obtain⟨i,j,e,l,q1⟩:=iP;exact(by
  subst e;obtain⟨x,ys,rfl,r2,r3⟩:=r1.aK;obtain⟨y,zs,rfl,r4,r5⟩:=r3.aK;cases r5.cz;cases r2.ofInt;cases r4.ofInt;exact⟨i,j,rfl,l,k _ _ _ _ q1 E1 c1 qW⟩))⟩))
theorem qf(r:az M H xs ds)(kf:Kf M H H1)(hb: ∀b,H b≠none-> ¬M b-> ¬M' b):az M' H1 xs ds:=r.mono fun a o e n=>⟨kf a o e n,hb a (by rw[e];intro z;cases z) n⟩
theorem D8{K:PySem.W.Frag}{M:Addr->Prop}{H:Hp}{a:Addr}(h:H a=some (.lst xs))(n: ¬M a)(r:az M H xs ds):Yl M H (TN K a) ds:=by
 refine⟨fun i H1 M' kf mo hb hi=>?_,fun H1 kf=>⟨xs,cX.of (kf _ _ h n),by rw[r.1];exact Zj _⟩⟩;have rr:=qf r kf hb;have hx:xs[i]?=some (xs[i]'(by rw[r.1];exact hi)):=Zg _;refine⟨⟨xs,_,cX.of (kf _ _ h n),hx⟩,fun x H2 iO=>?_⟩;obtain⟨e,y⟩:=iO;subst e;have:=y xs (cX.of (kf _ _ h n));exact⟨fun _ _ z=>z,_,Zg hi,rr.2 i x _ this (Zg hi)⟩
inductive Ls(Q:List Dt->List Sl->Prop)(d:Dt)(δ':List Sl):Prop
 | mk (ds:_) (h1:d= .lst ds) (h2:Q ds δ')
def OI(t:bq):qV:=fun δ Q=>t δ fun d δ'=>Ls Q d δ'
theorem mz(h:Ev X e t):Iv X tg e (OI t):=PI.imp (EX h) fun σ H R o9=>(by obtain⟨W,M,α,δ,Qd,E,q,k⟩:=o9;exact(⟨W,M,α,δ,_,E,q,fun d δ' H' v nE E1 c1 r1=>(by obtain⟨ds,e,q1⟩:=nE;exact(by
 subst e;obtain⟨a,xs,rfl,ha,n,rr⟩:=r1.dS;exact⟨a,rfl,⟨xs,cX.of ha⟩,k _ _ _ _ q1 E1 c1 (D8 ha n rr)⟩))⟩))
noncomputable def br(k:Nat)(ds:List Dt):List Dt:=ds.mapIdx fun i d=> .tup [.int ((i+k:Nat):Int),d]
theorem v5{K:PySem.W.Frag}{M:Addr->Prop}{H:Hp}{a:Addr}{k:Nat}(h:H a=some (.tup xs))(n: ¬M a)(r:az M H xs ds):Yl M H (Ml K a k) (br k ds):=by
 have hl:(br k ds).length=ds.length:=by unfold br;rw[ak3]
 refine⟨fun i H1 M' kf mo hb hi=>?_,fun H1 kf=>⟨xs,eV.of (kf _ _ h n),by rw[r.1,hl]⟩⟩;rw[hl] at hi;have rr:=qf r kf hb;have hx:xs[i]?=some (xs[i]'(by rw[r.1];exact hi)):=Zg _;refine⟨⟨xs,_,eV.of (kf _ _ h n),hx⟩,fun x H2 k6=>?_⟩;obtain⟨pp,y,e1,e2,e3,e4⟩:=k6;subst e1;subst e3;have hy:=e4 xs (eV.of (kf _ _ h n));have s:aD H1 (upd H1 pp (.tup [.int ((i+k:Nat):Int),y])):=aD.new e2;refine⟨s,_,by unfold br;rw[ai7,Zg hi];rfl,Rep.ik ag (mo.fresh e2) (.cons (.int _) (.one ((rr.2 i y _ hy (Zg hi)).same s)))⟩
inductive Gz(k:Nat)(Q:List Dt->List Sl->Prop)(es:List Dt)(δ':List Sl):Prop
 | mk (ds:_) (h1:es= [.tup ds]) (h2:Q (br k ds) δ')
def ON(k:Nat)(t:gf):qV:=fun δ Q=>t δ fun es δ'=>Gz k Q es δ'
theorem xi{x1}(hm:X.mg "enumerate"=none)(ha:Av X [e] tA)(hg:Gl X "enumerate":=by rfl)(hs:starEach [e] X.env= [(false,eval e X.env)]:=by rfl):Iv X (.Tuple es x1 tp) (.Call (.Name "enumerate" p) [e] [] pos) (ON 0 tA):=PI.imp (Bp hg hm ha hs) fun σ H R iy=>(by obtain⟨W,M,α,δ,Qd,E,q,k⟩:=iy;exact(
 ⟨W,M,α,δ,_,E,q,fun es δ' H' vs Ab E1 c1 r1=>(by obtain⟨ds,e,q1⟩:=Ab;exact(by
  subst e;obtain⟨x,ys,rfl,r2,r3⟩:=r1.aK;cases r3.cz;obtain⟨a,xs,rfl,ha,n,rr⟩:=r2.bJ;exact⟨a,rfl,⟨xs,eV.of ha⟩,k _ _ _ _ q1 E1 c1 (v5 ha n rr)⟩))⟩))
noncomputable def cS(xs ys:List Dt):List Dt:=List.zipWith (fun x y=> .tup [x,y]) xs ys
noncomputable def Q0(b:Bool)(ds:List Dt):Dt:=if b then .tup ds else .lst ds
theorem Rep.Nl{b:Bool}(h:Rep M H v (Q0 b ds)): ∃a xs,v= .ref a/\n6 b H a xs/\ ¬M a/\az M H xs ds/\ ∀H1,Kf M H H1->n6 b H1 a xs:=by
 cases b with
 | true=>obtain⟨a,xs,e,ha,n,r⟩:=Rep.bJ h;exact⟨a,xs,e,ha,n,r,fun H1 k=>k _ _ ha n⟩
 | false=>obtain⟨a,xs,e,ha,n,r⟩:=Rep.dS h;exact⟨a,xs,e,ha,n,r,fun H1 k=>k _ _ ha n⟩
theorem IL(k1: ∀H1,Kf M H H1->n6 b1 H1 a1 xs)(k2: ∀H1,Kf M H H1->n6 b2 H1 a2 ys)(r:az M H xs ds)(r2:az M H ys es):Yl M H (O7 b1 b2 a1 a2) (cS ds es):=by
 have hl:(cS ds es).length=min ds.length es.length:=by unfold cS;rw[ah1]
 refine⟨fun i H1 M' kf mo hb hi=>?_,fun H1 kf=>⟨xs,ys,k1 _ kf,k2 _ kf,by rw[hl,r.1,r2.1];grind⟩⟩;rw[hl] at hi;have rr:=qf r kf hb;have EG:=qf r2 kf hb;have hd:ds[i]?=some (ds[i]'(by grind)):=Zg _;have he:es[i]?=some (es[i]'(by grind)):=Zg _;obtain⟨x,hx,rx⟩:=rr.get hd;obtain⟨y,hy,ry⟩:=EG.get he;refine⟨⟨xs,x,ys,y,k1 _ kf,hx,k2 _ kf,hy⟩,fun v H2 Aa=>?_⟩;obtain⟨pp,x',y',e1,e2,e3,e4,e5⟩:=Aa;subst e1;subst e3;have h1:=e4 xs (k1 _ kf);have h2:=e5 ys (k2 _ kf);rw[hx] at h1;cases h1;rw[hy] at h2;cases h2;have s:aD H1 (upd H1 pp (.tup [x,y])):=aD.new e2;exact⟨s,_,by unfold cS;rw[List.getElem?_zipWith,hd,he],Rep.ik ag (mo.fresh e2) (.cons (rx.same s) (.one (ry.same s)))⟩
inductive Ll(Q:List Dt->List Sl->Prop)(es:List Dt)(δ':List Sl):Prop
 | mk (b1 b2 SQ SO:_) (h1:es= [Q0 b1 SQ,Q0 b2 SO]) (h2:Q (cS SQ SO) δ')
def SV(t:gf):qV:=fun δ Q=>t δ fun es δ'=>Ll Q es δ'
theorem sU{x1}(ha:Av X [e,f] tA)(hp: ∀{t:TA},PA X [e,f] t->PI X (.Tuple es x1 tp) (.Call (.Name "zip" p) [e,f] [] pos) (NK t)):Iv X (.Tuple es x1 tp) (.Call (.Name "zip" p) [e,f] [] pos) (SV tA):=PI.imp (hp ha) fun σ H R z0=>(by obtain⟨W,M,α,δ,Qd,E,q,k⟩:=z0;exact(
 ⟨W,M,α,δ,_,E,q,fun es δ' H' vs zZ E1 c1 r1=>(by obtain⟨b1,b2,SQ,SO,e,q1⟩:=zZ;exact(by
  subst e;obtain⟨x,ys,rfl,r2,r3⟩:=r1.aK;obtain⟨y,zs,rfl,r4,r5⟩:=r3.aK;cases r5.cz;obtain⟨a,xs,rfl,ha,n,rr,kk⟩:=r2.Nl;obtain⟨a2,VI,rfl,Xb,n2,EG,Ww⟩:=r4.Nl;exact⟨b1,b2,a,a2,xs,VI,rfl,ha,Xb,k _ _ _ _ q1 E1 c1 (IL kk Ww rr EG)⟩))⟩))
abbrev uh:=Dt->List Sl->(List Sl->Prop)->Prop
inductive lG(g:uh)(v:V)(σ:L2.St)(H:Hp)(Q:L2.St->Hp->Prop):Prop
 | mk (W:List Wd) (M:Addr->Prop) (α:List (List Addr)) (δ:List Sl) (d:Dt) (Qd:List Sl->Prop) (h1:aB W M α H σ δ) (h2:Rep M H v d) (h3:g d δ Qd) (h4: ∀α' δ' σ',Qd δ'->aB W M α' H σ' δ'->(∀x∈α'.flatten,x∈α.flatten)->Q σ' H)
theorem PG.imp{X:Cx}{tg:Expr}{t t':TG}(h:PG X tg t)(i: ∀v σ H Q,t' v σ H Q->t v σ H Q):PG X tg t':=fun pins s σ H v u Q I r q=>h pins s σ H v u Q I r (i _ _ _ _ q)
abbrev Gv(X:Cx)(tg:Expr)(g:uh):Prop:=PG X tg (lG g)
def vz(i:Nat):uh:=fun d δ Q=>bC δ i/\Q (δ.set i (.im d))
theorem bZ{α:List (List Addr)}: ∀x∈(α.set i []).flatten,x∈α.flatten:=fun x h=>(bL h).elim id fun z=>absurd z Zi
theorem bo: ∀v σ H Q,lG (vz i) v σ H Q->bV i v σ H Q:=fun v σ H Q uj=>(by obtain⟨W,M,α,δ,d,Qd,E,r,⟨ok,q⟩,k⟩:=uj;exact(k _ _ _ q (E.gw r ok) bZ))
theorem eS(i:Nat)(hN:X.N.Nodup)(hi:X.N[i]?=some x:=by rfl)(hx:Loc X.env.scope x:=by first | exact Or.inl rfl | exact Or.inr rfl)(hf:X.fn x=true\/X.env.scope.names.lookup x=some .local:=by first | exact .inl rfl | exact .inr rfl | assumption):Gv X (.Name x pos) (vz i):=PG.imp (aE hN hi hx hf) bo
inductive CU(i:Nat)(j:Nat)(d:Dt)(δ:List Sl)(Q:List Sl->Prop):Prop
 | mk (d1 d2:_) (h1:d= .tup [d1,d2]) (h2:bC δ i) (h3:bC (δ.set i (.im d1)) j) (h4:Q ((δ.set i (.im d1)).set j (.im d2)))
theorem bj{i j:Nat}{K:PySem.W.Frag}: ∀v σ H Q,lG (CU i j) v σ H Q->y9 K 2 (eJ (bV i) (eJ (bV j) vm)) v σ H Q:=fun v σ H Q ui=>(by obtain⟨W,M,α,δ,d,Qd,E,r,⟨d1,d2,e,Fq,Fp,q⟩,k⟩:=ui;exact(by
 subst e;obtain⟨a,xs,rfl,ha,n,rr⟩:=r.bJ;obtain⟨x,ys,rfl,r2,r3⟩:=rr.aK;obtain⟨y,zs,rfl,r4,r5⟩:=r3.aK;cases r5.cz;exact⟨a,_,rfl,eV.of ha,rfl,x,_,rfl,y,_,rfl,rfl,k _ _ _ q ((E.gw r2 Fq).gw r4 Fp) fun x h=>bZ x (bZ x h)⟩))
theorem Cy(i j:Nat)(hc:X.calm=true)(hN:X.N.Nodup)(hi:X.N[i]?=some x:=by rfl)(hj:X.N[j]?=some y:=by rfl)(hx:Loc X.env.scope x:=by first | exact Or.inl rfl | exact Or.inr rfl)(hy:Loc X.env.scope y:=by first | exact Or.inl rfl | exact Or.inr rfl)(hf:X.fn x=true\/X.env.scope.names.lookup x=some .local:=by first | exact .inl rfl | exact .inr rfl | assumption)(yV:X.fn y=true\/X.env.scope.names.lookup y=some .local:=by first | exact .inl rfl | exact .inr rfl | assumption)(hn:(assignEach [.Name x px, .Name y py] X.env).length=2:=by rfl)(Ku:(assignEach [.Name x px, .Name y py] X.env).findIdx? (·.1)=none:=by rfl)(h1:(assignEach [.Name x px, .Name y py] X.env).map (·.2)=assign (.Name x px) X.env::(assignEach [.Name y py] X.env).map (·.2):=by rfl)(h2:(assignEach [.Name y py] X.env).map (·.2)=assign (.Name y py) X.env::(assignEach [] X.env).map (·.2):=by rfl):
  Gv X (.Tuple [.Name x px,.Name y py] kk pos) (CU i j):=PG.imp (cT hc (aI (aE hN hi hx hf) (aI (aE hN hj hy yV) bR h2) h1) hn Ku) bj
end
section
variable{X:Cx}{tg iter c:Expr}{body:List Stmt}{ti:qV}{g:uh}{tb:jF}{u:nA}{pos:Pos}
def OM(ti:qV)(g:uh)(tb:jF):jF:=fun Δ δ=>ti δ fun ao δ1=> ∃P:Nat->List Sl->Prop,P 0 δ1/\(∀i d δ2,ao[i]?=some d->P i δ2->g d δ2 fun δ3=>tb {Δ with nx:=P (i+1),ct:=P (i+1),bk:=Δ.nx} δ3)/\ ∀δ2,P ao.length δ2->Δ.nx δ2
theorem gA(hc:X.calm=true)(hi:Iv X tg iter ti)(hg:Gv X tg g)(hb:zW X body tb)(hp:PassesOwn (model X.prog X.w) X.A X.env X.xe)(hs: ∀x,foldedSetIterable iter X.env x=pure x:=by intro _;rfl):Ex X (.For tg iter body [] pos) (OM ti g tb):=
 PS.imp (JE hp hc hi hg hb hs) fun D σ H cw=>(by obtain⟨Ws,M,α,δ,Δ,E,L,q⟩:=cw;exact(⟨Ws,M,α,δ,_,E,q,fun ao δ1 H1 J fW E1 c1 yl=>(by obtain⟨P,p0,step,fin⟩:=fW;exact(by
  refine⟨fun i m σ' H'=>m=ao.length - i/\i<=ao.length/\ ∃M' α' δ',aB (⟨H1,M,fun _=>False,M,none⟩::Ws) M' α' H' σ' δ'/\P i δ',⟨ao.length,by simp,ZV _,M,α,δ1,E1.loop,p0⟩,?_⟩;rintro i m σ' H' ⟨rfl,hi,M',α',δ',E',p'⟩
  have w:=E'.w _ Zu;have kf:Kf M H1 H':=w.bs;have hb: ∀b,H1 b≠none-> ¬M b-> ¬M' b:=fun b n z y=>(w.m1 b y).elim z n;by_cases dX:i < ao.length
  . obtain⟨go,uo⟩:=yl.go i H' M' kf E'.al hb dX;refine .inr ⟨go,fun σ2 H2=> ∃M2 α2 δ2,aB (⟨H1,M,fun _=>False,M,none⟩::Ws) M2 α2 H2 σ2 δ2/\P (i+1) δ2,fun σ2 H2 z=>⟨ao.length - (i+1),by grind,rfl,dX,z⟩,fun x H2 y=>?_⟩;obtain⟨s,d,hd,rx⟩:=uo x H2 y;refine⟨_,M',α',δ',d,_,E'.same s,rx,step i d δ' hd p',fun α3 δ3 σ3 q3 E3 _=>?_⟩;refine⟨_,M',α3,δ3,{Δ with nx:=P (i+1),ct:=P (i+1),bk:=Δ.nx},E3,⟨fun M4 α4 H4 σ4 δ4 E4 q4=>⟨M4,α4,δ4,E4,q4⟩,fun M4 α4 H4 σ4 δ4 v d E4 r4 q4=>L.rt _ _ _ _ _ _ _ E4.drop r4 q4,fun M4 α4 H4 σ4 δ4 E4 q4=>L.nx _ _ _ _ _ E4.drop q4,fun M4 α4 H4 σ4 δ4 E4 q4=>⟨M4,α4,δ4,E4,q4⟩⟩,q3⟩
  . have e:i=ao.length:=by grind
    subst e;exact .inl ⟨yl.stop H' kf,L.nx _ _ _ _ _ E'.drop (fin _ p')⟩))⟩))
def C5(u:nA)(tb:jF):jF:=fun Δ δ=> ∃P:Nat->List Sl->Prop,(∃m,P m δ)/\ ∀m δ1,P m δ1->u δ1 fun b δ2=>if b=true then tb {Δ with nx:=fun δ3=> ∃m',m' < m/\P m' δ3,ct:=fun δ3=> ∃m',m' < m/\P m' δ3,bk:=Δ.nx} δ2 else Δ.nx δ2
theorem EB(hc:Tv X c u)(hb:zW X body tb)(hp:PassesOwn (model X.prog X.w) X.A X.env X.xe):Ex X (.While c body [] pos) (C5 u tb):=
 PS.imp (Bg hp hc hb) fun D σ H kZ=>(by obtain⟨Ws,M,α,δ,Δ,E,L,P,⟨m0,p0⟩,turn⟩:=kZ;exact(by
  refine⟨fun m σ' H'=> ∃M' α' δ',aB Ws M' α' H' σ' δ'/\P m δ',⟨m0,M,α,δ,E,p0⟩,?_⟩;rintro m σ' H' ⟨M',α',δ',E',p'⟩
  refine⟨Ws,M',α',δ',_,E',turn m δ' p',fun b δ2 H2 q2 E2 c2=>?_⟩;cases b with
  | true=>
   rw[if_pos rfl] at q2 ⊢;refine⟨fun σ3 H3=> ∃m',m' < m/\ ∃M3 α3 δ3,aB Ws M3 α3 H3 σ3 δ3/\P m' δ3,fun σ3 H3 z=>z,?_⟩;exact⟨Ws,M',α',δ2,{Δ with nx:=fun δ3=> ∃m',m' < m/\P m' δ3,ct:=fun δ3=> ∃m',m' < m/\P m' δ3,bk:=Δ.nx},E2,⟨fun M4 α4 H4 σ4 δ4 E4 zX=>(by obtain⟨m',l,q4⟩:=zX;exact(⟨m',l,M4,α4,δ4,E4,q4⟩)),L.rt,fun M4 α4 H4 σ4 δ4 E4 q4=>L.nx _ _ _ _ _ E4 q4,fun M4 α4 H4 σ4 δ4 E4 IG=>(by obtain⟨m',l,q4⟩:=IG;exact(⟨m',l,M4,α4,δ4,E4,q4⟩))⟩,q2⟩
  | false=>
   rw[if_neg Zp] at q2 ⊢;exact L.nx _ _ _ _ _ E2 q2))
end
noncomputable def seen:Sl->Sl
 | .im d=> .im d
 | .fn f=> .fn f
 | _=> .no
noncomputable def cin(nt:Nat)(js:List Nat)(δ:List Sl):List Sl:=List.replicate nt .no++js.map fun j=>seen (δ.getD j .no)
theorem qy{js:List Nat}(E:aB Ws M α H σ δ):aB [] M (List.replicate (nt+js.length) []) H (ic nt js σ) (cin nt js δ):=by
 have bz:(List.replicate (nt+js.length) ([]:List Addr)).flatten= []:=by simp
 refine⟨by simp [ic,cin],by simp [cin],fun i s h=>?_,by rw[bz];exact ac7,fun a ha=>by rw[bz] at ha;exact absurd ha Zi,E.al,fun W hW=>absurd hW Zi⟩;have hi:=(Zq.mp h).1;have nD:i < nt+js.length:=by simpa [cin] using hi
 have ha:(List.replicate (nt+js.length) ([]:List Addr))[i]?=some []:=by rw[ZI,if_pos nD]
 unfold cin at h;unfold ic;by_cases hl:i < nt
 . rw[ZR (by simpa using hl),ZI,if_pos hl] at h;cases h;exact⟨none,[],by rw[ZR (by simpa using hl),ZI,if_pos hl],ha,rfl⟩
 . rw[ZW (by simpa using hl),ad4,Zo] at h;cases hj:js[i - nt]? with
   | none=>rw[hj] at h;cases h
   | some j=>
    rw[hj] at h;have hs:seen (δ.getD j .no)=s:=Option.some.inj h;refine⟨(σ[j]?).join,[],by rw[ZW (by simpa using hl),ad4,Zo,hj];rfl,ha,?_⟩;cases hd:δ[j]? with
    | none=>
     have:δ.getD j .no= .no:=by rw[List.getD,hd];rfl
     rw[this] at hs;subst hs;rfl
    | some s'=>
     have e:δ.getD j .no=s':=by rw[List.getD,hd];rfl
     rw[e] at hs;cases s' with
     | im d=>
      subst hs;obtain⟨v,h1,r⟩:=E.im hd;exact⟨rfl,v,by rw[h1];rfl,r⟩
     | fn f=>
      subst hs;obtain⟨o2,Ds,h1,_,_,h3⟩:=E.sl j _ hd;exact⟨rfl,by rw[h1,h3];rfl⟩
     | _=>subst hs;rfl
section
variable{X:Cx}{N:List Str}{nt:Nat}{js:List Nat}{scope:Scope}{elt tg iter:Expr}{ifs:List Expr}{pos:Pos}{ti:qV}{g:uh}{tc:nA}{te:bq}
def Dg(nt:Nat)(js:List Nat)(ti:qV)(g:uh)(tc:nA)(te:bq):xU:=fun δ Q=>ti δ fun ao δ1=>ao.length<=sizeLine/\ ∃(p:Dt->Bool) (f:Dt->Dt),(∀d∈ao,g d (cin nt js δ1) fun δ2=>tc δ2 fun b δ3=>b=p d/\(b=true->te δ3 fun r _=>r=f d))/\Q ((ao.filter p).map f) δ1
theorem oW(sV: ∀v σ H Q,lG g v σ H Q->gh v σ H Q): ∀σ H Q,lO (Dg nt js ti g tc te) σ H Q->AB nt js (lI ti) gh (lT tc) (lE te) σ H Q:=fun σ H Q cw=>(by obtain⟨W,M,α,δ,Qd,E,q,k⟩:=cw;exact(by
 refine⟨W,M,α,δ,_,E,q,fun ao δ1 H1 J fW E1 c1 yl D hD=>?_⟩;obtain⟨hsz,p,f,step,q1⟩:=fW;have s0:aD H1 (upd H1 D (.lst [])):=aD.new hD;refine⟨fun i m acc H2=>m=ao.length - i/\i<=ao.length/\H2 D=some (.lst acc)/\az (fun b=>M b\/b=D) H2 acc (((ao.take i).filter p).map f)/\aD H1 H2/\kh (fun b=>M b\/b=D) H2,⟨ao.length,by simp,ZV _,ag,.nil,s0,fun a ha=>?_⟩,?_⟩
 . rcases ha with ha | ha
   . obtain⟨o,e,n⟩:=E1.al a ha;exact⟨o,s0 _ _ e,n⟩
   . subst ha;exact⟨_,ag,fun xs z=>by cases z⟩
 rintro i m acc H2 ⟨rfl,hi,y4,iY,s2,Hs⟩
 have kf:Kf M H1 H2:=fun b o e _=>s2 _ _ e;by_cases dX:i < ao.length
 . have hb: ∀b,H1 b≠none-> ¬M b-> ¬(fun b=>M b\/b=D) b:=fun b n z y=>y.elim z fun w=>n (by rw[w];exact hD);obtain⟨go,uo⟩:=yl.go i H2 (fun b=>M b\/b=D) kf Hs hb dX;have hlen:acc.length < sizeLine:=by
    rw[iY.1,Ze];exact af8 (ZE (ag0 _ _) (by rw[ae8];omega)) (ZJ dX hsz)
   refine .inr ⟨go,hlen,fun bG H'=>H' D=some (.lst bG)/\az (fun b=>M b\/b=D) H' bG (((ao.take (i+1)).filter p).map f)/\aD H1 H'/\kh (fun b=>M b\/b=D) H',fun bG H' kZ=>(by obtain⟨z1,z2,z3,z4⟩:=kZ;exact(⟨ao.length - (i+1),by omega,rfl,dX,z1,z2,z3,z4⟩)),fun x H3 y=>?_⟩;obtain⟨s3,d,hd,rx⟩:=uo x H3 y;have E2:aB [] (fun b=>M b\/b=D) (List.replicate (nt+js.length) []) H2 (ic nt js σ) (cin nt js δ1):=by
    have su:aD (upd H1 D (.lst acc)) H2:=fun b o e=>by
     by_cases hb:b=D
     . subst hb;rw[ag] at e;cases e;exact y4
     . rw[ah hb] at e;exact s2 _ _ e
    have Ea:aB [] (fun b=>M b\/b=D) α H2 σ δ1:=⟨E1.ls,E1.la,fun i s h=>let ⟨o,as,h1,h2,h3⟩:=E1.sl i s h;⟨o,as,h1,h2,(h3.grow (u:= .lst acc) hD).same su⟩,E1.nd,fun a h=> .inl (E1.mu a h),Hs,fun W hW=>absurd hW Zi⟩
    exact qy Ea
   have E3:=E2.same s3;have bz:(List.replicate (nt+js.length) ([]:List Addr)).flatten= []:=by simp
   refine sV _ _ _ _ ⟨[],_,_,_,d,_,E3,rx,step d (ZT hd),fun α4 δ4 σ4 q4 E4 hα=>?_⟩;have D4:α4.flatten= []:=ae6.mpr fun x hx=>by have:=hα x hx;rw[bz] at this;exact absurd this Zi
   refine⟨[],_,α4,δ4,_,E4,q4,fun b δ5 H5 kj E5 c5=>?_⟩;obtain⟨hp,q5⟩:=kj;have s5:aD H3 H5:=fun b o e=>c5 b o e (by rw[D4];exact Zi);have EF:aD H2 H5:=fun b o e=>s5 _ _ (s3 _ _ e);have tk:ao.take (i+1)=ao.take i++ [d]:=by rw[ai3,hd];rfl
   cases b with
   | false=>
    refine bD ⟨EF _ _ y4,?_,fun b o e=>EF _ _ (s2 _ _ e),E5.al⟩;rw[tk,ak4,ZA];simp [<-hp];exact iY.same EF
   | true=>
    refine cF ⟨[],_,α4,δ5,_,E5,q5 rfl,fun r δ6 H6 v e6 E6 c6 r6=>?_⟩;subst e6;have s6:aD H5 H6:=fun b o e=>c6 b o e (by rw[D4];exact Zi);have A3:aD H2 H6:=fun b o e=>s6 _ _ (EF _ _ e);have Sy:=A3 _ _ y4;have up: ∀{zs:List V} {ds:List Dt},az (fun b=>M b\/b=D) H6 zs ds->az (fun b=>M b\/b=D) (upd H6 D (.lst (acc++ [v]))) zs ds:=fun r=>r.mono fun a o e n=>⟨by rw[ah (fun z=>n (.inr z))];exact e,n⟩
    refine⟨Sy,ag,?_,fun b o e=>by rw[ah (aj e hD)];exact A3 _ _ (s2 _ _ e),fun a ha=>?_⟩
    . rw[tk,ak4,ZA];have e1:List.filter p [d]= [d]:=by simp [<-hp]
      rw[e1];exact up ((iY.same A3).append (.one r6))
    . by_cases hb:a=D
      . subst hb;exact⟨_,ag,fun xs z=>by cases z⟩
      . rw[ah hb];exact E6.al a ha
 . have e:i=ao.length:=by omega
   subst e;refine .inl ⟨yl.stop H2 kf,?_⟩;rw[ad9] at iY;have eH:upd (fun b=>if b=D then none else H2 b) D (.lst acc)=H2:=by
    funext b
    by_cases hb:b=D
    . subst hb;rw[ag,y4]
    . rw[ah hb,if_neg hb]
   rw[<-eH];have sH:aD H1 (fun b=>if b=D then none else H2 b):=fun b o e=>by
    show(if b=D then none else H2 b)=some o;rw[if_neg (aj e hD)];exact s2 _ _ e
   refine k _ _ _ _ _ q1 (E1.same sH) (c1.tr (cQ.of sH)) (iY.mono fun a o e n=>⟨?_,fun z=>n (.inl z)⟩) (by show(if D=D then none else H2 D)=none;rw[if_pos rfl]);show(if a=D then none else H2 a)=some o;rw[if_neg (fun z=>n (.inr z))];exact e))
theorem cD(S:jD X N nt js scope)(hc:X.calm=true)(hi:Iv X tg iter ti)(hg: ∀s H cl C ex,PG (dz X N scope s H cl C ex) tg gh)(eQ:jC nt gh)(sV: ∀v σ H Q,lG g v σ H Q->gh v σ H Q)(hf: ∀s H cl C ex,PF (dz X N scope s H cl C ex) ifs (lT tc))(he: ∀s H cl C ex,Ev (dz X N scope s H cl C ex) elt te)(hs: ∀x,foldedSetIterable iter X.env x=pure x:=by intro _;rfl):Ov X (.ListComp elt [⟨tg,iter,ifs,0⟩] scope pos) (Dg nt js ti g tc te):=PE.imp (Fc S hc hi hg eQ hf he hs) (oW sV)
theorem Jl(i:Nat){pos' py:Pos}(hN:X.N.Nodup)(S:jD X N nt js scope)(hc:X.calm=true)(hi:Iv X tg iter ti)(hg: ∀s H cl C ex,PG (dz X N scope s H cl C ex) tg gh)(eQ:jC nt gh)(sV: ∀v σ H Q,lG g v σ H Q->gh v σ H Q)(hf: ∀s H cl C ex,PF (dz X N scope s H cl C ex) ifs (lT tc))(he: ∀s H cl C ex,Ev (dz X N scope s H cl C ex) elt te)(R8:X.N[i]?=some y:=by rfl)(hy:Loc X.env.scope y:=by first | exact Or.inl rfl | exact Or.inr rfl)(RM:swapsWith (.ListComp elt [⟨tg,iter,ifs,0⟩] scope pos) (some (.Name y py)) pos'.line X.env=pure true:=by rfl)(hs: ∀x,foldedSetIterable iter X.env x=pure x:=by intro _;rfl)(KI:X.fn y=true\/X.env.scope.names.lookup y=some .local:=by first | exact .inl rfl | exact .inr rfl | assumption):
  Ex X (.Assign [.Name y py] (.ListComp elt [⟨tg,iter,ifs,0⟩] scope pos) pos') (C8 i (Dg nt js ti g tc te)):=PS.imp (EU hN R8 hy S hc hi hg eQ hf he RM hs KI) fun D σ H h=>by
 obtain⟨Ws,M,α,δ,Δ,E,L,q⟩:=h;exact oW sV _ _ _ ⟨Ws,M,α,δ,_,E,q,fun ds δ' H1 xs a iP E1 c1 r1 h1=>(by obtain⟨ok,q1⟩:=iP;exact(L.nx _ _ _ _ _ (E1.pH (s:= .ow ds) h1 (fun xs z=>by cases z) ok rfl ⟨a,xs,rfl,rfl,ag,r1.grow h1⟩) q1))⟩
def HZ:nA:=fun δ Q=>Q true δ
theorem dZ:PF X [] (lT HZ):=fun pins s σ H Q I iO=>(by obtain⟨W,M,α,δ,Qd,E,q,k⟩:=iO;exact(JI pins s σ H Q I (k _ _ _ q E cQ.rf)))
theorem HK(h:Tv X c t):PF X [c] (lT t):=JH h
theorem bS{nt i j:Nat}{K:PySem.W.Frag}(hi:i < nt:=by decide)(hj:j < nt:=by decide):jC nt (y9 K 2 (eJ (bV i) (eJ (bV j) vm))):=Cv (oO hi (vj oN) (oO hj oN Cw))
end
end LD
namespace L2
open PySem PySem.Spec PyProof.Rows
section
variable{X:Cx}{pos:Pos}
def MB(i j l:Nat)(ta:TA):TS:=fun D σ H=>ta σ H fun vs H1=> ∃u v w,vs= [u,v,w]/\D.nx (((σ.set l (some w)).set j (some v)).set i (some u)) H1
theorem ES{kt k2 uP}(hc:X.calm=true)(hN:X.N.Nodup)(hi:X.N[i]?=some x)(hj:X.N[j]?=some y)(hl:X.N[l]?=some z)(hx:X.env.scope.names.lookup x=some .local)(hy:X.env.scope.names.lookup y=some .local)(hz:X.env.scope.names.lookup z=some .local)(ha:PA X [a,b,c] ta)(hw:swappedStores [.Tuple [.Name x px, .Name y py, .Name z pz] kt pt] (.Tuple [a,b,c] k2 uP) X.env=pure (some [x,y,z]))(hs:swapsWithSole [.Tuple [.Name x px, .Name y py, .Name z pz] kt pt] (.Tuple [a,b,c] k2 uP) pos.line X.env=pure false:=by rfl):
  PS X (.Assign [.Tuple [.Name x px,.Name y py,.Name z pz] kt pt] (.Tuple [a,b,c] k2 uP) pos) (MB i j l ta):=by
 intro pins s σ H D I h;rw[exec_Assign_arm];refine Zd (ab6 ?_);rw[hs];refine Zd (Zf ?_);rw[if_neg (by decide)];refine Zd (Tuple_ (aP (ha _ pins s σ H _ I h) fun us s1 cw=>?_));obtain⟨vs,H1,I1,r1,q1⟩:=cw;obtain⟨v1,v2,v3,e1,q1⟩:=q1;subst e1;obtain⟨u1,u2,u3,rfl,Wa,zN,V9⟩: ∃u1 u2 u3,us= [u1,u2,u3]/\RelV v1 u1/\RelV v2 u2/\RelV v3 u3:=by
  cases r1 with
  | cons p q=>cases q with
   | cons p' q'=>cases q' with
    | cons p2 q2=>cases q2;exact⟨_,_,_,rfl,p,p',p2⟩
 refine Z9 ?_ (by show 3<=sizeLine;decide);have I2:Inv X pins σ H1 {s1 with heap:=s1.heap.push {cls:= .type "tuple",data:= .seq [u1,u2,u3].toArray}}:=I1.kept (t':=s1.toks) fun b o e=>Zh _ e;rw[hw];refine Zd (Zf ?_);show wpAny (model X.prog X.w) X.A (do rule "assign.swapped-stores";let items<-unpackItems (.ref s1.heap.objs.size) 3 none;assignInOrder [fun v=>bindName X.env z v,fun v=>bindName X.env y v,fun v=>bindName X.env x v] items.reverse;pure Flow.next) _ _ _;refine Zd (ad1 (Zd (unpackItems_tuple (items:= #[u1,u2,u3]) (I.ok.hd hc) (IsTup.new s1.heap _) fun h' vd=>?_)));have I3:=I2.kept (h':=h') (t':=s1.toks) fun b o e=>vd b o (ZY (ZD e)) e;show wpAny _ _ (assignInOrder [fun v=>bindName X.env z v,fun v=>bindName X.env y v,fun v=>bindName X.env x v] [u3,u2,u1] >>=fun _=>pure Flow.next) _ _ _;refine Zd (ah4 (an6 (dN I3 hN hl (.inl hz) V9 (fun s2 I4=>?_) (.inr hz))));refine ah4 (an6 (dN I4 hN hj (.inl hy) zN (fun s3 I5=>?_) (.inr hy)));exact ah4 (an6 (dN I5 hN hi (.inl hx) Wa (fun s4 I6=>assignInOrder_nil (Zf ⟨_,H1,I6,q1⟩)) (.inr hx)))
end
end L2
namespace LD
open PySem PySem.Spec L2 LB PyProof.Rows
structure t7(Ws:List Wd)(M:Addr->Prop)(α:List (List Addr))(a:Addr):Prop where
 m:M a
 n:a∉α.flatten
 w: ∀W∈Ws,(W.A0 a\/W.H0 a=none)/\ ¬W.M0 a
def Vt(M:Addr->Prop)(H:Hp)(v:V)(s:Sl)(as:List Addr):Prop:=s.bK=false/\n8 M H (some v) s as
inductive qO(Ws:List Wd)(M:Addr->Prop)(α:List (List Addr))(H:Hp):List V->List Sl->List Addr->Prop where
 | nil:qO Ws M α H [] [] []
 | cons {v:V} {s:Sl} {as bs:List Addr} {vs:List V} {ss:List Sl}:Vt M H v s as->(∀a∈as,t7 Ws M α a)->as.Nodup->(∀a∈as,a∉bs)->qO Ws M α H vs ss bs->qO Ws M α H (v::vs) (s::ss) (as++bs)
abbrev t9:=List Sl->(List Sl->List Sl->Prop)->Prop
inductive lH(t:t9)(σ:L2.St)(H:Hp)(Q:List V->Hp->Prop):Prop
 | mk (W:List Wd) (M:Addr->Prop) (α:List (List Addr)) (δ:List Sl) (Qd:List Sl->List Sl->Prop) (h1:aB W M α H σ δ) (h2:t δ Qd) (h3: ∀ss δ' H' vs M' bs,Qd ss δ'->aB W M' α H' σ δ'->cQ α H H'->(∀a,M a->M' a)->(∀a,M' a->M a\/H a=none)->qO W M' α H' vs ss bs->(∀a∈bs,¬M a)->Q vs H')
abbrev Hv(X:Cx)(es:List Expr)(t:t9):Prop:=PA X es (lH t)
theorem n8.keep(h:n8 M H o s as)(k: ∀b u,H b=some u-> ¬M b->H' b=some u/\ ¬M' b)(k2: ∀a∈as,∀u,H a=some u->H' a=some u)(nb:s.bK=false):n8 M' H' o s as:=by
 cases s with
 | no=>exact h
 | im d=>exact⟨h.1,let ⟨v,e,r⟩:=h.2;⟨v,e,r.mono k⟩⟩
 | ow ds=>obtain⟨a,xs,e1,e2,e3,r⟩:=h;subst e1;exact⟨a,xs,rfl,e2,k2 a (by simp) _ e3,r.mono k⟩
 | bx t=>cases nb
 | dk ks ds=>obtain⟨a,vs,e1,e2,e3,e4,r⟩:=h;subst e1;exact⟨a,vs,rfl,e2,k2 a (by simp) _ e3,e4,r.mono k⟩
 | ob R=>obtain⟨v,e,r⟩:=h;exact⟨v,e,R.st r (fun a ha u q=>k2 a ha _ q) k⟩
 | fn f=>exact h
section
variable{X:Cx}{e:Expr}{es:List Expr}{t:bq}{th:t9}
def Sv:t9:=fun δ Q=>Q [] δ
def Xg(t:bq)(th:t9):t9:=fun δ Q=>t δ fun d δ1=>th δ1 fun ss δ2=>Q (.im d::ss) δ2
def Xf(t:xU)(th:t9):t9:=fun δ Q=>t δ fun ds δ1=>th δ1 fun ss δ2=>Q (.ow ds::ss) δ2
theorem xn:Hv X [] Sv:=PA.imp aL fun σ H Q cw=>(by obtain⟨W,M,α,δ,Qd,E,q,k⟩:=cw;exact(k _ _ _ _ _ _ q E cQ.rf (fun _ z=>z) (fun _ z=> .inl z) .nil (fun a ha=>absurd ha Zi)))
theorem Cq(ha:Ev X e t)(hr:Hv X es th)(hs:starEach (e::es) X.env=(false,eval e X.env)::starEach es X.env:=by rfl):Hv X (e::es) (Xg t th):=PA.imp (au ha hr hs) fun σ H Q fW=>(by obtain⟨W,M,α,δ,Qd,E,q,k⟩:=fW;exact(
 ⟨W,M,α,δ,_,E,q,fun d δ1 H1 x q1 E1 c1 r1=>⟨W,M,α,δ1,_,E1,q1,fun ss δ2 H2 vs M' bs q2 E2 c2 m1 m2 hh hb=>
  k _ _ _ _ _ _ q2 E2 (c1.tr c2) m1 (fun a z=>(m2 a z).elim .inl fun y=>by
   cases e:H a with
   | none=>exact .inr rfl
   | some o => by_cases hf : a ∈ α.flatten
               . exact .inl (E.mu a hf)
               . rw[c1 _ _ e hf] at y;cases y)
   (qO.cons (as:= []) ⟨rfl,rfl,x,rfl,r1.mono fun a o e n=>⟨c2 _ _ e fun z=>n (E1.mu a z),fun z=>(m2 a z).elim n fun y=>by rw[e] at y;cases y⟩⟩ (fun a ha=>absurd ha Zi) ac7 (fun a ha=>absurd ha Zi) hh) hb⟩⟩))
theorem aB.hold(E:aB W M α H σ δ)(hp:H p=none)(hu: ∀xs,u≠ .tup xs):aB W (fun b=>M b\/b=p) α (upd H p u) σ δ/\t7 W (fun b=>M b\/b=p) α p:=by
 have sm:aD H (upd H p u):=aD.new hp;have np:p∉α.flatten:=fun z=>E.fresh hp (E.mu p z);have h0: ∀W'∈W,W'.H0 p=none:=fun W' hW=>by
  cases e:W'.H0 p with
  | none=>rfl
  | some o=>exact absurd hp ((E.w W' hW).ex p (by rw[e];intro z;cases z))
 refine⟨⟨E.ls,E.la,fun j s hj=>let ⟨o,as,h1,h2,h3⟩:=E.sl j s hj;⟨o,as,h1,h2,h3.grow hp⟩,E.nd,fun a h=> .inl (E.mu a h),fun a ha=>?_,fun W' hW=>?_⟩,⟨.inr rfl,np,fun W' hW=>⟨.inr (h0 W' hW),fun z=>E.fresh hp ((E.w W' hW).m0 p z)⟩⟩⟩
 . rcases ha with ha | ha
   . obtain⟨o,e,n⟩:=E.al a ha;exact⟨o,sm _ _ e,n⟩
   . subst ha;exact⟨u,ag,hu⟩
 . have k:=E.w W' hW;exact⟨fun b o e n=>sm _ _ (k.bs b o e n),fun b n y=>k.ex b n (LW.aD.none sm y),k.fr,fun a h=> .inl (k.m0 a h),fun a h=>h.elim (k.m1 a) fun z=> .inr (by rw[z];exact h0 W' hW),k.bx,k.fz⟩
theorem oI(hp:H1 p=none)(E1:aB W M α H1 σ δ1)(hd:t7 W (fun b=>M b\/b=p) α p)(hs:n8 (fun b=>M b\/b=p) (upd H1 p u) (some (.ref p)) s [p])(nb:s.bK=false)(E2:aB W M' α H2 σ δ2)(c2:cQ α (upd H1 p u) H2)(m1: ∀a,(M a\/a=p)->M' a)(m2: ∀a,M' a->(M a\/a=p)\/(upd H1 p u) a=none)(hh:qO W M' α H2 vs ss bs)(hb: ∀a∈bs,¬(M a\/a=p)):qO W M' α H2 (.ref p::vs) (s::ss) ([p]++bs):=
 qO.cons ⟨nb,hs.keep (fun b w e n=>⟨c2 _ _ e fun z=>n (.inl (E1.mu b z)),fun z=>(m2 b z).elim n fun y=>by rw[e] at y;cases y⟩) (fun a ha w e=>c2 _ _ e (by rw[Zl.mp ha];exact hd.n)) nb⟩
  (fun a ha=>by rw[Zl.mp ha];exact⟨m1 p (.inr rfl),hd.n,hd.w⟩) (by simp) (fun a ha=>by rw[Zl.mp ha];exact fun z=>hb p z (.inr rfl)) hh
theorem Ht{α:List (List Addr)}{M M':Addr->Prop}(mu: ∀a∈α.flatten,M a)(c1:cQ α H H1)(h1:H1 p=none)(m2:M' a->(M a\/a=p)\/(upd H1 p u) a=none)(z:M' a):M a\/H a=none:=by
 cases e:H a with
 | none=>exact .inr rfl
 | some o=>
  by_cases hf:a∈α.flatten
  . exact .inl (mu a hf)
  . have e1:=c1 _ _ e hf;rcases m2 z with (y | y) | y
    . exact .inl y
    . subst y;rw[h1] at e1;cases e1
    . rw[ah (aj e1 h1),e1] at y;cases y
theorem N6{t:xU}(ha:Ov X e t)(hr:Hv X es th)(hs:starEach (e::es) X.env=(false,eval e X.env)::starEach es X.env:=by rfl):Hv X (e::es) (Xf t th):=PA.imp (au ha hr hs) fun σ H Q cw=>(by obtain⟨W,M,α,δ,Qd,E,q,k⟩:=cw;exact(
 ⟨W,M,α,δ,_,E,q,fun ds δ1 H1 xs p q1 E1 c1 r1 h1=>by
  have sm:aD H1 (upd H1 p (.lst xs)):=aD.new h1;obtain⟨TQ,hd⟩:=E1.hold (u:= .lst xs) h1 (fun xs z=>by cases z);refine⟨W,_,α,δ1,_,TQ,q1,fun ss δ2 H2 vs M' bs q2 E2 c2 m1 m2 hh hb=>?_⟩;exact k _ _ _ _ _ _ q2 E2 ((c1.tr (cQ.of sm)).tr c2) (fun a z=>m1 a (.inl z)) (fun a z=>Ht E.mu c1 h1 (m2 a) z) (oI (s:= .ow ds) h1 E1 hd ⟨p,xs,rfl,rfl,ag,r1.grow h1⟩ rfl E2 c2 m1 m2 hh hb)
   (fun a ha=>by
    rcases Zz.mp ha with y | y
    . rw[Zl.mp y];exact E1.fresh h1
    . exact fun z=>hb a y (.inl z))⟩))
end
theorem aB.rP(E:aB Ws M α H σ δ)(h:Vt M H v s as)(hh: ∀a∈as,t7 Ws M α a)(nd:as.Nodup)(ok:bC δ i):aB Ws M (α.set i as) H (σ.set i (some v)) (δ.set i s):=by
 have hi:=ok.lt;obtain⟨s0,Cj,nb⟩:=ok;refine⟨by rw[ZQ,ZQ,E.ls],by rw[ZQ,ZQ,E.la],fun j s' hj=>?_,ck E.nd nd (fun x hx=>(hh x hx).n),fun a ha=>(bL ha).elim (E.mu a) fun z=>(hh a z).m,E.al,fun W hW=>?_⟩
 . by_cases bW:i=j
   . subst bW;rw[ZH hi] at hj;cases hj;exact⟨some v,as,by rw[ZH (by rw[E.ls];exact hi)],by rw[ZH (by rw[E.la];exact hi)],h.2⟩
   . rw[Zr bW] at hj;obtain⟨o,as,h1,h2,h3⟩:=E.sl j s' hj;exact⟨o,as,by rw[Zr bW];exact h1,by rw[Zr bW];exact h2,h3⟩
 . have k:=E.w W hW;refine⟨k.bs,k.ex,fun a ha=>(bL ha).elim (k.fr a) fun z=>((hh a z).w W hW).1,k.m0,k.m1,fun d c e=>?_,fun j s XD h1 h2 nb'=>?_⟩
   . obtain⟨t,e1,e2⟩:=k.bx d c e;have:i≠0:=fun z=>by subst z;rw[Cj] at e1;cases e1;cases nb
     exact⟨t,by rw[Zr this];exact e1,by rw[Zr this];exact e2⟩
   . by_cases bW:i=j
     . subst bW;rw[ZH (by rw[E.la];exact hi)] at h2;cases h2;exact fun a ha=>((hh a ha).w W hW).2
     . rw[Zr bW] at h1 h2;exact k.fz j s XD h1 h2 nb'
theorem t7.set(h:t7 Ws M α a)(n:a∉as):t7 Ws M (α.set i as) a:=⟨h.m,fun z=>(bL z).elim h.n n,h.w⟩
section
variable{X:Cx}{a b c:Expr}{pos:Pos}{th:t9}
inductive Gr(i:Nat)(j:Nat)(Δ:cO)(ss:List Sl)(δ':List Sl):Prop
 | mk (s1 s2:_) (h1:ss= [s1,s2]) (h2:bC δ' i) (h3:bC (δ'.set i s1) j) (h4:Δ.nx ((δ'.set i s1).set j s2))
def OF(i j:Nat)(th:t9):jF:=fun Δ δ=>th δ fun ss δ'=>Gr i j Δ ss δ'
theorem uK(i j:Nat){kt k2 uP}(hc:X.calm=true)(hN:X.N.Nodup)(ha:Hv X [a,b] th)(hi:X.N[i]?=some x:=by rfl)(hj:X.N[j]?=some y:=by rfl)(bW:i≠j:=by decide)(hx:X.env.scope.names.lookup x=some .local:=by rfl)(hy:X.env.scope.names.lookup y=some .local:=by rfl)(hw:swappedStores [.Tuple [.Name x px, .Name y py] kt pt] (.Tuple [a,b] k2 uP) X.env=pure (some [x,y]):=by rfl)(hs:swapsWithSole [.Tuple [.Name x px, .Name y py] kt pt] (.Tuple [a,b] k2 uP) pos.line X.env=pure false:=by rfl):
  Ex X (.Assign [.Tuple [.Name x px,.Name y py] kt pt] (.Tuple [a,b] k2 uP) pos) (OF i j th):=PS.imp (JD hc hN hi hj bW hx hy ha hw hs) fun D σ H iP=>(by obtain⟨Ws,M,α,δ,Δ,E,L,q⟩:=iP;exact(
 ⟨Ws,M,α,δ,_,E,q,fun ss δ' H' vs M' bs iO E1 c1 m1 m2 hh hb=>(by obtain⟨s1,s2,e,Fq,Fp,q1⟩:=iO;exact(by
  subst e;cases hh with
  | cons h1 h2 h3 h4 h5=>
   cases h5 with
   | cons g1 g2 g3 g4 g5=>
    cases g5;rename_i v1 Za v2 Ds;have Ea:=E1.rP h1 h2 h3 Fq;have Eb:=Ea.rP (i:=j) g1 (fun a ha=>(g2 a ha).set fun z=>h4 a z (by simpa using ha)) g3 Fp;exact⟨_,_,rfl,L.nx _ _ _ _ _ Eb q1⟩))⟩))
inductive Gq(i:Nat)(j:Nat)(l:Nat)(Δ:cO)(ss:List Sl)(δ':List Sl):Prop
 | mk (s1 s2 s3:_) (h1:ss= [s1,s2,s3]) (h2:bC δ' l) (h3:bC (δ'.set l s3) j) (h4:bC ((δ'.set l s3).set j s2) i) (h5:Δ.nx (((δ'.set l s3).set j s2).set i s1))
def OE(i j l:Nat)(th:t9):jF:=fun Δ δ=>th δ fun ss δ'=>Gq i j l Δ ss δ'
theorem Jk(i j l:Nat){x y z:Str}{px py pz pt:Pos}{kt k2 uP}(hc:X.calm=true)(hN:X.N.Nodup)(ha:Hv X [a,b,c] th)(hi:X.N[i]?=some x:=by rfl)(hj:X.N[j]?=some y:=by rfl)(hl:X.N[l]?=some z:=by rfl)
  (hx:X.env.scope.names.lookup x=some .local:=by rfl) (hy:X.env.scope.names.lookup y=some .local:=by rfl) (hz:X.env.scope.names.lookup z=some .local:=by rfl)
  (hw:swappedStores [.Tuple [.Name x px,.Name y py,.Name z pz] kt pt] (.Tuple [a,b,c] k2 uP) X.env=pure (some [x,y,z]):=by rfl)
  (hs:swapsWithSole [.Tuple [.Name x px,.Name y py,.Name z pz] kt pt] (.Tuple [a,b,c] k2 uP) pos.line X.env=pure false:=by rfl):
  Ex X (.Assign [.Tuple [.Name x px,.Name y py,.Name z pz] kt pt] (.Tuple [a,b,c] k2 uP) pos) (OE i j l th):=PS.imp (ES hc hN hi hj hl hx hy hz ha hw hs) fun D σ H nF=>(by obtain⟨Ws,M,α,δ,Δ,E,L,q⟩:=nF;exact(
 ⟨Ws,M,α,δ,_,E,q,fun ss δ' H' vs M' bs o9 E1 c1 m1 m2 hh hb=>(by obtain⟨s1,s2,s3,e,Fq,Fp,Nk,q1⟩:=o9;exact(by
  subst e;cases hh with
  | cons h1 h2 h3 h4 h5=>
   cases h5 with
   | cons g1 g2 g3 g4 g5=>
    cases g5 with
    | cons f1 f2 f3 f4 f5=>
     cases f5;have Ea:=E1.rP (i:=l) f1 f2 f3 Fq;have Eb:=Ea.rP (i:=j) g1 (fun a ha=>(g2 a ha).set fun z=>g4 a ha (by simpa using z)) g3 Fp;have Ec:=Eb.rP (i:=i) h1 (fun a ha=>((h2 a ha).set fun z=>h4 a ha (by simp [z])).set fun z=>h4 a ha (by simp [z])) h3 Nk;exact⟨_,_,_,rfl,L.nx _ _ _ _ _ Ec q1⟩))⟩))
end
noncomputable def ND:Dt->Option Key
 | .int i=>some (.inl i)
 | .str x=>some (.inr x)
 | _=>none
theorem FH(r:Rep M H v d)(h:ND d=some k):v=kV k:=by
 cases r <;> first | (cases h;rfl) | cases h
instance {k:Key} {ks:List Key}:Decidable (k∈ks):=decidable_of_iff ((ks.any fun x=>decide (x=k))=true) (by simp)
section
variable{X:Cx}{N:List Str}{nt:Nat}{js:List Nat}{scope:Scope}{elt tg iter e f a b:Expr}{ifs:List Expr}{pos:Pos}{ti:qV}{g:uh}{tc:nA}{te t tv tb:bq}{ib jb:Nat}{gh:TG}
def Ta(t:bq)(g:uh):jF:=fun Δ δ=>t δ fun d δ'=>g d δ' Δ.nx
theorem oz(he:Ev X e t)(hg:Gv X tg g)(hs:swapsWithSole [tg] e pos.line X.env=pure false:=by rfl)(hw:swappedStores [tg] e X.env=pure none:=by rfl)(h1:(assignEach [tg] X.env).map (·.2)= [assign tg X.env]:=by rfl):Ex X (.Assign [tg] e pos) (Ta t g):=
 PS.imp (Bi he hg hs hw h1) fun D σ H fW=>(by obtain⟨Ws,M,α,δ,Δ,E,L,q⟩:=fW;exact(⟨Ws,M,α,δ,_,E,q,fun d δ' H' v q1 E1 c1 r1=>⟨Ws,M,α,δ',d,_,E1,r1,q1,fun α' δ2 σ2 q2 E2 _=>L.nx _ _ _ _ _ E2 q2⟩⟩))
end
def rO(K:PySem.W.Frag):Sp:=fun vs H Q _=> ∃(a:Addr) (ns:List Int),vs= [.ref a]/\cX K H a (ns.map V.int)/\ns.length<=63/\ ∀H',Q (.bl true) H'
def rL:DB:=fun t ds Q=> ∃m,ds= [.int m]/\t < 1000000/\0 < m/\m < 2^64/\ ∀r,0<=r->r < m->Q (.int r) (t+1)
theorem Em(h:zM rL vs H Q E):AH vs H Q E:=by
 obtain⟨M,d,c,t,ws,ds,Qd,rfl,al,md,mc,B,r,⟨m,rfl,t1,m0,m1,q⟩,k⟩:=h;obtain⟨x,ys,rfl,r1,r2⟩:=r.aK;cases r2.cz;cases r1.ofInt;exact⟨d,c,t,m,rfl,B,t1,m0,m1,fun r H' r0 r1 B' kp=>k _ _ _ _ (q r r0 r1) kp B' (.int r)⟩
section
variable{P:Program}{w:World}{K:PySem.W.Frag}{mg:Str->Option Value}{base:Heap}
theorem NA {st : Stmt} {k : Nat} (F : gb K "law" "law" st f fd) (sc : aJ N ["_law_script"] (af st)) (hN : 2 <= N.length) (gU : ∀ (bP : Value) (A : Around) (outer : List Env) (s : Shared) (H : Hp) (E : XK), bT k (A.deeper (envOfC "law" (af st) s.heap.objs.size f bP)) ->
   ∃s1 rest T,cI st=s1::rest/\PS (mS eC P w K mg base N "law" (af st) f bP A outer s H E).Fy s1 (AE (AD (pD K) [] E0 (oq (dM 0) rM)) (bV 1))/\zW (mS eC P w K mg base N "law" (af st) f bP A outer s H E).Fy rest T/\
    T {nx:=fun _=>False,rt:=fun d _=>d= .bl true} (.no:: .bx 0::List.replicate (N.length - 2) .no)):aY P w K mg base eC (k+1) f fd ["_law_script"] (rO K):=by
 refine F.ok sc (fun vs H Q E h=>?_) (fun bP A outer s H vs Q E hr h=>?_)
 . obtain⟨a,ns,rfl,_⟩:=h;rfl
 . obtain⟨a,ns,rfl,hS,hlen,q⟩:=h;obtain⟨s1,rest,T,e,h1,h2,hT⟩:=gU bP A outer s H E hr;rw[e];refine⟨_,bB h1 h2,?_⟩;have es:L2.start N [V.ref a]=some (.ref a)::none::List.replicate (N.length - 2) none:=by
    unfold L2.start;rw[show N.length - [V.ref a].length=(N.length - 2)+1 by show N.length - 1=_;omega,ac1];rfl
   rw[es];refine⟨_,rfl,a,ns,rfl,hS,hlen,fun d c H1 B1 Yd=>?_⟩;have bz:(([]:List Addr):: [d,c]::List.replicate (N.length - 2) []).flatten= [d,c]:=by simp
   refine⟨[],fun b=>b=d\/b=c,[]:: [d,c]::List.replicate (N.length - 2) [],.no:: .bx 0::List.replicate (N.length - 2) .no,_,?_,?_,hT⟩
   . refine⟨by simp,by simp,fun i s' hi=>?_,by rw[bz];simp [B1.ne],fun b hb=>by rw[bz] at hb;simpa using hb,fun b hb=>?_,fun W hW=>absurd hW Zi⟩
     . match i with
       | 0=>cases hi;exact⟨_,_,rfl,rfl,rfl⟩
       | 1=>cases hi;exact⟨_,_,rfl,rfl,d,c,rfl,rfl,B1⟩
       | i+2=>
        have nD:(List.replicate (N.length - 2) Sl.no)[i]?=some s':=by simpa using hi
        rw[ZI] at nD;split at nD
        . rename_i dX;cases nD;refine⟨none,[],?_,?_,rfl⟩
          . show(List.replicate (N.length - 2) (none:Option V))[i]?=_;rw[ZI,if_pos dX]
          . show(List.replicate (N.length - 2) ([]:List Addr))[i]?=_;rw[ZI,if_pos dX]
        . cases nD
     . rcases hb with rfl | rfl
       . exact⟨_,B1.dc,fun xs z=>by cases z⟩
       . obtain⟨ns,h,_⟩:=B1.cs;exact⟨_,h,fun xs z=>by cases z⟩
   . exact⟨fun _ _ _ _ _ _ z=>z.elim,fun M' α' H' σ' δ' v dd E' r' z=>by subst z;rw[r'.sv];exact q H',fun _ _ _ _ _ _ z=>z.elim,fun _ _ _ _ _ _ z=>z.elim⟩
end
end LD
namespace PySem.SeqAt
open MeetsSeq
theorem zc{M:Model}{A:Around}{E:Value->Shared->Prop}{s:Shared}{β:Type}{r:Std.Legacy.Range}(f:Nat->β->Sem (ForInStep β))(I:List Nat->β->Shared->Prop)(Q:β->Shared->Prop)
  (turn: ∀x rest b s,I (x::rest) b s->wpAny M A (f x b) (fun r s'=>match r with | .yield b'=>I rest b' s' | .done b'=>Q b' s') E s)
  (fin: ∀b s,I [] b s->Q b s) (b:β) (h:I (List.range' r.start r.size r.step) b s):wpAny M A (forIn r b f) Q E s:=by
 rw[Std.Legacy.Range.forIn_eq_forIn_range'];exact wpAny_forIn_list f I Q turn fin _ b h
theorem nJ(l:Addr)(items:Array Value)(n:Nat)(dd:Option Addr)(sl:Array (Option Value))(x:Value)(e:Value->Bool)(j:Nat)(hj:j < items.size)(hit:e items[j]=true)(Kz: ∀m (hm:m < items.size),m < j->e items[m]=false):
  Meets (Builtin.«tuple.index» ⟨[.ref l,x],[]⟩)
   (fun A R s=>s.heap.get? l=some {cls:= .type "tuple",dict:=dd,data:= .seq items n,slots:=sl}/\(∀y,y∈items->EqAt A.in1 s y x (e y))/\R (.ok (.ret (.int j s.toks))) {s with toks:=s.toks+1}):=
 .of_wp fun prog w A R s h=>by
  obtain⟨hp,g,d,tk,os⟩:=s;obtain⟨hl,he,h⟩:=h;wp_walk using aa7 hl,zc _ (fun rest b s'=>b.1=none/\s'=⟨hp,g,d,tk,os⟩/\ ∃i,rest=List.range' i (items.size - i)/\i<=j) _
  case turn=>
   rintro y rest b s' ⟨hb,rfl,i,hr,hi⟩
   have dX:i < items.size:=by omega
   rw[show items.size - i=(items.size - (i+1))+1 by omega,al7] at hr;obtain⟨e1,e2⟩:=List.cons.inj hr;subst e1;subst e2;rw[Z2 dX];refine Zd (he _ (Array.getElem_mem dX) prog w _ _ ?_);by_cases bW:y=j
   . subst bW;rw[hit];wp_walk
     exact⟨_,rfl,h⟩
   . rw[Kz y dX (by omega)];wp_walk
     exact⟨rfl,rfl,y+1,rfl,by omega⟩
  case fin=>
   rintro⟨b1,b2⟩ s' ⟨hb,rfl,i,hr,hi⟩
   have:items.size - i=0:=by
    have:=aa6 List.length hr;simpa using this.symm
   omega
  case h=>
   exact⟨rfl,rfl,0,by simp [Std.Legacy.Range.size],ZV _⟩
end PySem.SeqAt
namespace L2
open PySem PySem.Spec PyProof.Rows
section
variable{X:Cx}
def EM:V->List V->Hp->VK->Prop:=fun x vs H Q=> ∃a xs y j z,x= .ref a/\vs= [y]/\H a=some (.tup xs)/\dw y=true/\xs.all dw=true/\xs[j]?=some z/\uf z y=true/\(∀m u,m < j->xs[m]?=some u->uf u y=false)/\Q (.int (j:Nat)) H
theorem K9(r:Vals xs ao)(ry:RelV y u)(fy:dw y=true)(fx:xs.all dw=true):
  ∃e:Value->Bool,(∀v∈ao,SeqAt.EqAt A s v u (e v))/\ ∀(i:Nat) x v,xs[i]?=some x->ao[i]?=some v->e v=uf x y:=by
 refine⟨fun v=>match GN v with | some x=>uf x y | none=>false,fun v hv=>?_,fun i x v hx hv=>?_⟩
 . obtain⟨i,hi,e⟩:=aa5 hv;have hx:xs[i]?=some (xs[i]'(by rw[r.length];exact hi)):=Zg _;obtain⟨w,hw,qQ⟩:=r.get hx;rw[Zg hi,e] at hw;cases hw;show SeqAt.EqAt A s v u (match GN v with | some x=>uf x y | none=>false);rw[qQ.abs];exact CH qQ ry (Z4.mp fx _ (ZT hx)) fy
 . obtain⟨w,hw,qQ⟩:=r.get hx;rw[hv] at hw;cases hw;show(match GN v with | some x=>uf x y | none=>false)=_;rw[qQ.abs]
theorem yE:TK X "tuple.index" EM:=by
 intro pins s σ H x xs v us Q I rx rs h;obtain⟨a,ys,y,j,z,rfl,rfl,ha,fy,fx,hz,RH,Kz,q⟩:=h;cases rx;obtain⟨u,rfl,ru⟩:=vals1 rs;obtain⟨ao,rv,pl,_⟩:=I.tuple (eV.of ha);obtain⟨⟨cls,dd,data,sl⟩,ho,hc,n,hd⟩:=(show s.heap.IsTuple a ao.toArray from pl)
 simp only at hc hd;subst hc hd;obtain⟨e,he,hv⟩:=K9 (A:=X.A.in1) (s:=s) rv ru fy fx;have hj:j < ao.length:=by rw[<-rv.length];exact(Zq.mp hz).1
 refine aj9 PySem.F.slot_tuple_index ⟨_,ho,rfl⟩ PySem.F.entry_tuple_index (PySem.F.args_tuple_index_2 _ _) (SeqAt.nJ a ao.toArray n dd sl u e j (by simpa using hj) ?_ ?_) ⟨ho,fun z hz=>he z (by simpa using hz),⟨.int _,H,I.tok _,⟨_,rfl⟩,q⟩⟩
 . have:=hv j z ao[j] hz (Zg hj);simpa using this.trans RH
 . intro m hm dX;have DZ:m < ao.length:=by simpa using hm
   have hx:ys[m]?=some (ys[m]'(by rw[rv.length];exact DZ)):=Zg _;have:=hv m _ ao[m] hx (Zg DZ);simpa using this.trans (Kz m _ dX hx)
end
end L2
namespace LD
open PySem PySem.Spec L2 LB PyProof.Rows
section
variable{X:Cx}{a b c e:Expr}{es:List Expr}{ta tb tc t:bq}{tA:gf}{pos p:Pos}
theorem ints_rep: ∀{xs:List V} {ns:List Int},az M H xs (ns.map .int)->xs=ns.map V.int
 | [],[],_=>rfl
 | [],_::_,h=>by have:=h.1;simp at this
 | _::_,[],h=>by have:=h.1;simp at this
 | x::xs,n::ns,h=>by
  rw[Zx] at h;obtain⟨y,ys,e,r1,r2⟩:=h.aK;cases e;rw[r1.ofInt,ints_rep r2,Zx]
theorem rV: ∀{ns:List Int},az M H (ns.map V.int) (ns.map .int)
 | []=> .nil
 | n::ns=> .cons (.int n) rV
theorem qC:bootBuiltins "sorted"=some (.builtin "sorted"):=by decide+kernel
theorem zA:bootBuiltins "all"=some (.builtin "all"):=by decide+kernel
theorem dE(h:az M H xs [d]): ∃x,xs= [x]/\Rep M H x d:=by
 obtain⟨x,ys,rfl,r1,r2⟩:=h.aK;cases r2.cz;exact⟨x,rfl,r1⟩
theorem o4: ∀{xs:List V} {ns:List Bool},az M H xs (ns.map .bl)->xs=ns.map V.bl
 | [],[],_=>rfl
 | [],_::_,h=>by have:=h.1;simp at this
 | _::_,[],h=>by have:=h.1;simp at this
 | x::xs,n::ns,h=>by
  rw[Zx] at h;obtain⟨y,ys,e,r1,r2⟩:=h.aK;cases e;rw[r1.sv,o4 r2,Zx]
inductive Pj(ds:List Dt)(Q:Dt->Prop):Prop
 | mk (bs:List Bool) (h1:ds= [.lst (bs.map .bl)]) (h2:Q (.bl (bs.all id)))
theorem HY(hc:X.calm=true)(hm:X.mg "all"=none)(ha:Av X [e] tA)(hg:Gl X "all":=by rfl)(he:starEach [e] X.env=(false,eval e X.env)::starEach [] X.env:=by rfl)(dq:(backTo pos (starEach [] X.env)).any (·.1)=false:=by rfl):
  Ev X (.Call (.Name "all" p) [e] [] pos) (vE Pj tA):=jq (Dl hc) (fun M H xs ds Qd Q al r iO k=>(by obtain⟨bs,e,q⟩:=iO;exact(by
 subst e;obtain⟨x,rfl,r1⟩:=dE r;obtain⟨a,zs,rfl,ha,n,rr⟩:=r1.dS;rw[o4 rr] at ha;exact⟨a,bs,rfl,cX.of ha,k H _ _ q (fun _ _ z=>z) (.bl _)⟩))) hg hm zA ha (by decide) (by decide) he dq
def U3(R:Dt->List Dt->(Dt->Prop)->Prop)(ta:bq)(tA:gf):bq:=fun δ Q=>ta δ fun d δ1=>(∃ds,d= .tup ds)/\tA δ1 fun es δ2=>R d es fun r=>Q r δ2
inductive GY(d:Dt)(es:List Dt)(Q:Dt->Prop):Prop
 | mk (ds:List Dt) (x:Dt) (j:Nat) (z:Dt) (h1:d= .tup ds) (h2:es= [x]) (h3:dY x=true) (h4:ds.all dY=true) (h5:ds[j]?=some z) (h6:HM z x=true) (h7:(∀m u,m < j->ds[m]?=some u->HM u x=false)) (h8:Q (.int (j:Nat)))
end
section
variable{X:Cx}{a b c e:Expr}{es:List Expr}{ta tb tc t:bq}{tA:gf}{pos p apos cv:Pos}
theorem FA{r:V->List V->Hp->VK->Prop}{R:Dt->List Dt->(Dt->Prop)->Prop}{K:PySem.W.Frag}(hd: ∀(M:Addr->Prop) (H:Hp) (x:V) (xs:List V) (d:Dt) (ds:List Dt) (Qd:Dt->Prop) (Q:VK),kh M H->Rep M H x d->az M H xs ds->R d ds Qd->(∀H' v d,Qd d->aD H H'->Rep M H' v d->Q v H')->r x xs H Q):
  ∀σ H Q,lE (U3 R ta tA) σ H Q->T3 K "tuple" r (lE ta) (lA tA) σ H Q:=fun σ H Q cw=>(by obtain⟨W,M,α,δ,Qd,E,q,k⟩:=cw;exact(
 ⟨W,M,α,δ,_,E,q,fun d δ1 H1 x fW E1 c1 r1=>(by obtain⟨⟨ds,e⟩,q1⟩:=fW;exact(by
  subst e;obtain⟨a,xs,rfl,ha,n,rr⟩:=r1.bJ;refine⟨.inr (.inr (.inr (.inr ⟨rfl,xs,ha⟩))),W,M,α,δ1,_,E1,q1,fun es δ2 H2 ys q2 E2 c2 r2=>?_⟩;exact hd M H2 _ ys _ es _ _ E2.al (r1.chg E1 c2) r2 q2 fun H3 v d q3 s r3=>k _ _ _ _ q3 (E2.same s) ((c1.tr c2).tr (cQ.of s)) r3))⟩))
theorem Gi(ha:Ev X a ta)(hA:Av X [e] tA)
  (gV:attributeBase a "index" X.env (eval a X.env)=eval a X.env:=by rfl)
  (Cp:((backTo cv (starEach [e] X.env)).all (fun x=>!x.1) && (backToKw cv (keywordEach [] X.env)).all (fun x=>x.1.isSome) && decide ([e].length+([]:List Keyword).length+(if ([]:List Keyword).isEmpty then 0 else 1) < 30))=true:=by rfl)
  (gT:(apos.endLine==cv.line)=true:=by rfl) (hs:starEach [e] X.env=(false,eval e X.env)::starEach [] X.env:=by rfl) (mC:(backTo cv (starEach [] X.env)).any (·.1)=false:=by rfl):
  Ev X (.Call (.Attribute a "index" apos) [e] [] cv) (U3 GY ta tA):=
 PE.imp (Hh PySem.F.plainAttrs_tuple PySem.F.slot_tuple_index PySem.F.type_tuple_index yE ha hA gV Cp gT hs mC) (FA fun M H x xs d ds Qd Q al r1 r2 kZ k=>(by obtain⟨es,y,j,z,e1,e2,f1,f2,hz,RH,Kz,q⟩:=kZ;exact(by
  subst e1;subst e2;obtain⟨a,zs,rfl,ha,n,rr⟩:=r1.bJ;obtain⟨v,rfl,rv⟩:=dE r2;obtain⟨w,hw,qQ⟩:=rr.get hz;have fz:dY z=true:=Z4.mp f2 _ (ZT hz);refine⟨a,zs,v,j,w,rfl,rfl,ha,mI rv f1,oQ rr f2,hw,by rw[qj qQ rv fz f1];exact RH,fun m u hm hu=>?_,k H _ _ q (fun _ _ z=>z) (.int _)⟩;have FU:m < es.length:=by rw[<-rr.1];exact(Zq.mp hu).1
  have hd:=Zg FU;rw[qj (rr.2 m u _ hu hd) rv (Z4.mp f2 _ (ZT hd)) f1];exact Kz m _ hm hd)))
inductive Dc(Q:List Dt->List Sl->Prop)(es:List Dt)(ks:List Dt)(δ2:List Sl):Prop
 | mk (ds:_) (h1:es= [.tup ds]) (h2:ks= [.int 1]) (h3:Q (br 1 ds) δ2)
def Dd(tA tk:gf):qV:=fun δ Q=>tA δ fun es δ1=>tk δ1 fun ks δ2=>Dc Q es ks δ2
theorem FP{x1}(hm:X.mg "enumerate"=none)(ha:Av X [e] tA)(hk:PK X j7 tk)(WV: ∀σ H Q,lA VW σ H Q->tk σ H Q)(hg:Gl X "enumerate":=by rfl)(FV:(backToKw pos (keywordEach j7 X.env)).filterMap (·.1)=(["start"]:List Str):=by rfl)(k1:backTo pos (starEach [e] X.env)=(false,eval e X.env)::backTo pos (starEach [] X.env):=by rfl)(k2:(backTo pos (starEach [e] X.env)).any (·.1)=false:=by rfl)(k3:(backToKw pos (keywordEach j7 X.env)).all (·.1.isSome)=true:=by rfl)(k4:(backToKw pos (keywordEach j7 X.env)).any (·.1.isNone)=false:=by rfl):Iv X (.Tuple es x1 tp) (.Call (.Name "enumerate" p) [e] j7 pos) (Dd tA VW):=
 PI.imp (Bo hg hm ha hk FV k1 k2 k3 k4) fun σ H R nF=>(by obtain⟨W,M,α,δ,Qd,E,q,k⟩:=nF;exact(⟨W,M,α,δ,_,E,q,fun es δ1 H1 vs q1 E1 c1 r1=>WV _ _ _ ⟨W,M,α,δ1,_,E1,q1,fun ks δ2 H2 zs o9 E2 c2 r2=>(by obtain⟨ds,e1,e2,q2⟩:=o9;exact(by
  subst e1;subst e2;obtain⟨x,rfl,rx⟩:=dE (r1.chg E1 c2);obtain⟨y,rfl,ry⟩:=dE r2;cases ry.ofInt;obtain⟨a,xs,rfl,ha,n,rr⟩:=rx.bJ;exact⟨a,rfl,rfl,⟨xs,eV.of ha⟩,k _ _ _ _ q2 E2 (c1.tr c2) (v5 ha n rr)⟩))⟩⟩))
theorem zq: ∀σ H Q,lA (mR t vD) σ H Q->oq (lE t) rM σ H Q:=fun σ H Q nE=>(by obtain⟨W,M,α,δ,Qd,E,q,k⟩:=nE;exact(⟨W,M,α,δ,_,E,q,fun d δ1 H1 x q1 E1 c1 r1=>k _ _ _ _ q1 E1 c1 (.one r1)⟩))
theorem xh{x1}(hm:X.mg "enumerate"=none)(ha:Av X [e] tA)(hf:Ev X f t)(hg:Gl X "enumerate":=by rfl)(FV:(backToKw pos (keywordEach [⟨nm,f,p7⟩] X.env)).filterMap (·.1)=(["start"]:List Str):=by rfl)(k1:backTo pos (starEach [e] X.env)=(false,eval e X.env)::backTo pos (starEach [] X.env):=by rfl)(k2:(backTo pos (starEach [e] X.env)).any (·.1)=false:=by rfl)(k3:(backToKw pos (keywordEach [⟨nm,f,p7⟩] X.env)).all (·.1.isSome)=true:=by rfl)(k4:(backToKw pos (keywordEach [⟨nm,f,p7⟩] X.env)).any (·.1.isNone)=false:=by rfl):Iv X (.Tuple es x1 tp) (.Call (.Name "enumerate" p) [e] [⟨nm,f,p7⟩] pos) (Dd tA (mR t vD)):=
 FP hm ha (wN hf Bl) zq hg FV k1 k2 k3 k4
inductive Gw(neg:Bool)(Q:Dt->List Sl->Prop)(d:Dt)(δ':List Sl):Prop
 | mk (ds:_) (h1:d= .lst ds) (h2:Q (.bl (if neg then !ds.isEmpty else ds.isEmpty)) δ')
def Ie(neg:Bool)(ta:bq):bq:=fun δ Q=>ta δ fun d δ'=>Gw neg Q d δ'
inductive Gu(neg:Bool)(Q:Dt->List Sl->Prop)(d:Dt)(δ':List Sl):Prop
 | mk (ds:_) (h1:d= .tup ds) (h2:Q (.bl (if neg then !ds.isEmpty else ds.isEmpty)) δ')
def Ib(neg:Bool)(ta:bq):bq:=fun δ Q=>ta δ fun d δ'=>Gu neg Q d δ'
inductive Ic(neg:Bool)(i:Nat)(δ:List Sl)(Q:Dt->List Sl->Prop):Prop
 | mk (ds:_) (h1:δ[i]?=some (.ow ds)) (h2:Q (.bl (if neg then !ds.isEmpty else ds.isEmpty)) δ)
theorem yD(hr: ∀(H:Hp) (Q:VK) (p q:Addr) (xs:List V),H p=some (.lst xs)->H q=some (.lst [])->Q (.bl (if neg then !xs.isEmpty else xs.isEmpty)) H->r (.ref p) (.ref q) H Q): ∀σ H Q,lE (Ie neg ta) σ H Q->G3 r (lE ta) (Je rM) σ H Q:=fun σ H Q gn=>(by obtain⟨W,M,α,δ,Qd,E,q,k⟩:=gn;exact(
 ⟨W,M,α,δ,_,E,q,fun d δ1 H1 x k9 E1 c1 r1=>(by obtain⟨ds,e,q1⟩:=k9;exact(⟨ZV _,fun p hp=>by
  subst e;obtain⟨a,xs,rfl,ha,n,rr⟩:=r1.dS;have s:aD H1 (upd H1 p (.lst [])):=aD.new hp;exact hr _ _ _ _ xs (s _ _ ha) ag (by rw[jP rr];exact k _ _ _ _ q1 (E1.same s) (c1.tr (cQ.of s)) (.bl _))⟩))⟩))
theorem yB(hr: ∀(H:Hp) (Q:VK) (p q:Addr) (xs:List V),H p=some (.tup xs)->H q=some (.tup [])->Q (.bl (if neg then !xs.isEmpty else xs.isEmpty)) H->r (.ref p) (.ref q) H Q): ∀σ H Q,lE (Ib neg ta) σ H Q->G3 r (lE ta) (Mx rM) σ H Q:=fun σ H Q k6=>(by obtain⟨W,M,α,δ,Qd,E,q,k⟩:=k6;exact(
 ⟨W,M,α,δ,_,E,q,fun d δ1 H1 x iy E1 c1 r1=>(by obtain⟨ds,e,q1⟩:=iy;exact(⟨ZV _,fun p hp=>by
  subst e;obtain⟨a,xs,rfl,ha,n,rr⟩:=r1.bJ;have s:aD H1 (upd H1 p (.tup [])):=aD.new hp;exact hr _ _ _ _ xs (s _ _ ha) ag (by rw[jP rr];exact k _ _ _ _ q1 (E1.same s) (c1.tr (cQ.of s)) (.bl _))⟩))⟩))
theorem yC(hr: ∀(H:Hp) (Q:VK) (p q:Addr) (xs:List V),H p=some (.lst xs)->H q=some (.lst [])->Q (.bl (if neg then !xs.isEmpty else xs.isEmpty)) H->r (.ref p) (.ref q) H Q): ∀σ H Q,lE (Ic neg i) σ H Q->G3 r (dM i) (Je rM) σ H Q:=fun σ H Q iP=>(by obtain⟨W,M,α,δ,Qd,E,⟨ds,hd,q⟩,k⟩:=iP;exact(by
 obtain⟨a,xs,h1,h2,h3,r3⟩:=E.ow hd;refine⟨_,h1,ZV _,fun p hp=>?_⟩;have s:aD H (upd H p (.lst [])):=aD.new hp;exact hr _ _ _ _ xs (s _ _ h3) ag (by rw[jP r3];exact k _ _ _ _ q (E.same s) (cQ.of s) (.bl _))))
theorem BV{K:PySem.W.Frag}: ∀(H:Hp) (Q:VK) (p q:Addr) (xs:List V),H p=some (.lst xs)->H q=some (.lst [])->Q (.bl (if true=true then !xs.isEmpty else xs.isEmpty)) H->wG K (.ref p) (.ref q) H Q:=fun H Q p q xs h1 h2 z=>⟨p,q,xs,rfl,rfl,cX.of h1,cX.of h2,z⟩
theorem JZ{K:PySem.W.Frag}: ∀(H:Hp) (Q:VK) (p q:Addr) (xs:List V),H p=some (.tup xs)->H q=some (.tup [])->Q (.bl (if true=true then !xs.isEmpty else xs.isEmpty)) H->wD K (.ref p) (.ref q) H Q:=fun H Q p q xs h1 h2 z=>⟨p,q,xs,rfl,rfl,eV.of h1,eV.of h2,z⟩
theorem Ay(hu:X.A.units < cLine)(ha:Ev X a ta):Tv X (.Compare a [.NotEq] [.List [] p2] pos) (dT (Ie true ta)):=PT.imp (g9 (oE hu) ha (lU aL) (dm _)) fun σ H Q h=>yD BV _ _ _ (dG _ _ _ h)
theorem Ax(hu:X.A.units < cLine)(i:Nat)(ho:PE X (.Name x xp) (dM i)):Tv X (.Compare (.Name x xp) [.NotEq] [.List [] p2] pos) (dT (Ic true i)):=PT.imp (g9 (oE hu) ho (lU aL) (dm _)) fun σ H Q h=>yC BV _ _ _ (dG _ _ _ h)
theorem C0(hu:X.A.units < cLine)(ha:Ev X a ta):Ev X (.Compare a [.NotEq] [.Tuple [] x1 p2] pos) (Ib true ta):=PE.imp (wQ (yr hu) ha (Bs aL) (dm _)) (yB JZ)
end
end LD
namespace L2
open PySem PySem.Spec PyProof.Rows
theorem nV(it acc:Value)(env:Env):
  compTurn (.ListComp elt [⟨tg,iter,ifs,0⟩,⟨gs,iter2,cK,0⟩] scope pos) 0 it acc env=(do
   standAt iter.pos
   match<-pyNext it with
   | none=>pure (.done .next)
   | some v=>
    letOwnedTupleGo tg it v
    assign tg env v
    let mut ok:=true
    for c in ifs do
     if ok then ok<-isTrue c env (eval c env)
    if ok then
     let x<-eval iter2 env
     standAt iter2.pos
     let x<-foldedSetIterable iter2 env x
     let _<-runOwn (.compStart (.ListComp elt [⟨tg,iter,ifs,0⟩,⟨gs,iter2,cK,0⟩] scope pos) 1 (<-holding [x] (pyIter x)) acc env) env
    again (.compLoop (.ListComp elt [⟨tg,iter,ifs,0⟩,⟨gs,iter2,cK,0⟩] scope pos) 0 it acc env)):=by rfl
theorem nU(it acc:Value)(env:Env):
  compTurn (.ListComp elt [⟨tg,iter,ifs,0⟩,⟨gs,iter2,cK,0⟩] scope pos) 1 it acc env=(do
   standAt iter2.pos
   match<-pyNext it with
   | none=>pure (.done .next)
   | some v=>
    letOwnedTupleGo gs it v
    assign gs env v
    let mut ok:=true
    for c in cK do
     if ok then ok<-isTrue c env (eval c env)
    if ok then
     (do let _<-call (.builtin "list.append") [acc,<-eval elt env])
    again (.compLoop (.ListComp elt [⟨tg,iter,ifs,0⟩,⟨gs,iter2,cK,0⟩] scope pos) 1 it acc env)):=by rfl
theorem nX (I : Nat -> Shared -> Prop) (turn : ∀ n s, I n s -> wpAny (model prog w) A (pyNext it) (fun r s₁ => match r with
   | none=>R (.ok .next) s₁
   | some v=>wpAny (model prog w) A (letOwnedTupleGo gs it v) (fun _ s₀=>wpAny (model prog w) A (assign gs env v) (fun _ s₂=>
     wpAny (model prog w) A (forIn cK true fun c r=>if r=true then do let ok<-isTrue c env (eval c env);pure (ForInStep.yield ok) else pure (ForInStep.yield r)) (fun ok s₃=>
      if ok=true then wpAny (model prog w) A (eval elt env) (fun x s₄=>
       wpAny (model prog w) A (call (.builtin "list.append") [acc,x]) (fun _ s₅=> ∃m,m < n/\I m s₅) (fun _ _=>False) s₄) (fun _ _=>False) s₃
      else∃m,m < n/\I m s₃) (fun _ _=>False) s₂) (fun _ _=>False) s₀) (fun _ _=>False) s₁) (fun _ _=>False) s) (n:Nat) (h:I n s):codeAny (model prog w) A (.compLoop (.ListComp elt [⟨tg,iter,ifs,0⟩,⟨gs,iter2,cK,0⟩] scope pos) 1 it acc env) R s:=by
 refine codeAny_loop rfl I (fun n s hI=>?_) n h;show wpAny _ A ((compTurn (.ListComp elt [⟨tg,iter,ifs,0⟩,⟨gs,iter2,cK,0⟩] scope pos) 1 it acc env).onRaise (fun x=>do noteFrame x env;theTreesLotGoes x)) _ _ s;refine wpAny_noted ?_;rw[nU];refine Zd (ab6 (Zd (ZU (turn n s hI) (fun r s₁ h₁=>?_) fun _ _ h'=>h'.elim)));cases r with
 | none=>exact Zf h₁
 | some v=>
  refine Zd (ZU h₁ (fun _ s₀ h₀=>?_) fun _ _ h'=>h'.elim);refine Zd (ZU h₀ (fun _ s₂ h₂=>Zd (ZU h₂ (fun ok s₃ h₃=>?_) fun _ _ h'=>h'.elim)) fun _ _ h'=>h'.elim);cases ok with
  | false=>exact Zf ⟨rfl,h₃⟩
  | true=>
   exact Zd (Zd (ZU h₃ (fun x s₄ h₄=>Zd (ZU h₄ (fun _ s₅ h₅=>Zf (Zf ⟨rfl,h₅⟩)) fun _ _ h'=>h'.elim)) fun _ _ h'=>h'.elim))
theorem mV (h0 : codeAny (model prog w) A (.compLoop (.ListComp elt [⟨tg, iter, ifs, 0⟩, ⟨gs, iter2, cK, 0⟩] scope pos) 1 it acc env) R s) (h : wpAny (model prog w) A (pyIter it) (fun RD s' => codeAny (model prog w) A (.compLoop (.ListComp elt [⟨tg, iter, ifs, 0⟩, ⟨gs, iter2, cK, 0⟩] scope pos) 1 RD acc env) R s')
   (notedBy (model prog w) A env fun x s'=>R (.error x) s') s):
  codeAny (model prog w) A (.compStart (.ListComp elt [⟨tg,iter,ifs,0⟩,⟨gs,iter2,cK,0⟩] scope pos) 1 it acc env) R s:=by
 refine codeAny_of_tree ?_;show wpAny _ _ ((compStart (.ListComp elt [⟨tg,iter,ifs,0⟩,⟨gs,iter2,cK,0⟩] scope pos) 1 it acc env).onRaise (fun x=>do noteFrame x env;standAt theWindowsPlace)) _ _ s;refine wpAny_notedAt ?_;unfold compStart;show wpAny _ _ (ask >>=_) _ _ s;refine Zd (wpAny_askSetting (wpAny_ite ?_));split
 . first
     | exact Zd (Zf (Zf (And.intro rfl h0)))
     | exact Zf (And.intro rfl h0)
 . first
     | exact Zd (ad1 (Zd (ab6 (Zd (ZU h (fun RD s' h'=>Zf (And.intro rfl h')) fun _ _ x=>x)))))
     | (refine Zd (ad1 ?_);show wpAny _ _ (standAt iter2.pos >>=_) _ _ s;exact Zd (ab6 (Zd (ZU h (fun RD s' h'=>Zf (And.intro rfl h')) fun _ _ x=>x))))
theorem nY (I : Nat -> Shared -> Prop) (hs : ∀ x, foldedSetIterable iter2 env x = pure x) (turn : ∀ n s, I n s -> wpAny (model prog w) A (pyNext it) (fun r s₁ => match r with
   | none=>R (.ok .next) s₁
   | some v=>wpAny (model prog w) A (letOwnedTupleGo tg it v) (fun _ s₀=>wpAny (model prog w) A (assign tg env v) (fun _ s₂=>
     wpAny (model prog w) A (forIn ifs true fun c r=>if r=true then do let ok<-isTrue c env (eval c env);pure (ForInStep.yield ok) else pure (ForInStep.yield r)) (fun ok s₃=>
      if ok=true then wpAny (model prog w) A (eval iter2 env) (fun x s₄=>wpAny (model prog w) A (pyIter x) (fun NI s₅=>
       codeAny (model prog w) A (.compStart (.ListComp elt [⟨tg,iter,ifs,0⟩,⟨gs,iter2,cK,0⟩] scope pos) 1 NI acc env) (fun r s₆=>r= .ok .next/\ ∃m,m < n/\I m s₆) s₅) (fun _ _=>False) s₄) (fun _ _=>False) s₃
      else∃m,m < n/\I m s₃) (fun _ _=>False) s₂) (fun _ _=>False) s₀) (fun _ _=>False) s₁) (fun _ _=>False) s) (n:Nat) (h:I n s):codeAny (model prog w) A (.compLoop (.ListComp elt [⟨tg,iter,ifs,0⟩,⟨gs,iter2,cK,0⟩] scope pos) 0 it acc env) R s:=by
 refine codeAny_loop rfl I (fun n s hI=>?_) n h;show wpAny _ A ((compTurn (.ListComp elt [⟨tg,iter,ifs,0⟩,⟨gs,iter2,cK,0⟩] scope pos) 0 it acc env).onRaise (fun x=>do noteFrame x env;theTreesLotGoes x)) _ _ s;refine wpAny_noted ?_;rw[nV];refine Zd (ab6 (Zd (ZU (turn n s hI) (fun r s₁ h₁=>?_) fun _ _ h'=>h'.elim)));cases r with
 | none=>exact Zf h₁
 | some v=>
  refine Zd (ZU h₁ (fun _ s₀ h₀=>?_) fun _ _ h'=>h'.elim);refine Zd (ZU h₀ (fun _ s₂ h₂=>Zd (ZU h₂ (fun ok s₃ h₃=>?_) fun _ _ h'=>h'.elim)) fun _ _ h'=>h'.elim);cases ok with
  | false=>exact Zf ⟨rfl,h₃⟩
  | true=>
   refine Zd (ZU h₃ (fun x s₄ h₄=>Zd (ab6 ?_)) fun _ _ h'=>h'.elim);rw[hs];refine Zd (Zf ?_);refine Zd (aa9 (ZU h₄ (fun NI s₅ h₅=>?_) fun _ _ h'=>h'.elim));refine Zd (wpAny_runOwn (al1 h₅ fun r s₆ h₆=>?_));obtain⟨rfl,h₆⟩:=h₆;exact Zf ⟨rfl,h₆⟩
def DI(n1 nt:Nat)(g:TG):Prop:= ∀v σ H (Q:St->Hp->Prop),g v σ H Q->g v σ H fun σ' H'=>Q σ' H'/\σ'.length=σ.length/\ ∀k,k < n1\/nt<=k->σ'[k]?=σ[k]?
theorem y8(h1:n1<=i:=by decide)(h:i < nt:=by decide):DI n1 nt (bV i):=fun v σ H Q q=>⟨q,by simp,fun k hk=>by rw[Zr (by omega)]⟩
def Vs(g2:TG)(om:TT)(te:TE)(σ:St)(B:List V->Hp->Prop)(D:Addr)(J2:It)(LH:List V)(H0:Hp):Prop:=
 ∃W2:Nat->Nat->List V->Hp->Prop,(∃m,W2 0 m LH H0)/\ ∀i m acc H,W2 i m acc H->
  (J2.stop i H/\B acc H)\/(J2.go i H/\acc.length < sizeLine/\ ∃B2:List V->Hp->Prop,(∀bG H',B2 bG H'-> ∃m',m' < m/\W2 (i+1) m' bG H')/\ ∀x H',J2.uo i H x H'->g2 x σ H' fun σ2 H2=>
   om σ2 H2 fun b H3=>if b=true then te σ2 H3 fun v H4=>H4 D=some (.lst acc)/\B2 (acc++ [v]) (upd H4 D (.lst (acc++ [v]))) else B2 acc H3)
def DV(nt:Nat)(js:List Nat)(g:TG)(tc:TT)(Ef:TI)(g2:TG)(om:TT)(te:TE)(σ:St)(Q:VK)(D:Addr)(J:It)(H0:Hp):Prop:=
 ∃W:Nat->Nat->List V->Hp->Prop,(∃m,W 0 m [] H0)/\ ∀i m acc H,W i m acc H->
  (J.stop i H/\Q (.ref D) H)\/(J.go i H/\ ∃B:List V->Hp->Prop,(∀bG H',B bG H'-> ∃m',m' < m/\W (i+1) m' bG H')/\ ∀x H',J.uo i H x H'->g x (ic nt js σ) H' fun σ2 H2=>
   tc σ2 H2 fun b H3=>if b=true then Ef σ2 H3 fun J2 H4=>Vs g2 om te σ2 B D J2 acc H4 else B acc H3)
def AA(nt:Nat)(js:List Nat)(wi:TI)(g:TG)(tc:TT)(Ef:TI)(g2:TG)(om:TT)(te:TE):TE:=fun σ H Q=>wi σ H fun J H1=> ∀D,H1 D=none->DV nt js g tc Ef g2 om te σ Q D J (upd H1 D (.lst []))
theorem vc{Y:Cx}(hc:Y.calm=true)(qU:Y.xe=fun _ _=>False)(KH:PG Y gs g2)(ve:DI n1 nt g2)(yV:PF Y cK om)(he:PE Y elt te)(I:Inv Y pins σ H s)(T:Turn Y.prog Y.w Y.K gs J fp it tn)(st:tn 0 s.heap)(ff: ∀b∈fp,dh Y pins H b)(aN: ∀k,n1<=k->k < nt-> ∀v,σ[k]?≠some (some v))(R:Vs g2 om te σ B D J LH H)(fin: ∀acc H' s',Inv Y pins σ H' s'->B acc H'->RR (.ok .next) s'):
  codeAny (model Y.prog Y.w) Y.A (.compLoop (.ListComp elt [⟨tg,iter,ifs,0⟩,⟨gs,iter2,cK,0⟩] scope pos) 1 (.ref it) (.ref D) Y.env) RR s:=by
 obtain⟨W,⟨m0,w0⟩,turn⟩:=R;have uB: ∀{H':Hp},(∀b∈fp,H' b=none)-> ∀b∈fp,dh Y pins H' b:=fun hn b hb=>⟨hn b hb,(ff b hb).2⟩
 refine nX (fun n s'=> ∃i acc H',Inv Y pins σ H' s'/\tn i s'.heap/\(∀b∈fp,H' b=none)/\W i n acc H') ?_ m0 ⟨0,LH,H,I,st,fun b hb=>(ff b hb).1,w0⟩;rintro n s5 ⟨i,acc,H5,I5,uD,zb,w5⟩
 rcases turn i n acc H5 w5 with ⟨stop,q⟩ | ⟨go,hlen,B2,hB,step⟩
 . refine aP (T.done Y rfl rfl rfl hc i pins s5 _ H5 (fun _ _=>False) I5 (uB zb) uD stop) fun r s6 ⟨hr,I6⟩=>?_;subst hr;exact fin _ _ _ I6 q
 . refine aP (T.item Y rfl rfl rfl hc i pins s5 _ H5 (fun _ _=>False) I5 (uB zb) uD go) fun r s6 ⟨u,hr,h6⟩=>?_;subst hr;refine aP h6 fun _ s7 kZ=>?_;obtain⟨x,H7,I7,r7,y7,uC,K4⟩:=kZ;have LS:=I7.pinned (uB K4) (T.obj _ _ uC);have g7:=ve _ _ _ _ (step x H7 y7);have h7:=KH _ s7 _ H7 x u _ LS r7 g7;rw[qU] at h7;refine aP h7 fun _ s8 kj=>?_;obtain⟨σ8,H8,I8,q8,l8,k8⟩:=kj;have h8:=yV _ s8 σ8 H8 _ I8 q8;rw[qU] at h8;refine aP h8 fun b s9 iP=>?_;obtain⟨H9,I9,q9⟩:=iP;have again: ∀{ki:Hp} {fb:Shared} {bG:List V},Inv Y (pins++iE fp s7.heap) σ8 ki fb->B2 bG ki-> ∃m,m < n/\ ∃i acc H',Inv Y pins σ H' fb/\tn i fb.heap/\(∀b∈fp,H' b=none)/\W i m acc H':=fun{ki fb bG} t6 tV=>by
    obtain⟨m',DZ,IS⟩:=hB bG ki tV;refine⟨m',DZ,i+1,bG,ki,t6.dJ.weak l8.symm fun k v e=>?_,T.keep _ _ _ uC fun b hb o e=>(t6.pin (b,o) (Zw _ (Zw _ (bf hb e)))).1,fun b hb=>?_,IS⟩
    . by_cases hk:n1<=k/\k < nt
      . exact absurd e (aN k hk.1 hk.2 v)
      . rw[k8 k (by omega)];exact e
    . obtain⟨o,e,d⟩:=T.obj _ _ uC b hb;exact(t6.pin (b,o) (Zw _ (Zw _ (bf hb e)))).2.1
   cases b with
   | false=>
    rw[if_neg Zp] at q9 ⊢;exact again I9 q9
   | true=>
    rw[if_pos rfl] at q9 ⊢;have h9:=he _ s9 σ8 H9 _ I9 q9;rw[qU] at h9;refine aP h9 fun y fb iO=>?_;obtain⟨v,ki,t6,M8,KZ,Jz⟩:=iO;have F1:=(jN (X:=Y) _ fb σ8 ki (.ref D) [v] (.ref D) [y] (fun _ H'=>B2 (acc++ [v]) H') t6 rfl (.cons M8 .nil) ⟨_,acc,v,rfl,rfl,KZ,hlen,Jz⟩)
    rw[qU] at F1;refine aP F1 fun _ MR nF=>?_;obtain⟨_,D6,GW,_,Ri⟩:=nF;exact again GW Ri
theorem vH{elt tg iter gs iter2:Expr}{ifs cK:List Expr}{pos:Pos}{g g2:TG}{Ef:TI}{tc om:TT}{te:TE}{n1:Nat}{cl:List (Str × Addr)}{Q:VK}{E:Value->Shared->Prop}{RR:Value->Addr->Result->Shared->Prop}
  (S:jD X N nt js scope) (hc:X.calm=true)
  (hg: ∀s H cl C ex,PG (dz X N scope s H cl C ex) tg g) (eQ:jC n1 g) (N9:n1<=nt) (Mf: ∀s H cl C ex,PI (dz X N scope s H cl C ex) gs iter2 Ef) (mB: ∀s H cl C ex x,foldedSetIterable iter2 (dz X N scope s H cl C ex).env x=pure x) (KH: ∀s H cl C ex,PG (dz X N scope s H cl C ex) gs g2) (ve:DI n1 nt g2) (yV: ∀s H cl C ex,PF (dz X N scope s H cl C ex) cK om) (hf: ∀s H cl C ex,PF (dz X N scope s H cl C ex) ifs tc) (he: ∀s H cl C ex,PE (dz X N scope s H cl C ex) elt te)
  {it:Addr} {fp:List Addr} {tn:Nat->Heap->Prop} {J:It} (I:Inv X pins σ H s) (T:Turn X.prog X.w X.K tg J fp it tn) (st:tn 0 s.heap) (ff: ∀b∈fp,dh X pins H b)
  (c1: ∀x c,(x,c)∈cl->X.env.cells.lookup x=some c) (c2: ∀x,(x,NameKind.free)∈scope.names-> ∃c,(x,c)∈cl)
  (R: ∀D,H D=none->DV nt js g tc Ef g2 om te σ Q D J (upd H D (.lst [])))
  (fin: ∀(D C:Addr) (s':Shared) (H':Hp),Inv X pins σ H' s'->dh X pins H' C->(∃m,s'.heap.Ns C m)->Q (.ref D) H'->RR (.ref D) C (.ok .next) s'):
  wpAny (model X.prog X.w) X.A (newList []) (fun acc s₃=>wpAny (model X.prog X.w) X.A (newFunctionEnv scope X.env.globals cl [] X.env.qual none .none (some X.env)) (fun iJ s₄=>
   codeAny (model X.prog X.w) X.A (.compStart (.ListComp elt [⟨tg,iter,ifs,0⟩,⟨gs,iter2,cK,0⟩] scope pos) 0 (.ref it) acc {iJ with scope:=relabel scope X.env}) (RR acc iJ.locals) s₄) E s₃) E s:=by
 refine Z9 (eO fun iJ tG CL=>?_);rw[tG,CL];dsimp only;have hD:H s.heap.objs.size=none:=I.aT.fresh (Zj _);obtain⟨W,⟨m0,w0⟩,turn⟩:=R s.heap.objs.size hD;have kD: ∀b u,s.heap.get? b=some u->(s.heap.push {cls:= .type "list",data:= .seq ([]:List Value).toArray}).get? b=some u:=fun b u e=>Zh _ e;have I3:Inv X pins σ (upd H s.heap.objs.size (.lst [])) {s with heap:=s.heap.push {cls:= .type "list",data:= .seq ([]:List Value).toArray},toks:=s.toks}:=
  I.laid kD (Zj _) ⟨ZV _,[],_,.nil,Zs _ rfl⟩
 have fs: ∀b∈fp,b < s.heap.objs.size:=fun b hb=>by
  obtain⟨o,e,_⟩:=T.obj _ _ st b hb;exact ZD e
 have HJ: ∀b∈fp,dh X pins (upd H s.heap.objs.size (.lst [])) b:=fun b hb=>⟨by rw[ah (ZY (fs b hb))];exact(ff b hb).1,(ff b hb).2⟩
 have I4:=jU (tk:=s.toks) S hc I3 HJ (fun b hb=>by show b < (s.heap.push _).objs.size;rw[ab2];exact ag8 (fs b hb)) c1 c2;dsimp only at I4;have Oa:(s.heap.push {cls:= .type "list",data:= .seq ([]:List Value).toArray}).objs.size=s.heap.objs.size+1:=ab2 ..;generalize hY:dz X N scope {s with heap:=s.heap.push {cls:= .type "list",data:= .seq ([]:List Value).toArray},toks:=s.toks} (upd H s.heap.objs.size (.lst [])) cl (s.heap.push {cls:= .type "list",data:= .seq ([]:List Value).toArray}).objs.size fp=Y at I4;have UL:=hY;have ni:Y.env=m5 scope cl (s.heap.push {cls:= .type "list",data:= .seq ([]:List Value).toArray}).objs.size X.env:=by rw[<-hY];rfl
 have bO:Y.prog=X.prog:=by rw[<-hY];rfl
 have Yw:Y.w=X.w:=by rw[<-hY];rfl
 have YA:Y.A=X.A:=by rw[<-hY];rfl
 have YK:Y.K=X.K:=by rw[<-hY];rfl
 have jz:Y.calm=true:=by rw[<-hY];exact hc
 have qU:Y.xe=fun _ _=>False:=by rw[<-hY];rfl
 have tX:Y.ex=fp:=by rw[<-hY];rfl
 have OV:Y.pn= []:=by rw[<-hY];rfl
 have OW:Y.fs=qT X.stack:=by rw[<-hY];rfl
 have Iy:Y.s₀={s with heap:=s.heap.push {cls:= .type "list",data:= .seq ([]:List Value).toArray},toks:=s.toks}:=by rw[<-hY];rfl
 have OX:Y.H₀=upd H s.heap.objs.size (.lst []):=by rw[<-hY];rfl
 have N0:PG Y tg g:=by rw[<-hY];exact hg _ _ _ _ _
 have Se:PF Y ifs tc:=by rw[<-hY];exact hf _ _ _ _ _
 have Sd:PF Y cK om:=by rw[<-hY];exact yV _ _ _ _ _
 have Sb:PG Y gs g2:=by rw[<-hY];exact KH _ _ _ _ _
 have R7:PI Y gs iter2 Ef:=by rw[<-hY];exact Mf _ _ _ _ _
 have RO: ∀x,foldedSetIterable iter2 Y.env x=pure x:=by rw[<-hY];exact mB _ _ _ _ _
 have Si:PE Y elt te:=by rw[<-hY];exact he _ _ _ _ _
 have hm:(Y.N.length:Nat)=(ic nt js σ).length:=I4.len.symm;rw[<-ni,<-bO,<-Yw,<-YA];have CA: ∀{H':Hp} (_: ∀b∈fp,H' b=none),∀b∈fp,dh Y [] H' b:=fun{H'} hn b hb=>by
  refine⟨hn b hb,(I4.ok.HL b (by rw[tX];exact hb)).1,I4.ok.vo b (by rw[tX];exact hb),.inl (by rw[tX];exact hb),(I4.ok.HL b (by rw[tX];exact hb)).2,fun p hp=>?_⟩;rw[OV] at hp;simp at hp
 have back: ∀{H':Hp} {s':Shared} {σ':St},Inv Y [] σ' H' s'->Inv X pins σ H' s'/\dh X pins H' Y.env.locals/\ ∃m,s'.heap.Ns Y.env.locals m:=fun{H' s' σ'} J=>by
  have hb:Un (qT X.stack) fp (upd H s.heap.objs.size (.lst [])) H' (s.heap.push {cls:= .type "list",data:= .seq ([]:List Value).toArray}) s'.heap:=by
   have:=J.base;rw[OW,tX,OX,Iy] at this;exact this
  have loc:Y.env.locals=s.heap.objs.size+1:=by rw[ni];exact Oa
  have os:s'.os=s.os:=by
   have:=J.os;rw[Iy] at this;exact this
  have aT:gm X.prog X.w H' s'.heap:=by
   have:=J.aT;rw[bO,Yw] at this;exact this
  refine⟨I3.Dm (ch:=fp) os hb aT J.bare fun b hb=>⟨(ff b hb).2.2.2.1,(ff b hb).2.1,(ff b hb).2.2.2.2.1,(ff b hb).2.2.2.2.2⟩,?_,let ⟨m,q,_⟩:=J.loc;⟨m,q⟩⟩;exact I.vn (by rw[loc];exact ao7 _) J.free
 have loop:codeAny (model Y.prog Y.w) Y.A (.compLoop (.ListComp elt [⟨tg,iter,ifs,0⟩,⟨gs,iter2,cK,0⟩] scope pos) 0 (.ref it) (.ref s.heap.objs.size) Y.env) (RR (.ref s.heap.objs.size) Y.env.locals)
   {s with heap:=pushCells ((s.heap.push {cls:= .type "list",data:= .seq ([]:List Value).toArray}).push {cls:= .type "dict",data:= .dict #[]}) scope.names}:=by
  refine nY (fun n s'=> ∃i acc H',Inv Y [] (ic nt js σ) H' s'/\tn i s'.heap/\(∀b∈fp,H' b=none)/\W i n acc H') RO ?_ m0
   ⟨0,[],_,I4,T.keep _ _ _ st fun b _ o e=>ag5 _ _ b o (Zh _ (kD b o e)),fun b hb=>(HJ b hb).1,w0⟩
  rintro n s5 ⟨i,acc,H5,I5,uD,zb,w5⟩
  rcases turn i n acc H5 w5 with ⟨stop,q⟩ | ⟨go,B,hB,step⟩
  . have hd:=T.done Y bO Yw YK jz i [] s5 _ H5 (fun _ _=>False) I5 (CA zb) uD stop;rw[<-bO,<-Yw] at hd;refine aP hd fun r s6 o9=>?_;obtain⟨hr,I6⟩:=o9;subst hr;obtain⟨b1,b2,b3⟩:=back I6;exact fin _ _ _ _ b1 b2 b3 q
  . have hd:=T.item Y bO Yw YK jz i [] s5 _ H5 (fun _ _=>False) I5 (CA zb) uD go;rw[<-bO,<-Yw] at hd;refine aP hd fun r s6 nE=>?_;obtain⟨u,hr,h6⟩:=nE;subst hr;refine aP h6 fun _ s7 gn=>?_;obtain⟨x,H7,I7,r7,y7,uC,K4⟩:=gn;have LS:=I7.pinned (CA K4) (T.obj _ _ uC);have g7:=eQ _ _ _ _ (step x H7 y7);have h7:=N0 _ s7 _ H7 x u _ LS r7 g7;rw[qU] at h7;refine aP h7 fun _ s8 k9=>?_;obtain⟨σ8,H8,I8,q8,l8,k8⟩:=k9;have h8:=Se _ s8 σ8 H8 _ I8 q8;rw[qU] at h8;refine aP h8 fun b s9 k6=>?_;obtain⟨H9,I9,q9⟩:=k6;have again: ∀{ki:Hp} {fb:Shared} {bG:List V},Inv Y ([]++iE fp s7.heap) σ8 ki fb->B bG ki-> ∃m,m < n/\ ∃i acc H',Inv Y [] (ic nt js σ) H' fb/\tn i fb.heap/\(∀b∈fp,H' b=none)/\W i m acc H':=fun{ki fb bG} t6 tV=>by
     obtain⟨m',DZ,IS⟩:=hB bG ki tV;refine⟨m',DZ,i+1,bG,ki,t6.dJ.weak l8.symm fun k v e=>?_,T.keep _ _ _ uC fun b hb o e=>(t6.pin (b,o) (Zw _ (Zw _ (bf hb e)))).1,fun b hb=>?_,IS⟩
     . by_cases hk:nt<=k
       . rw[k8 k (ZE N9 hk)];exact e
       . exfalso;unfold ic at e;rw[ZR (by simp;omega),ZI,if_pos (by omega)] at e;cases e
     . obtain⟨o,e,d⟩:=T.obj _ _ uC b hb;exact(t6.pin (b,o) (Zw _ (Zw _ (bf hb e)))).2.1
    cases b with
    | false=>
     rw[if_neg Zp] at q9 ⊢;exact again I9 q9
    | true=>
     rw[if_pos rfl] at q9 ⊢;have h9:=R7 _ s9 σ8 H9 _ I9 q9;rw[qU] at h9;refine aP h9 fun y fb F1=>aP F1 fun NI MR Xl=>?_;obtain⟨i2,Yv,Yc,J2,D6,rfl,GW,T2,MO,SG,R2⟩:=Xl;have Rp: ∀k,n1<=k->k < nt-> ∀v,σ8[k]?≠some (some v):=fun k a1 a2 v e=>by
      rw[k8 k a1] at e;unfold ic at e;rw[ZR (by simp;omega),ZI,if_pos (by omega)] at e;cases e
     have lp:=vc (elt:=elt) (tg:=tg) (iter:=iter) (ifs:=ifs) (iter2:=iter2) (scope:=scope) (pos:=pos) jz qU Sb ve Sd Si GW T2 MO SG Rp R2 (RR:=fun r s₆=>r= .ok .next/\ ∃m,m < n/\ ∃i acc H',Inv Y [] (ic nt js σ) H' s₆/\tn i s₆.heap/\(∀b∈fp,H' b=none)/\W i m acc H') fun bG H' s' I' b'=>⟨rfl,again I' b'⟩
     exact mV lp (T2.self _ 0 _ _ _ MO lp)
 have tF:(s.heap.push {cls:= .type "list",data:= .seq ([]:List Value).toArray}).objs.size=Y.env.locals:=by rw[ni];rfl
 rw[tF];exact codeAny_compStart_list (rest:= [⟨gs,iter2,cK,0⟩]) loop (by rw[bO,Yw,YA] at*;exact T.self _ 0 _ _ _ (T.keep _ _ _ st fun b _ o e=>ag5 _ _ b o (Zh _ (kD b o e))) loop)
theorem Bz(S:jD X N nt js scope)(hc:X.calm=true)(hi:PI X tg iter wi)(hg: ∀s H cl C ex,PG (dz X N scope s H cl C ex) tg g)(eQ:jC n1 g)(N9:n1<=nt)(Mf: ∀s H cl C ex,PI (dz X N scope s H cl C ex) gs iter2 Ef)(mB: ∀s H cl C ex x,foldedSetIterable iter2 (dz X N scope s H cl C ex).env x=pure x)(KH: ∀s H cl C ex,PG (dz X N scope s H cl C ex) gs g2)(ve:DI n1 nt g2)(yV: ∀s H cl C ex,PF (dz X N scope s H cl C ex) cK om)(hf: ∀s H cl C ex,PF (dz X N scope s H cl C ex) ifs tc)(he: ∀s H cl C ex,PE (dz X N scope s H cl C ex) elt te)(hs: ∀x,foldedSetIterable iter X.env x=pure x:=by intro _;rfl):PE X (.ListComp elt [⟨tg,iter,ifs,0⟩,⟨gs,iter2,cK,0⟩] scope pos) (AA nt js wi g tc Ef g2 om te):=by
 intro pins s σ H Q I h;obtain⟨cl,KP,c1,c2⟩:=fR (scope:=scope) (env:=X.env) fun x hx e=>I.ok.has x.1 (S.L6 x hx e);rw[eval_ListComp];refine aj5 (use:=none) rfl hs KP S.kind S.names (aP (hi pins s σ H _ I h) fun v s1 h1=>aP h1 fun L8 s2 h2=>?_);obtain⟨it,fp,tn,J,H2,rfl,I2,T,gg,f2,R⟩:=h2;refine vH (RR:=fun acc C=>compPost (model X.prog X.w) X.A X.xe none (EP X pins σ Q) acc C) S hc hg eQ N9 Mf mB KH ve yV hf he I2 T gg f2 c1 c2 R fun D C s' H' I' fo iy q=>?_;obtain⟨m,hn⟩:=iy;refine⟨m,hn,fun h' sb=>⟨.ref D,H',?_,rfl,q⟩⟩;obtain⟨f0,f1,_,f3,f4,f5⟩:=fo;exact I'.turned (t':=s'.toks) (fun b o hb e=>(sb.2 b hb).trans e) f0 f1 f3 f4 f5
end L2
namespace LD
open PySem PySem.Spec L2 LB PyProof.Rows
theorem aB.MM(E:aB [] M α H σ δ)(fl:α.flatten= [])(keep: ∀b u,H b=some u-> ¬M b->H' b=some u)(mo:kh M H'):aB [] M α H' σ δ:=by
 refine⟨E.ls,E.la,fun i s h=>?_,E.nd,E.mu,mo,fun W hW=>absurd hW Zi⟩;obtain⟨o,as,h1,h2,h3⟩:=E.sl i s h;have hn:as= []:=ae6.mpr fun a ha=>by
  have:=aW h2 ha;rw[fl] at this;exact Zi this
 subst hn;refine⟨o,[],h1,h2,h3.keep (fun b u e n=>⟨keep b u e n,n⟩) (fun a ha=>absurd ha Zi) ?_⟩;cases s with
 | bx t=>
  obtain⟨d,c,e,_⟩:=h3;first | cases e | (obtain⟨_,e,_⟩:=h3;cases e)
 | _=>rfl
section
variable{X:Cx}{N:List Str}{nt n1:Nat}{js:List Nat}{scope:Scope}{elt tg iter gs iter2:Expr}{ifs cK:List Expr}{pos:Pos}{ti LZ:qV}{g g2:uh}{tc om:nA}{te:bq}
def Df(nt:Nat)(js:List Nat)(ti:qV)(g:uh)(tc:nA)(LZ:qV)(g2:uh)(om:nA)(te:bq):xU:=fun δ Q=>ti δ fun ao δ1=> ∃F:Dt->List Dt,(ao.flatMap F).length < sizeLine/\
 (∀d∈ao,g d (cin nt js δ1) fun δ2=>tc δ2 fun b δ3=>if b=true then LZ δ3 fun cJ δ4=> ∃(p:Dt->Bool) (f:Dt->Dt),(∀e∈cJ,g2 e δ4 fun δ5=>om δ5 fun b δ6=>b=p e/\(b=true->te δ6 fun r _=>r=f e))/\F d=(cJ.filter p).map f else F d= [])/\Q (ao.flatMap F) δ1
theorem vJ(sV: ∀v σ H Q,lG g v σ H Q->gh v σ H Q)(KD: ∀v σ H Q,lG g2 v σ H Q->P2 v σ H Q): ∀σ H Q,lO (Df nt js ti g tc LZ g2 om te) σ H Q->AA nt js (lI ti) gh (lT tc) (lI LZ) P2 (lT om) (lE te) σ H Q:=fun σ H Q cw=>(by obtain⟨W,M,α,δ,Qd,E,q,k⟩:=cw;exact(by
 refine⟨W,M,α,δ,_,E,q,fun ao δ1 H1 J fW E1 c1 yl D hD=>?_⟩;obtain⟨F,hsz,step,q1⟩:=fW;have s0:aD H1 (upd H1 D (.lst [])):=aD.new hD;refine⟨fun i m acc H2=>m=ao.length - i/\i<=ao.length/\H2 D=some (.lst acc)/\az (fun b=>M b\/b=D) H2 acc ((ao.take i).flatMap F)/\aD H1 H2/\kh (fun b=>M b\/b=D) H2,⟨ao.length,by simp,ZV _,ag,.nil,s0,fun a ha=>?_⟩,?_⟩
 . rcases ha with ha | ha
   . obtain⟨o,e,n⟩:=E1.al a ha;exact⟨o,s0 _ _ e,n⟩
   . subst ha;exact⟨_,ag,fun xs z=>by cases z⟩
 rintro i m acc H2 ⟨rfl,hi,y4,iY,s2,Hs⟩
 have kf:Kf M H1 H2:=fun b o e _=>s2 _ _ e;by_cases dX:i < ao.length
 . have hb: ∀b,H1 b≠none-> ¬M b-> ¬(fun b=>M b\/b=D) b:=fun b n z y=>y.elim z fun w=>n (by rw[w];exact hD);obtain⟨go,uo⟩:=yl.go i H2 (fun b=>M b\/b=D) kf Hs hb dX;refine .inr ⟨go,fun bG H'=>H' D=some (.lst bG)/\az (fun b=>M b\/b=D) H' bG ((ao.take (i+1)).flatMap F)/\aD H1 H'/\kh (fun b=>M b\/b=D) H',fun bG H' kZ=>(by obtain⟨z1,z2,z3,z4⟩:=kZ;exact(⟨ao.length - (i+1),by grind,rfl,dX,z1,z2,z3,z4⟩)),fun x H3 y=>?_⟩;obtain⟨s3,d,hd,rx⟩:=uo x H3 y;have E2:aB [] (fun b=>M b\/b=D) (List.replicate (nt+js.length) []) H2 (ic nt js σ) (cin nt js δ1):=by
    have su:aD (upd H1 D (.lst acc)) H2:=fun b o e=>by
     by_cases hb:b=D
     . subst hb;rw[ag] at e;cases e;exact y4
     . rw[ah hb] at e;exact s2 _ _ e
    have Ea:aB [] (fun b=>M b\/b=D) α H2 σ δ1:=⟨E1.ls,E1.la,fun i s h=>let ⟨o,as,h1,h2,h3⟩:=E1.sl i s h;⟨o,as,h1,h2,(h3.grow (u:= .lst acc) hD).same su⟩,E1.nd,fun a h=> .inl (E1.mu a h),Hs,fun W hW=>absurd hW Zi⟩
    exact qy Ea
   have E3:=E2.same s3;have bz:(List.replicate (nt+js.length) ([]:List Addr)).flatten= []:=by simp
   refine sV _ _ _ _ ⟨[],_,_,_,d,_,E3,rx,step d (ZT hd),fun α4 δ4 σ4 q4 E4 hα=>?_⟩;have D4:α4.flatten= []:=ae6.mpr fun x hx=>by have:=hα x hx;rw[bz] at this;exact absurd this Zi
   refine⟨[],_,α4,δ4,_,E4,q4,fun b δ5 H5 q5 E5 c5=>?_⟩;have s5:aD H3 H5:=fun b o e=>c5 b o e (by rw[D4];exact Zi);have EF:aD H2 H5:=fun b o e=>s5 _ _ (s3 _ _ e);have tk:ao.take (i+1)=ao.take i++ [d]:=by rw[ai3,hd];rfl
   have QN:(ao.take (i+1)).flatMap F=(ao.take i).flatMap F++F d:=by rw[tk,List.flatMap_append];simp
   cases b with
   | false=>
    have q5:F d= []:=by simpa using q5
    refine bD ⟨EF _ _ y4,?_,fun b o e=>EF _ _ (s2 _ _ e),E5.al⟩;rw[QN,q5,ab8];exact iY.same EF
   | true=>
    rw[if_pos rfl] at q5;refine cF ⟨[],_,α4,δ5,_,E5,q5,fun cJ δ6 H6 J2 kj E6 c6 TX=>?_⟩;obtain⟨p,f,MN,hF⟩:=kj;have s6:aD H5 H6:=fun b o e=>c6 b o e (by rw[D4];exact Zi);have A3:aD H2 H6:=fun b o e=>s6 _ _ (EF _ _ e);have Wu:((ao.take i).flatMap F).length+(F d).length<=(ao.flatMap F).length:=by
     have e:ao.flatMap F=(ao.take (i+1)).flatMap F++(ao.drop (i+1)).flatMap F:=by rw[<-List.flatMap_append,ae7]
     rw[e,QN,Zy,Zy];grind
    refine⟨fun i2 m2 Dw H7=>m2=cJ.length - i2/\i2<=cJ.length/\H7 D=some (.lst Dw)/\az (fun b=>M b\/b=D) H7 Dw ((ao.take i).flatMap F++((cJ.take i2).filter p).map f)/\(∀b o,H6 b=some o->b≠D->H7 b=some o)/\kh (fun b=>M b\/b=D) H7,⟨cJ.length,by simp,ZV _,A3 _ _ y4,by simpa using iY.same A3,fun b o e _=>e,E6.al⟩,?_⟩;rintro i2 m2 Dw H7 ⟨rfl,Mf,Sx,rX,k7,Ru⟩
    have Rz:Kf (fun b=>M b\/b=D) H6 H7:=fun b o e n=>k7 b o e fun z=>n (.inr z);by_cases NU:i2 < cJ.length
    . obtain⟨go2,QH⟩:=TX.go i2 H7 (fun b=>M b\/b=D) Rz Ru (fun b _ n=>n) NU;have hlen:Dw.length < sizeLine:=by
       rw[rX.1,Zy,Ze];have:((cJ.take i2).filter p).length<=(F d).length:=by
        rw[hF,Ze];have e:cJ.filter p=(cJ.take i2).filter p++(cJ.drop i2).filter p:=by rw[<-ak4,ae7]
        rw[e,Zy];grind
       grind
      refine .inr ⟨go2,hlen,fun bG H'=>H' D=some (.lst bG)/\az (fun b=>M b\/b=D) H' bG ((ao.take i).flatMap F++((cJ.take (i2+1)).filter p).map f)/\(∀b o,H6 b=some o->b≠D->H' b=some o)/\kh (fun b=>M b\/b=D) H',fun bG H' iP=>(by obtain⟨z1,z2,z3,z4⟩:=iP;exact(⟨cJ.length - (i2+1),by grind,rfl,NU,z1,z2,z3,z4⟩)),fun x2 H8 y2=>?_⟩;obtain⟨s8,d2,hd2,V8⟩:=QH x2 H8 y2;have E7:=(E6.MM D4 (fun b u e n=>Rz b u e n) Ru).same s8;refine KD _ _ _ _ ⟨[],_,_,_,d2,_,E7,V8,MN d2 (ZT hd2),fun α9 δ9 σ9 q9 E9 RG=>?_⟩;have UW:α9.flatten= []:=ae6.mpr fun x hx=>by have:=RG x hx;rw[D4] at this;exact absurd this Zi
      refine⟨[],_,α9,δ9,_,E9,q9,fun b Qf ki iO Vv XC=>?_⟩;obtain⟨hp,Jz⟩:=iO;have fb:aD H8 ki:=fun b o e=>XC b o e (by rw[UW];exact Zi);have EE:aD H7 ki:=fun b o e=>fb _ _ (s8 _ _ e);have DX:cJ.take (i2+1)=cJ.take i2++ [d2]:=by rw[ai3,hd2];rfl
      cases b with
      | false=>
       refine bD ⟨EE _ _ Sx,?_,fun b o e n=>EE _ _ (k7 b o e n),Vv.al⟩;rw[DX,ak4,ZA];simp [<-hp];exact rX.same EE
      | true=>
       refine cF ⟨[],_,α9,Qf,_,Vv,Jz rfl,fun r Vz D6 v UY X5 XA Wc=>?_⟩;subst UY;have MR:aD ki D6:=fun b o e=>XA b o e (by rw[UW];exact Zi);have Jn:aD H7 D6:=fun b o e=>MR _ _ (EE _ _ e);have up: ∀{zs:List V} {ds:List Dt},az (fun b=>M b\/b=D) D6 zs ds->az (fun b=>M b\/b=D) (upd D6 D (.lst (Dw++ [v]))) zs ds:=fun r=>r.mono fun a o e n=>⟨by rw[ah (fun z=>n (.inr z))];exact e,n⟩
       refine⟨Jn _ _ Sx,ag,?_,fun b o e n=>by rw[ah n];exact Jn _ _ (k7 b o e n),fun a ha=>?_⟩
       . rw[DX,ak4,ZA,<-Z0];have e1:List.filter p [d2]= [d2]:=by simp [<-hp]
         rw[e1];exact up ((rX.same Jn).append (.one Wc))
       . by_cases hb:a=D
         . subst hb;exact⟨_,ag,fun xs z=>by cases z⟩
         . rw[ah hb];exact X5.al a ha
    . have e:i2=cJ.length:=by grind
      subst e;refine .inl ⟨TX.stop H7 Rz,Sx,?_,fun b o e=>k7 b o (A3 _ _ (s2 _ _ e)) (aj e hD),Ru⟩;rw[ad9] at rX;rw[QN,hF];exact rX
 . have e:i=ao.length:=by grind
   subst e;refine .inl ⟨yl.stop H2 kf,?_⟩;rw[ad9] at iY;have eH:upd (fun b=>if b=D then none else H2 b) D (.lst acc)=H2:=by
    funext b
    by_cases hb:b=D
    . subst hb;rw[ag,y4]
    . rw[ah hb,if_neg hb]
   rw[<-eH];have sH:aD H1 (fun b=>if b=D then none else H2 b):=fun b o e=>by
    show(if b=D then none else H2 b)=some o;rw[if_neg (aj e hD)];exact s2 _ _ e
   refine k _ _ _ _ _ q1 (E1.same sH) (c1.tr (cQ.of sH)) (iY.mono fun a o e n=>⟨?_,fun z=>n (.inl z)⟩) (by show(if D=D then none else H2 D)=none;rw[if_pos rfl]);show(if a=D then none else H2 a)=some o;rw[if_neg (fun z=>n (.inr z))];exact e))
theorem Fx(n1:Nat)(S:jD X N nt js scope)(hc:X.calm=true)(hi:Iv X tg iter ti)(hg: ∀s H cl C ex,PG (dz X N scope s H cl C ex) tg gh)(eQ:jC n1 gh)(sV: ∀v σ H Q,lG g v σ H Q->gh v σ H Q)(hf: ∀s H cl C ex,PF (dz X N scope s H cl C ex) ifs (lT tc))(Mf: ∀s H cl C ex,Iv (dz X N scope s H cl C ex) gs iter2 LZ)(KH: ∀s H cl C ex,PG (dz X N scope s H cl C ex) gs P2)(ve:DI n1 nt P2)(KD: ∀v σ H Q,lG g2 v σ H Q->P2 v σ H Q)(yV: ∀s H cl C ex,PF (dz X N scope s H cl C ex) cK (lT om))(he: ∀s H cl C ex,Ev (dz X N scope s H cl C ex) elt te)(N9:n1<=nt:=by decide)(hs: ∀x,foldedSetIterable iter X.env x=pure x:=by intro _;rfl)(mB: ∀s H cl C ex x,foldedSetIterable iter2 (dz X N scope s H cl C ex).env x=pure x:=by intro _ _ _ _ _ _;rfl):
  Ov X (.ListComp elt [⟨tg,iter,ifs,0⟩,⟨gs,iter2,cK,0⟩] scope pos) (Df nt js ti g tc LZ g2 om te):=PE.imp (Bz S hc hi hg eQ N9 Mf mB KH ve yV hf he hs) (vJ sV KD)
end
end LD
namespace IB
open PySem PySem.Spec L2 PyProof.Rows
theorem l6:mroOf (.type "dict")=pure [.type "dict",.type "object"]:=by rw[mroOf_type];kernel_rfl
theorem ku:typeLookup (.type "dict") "__new__"=pure (some (.builtin "dict.__new__")):=by rw[typeLookup_type,builtinLookup_eq_fast];kernel_rfl
theorem tQ:TypeCalled "dict" "dict.__new__" "dict.__init__":=
 ⟨by decide+kernel,by decide+kernel,⟨_,_,l6⟩,madeBy_type l6 ku (by decide+kernel),by decide+kernel,by rw[isSubtype_type];kernel_rfl,F.slot_dict_init⟩
theorem kn(a:Value):checkTypeCall "dict" ⟨[a],[]⟩=pure ():=by kernel_rfl
theorem l5(a:Value):checkBuiltinCall "dict.__new__" ⟨[.type "dict",a],[]⟩=pure ():=by kernel_rfl
theorem mJ:entryFor table "dict.__new__"=some Builtin.«dict.__new__» :=entryFor_of_tree (by kernel_rfl)
theorem gL:plainId "dict.__new__"=true:=by decide+kernel
theorem nK:isSubtype (.type "dict") (.type "dict")=pure true:=by rw[isSubtype_type];kernel_rfl
theorem nZ{s:Shared}(a:Value)(h:Q₁ (.ref s.heap.objs.size) {s with heap:=s.heap.push {cls:= .type "dict",data:= .dict #[]}}):
  codeAny (model prog w) A (.call (.builtin "dict.__new__") ⟨[.type "dict",a],[]⟩) (wants Q₁ E) s:=by
 refine codeAny_of_tree ?_;show wpAny _ A.in1 (do checkBuiltinCall "dict.__new__" ⟨[.type "dict",a],[]⟩;again (.builtin "dict.__new__" ⟨[.type "dict",a],[]⟩)) _ _ s;refine Zd (wpAny_of_eq (l5 a) (Zf ⟨am4 gL _,ak0 mJ ?_⟩));rw[ai8 gL _];have FQ:=nK;have R0:=l6;obtain⟨hp,g,d,tk,os⟩:=s;unfold Builtin.«dict.__new__»;repeat (any_goals (first | assumption | wp_step))
def Jy(P:Program)(w:World):List V->Hp->VK->Prop:=fun xs H Q=> ∃l aH,xs= [.ref l]/\H l=some (.dT aH)/\aH≠ []/\(aH.map fun kv=>tupleKeyHash (aS P w) kv.1).Nodup/\ ∀d,H d=none->Q (.ref d) (upd H d (.dT aH))
theorem x8: ∀{L:List DictEntry},(L.map (·.hash)).Nodup->(∀x∈L,x.hash=h)->L.length > 1->False
 | x::y::r,nd,al,_=>by
  rw[Zx,Zx,af4] at nd;exact nd.1 (by rw[al x Zu,al y (by simp)];exact Zu)
theorem Oh{prog:Program}{w:World}{A:Around}{E:Value->Shared->Prop}{s:Shared}{id:String}{ep:Nat}(ho:s.heap.get? d=some o)(hd:o.data= .dict es ep)(hk: ∀e∈es.toList,∃a,e.key= .ref a/\s.TypeIs (.ref a) "tuple")(hn:(es.toList.map (·.hash)).Nodup)(h:Q es s):wpAny (model prog w) A (Builtin.Dict.entriesForEmpty id d) Q E s:=by
 unfold Builtin.Dict.entriesForEmpty;refine Zd (ai2 ho hd (Zd (wpAny_forIn_array' _ (fun rest _ s'=>s'=s/\ ∀e∈rest,e∈es.toList) (fun _ s'=>wpAny (model prog w) A (pure es) Q E s') (fun e rest b s' hI=>?_) (fun b s' hI=>?_) es _ ⟨rfl,fun _ z=>z⟩)))
 . obtain⟨rfl,hm⟩:=hI;obtain⟨a,ek,hT⟩:=hk e (hm e Zu);have one: ¬(es.filter (·.hash==e.hash)).size > 1:=fun z=>by
    have nd:((es.toList.filter (·.hash==e.hash)).map (·.hash)).Nodup:=hn.sublist (List.Sublist.map _ List.filter_sublist);have al: ∀x∈es.toList.filter (·.hash==e.hash),x.hash=e.hash:=fun x hx=>by have:=(ag6.mp hx).2;rwa [Zt] at this
    rw[<-Zv,Array.toList_filter] at z;exact x8 nd al z
   rw[ek];have f1:typeLookup (.type "tuple") "__eq__"=pure (some (.builtin "tuple.__eq__")):=F.slot_tuple_eq.lookup;unfold Builtin.Dict.quietEq;repeat (any_goals (first | assumption | wp_step))
   exact⟨rfl,fun e he=>hm e (Zn _ he)⟩
 . obtain⟨rfl,_⟩:=hI;exact Zf h
theorem sW: ∀{aH:List (List Key × V)} {xs:List (List Key × Addr × Value)},KT H aH xs->xs.map ((fun x=>x.hash) ∘ entryOfKey (tupleKind (aS P w)))=aH.map fun kv=>tupleKeyHash (aS P w) kv.1
 | _,_,.nil=>rfl
 | _,_,.cons r t=>by
  rw[Zx,Zx,sW t,r.1];rfl
theorem vK{X:Cx}(hA:X.A.handled=none):eB X (.type "dict") (Jy X.prog X.w):=by
 intro pins s σ H xs us Q I rs h;obtain⟨l,aH,rfl,hl,ne,hh,q⟩:=h;obtain⟨u,rfl,ru⟩:=vals1 rs;cases (show u=Value.ref l from ru);have hD:H s.heap.objs.size=none:=I.aT.fresh (Zj _);refine callType_codes (Q₁:=fun obj s₁=>obj= .ref s.heap.objs.size/\s₁={s with heap:=s.heap.push {cls:= .type "dict",data:= .dict #[]}}) tQ (kn _) F.entry_dict_init (nZ _ ⟨rfl,rfl⟩) fun obj s₁ h₁=>?_;obtain⟨rfl,rfl⟩:=h₁;have I0:Inv X pins σ (upd H s.heap.objs.size (.dT [])) {s with heap:=s.heap.push {cls:= .type "dict",data:= .dict #[]}}:=I.laid (a:=s.heap.objs.size) (o:= .dT []) (t':=s.toks) (fun _ _ q=>Zh _ q) (Zj _) (mM s.heap I.big);have nl:l≠s.heap.objs.size:=aj hl hD;have WU:(upd H s.heap.objs.size (.dT [])) l=some (.dT aH):=by rw[ah nl];exact hl
 obtain⟨zz,KO,xs,rel,ol,es,ep,RV,hex,Mh,KL,UH,UC⟩:=tH I0.aT WU;have hS:(s.heap.push {cls:= .type "dict",data:= .dict #[]}).get? s.heap.objs.size=some {cls:= .type "dict",data:= .dict #[]}:=Zs _ rfl;have hT:({s with heap:=s.heap.push {cls:= .type "dict",data:= .dict #[]}}:Shared).TypeIs (.ref s.heap.objs.size) "dict":=⟨_,hS,rfl⟩
 have Yr:({s with heap:=s.heap.push {cls:= .type "dict",data:= .dict #[]}}:Shared).TypeIs (.ref l) "dict":=⟨_,RV,hex.1⟩
 have qq:=q _ hD;generalize Cj:s.heap.objs.size=D at*;generalize WK:({s with heap:=s.heap.push {cls:= .type "dict",data:= .dict #[]}}:Shared)=s0 at*;have Su:s0.heap.get? D=some {cls:= .type "dict",data:= .dict #[]}:=by rw[<-WK];exact hS
 refine⟨hT,F.args_dict_init_2 _ _,?_⟩;have sub:isSubtype (.type "dict") (.type "dict")=pure true:=by rw[isSubtype_type];kernel_rfl
 have f3:=F.slot_dict_iter.lookup;unfold Builtin.«dict.__init__»;repeat (any_goals (first | assumption | wp_step))
 have xl:xs.length=aH.length:=(Paired.length rel).symm;have zT:es.toList.length=aH.length:=by rw[KL,Ze,xl]
 have Yh:0 < aH.length:=List.length_pos_iff.mpr ne;have kA: ∀e∈es.toList,∃a,e.key= .ref a/\s0.TypeIs (.ref a) "tuple":=fun e he=>by
  rw[KL] at he;obtain⟨x,hx,rfl⟩:=ZF.mp he;obtain⟨o,items,n,h1,h2,h3,h4⟩:=UH x hx;exact⟨x.2.1,rfl,o,h1,h2⟩
 have SH:(decide (es.size<=8) && es.all fun e=>(keyPart e.key).isSome)=false:=by
  rw[Bool.and_eq_false_iff];refine .inr ?_;rw[<-Array.all_toList];cases hL:es.toList with
  | nil=>rw[hL] at zT;simp at zT;omega
  | cons e r=>
   obtain⟨a,ea,_⟩:=kA e (by rw[hL];exact Zu);rw[ao9,ea];rfl
 have hashes:(es.toList.map (·.hash)).Nodup:=by
  rw[KL,ZP];have:xs.map ((fun x=>x.hash) ∘ entryOfKey (tupleKind (aS X.prog X.w)))=aH.map fun kv=>tupleKeyHash (aS X.prog X.w) kv.1:=by
   exact sW rel
  rw[this];exact hh
 rw[if_neg (by rw[Zt];exact fun z=>nl z.symm)];unfold Builtin.Dict.showsAll;rw[if_neg (by rw[KO];exact Zp)];refine Zd (Zf (Zd (ai2 RV Mh ?_)));dsimp only;rw[SH];rw[if_pos (by decide)];refine Zd (ai2 Su rfl ?_);rw[if_pos (by decide)];refine Zd (Oh RV Mh kA hashes ?_);have Wl:(!es.isEmpty)=true:=by
  cases hL:es.toList with
  | nil=>rw[hL] at zT;simp at zT;omega
  | cons e r=>rw[<-Array.isEmpty_toList,hL];rfl
 rw[if_pos Wl];have sz:es.size<=sizeLine+1:=by rw[<-Zv,zT];omega
 refine Zd (wpAny_updateDictKeysTo Su rfl (Zf ?_) sz);have sb:Heap.SameBut D s0.heap (s0.heap.update D (Obj.mapDictKeys fun _=>es)):=aj7 ..;have gD:(s0.heap.update D (Obj.mapDictKeys fun _=>es)).get? D=some (Obj.mapDictKeys (fun _=>es) {cls:= .type "dict",data:= .dict #[]}):=ag1 _ Su (Obj.isFreed_of_dict (Obj.data_mapDictKeys rfl _));have Sw:upd H D (.dT []) D=some (.dT []):=ag;have I3:=eK (t':=s0.toks) I0 (by rw[Sw];exact True.intro) sb ⟨_,gD⟩ (ob:= .dT aH) ⟨zz,(tH I0.aT Sw).2.1,xs,rel.keeps fun c ys ec=>by rw[ah (wU ec Sw (fun z=>nomatch z))];exact ec,_,es,_,gD,⟨rfl,rfl,rfl⟩,Obj.data_mapDictKeys rfl _,KL,UC⟩;have WG:upd (upd H D (.dT [])) D (.dT aH)=upd H D (.dT aH):=by
  funext b
  by_cases hb:b=D
  . subst hb;rw[ag,ag]
  . rw[ah hb,ah hb,ah hb]
 rw[WG] at I3;unfold Builtin.Dict.addKeywords;repeat (any_goals (first | assumption | wp_step))
 exact⟨rfl,.ref D,_,I3,rfl,qq⟩
end IB
namespace Qe
open PySem PySem.Spec L2 PyProof.Rows PySem.W
section
variable{prog:Program}{w:World}{A:Around}{E:Value->Shared->Prop}{s:Shared}{d it:Addr}{es:Array DictEntry}{ep i:Nat}{od:Obj}
theorem BS(hit:s.heap.IsKeyIter it d i es.size ep)(Kx:s.heap.get? d=some od)(N2:od.data= .dict es ep)(hi:i < es.size)(hQ: ∀h',h'.IsKeyIter it d (i+1) es.size ep->Heap.SameBut it s.heap h'->Q (some es[i].key) {s with heap:=h'}):wpAny (model prog w) A (pyNext (.ref it)) Q E s:=by
 obtain⟨o,ho,hc,hd⟩:=id hit;have hT:=hit.typeIs;unfold pyNext;refine Zd (ao8 (ac6 (name:=Str.ofString "__next__") hT ah2 (ab4 ah2 hT F.entry_dict_keyiterator_next ?_ (F.args_dict_keyiterator_next_1 _))));refine Zd (Zf (Zd (Zd ?_)))
 (first | refine Zd (ah0 hT (Zf ?_)) | refine Zd (aj4 hT (Zf ?_)))
 refine Zd (wpAny_fieldsOf ho hd ?_);simp only [show Builtin.Dict_items.ownsTuple "dict_keyiterator"=false by decide,aa1,ad8];show wpAny _ _ (if (Value.ref d==Value.none)=true then _ else _) _ _ _;rw[if_neg (show¬(Value.ref d==Value.none)=true from Zp)];refine Zd (Zf (Zd (ai2 Kx N2 ?_)));rw[if_neg (by simp)];refine Zd (Zf (Zd (wpAny_dictEpoch Kx N2 ?_)));rw[if_neg (by simp)];refine Zf ?_;simp only [show¬((i:Int) < 0) by lia,ad8,ab5,Z2 hi];refine Zd ?_
 (first | refine Zd (ah0 hT (Zf ?_)) | refine Zd (aj4 hT (Zf ?_)))
 refine Zd (wpAny_isOneOf_keyiter hT ?_);show wpAny _ _ (setField (.ref it) 1 (rawInt ((i:Int)+1)) >>=fun _=>_) _ _ _;refine Zd (wpAny_setField ho hd (by simp) ?_);have FW:(s.heap.update it (Obj.mapFields (·.setIfInBounds 1 (rawInt ((i:Int)+1))))).IsKeyIter it d (i+1) es.size ep:=⟨_,ag1 _ ho (Obj.isFreed_of_fields (an2 hd _)),(Obj.cls_mapFields ..).trans hc,by rw[an2 hd];simp [rawInt]⟩
 refine Zd (aa9 (Zd (wpAny_isOneOf_keyiter (s:={s with heap:=s.heap.update it (Obj.mapFields (·.setIfInBounds 1 (rawInt ((i:Int)+1))))}) FW.typeIs ?_)));show wpAny _ _ (pure es[i].key) _ _ _;exact Zf (Zf ⟨_,rfl,Zf (hQ _ FW (aj7 ..))⟩)
theorem F9(hh:A.handled=none)(hit:s.heap.IsKeyIter it d i es.size ep)(Kx:s.heap.get? d=some od)(N2:od.data= .dict es ep)(hi:es.size<=i)(hQ: ∀h',Heap.ExtBut it s.heap h'->Q none {s with heap:=h'}):wpAny (model prog w) A (pyNext (.ref it)) Q E s:=by
 obtain⟨o,ho,hc,hd⟩:=id hit;have hT:=hit.typeIs;unfold pyNext;refine Zd (ao8 (ac6 (name:=Str.ofString "__next__") hT ah2 (ab4 ah2 hT F.entry_dict_keyiterator_next ?_ (F.args_dict_keyiterator_next_1 _))));refine Zd (Zf (Zd (Zd ?_)))
 (first | refine Zd (ah0 hT (Zf ?_)) | refine Zd (aj4 hT (Zf ?_)))
 refine Zd (wpAny_fieldsOf ho hd ?_);simp only [show Builtin.Dict_items.ownsTuple "dict_keyiterator"=false by decide,aa1,ad8];show wpAny _ _ (if (Value.ref d==Value.none)=true then _ else _) _ _ _;rw[if_neg (show¬(Value.ref d==Value.none)=true from Zp)];refine Zd (Zf (Zd (ai2 Kx N2 ?_)));rw[if_neg (by simp)];refine Zd (Zf (Zd (wpAny_dictEpoch Kx N2 ?_)));rw[if_neg (by simp)];refine Zf ?_;simp only [show¬((i:Int) < 0) by lia,ad8,ab5,Array.getElem?_eq_none hi];refine Zd ?_
 (first | refine Zd (ah0 hT (Zf ?_)) | refine Zd (aj4 hT (Zf ?_)))
 show wpAny _ _ (setField (.ref it) 0 .none >>=fun _=>_) _ _ _;refine Zd (wpAny_setField ho hd (by simp) ?_);show wpAny _ _ (newExc (.type "StopIteration") [] >>=fun _=>_) _ _ _;refine Zd ?_;simp only [newExc,newTuple];refine Zd (Z9 (Zd (m:=firstArgMember _ _) (wpAny_of_eq (a:=Value.none) (by first | rfl | (simp only [firstArgMember];rfl)) (Z9 ?_ (by size_fits)))) (by size_fits));simp only [raiseNew];refine Zd (wpAny_handled ?_);rw[show A.in1.handled=none from hh];refine Zd (Zf (wpAny_throw ?_));refine Zd (al5 (T:="StopIteration") (b:=true) (show Shared.TypeIs _ _ _ from⟨_,Zs _ rfl,rfl⟩) isSubtype_stop ?_);exact Zf (hQ _ (((aj7 ..).extBut.push _).push _))
def DT(h:Heap)(d:Addr)(od:Obj)(es:Array DictEntry)(ep:Nat):Prop:=h.get? d=some od/\od.data= .dict es ep
theorem ur(hh:A.handled=none)(I d:Addr)(xm:d≠I)(od:Obj)(es:Array DictEntry)(ep:Nat):
  Walks prog w A I [I,d] [I] es.size (fun i v=> ∃e,es[i]?=some e/\v=e.key) (fun i h=>h.IsKeyIter I d i es.size ep/\DT h d od es ep) where
 sub:=fun b hb=>by simp at hb;simp [hb]
 frame:=fun _ _ _ st hk=>⟨st.1.at fun o e=>hk I (by simp) o e,hk d (by simp) _ st.2.1,st.2.2⟩
 item:=fun i s Q E hi st hQ=>BS st.1 st.2.1 st.2.2 hi fun h' FW Ck=>hQ _ h' s.toks ⟨es[i],Z2 hi,rfl⟩ ⟨FW,Ck.extBut d od xm st.2.1,st.2.2⟩ fun b o hb e=>Ck.extBut b o (fun h=>hb (by simp [h])) e
 done:=fun s Q E st hQ=>F9 hh st.1 st.2.1 st.2.2 (Zj _) fun h' W7=>hQ h' s.toks fun b o hb e=>W7 b o (fun h=>hb (by simp [h])) e
 self:=fun _ _ _ _ st hQ=>wpAny_pyIter_keyiter st.1 hQ
theorem B8(hx:od.ExactDict)(lo:(d==sysModules)=false)(hR:DT s.heap d od es ep)(hQ:Q (.ref s.heap.objs.size) {s with heap:=s.heap.push {cls:= .type "dict_keyiterator",data:= .fields #[.ref d,.int 0 0,.int es.size 0,.int ep 0]}}):wpAny (model prog w) A (pyIter (.ref d)) Q E s:=by
 obtain⟨ho,N3⟩:=hR;have hT:s.TypeIs (.ref d) "dict":=⟨od,ho,hx.1⟩
 refine wpAny_pyIter_slot hT F.slot_dict_iter (ab4 F.slot_dict_iter hT F.entry_dict_iter ?_ (F.args_dict_iter_1 _));unfold Builtin.«dict.__iter__»;refine Zd ?_;unfold Builtin.Dict.dictSlotNone;refine Zd (wpAny_notOrdered_dict hT ?_);show wpAny _ _ (pure (Value.ref d)) _ _ _;refine Zf ?_;show wpAny _ _ (Builtin.Dict.showsAll d >>=fun _=>_) _ _ _;unfold Builtin.Dict.showsAll;rw[if_neg (by rw[lo];exact Zp)];refine Zd (Zf (Zd (ai2 ho N3 (Zd (wpAny_dictEpoch ho N3 (Zd (Z9 (Zf ⟨_,rfl,"dict_keyiterator",_,⟨_,Zs _ rfl,rfl⟩,F.slot_dict_keyiterator_next.lookup,?_⟩))))))));simpa [rawInt] using hQ
theorem FJ(hx:od.ExactDict)(lo:(d==sysModules)=false):KdlSrc prog w "dict" d d es.size (fun i v=> ∃e,es[i]?=some e/\v=e.key) (fun h=>DT h d od es ep) where
 type:=fun _ hm=>⟨od,hm.1,hx.1⟩
 there:=fun _ hm=>⟨ZD hm.1,ZD hm.1⟩
 keep:=fun _ _ hm hk=>⟨hk d (.inl rfl) _ hm.1,hm.2⟩
 notList:=by decide
 notTuple:=by decide
 hint:=fun _ _ _ _ hm hq=>kdl_hint_dict ⟨od,hm.1,hx.1⟩ hq
 iter:=fun _ _ hh hm=>⟨_,_,(fun _ _ hq=>B8 hx lo hm hq),ur hh _ d (ZY (ZD hm.1)) od es ep,⟨⟨_,Zs _ rfl,rfl,rfl⟩,Zh _ hm.1,hm.2⟩⟩
theorem qx(hh:A.handled=none)(hx:od.ExactDict)(lo:(d==sysModules)=false)(hR:DT s.heap d od es ep)(hn:es.size<=sizeLine)(h: ∀h' tk,s.heap.objs.size < h'.objs.size->(∀b o,s.heap.get? b=some o->h'.get? b=some o)->Q (es.toList.map (·.key)) {s with heap:=h',toks:=tk}):wpAny (model prog w) A (collect (.ref d)) Q E s:=by
 have ld:=ZD hR.1;unfold collect;refine Zd (wpAny_runValue (ak0 F.entry_proto_collect ?_));rw[ai8 F.plain_proto_collect _];show wpAny _ A.in1 (newList [] >>=fun l=>again (.builtin "list.__iadd__" ⟨[l,.ref d],[]⟩)) _ _ s;refine Zd (Z9 (Zf ⟨am4 F.plain_list_iadd _,ak0 F.entry_list_iadd ?_⟩));rw[ai8 F.plain_list_iadd _];have hL:(s.heap.push {cls:= .type "list",data:= .seq ([]:List Value).toArray}).get? s.heap.objs.size=some {cls:= .type "list",data:= .seq #[]}:=Zs _ rfl;show wpAny _ A.in1 (Builtin.List.listExtendWith (.ref s.heap.objs.size) (.ref d) (.ref s.heap.objs.size)) _ _ _;have fin: ∀(h':Heap) (tk:Nat) (acc:Array Value) (c:Nat),(∀b o,b≠s.heap.objs.size->(s.heap.push {cls:= .type "list",data:= .seq ([]:List Value).toArray}).get? b=some o->h'.get? b=some o)->h'.get? s.heap.objs.size=some {cls:= .type "list",dict:=none,data:= .seq acc c,slots:= #[]}->ItemsOf (fun i v=> ∃e,es[i]?=some e/\v=e.key) acc es.size->s.heap.objs.size < h'.objs.size/\Q acc.toList {s with heap:=h',toks:=tk}:=fun h' tk acc c hk hS sZ=>by
  have ea:acc.toList=es.toList.map (·.key):=by
   refine ae3 fun j=>?_;rw[Zo,aa4,aa4];by_cases c:j < es.size
   . have ja:j < acc.size:=by rw[sZ.1];exact c
     obtain⟨e,he,hv⟩:=sZ.2 j _ (Z2 ja);rw[Z2 ja,he,hv];rfl
   . rw[Array.getElem?_eq_none (by rw[sZ.1];lia),Array.getElem?_eq_none (by lia)];rfl
  have:=h h' tk (ZD hS) fun b o e=>hk b o (ZY (ZD e)) (Zh _ e);rw[<-ea] at this;exact⟨ZD hS,this⟩
 have key:=kdl_extend (A:=A) (s:={s with heap:=s.heap.push {cls:= .type "list",data:= .seq ([]:List Value).toArray}}) (R:=fun(q:Result) (s':Shared)=> ∃(h':Heap) (tk:Nat) (acc:Array Value) (c:Nat),q= .ok (.ret (.ref s.heap.objs.size))/\s'={s with heap:=h',toks:=tk}/\h'.get? s.heap.objs.size=some {cls:= .type "list",dict:=none,data:= .seq acc c,slots:= #[]}/\Q acc.toList {s with heap:=h',toks:=tk}) (FJ (prog:=prog) (w:=w) (ep:=ep) (es:=es) (od:=od) hx lo) hh ⟨Zh _ hR.1,hR.2⟩ s.heap.objs.size (aj0 ld) (aj0 ld) (.ref s.heap.objs.size) 0 hL (fun h' tk acc c hk hS sZ=>⟨h',tk,acc,c,rfl,rfl,hS,(fin h' tk acc c hk hS sZ).2⟩) hn;refine ZU key (fun fn s' x=>?_) fun e s' x=>by obtain⟨_,_,_,_,e',_⟩:=x;cases e'
 cases fn with
 | done f=>
  obtain⟨h',tk,acc,c,e,rfl,hS,q⟩:=x;cases e;show wpAny _ A (load s.heap.objs.size >>=fun _=>_) _ _ _;exact Zd (wpAny_load hS (Zf q))
 | again c₁=>
  refine⟨x.1,al1 x.2 fun q s₂ y=>?_⟩;obtain⟨h',tk,acc,c,rfl,rfl,hS,q⟩:=y;show wpAny _ A (load s.heap.objs.size >>=fun _=>_) _ _ _;exact Zd (wpAny_load hS (Zf q))
end
end Qe
namespace fS
open PySem PySem.W PyProof.Rows
variable{N:Nat}{K:Nat->Int}{s:Shared}{cmp:Nat->Nat->(Bool->Shared->Prop)->Shared->Prop}
def Vw(N:Nat)(K:Nat->Int)(cmp:Nat->Nat->(Bool->Shared->Prop)->Shared->Prop)(s:Shared):Prop:= ∀i j,i < N->j < N-> ∀C:Bool->Shared->Prop,C (decide (K i < K j)) s->cmp i j C s
structure Pm(N:Nat)(p:Array Nat):Prop where
 pm:p.Perm (List.range N).toArray
theorem Pm.sz(h:Pm N p):p.size=N:=by rw[h.pm.size_eq];simp
noncomputable def kp(K:Nat->Int)(p:Array Nat)(i:Nat):Int:=K (p.getD i 0)
def TV(K:Nat->Int)(p:Array Nat)(n:Nat):Prop:= ∀i j,i<=j->j < n->kp K p i<=kp K p j
section
variable{prog:Program}{w:World}{A:Around}{E:Value->Shared->Prop}{z:Shared}{K:Nat->Int}{vs:List Value}
structure Ask(prog:Program)(w:World)(A:Around)(vs:List Value)(K:Nat->Int)(z:Shared)(κ:SortKind):Prop where
 kind: ∀Q:SortKind->Shared->Prop,Q κ z->wpAny (model prog w) A (keyKind' vs.toArray) Q (fun _ _=>False) z
 ask:Vw vs.length K (kas_ask prog w A κ vs) z
noncomputable def outs(vs:List Value)(p:Array Nat):Array Value:=List.toArray (p.toList.map fun i=>vs.getD i Value.none)
theorem BE(hp:Pm vs.length p):(outs vs p).size=vs.length:=by
 unfold outs;rw[ZC,Ze,Zv,hp.sz]
theorem Ff:((vs.toArray.zip vs.toArray).map fun q:Keyed=>q.2)=outs vs (List.range vs.length).toArray:=by
 apply am1.mp;unfold outs;apply al9
 . simp
 . intro i h1 h2;have hi:i < vs.length:=by simpa using h1
   simp [hi]
end
noncomputable def enc(B:Int)(q:Int × Int):Int:=q.1*B+q.2
theorem vw(hp:0<=p.2/\p.2 < B)(hq:0<=q.2/\q.2 < B):decide (enc B p < enc B q)=(if (p.1==q.1)=true then(if (p.2==q.2)=true then false else decide (p.2 < q.2)) else decide (p.1 < q.1)):=by
 obtain⟨a,b⟩:=p;obtain⟨c,d⟩:=q;unfold enc;simp only at hp hq ⊢;by_cases h1:a=c
 . subst h1;rw[if_pos (by rw[Zt])];by_cases h2:b=d
   . subst h2;rw[if_pos (by rw[Zt])];rw[aj8];lia
   . rw[if_neg (by rw[Zt];exact h2)];exact aj1.mpr ⟨fun h=>by lia,fun h=>by lia⟩
 . rw[if_neg (by rw[Zt];exact h1)];refine aj1.mpr ⟨fun h=>?_,fun h=>?_⟩
   . refine Int.lt_of_not_ge fun z=>?_;have:(c+1)*B<=a*B:=aa2 (by lia) (by lia);rw[ag4] at this;lia
   . have:(a+1)*B<=c*B:=aa2 (by lia) (by lia);rw[ag4] at this;lia
end fS
namespace fS
open PySem PySem.Spec L2 LB PyProof.Rows
theorem rq: ∀{l:List Nat},(∀i∈l,RelV (f i) (g i))->Vals (l.map f) (l.map g)
 | [],_=> .nil
 | i::l,h=> .cons (h i (by simp)) (rq fun j hj=>h j (by simp [hj]))
theorem map_getD{α:Type}{ws:List α}{d:α}:(List.range ws.length).map (fun i=>ws.getD i d)=ws:=by
 apply al9
 . simp
 . intro i h1 h2;simp [h2]
end fS
namespace LD
open PySem PySem.Spec L2 LB IB PyProof.Rows
section
variable{X:Cx}{a b e f:Expr}{ta tb t:bq}{tA:gf}{pos p p2:Pos}
noncomputable def Uw(T:String):Dt->Option Bool
 | .aN=>some false
 | .bl _=>some (T=="bool" || T=="int")
 | .int _=>some (T=="int")
 | .str _=>some (T=="str")
 | .lst _=>some (T=="list")
 | .tup _=>some (T=="tuple")
 | _=>none
theorem FL{b:Bool}(r:Rep M H v d)(h:Uw T d=some b):sR T H v=some b:=by
 cases r with
 | aN=>exact h
 | bl c=>exact h
 | int c=>exact h
 | str c=>exact h
 | lst e n l r=>simp only [sR,e];exact h
 | tup e n l r=>simp only [sR,e];exact h
 | xx e n k l r=>cases h
 | kC e n k l r=>cases h
inductive Lu(T:String)(Q:Dt->List Sl->Prop)(d:Dt)(δ':List Sl):Prop
 | mk (b:_) (h1:Uw T d=some b) (h2:Q (.bl b) δ')
def S7(T:String)(t:bq):bq:=fun δ Q=>t δ fun d δ'=>Lu T Q d δ'
theorem zy:bootBuiltins "isinstance"=some (.builtin "isinstance"):=by decide+kernel
theorem cm(hT:T="int"\/T="bool"\/T="tuple"\/T="list"\/T="str")(hm:X.mg "isinstance"=none)(ha:PA X [e,f] (oq (lE t) (oq (tC (.ty T)) rM)))(hg:Gl X "isinstance":=by rfl)(he:starEach [e,f] X.env=(false,eval e X.env)::starEach [f] X.env:=by rfl)(dq:(backTo pos (starEach [f] X.env)).any (·.1)=false:=by rfl):
  Ev X (.Call (.Name "isinstance" p) [e,f] [] pos) (S7 T t):=PE.imp (i4 (Ko hT) hg hm zy ha (by decide) (by decide) he dq) fun σ H Q iP=>(by obtain⟨W,M,α,δ,Qd,E,q,k⟩:=iP;exact(
 ⟨W,M,α,δ,_,E,q,fun d δ' H' v iO E1 c1 r1=>(by obtain⟨b,hb,q1⟩:=iO;exact(⟨v,b,rfl,FL r1 hb,k _ _ _ _ q1 E1 c1 (.bl _)⟩))⟩))
end
end LD
namespace L2
open PySem PySem.Spec PyProof.Rows
section
variable{X:Cx}
noncomputable def j8(H:Hp):V->Option Bool
 | .aN=>some false
 | .bl _=>some false
 | .int _=>some false
 | .str _=>some false
 | .ref a=>match H a with
  | some (.lst _)=>some true
  | some (.tup _)=>some true
  | _=>none
 | _=>none
def MF(te:TE):TE:=fun σ H Q=>te σ H fun x H1=> ∃b,j8 H1 x=some b/\Q (.bl b) H1
theorem EZ{k}(he:PE X e te)(Sa:Gl X "isinstance")(R3:X.mg "isinstance"=none)(KG:Gl X "list")(FU:X.mg "list"=none)(R9:Gl X "tuple")(RZ:X.mg "tuple"=none)(hs:starEach [e, .Tuple [.Name "list" p1, .Name "tuple" p2] k pt] X.env=(false,eval e X.env)::starEach [.Tuple [.Name "list" p1, .Name "tuple" p2] k pt] X.env:=by rfl):
  PE X (.Call (.Name "isinstance" p) [e,.Tuple [.Name "list" p1,.Name "tuple" p2] k pt] [] pos) (MF te):=by
 intro pins s σ H Q I h;refine af7 (cE I Sa R3 boot_isinstance ?_);refine PyProof.Rows.callWith_builtin1 ?_ hs rfl;rw[hs];show wpAny _ _ (spliced ((false,eval e X.env)::backTo pos (starEach [.Tuple [.Name "list" p1,.Name "tuple" p2] k pt] X.env))) _ _ s;refine ah6 (aP (he pins s σ H _ I h) fun u s1 cw=>?_);obtain⟨x,H1,I1,r1,b0,ex,q1⟩:=cw;have h2:starEach [Expr.Tuple [.Name "list" p1,.Name "tuple" p2] k pt] X.env=(false,eval (.Tuple [.Name "list" p1,.Name "tuple" p2] k pt) X.env)::starEach [] X.env:=rfl;rw[h2];show wpAny _ _ (spliced ((false,eval (.Tuple [.Name "list" p1,.Name "tuple" p2] k pt) X.env)::backTo pos (starEach [] X.env))) _ _ s1;refine ah6 (wpAny_Tuple_spliced ?_);have h3:starEach [Expr.Name "list" p1,.Name "tuple" p2] X.env=(false,eval (.Name "list" p1) X.env)::starEach [.Name "tuple" p2] X.env:=rfl;rw[h3];show wpAny _ _ (spliced ((false,eval (.Name "list" p1) X.env)::backTo pt (starEach [.Name "tuple" p2] X.env))) _ _ s1;refine ah6 (cE I1 KG FU LB.bN ?_);have h4:starEach [Expr.Name "tuple" p2] X.env=(false,eval (.Name "tuple" p2) X.env)::starEach [] X.env:=rfl;rw[h4];show wpAny _ _ (spliced ((false,eval (.Name "tuple" p2) X.env)::backTo pt (starEach [] X.env))) _ _ s1;refine ah6 (cE I1 R9 RZ LB.bM ?_);refine ao6 ⟨by show 2<=sizeLine;decide,?_⟩;refine ao6 ?_;have fin: ∀(s':Shared),s'={s1 with heap:=s1.heap.push {cls:= .type "tuple",data:= .seq [Value.type "list",Value.type "tuple"].toArray}}-> ∀tk,EP X pins σ Q (.bool b0) {s' with toks:=tk}:=fun s' e tk=>by
  subst e;exact⟨.bl b0,H1,I1.kept fun b o e=>Zh _ e,rfl,q1⟩
 cases x with
 | aN=>
  cases ex;cases (show u=Value.none from r1);exact ak1 (Tx:="NoneType") (cs:= [.type "list",.type "tuple"]) (vs:= [false,false]) ⟨Answers.of_false_none (by decide) (by rfl) (by rfl),Answers.of_false_none (by decide) (by rfl) (by rfl),True.intro⟩ rfl (Zs _ rfl) (fin _ rfl)
 | bl i=>
  cases ex;cases (show u=Value.bool i from r1);exact ak1 (Tx:="bool") (cs:= [.type "list",.type "tuple"]) (vs:= [false,false]) ⟨Answers.of_false_bool (by decide) (by rfl) (by rfl),Answers.of_false_bool (by decide) (by rfl) (by rfl),True.intro⟩ rfl (Zs _ rfl) (fin _ rfl)
 | int i=>
  cases ex;obtain⟨t,rfl⟩:=(show∃t,u=Value.int i t from r1)
  exact ak1 (Tx:="int") (cs:= [.type "list",.type "tuple"]) (vs:= [false,false]) ⟨Answers.of_false_int (by decide) (by rfl) (by rfl),Answers.of_false_int (by decide) (by rfl) (by rfl),True.intro⟩ rfl (Zs _ rfl) (fin _ rfl)
 | str i=>
  cases ex;obtain⟨t,rfl⟩:=(show∃t,u=Value.str i t from r1)
  exact ak1 (Tx:="str") (cs:= [.type "list",.type "tuple"]) (vs:= [false,false]) ⟨Answers.of_false_str (by decide) (by rfl) (by rfl),Answers.of_false_str (by decide) (by rfl) (by rfl),True.intro⟩ rfl (Zs _ rfl) (fin _ rfl)
 | ref a=>
  cases (show u=Value.ref a from r1);cases ha:H1 a with
  | none=>simp only [j8,ha] at ex;cases ex
  | some o=>
   cases o with
   | lst xs=>
    simp only [j8,ha] at ex;cases ex;obtain⟨_,_,n,_,h1⟩:=(show aQ X.prog X.w H1 s1.heap a (.lst xs) from I1.aT a _ ha)
    exact ak1 (Tx:="list") (cs:= [.type "list",.type "tuple"]) (vs:= [true,false]) ⟨Answers.of_true (by rfl) (by rfl),Answers.of_false_list (by decide) (by rfl) (by rfl),True.intro⟩ ⟨_,Zh _ h1,rfl⟩ (Zs _ rfl) (fin _ rfl)
   | tup xs=>
    simp only [j8,ha] at ex;cases ex;obtain⟨_,_,_,o,ho,hc,_⟩:=(show aQ X.prog X.w H1 s1.heap a (.tup xs) from I1.aT a _ ha)
    exact ak1 (Tx:="tuple") (cs:= [.type "list",.type "tuple"]) (vs:= [false,true]) ⟨Answers.of_false_tuple (by decide) (by rfl) (by rfl),Answers.of_true (by rfl) (by rfl),True.intro⟩ ⟨_,Zh _ ho,hc⟩ (Zs _ rfl) (fin _ rfl)
   | _=>simp only [j8,ha] at ex;cases ex
 | _=>cases ex
end
end L2
namespace LD
open PySem PySem.Spec L2 LB IB PyProof.Rows LW
section
variable{X:Cx}{a b e f:Expr}{ta tb t t':bq}{tA:gf}{pos p p2:Pos}
noncomputable def NJ:Dt->Option Bool
 | .xx _ _=>none
 | .kC _ _=>none
 | .lst _=>some true
 | .tup _=>some true
 | _=>some false
theorem Cb{b:Bool}(r:Rep M H v d)(h:NJ d=some b):j8 H v=some b:=by
 cases r with
 | aN=>exact h
 | bl c=>exact h
 | int c=>exact h
 | str c=>exact h
 | lst e n l r=>simp only [j8,e];exact h
 | tup e n l r=>simp only [j8,e];exact h
 | xx e n k l r=>cases h
 | kC e n k l r=>cases h
inductive Gy(Q:Dt->List Sl->Prop)(d:Dt)(δ':List Sl):Prop
 | mk (b:_) (h1:NJ d=some b) (h2:Q (.bl b) δ')
def OJ(t:bq):bq:=fun δ Q=>t δ fun d δ'=>Gy Q d δ'
theorem C2{k}(he:Ev X e t)(R3:X.mg "isinstance"=none)(FU:X.mg "list"=none)(RZ:X.mg "tuple"=none)(Sa:Gl X "isinstance":=by rfl)(KG:Gl X "list":=by rfl)(R9:Gl X "tuple":=by rfl)(hs:starEach [e, .Tuple [.Name "list" p1, .Name "tuple" p2] k pt] X.env=(false,eval e X.env)::starEach [.Tuple [.Name "list" p1, .Name "tuple" p2] k pt] X.env:=by rfl):
  Ev X (.Call (.Name "isinstance" p) [e,.Tuple [.Name "list" p1,.Name "tuple" p2] k pt] [] pos) (OJ t):=PE.imp (EZ he Sa R3 KG FU R9 RZ hs) fun σ H Q nE=>(by obtain⟨W,M,α,δ,Qd,E,q,k⟩:=nE;exact(
 ⟨W,M,α,δ,_,E,q,fun d δ' H' v gn E1 c1 r1=>(by obtain⟨b,hb,q1⟩:=gn;exact(⟨b,Cb r1 hb,k _ _ _ _ q1 E1 c1 (.bl _)⟩))⟩))
theorem az.rev(h:az M H xs ds):az M H xs.reverse ds.reverse:=by
 induction xs generalizing ds with
 | nil=>
  cases ds with
  | nil=>exact .nil
  | cons=>have:=h.1;simp at this
 | cons x xs ih=>
  cases ds with
  | nil=>have:=h.1;simp at this
  | cons d ds=>
   obtain⟨y,ys,e,r1,r2⟩:=h.aK;cases e;rw[ao3,ao3];exact(ih r2).append (.one r1)
def Vy:Dt->Prop
 | .aN=>True
 | .bl _=>True
 | .int i=>i.natAbs < 2^140
 | .str x=>x.length<=15/\ ∀c∈x.cps.toList,c < 16^8
 | _=>False
def Lv:Nat->Nat->Dt->Prop
 | 0,w,d=>Vy d/\200<=w
 | k+1,w,d=>Lv k w d\/ ∃es n w',(d= .lst es\/d= .tup es)/\es.length<=n/\3+n*(w'+2)<=w/\ ∀e∈es,Lv k w' e
theorem Lv.le{w:Nat}: ∀{j k:Nat},Lv j w d->j<=k->Lv k w d
 | j, 0, h, e => by have : j = 0 := by omega
                    subst this;exact h
 | j,k+1,h,e=>by
  by_cases z:j=k+1
  . subst z;exact h
  . exact .inl (Lv.le h (by omega))
theorem Lv.w{w w':Nat}: ∀{k:Nat},Lv k w d->w<=w'->Lv k w' d
 | 0,h,e=>⟨h.1,ZE h.2 e⟩
 | k+1,h,e=>h.elim (fun h=> .inl (h.w e)) fun pd=>(by obtain⟨es,n,w1,h1,h2,h3,h4⟩:=pd;exact(.inr ⟨es,n,w1,h1,h2,ZE h3 e,h4⟩))
noncomputable def vA:Nat->Dt->PyData
 | _,.aN=> .none
 | _,.bl b=> .bool b
 | _,.int i=> .int i
 | _,.str x=> .str x
 | m+1,.lst es=> .list (es.map (vA m))
 | m+1,.tup es=> .tuple (es.map (vA m))
 | _,_=> .none
noncomputable def Jh:Dt->Str
 | .str x=>x
 | d=>(vA 9 d).shown
theorem xO{M:Addr->Prop}{H:Hp}{v:V}{d:Dt}(r:Rep M H v d)(h:Vy d):vZ v:=by
 cases r <;> first | exact h | exact h.elim
theorem uy{α:Type}{f:α->Nat}{w:Nat}: ∀{l:List α},(∀x∈l,f x<=w)->(l.map fun x=>f x+2).sum<=l.length*(w+2)
 | [],_=>by simp
 | x::l,h=>by
  have:=uy (l:=l) fun y hy=>h y (Zn _ hy);have:=h x Zu;rw[Zx,List.sum_cons,ZG,Nat.succ_mul];omega
theorem az.mem(h:az M H xs ds)(hx:x∈xs): ∃d∈ds,Rep M H x d:=by
 obtain⟨i,hi,e⟩:=aa5 hx;have nD:i < ds.length:=by rw[<-h.1];exact hi
 exact⟨ds[i],ae9 _,h.2 i _ _ (by rw[Zg hi,e]) (Zg nD)⟩
theorem Lv.td: ∀{k m w:Nat} {v:V} {d:Dt},Lv k w d->Rep M H v d->k<=m->Td (fun _=>True) H k v/\wt H m v<=w
 | 0,m,w,v,d,h,r,_=>⟨xO r h.1,by rw[Af (xO r h.1)];exact h.2⟩
 | k+1,0,_,_,_,_,_,hk=>absurd hk (by omega)
 | k+1,m+1,w,v,d,h,r,hk=>by
  rcases h with h | ⟨es,n,w1,h1,h2,h3,h4⟩
  . have:=Lv.td (m:=m+1) h r (by omega);exact⟨.inl this.1,this.2⟩
  . rcases h1 with rfl | rfl
    . obtain⟨a,xs,rfl,ha,_,rr⟩:=r.dS;have all: ∀x∈xs,Td (fun _=>True) H k x/\wt H m x<=w1:=fun x hx=>by
       obtain⟨e,he,re⟩:=rr.mem hx;exact Lv.td (h4 e he) re (by omega)
      refine⟨Td.lst ha trivial fun x hx=>(all x hx).1,?_⟩;rw[Ae ha];have s:=uy (f:=wt H m) (l:=xs) fun x hx=>(all x hx).2;have:xs.length*(w1+2)<=n*(w1+2):=am2 _ (by rw[rr.1];exact h2);omega
    . obtain⟨a,xs,rfl,ha,_,rr⟩:=r.bJ;have all: ∀x∈xs,Td (fun _=>True) H k x/\wt H m x<=w1:=fun x hx=>by
       obtain⟨e,he,re⟩:=rr.mem hx;exact Lv.td (h4 e he) re (by omega)
      refine⟨Td.tup ha fun x hx=>(all x hx).1,?_⟩;rw[Ad ha];have s:=uy (f:=wt H m) (l:=xs) fun x hx=>(all x hx).2;have:xs.length*(w1+2)<=n*(w1+2):=am2 _ (by rw[rr.1];exact h2);omega
theorem xE{M:Addr->Prop}{H:Hp}: ∀{m:Nat} {v:V} {d:Dt},Rep M H v d->((∀ks es,d≠ .xx ks es)/\ ∀ks es,d≠ .kC ks es)->(∀es,d= .lst es\/d= .tup es-> ∀e∈es,∀v,Rep M H v e->1<=m->dat H (m - 1) v=vA (m - 1) e)->dat H m v=vA m d:=fun{m v d} r nd h=>by
 cases r with
 | aN=>cases m <;> rfl
 | bl b=>cases m <;> rfl
 | int b=>cases m <;> rfl
 | str b=>cases m <;> rfl
 | @lst a xs ds e n l r=>
  cases m with
  | zero=>rfl
  | succ m=>
   rw[qm e];show PyData.list _=PyData.list _;congr 1
   refine al9 (by simp [l]) fun i h1 h2=>?_;rw[List.getElem_map,List.getElem_map];rw[Ze] at h1 h2;exact h ds (.inl rfl) _ (ae9 h2) _ (r i _ _ (Zg h1) (Zg h2)) (by omega)
 | @tup a xs ds e n l r=>
  cases m with
  | zero=>rfl
  | succ m=>
   rw[qk e];show PyData.tuple _=PyData.tuple _;congr 1
   refine al9 (by simp [l]) fun i h1 h2=>?_;rw[List.getElem_map,List.getElem_map];rw[Ze] at h1 h2;exact h ds (.inr rfl) _ (ae9 h2) _ (r i _ _ (Zg h1) (Zg h2)) (by omega)
 | xx=>exact absurd rfl (nd.1 _ _)
 | kC=>exact absurd rfl (nd.2 _ _)
theorem Lv.dat{M:Addr->Prop}{H:Hp}: ∀{k m w:Nat} {v:V} {d:Dt},Lv k w d->Rep M H v d->dat H m v=vA m d
 | 0,m,w,v,d,h,r=>xE r ⟨(fun ks es z=>by subst z;exact h.1),(fun ks es z=>by subst z;exact h.1)⟩ fun es z=>by rcases z with rfl | rfl <;> exact h.1.elim
 | k+1,m,w,v,d,h,r=>by
  rcases h with h | ⟨es,n,w1,h1,h2,h3,h4⟩
  . exact Lv.dat h r
  . exact xE r ⟨(fun ks es z => by subst z; rcases h1 with z | z <;> cases z), (fun ks es z => by subst z; rcases h1 with z | z <;> cases z)⟩ fun CF z e he v re _ => by
      have:CF=es:=by rcases h1 with rfl | rfl <;> rcases z with z | z <;> first | (injection z with z;exact z.symm) | cases z
      subst this;exact Lv.dat (h4 e he) re
inductive Pb(ds:List Dt)(Q:Dt->Prop):Prop
 | mk (d w:_) (h1:ds= [d]) (h2:Lv 9 w d) (h3:w<=sizeLine) (h4:Q (.str (Jh d)))
theorem CZ(hr:bT k X.A)(hm:X.mg "str"=none)(ha:Av X [e] tA)(hg:Gl X "str":=by rfl)(he:starEach [e] X.env=(false,eval e X.env)::starEach [] X.env:=by rfl)(dq:(backTo pos (starEach [] X.env)).any (·.1)=false:=by rfl):
  Ev X (.Call (.Name "str" p) [e] [] pos) (vE Pb tA):=mQ (zt hr) (fun M H xs ds Qd Q al r iO k=>(by obtain⟨d,w,e,l,lw,q⟩:=iO;exact(by
 subst e;obtain⟨x,rfl,r1⟩:=dE r;obtain⟨td,tw⟩:=l.td r1 (Zj 9);refine⟨x,_,rfl,td,ZE tw lw,?_⟩;have:ML H x=Jh d:=by
  have:=l.dat (m:=9) r1;cases r1 <;> first | rfl | (show(dat H 9 _).shown=(vA 9 _).shown;rw[this])
 rw[this];exact k H _ _ q (fun _ _ z=>z) (.str _)))) hg hm fB ha (by decide) (by decide) he dq
end
end LD
namespace fE
open PySem PyProof.Rows
noncomputable def eI:Bool->Keyed->Array Keyed->Nat->Nat->Nat->StateT SortSt Sem (Option Nat):=sortPriv% PySem.Builtin.gallop
noncomputable def mf:Array Keyed->Array Keyed->StateT SortSt Sem (Array Keyed):=sortPriv% PySem.Builtin.mergeLo
noncomputable def mi:Array Keyed->Array Keyed->StateT SortSt Sem (Array Keyed):=sortPriv% PySem.Builtin.mergeHi
noncomputable abbrev setG (st:SortSt) (g:Nat):SortSt:=SortSt.mk' (kindOf st) (arrOf st) (pendingOf st) g (failedOf st)
section
variable{prog:Program}{w:World}{A:Around}{E:Value->Shared->Prop}{s:Shared}
theorem av{M:Model}{α:Type}{c:Prop} [Decidable c]{a b:StateT SortSt Sem α}{Q:α->SortSt->Prop}{st:SortSt}(h:c)(q:wpS M A E s a Q st):wpS M A E s (if c then a else b) Q st:=by rw[if_pos h];exact q
theorem ax{M:Model}{α:Type}{c:Prop} [Decidable c]{a b:StateT SortSt Sem α}{Q:α->SortSt->Prop}{st:SortSt}(h: ¬c)(q:wpS M A E s b Q st):wpS M A E s (if c then a else b) Q st:=by rw[if_neg h];exact q
theorem aC{st:SortSt}{xs:Array Keyed}{i:Nat}(hi:i < xs.size)(h:Q xs[i] st):wpS (model prog w) A E s (elem' xs i) Q st:=by
 rw[elem'_eq,Z2 hi];exact Zm h
theorem vk(left:Bool)(key:Keyed)(arr:Array Keyed)(base n hint:Nat):eI left key arr base n hint=(do
 let beyond (i:Nat):StateT SortSt Sem (Option Bool):=do
  let x<-elem' arr (base+i)
  if left then lt' x key else return(<-lt' key x).map (!·)
 let mut kQ:=0
 let mut zO:=1
 let mut lo:=0
 let mut hi:=0
 let some right<-beyond hint | return none
 if right then
  let mm:=n - hint
  for _ in [0:n] do
   if zO>=mm then break
   let some more<-beyond (hint+zO) | return none
   if !more then break
   kQ:=zO
   zO:=2*zO+1
  lo:=hint+kQ+1
  hi:=hint+min zO mm
 else
  let mm:=hint+1
  for _ in [0:n] do
   if zO>=mm then break
   let some found<-beyond (hint - zO) | return none
   if found then break
   kQ:=zO
   zO:=2*zO+1
  lo:=hint+1 - min zO mm
  hi:=hint - kQ
 for _ in [0:n] do
  if lo>=hi then break
  let m:=lo+(hi - lo) / 2
  let some more<-beyond m | return none
  if more then lo:=m+1 else hi:=m
 return some hi):=rfl
noncomputable def bY:Nat->StateT SortSt Sem Unit:=sortPriv% PySem.Builtin.setMinGallop
theorem bQ(g:Nat):bY g=modify fun s=>setG s g:=rfl
theorem sG(a b:Array Keyed):mf a b=(do
 rule "list.sort.merge-lo"
 let total:=a.size+b.size
 let done (out:Array Keyed) (ia ib:Nat):=out++a.extract ia a.size++b.extract ib b.size
 let kR (out:Array Keyed) (ia ib:Nat):=out++b.extract ib b.size++a.extract ia a.size
 let mut out:Array Keyed:= #[<-elem' b 0]
 let mut ia:=0
 let mut ib:=1
 if ib==b.size then return done out ia ib
 if ia+1==a.size then return kR out ia ib
 let mut minGallop:=gallopOf (<-get)
 for _ in [0:total] do
  let mut cW:=0
  let mut cV:=0
  for _ in [0:total] do
   let some OS<-lt' (<-elem' b ib) (<-elem' a ia) | return done out ia ib
   if OS then
    out:=out.push (<-elem' b ib);ib:=ib+1;cV:=cV+1;cW:=0
    if ib==b.size then return done out ia ib
    if cV>=minGallop then break
   else
    out:=out.push (<-elem' a ia);ia:=ia+1;cW:=cW+1;cV:=0
    if ia+1==a.size then return kR out ia ib
    if cW>=minGallop then break
  rule "list.sort.gallop"
  minGallop:=minGallop+1
  for _ in [0:total] do
   if minGallop > 1 then minGallop:=minGallop - 1
   bY minGallop
   let some k<-eI false (<-elem' b ib) a ia (a.size - ia) 0 | return done out ia ib
   cW:=k
   if k > 0 then
    out:=out++a.extract ia (ia+k);ia:=ia+k
    if ia+1==a.size then return kR out ia ib
    if ia==a.size then return done out ia ib
   out:=out.push (<-elem' b ib);ib:=ib+1
   if ib==b.size then return done out ia ib
   let some k<-eI true (<-elem' a ia) b ib (b.size - ib) 0 | return done out ia ib
   cV:=k
   if k > 0 then
    out:=out++b.extract ib (ib+k);ib:=ib+k
    if ib==b.size then return done out ia ib
   out:=out.push (<-elem' a ia);ia:=ia+1
   if ia+1==a.size then return kR out ia ib
   if cW < 7 && cV < 7 then break
  minGallop:=minGallop+1
  bY minGallop
 unsupported "internal:list.sort.merge-bound"):=rfl
theorem u5{a:Array Keyed}(h:i < a.size):a[i]∈a.toList:=by simp
end
theorem Im{β γ δ ε:Type}{A1 A2:Nat->Prop}{st:SortSt}{J:Nat->Option (Array Keyed) × β × γ × δ × ε->Prop}{G:Nat->Option (Array Keyed) × β × γ × δ × ε->SortSt->Prop}(h: ∀i a b c d g,A1 i->A2 i->J i (none,a,b,c,d)->G i (none,a,b,c,d) (setG st g)):
  ∀i c ay,A1 i->A2 i->((∃g,ay=setG st g)/\c.1=none/\J i c)->G i c ay:=by
 rintro i ⟨r,a,b,c,d⟩ ay h1 h2 ⟨⟨g,rfl⟩,hr,hJ⟩
 have hr:r=none:=hr;subst hr;exact h i a b c d g h1 h2 hJ
theorem Il{β γ δ ε ζ:Type}{A1 A2:Nat->Prop}{J:Nat->Option (Array Keyed) × β × γ × δ × ε × ζ->Prop}{G:Nat->Option (Array Keyed) × β × γ × δ × ε × ζ->SortSt->Prop}(h: ∀i a b c d e,A1 i->A2 i->J i (none,a,b,c,d,e)->G i (none,a,b,c,d,e) ic):
  ∀i c ay,A1 i->A2 i->(ay=ic/\c.1=none/\J i c)->G i c ay:=by
 rintro i ⟨r,a,b,c,d,e⟩ ay h1 h2 ⟨rfl,hr,hJ⟩
 have hr:r=none:=hr;subst hr;exact h i a b c d e h1 h2 hJ
theorem Ik{β γ δ ε ζ η:Type}{A1 A2:Nat->Prop}{st:SortSt}{J:Nat->Option (Array Keyed) × β × γ × δ × ε × ζ × η->Prop}{G:Nat->Option (Array Keyed) × β × γ × δ × ε × ζ × η->SortSt->Prop}(h: ∀i a b c d e f g,A1 i->A2 i->J i (none,a,b,c,d,e,f)->G i (none,a,b,c,d,e,f) (setG st g)):
  ∀i c ay,A1 i->A2 i->((∃g,ay=setG st g)/\c.1=none/\J i c)->G i c ay:=by
 rintro i ⟨r,a,b,c,d,e,f⟩ ay h1 h2 ⟨⟨g,rfl⟩,hr,hJ⟩
 have hr:r=none:=hr;subst hr;exact h i a b c d e f g h1 h2 hJ
theorem Na{β γ δ ε ζ:Type}{ic:SortSt}{K:Array Keyed->Prop}{J:Option (Array Keyed) × β × γ × δ × ε × ζ->Prop}{G:Option (Array Keyed) × β × γ × δ × ε × ζ->SortSt->Prop}(h1: ∀r a b c d e,K r->G (some r,a,b,c,d,e) ic)(h2: ∀a b c d e,J (none,a,b,c,d,e)->G (none,a,b,c,d,e) ic):
  ∀c ay,(ay=ic/\((∃r,c.1=some r/\K r)\/(c.1=none/\J c)))->G c ay:=by
 rintro⟨r,a,b,c,d,e⟩ ay ⟨rfl,⟨r',hr,k⟩ | ⟨hr,hJ⟩⟩
 . have hr:r=some r':=hr;subst hr;exact h1 _ _ _ _ _ _ k
 . have hr:r=none:=hr;subst hr;exact h2 _ _ _ _ _ hJ
theorem M9{β γ δ ε ζ η:Type}{st:SortSt}{K:Array Keyed->Prop}{J:Option (Array Keyed) × β × γ × δ × ε × ζ × η->Prop}{G:Option (Array Keyed) × β × γ × δ × ε × ζ × η->SortSt->Prop}(h1: ∀r a b c d e f g,K r->G (some r,a,b,c,d,e,f) (setG st g))(h2: ∀a b c d e f g,J (none,a,b,c,d,e,f)->G (none,a,b,c,d,e,f) (setG st g)):
  ∀c ay,((∃g,ay=setG st g)/\((∃r,c.1=some r/\K r)\/(c.1=none/\J c)))->G c ay:=by
 rintro⟨r,a,b,c,d,e,f⟩ ay ⟨⟨g,rfl⟩,⟨r',hr,k⟩ | ⟨hr,hJ⟩⟩
 . have hr:r=some r':=hr;subst hr;exact h1 _ _ _ _ _ _ _ _ k
 . have hr:r=none:=hr;subst hr;exact h2 _ _ _ _ _ _ _ hJ
theorem sI(a b:Array Keyed):mi a b=(do
 rule "list.sort.merge-hi"
 let total:=a.size+b.size
 let done (out:Array Keyed) (na nb:Nat):=a.extract 0 na++b.extract 0 nb++out.reverse
 let jg (out:Array Keyed) (na nb:Nat):=b.extract 0 nb++a.extract 0 na++out.reverse
 let mut na:=a.size - 1
 let mut nb:=b.size
 let mut out:Array Keyed:= #[<-elem' a na]
 if na==0 then return done out na nb
 if nb==1 then return jg out na nb
 let mut minGallop:=gallopOf (<-get)
 for _ in [0:total] do
  let mut cW:=0
  let mut cV:=0
  for _ in [0:total] do
   let some OU<-lt' (<-elem' b (nb - 1)) (<-elem' a (na - 1)) | return done out na nb
   if OU then
    na:=na - 1;out:=out.push (<-elem' a na);cW:=cW+1;cV:=0
    if na==0 then return done out na nb
    if cW>=minGallop then break
   else
    nb:=nb - 1;out:=out.push (<-elem' b nb);cV:=cV+1;cW:=0
    if nb==1 then return jg out na nb
    if cV>=minGallop then break
  rule "list.sort.gallop"
  minGallop:=minGallop+1
  for _ in [0:total] do
   if minGallop > 1 then minGallop:=minGallop - 1
   bY minGallop
   let some at_<-eI false (<-elem' b (nb - 1)) a 0 na (na - 1) | return done out na nb
   let k:=na - at_
   cW:=k
   if k > 0 then
    out:=out++(a.extract at_ na).reverse;na:=at_
    if na==0 then return done out na nb
   nb:=nb - 1;out:=out.push (<-elem' b nb)
   if nb==1 then return jg out na nb
   let some at_<-eI true (<-elem' a (na - 1)) b 0 nb (nb - 1) | return done out na nb
   let k:=nb - at_
   cV:=k
   if k > 0 then
    out:=out++(b.extract at_ nb).reverse;nb:=at_
    if nb==1 then return jg out na nb
    if nb==0 then return done out na nb
   na:=na - 1;out:=out.push (<-elem' a na)
   if na==0 then return done out na nb
   if cW < 7 && cV < 7 then break
  minGallop:=minGallop+1
  bY minGallop
 unsupported "internal:list.sort.merge-bound"):=rfl
section
variable{prog:Program}{w:World}{A:Around}{E:Value->Shared->Prop}{s:Shared}{a₀:Array Keyed}{p:Array (Nat × Nat × Nat)}
def Ch:Nat->List (Nat × Nat × Nat)->Nat->Prop
 | s,[],e=>s=e
 | s,x::r,e=>x.1=s/\1<=x.2.1/\Ch (x.1+x.2.1) r e
theorem Ch.le: ∀{s e:Nat} {l:List (Nat × Nat × Nat)},Ch s l e->s<=e
 | s,e,[],h=>Nat.le_of_eq h
 | s,e,x::r,h=>by have:=Ch.le h.2.2;have:=h.1;lia
theorem Ch.two: ∀{s e i:Nat} {l:List (Nat × Nat × Nat)} {x y:Nat × Nat × Nat},Ch s l e->l[i]?=some x->l[i+1]?=some y->1<=x.2.1/\x.1+x.2.1=y.1/\1<=y.2.1/\y.1+y.2.1<=e
 | s,e,i,[],x,y,h,h1,_=>by simp at h1
 | s,e,0,[z],x,y,h,h1,h2=>by simp at h2
 | s,e,0,z::z2::r,x,y,h,h1,h2=>by
  cases (show z=x by simpa using h1);cases (show z2=y by simpa using h2);exact⟨h.2.1,h.2.2.1.symm,h.2.2.2.1,Ch.le h.2.2.2.2⟩
 | s,e,i+1,z::r,x,y,h,h1,h2=>Ch.two h.2.2 (by simpa using h1) (by simpa using h2)
theorem sJ(i:Nat):mergeAt' i=(do
 let s<-get
 let (some (sa,na,power),some (sb,nb,_)):=((pendingOf s)[i]?,(pendingOf s)[i+1]?) | unsupported "internal:list.sort.pending"
 set (setPending s (((pendingOf s).setIfInBounds i (sa,na+nb,power)).eraseIdxIfInBounds (i+1)))
 let some k<-eI false (<-elem' (arrOf s) sb) (arrOf s) sa na 0 | return false
 let (sa,na):=(sa+k,na - k)
 if na==0 then return true
 let some nb<-eI true (<-elem' (arrOf s) (sa+na - 1)) (arrOf s) sb nb (nb - 1) | return false
 if nb==0 then return true
 let x:=(arrOf s).extract sa sb
 let y:=(arrOf s).extract sb (sb+nb)
 let merged<-if na<=nb then mf x y else mi x y
 modify fun s=>setArr s (merged.toList.zipIdx.foldl (fun a (p,j)=>a.setIfInBounds (sa+j) p) (arrOf s))
 return(failedOf (<-get)).isNone):=rfl
theorem Ed{σ:Type}{M:Model}{Q:PUnit->σ->Prop}{st ay:σ}(h:Q ⟨⟩ ay):wpS M A E s (set ay:StateT σ Sem PUnit) Q st:=by
 unfold wpS;rw[StateT.run_set];exact Zf ⟨rfl,h⟩
end
theorem l9: ∀{f n r:Nat},1<=n->1<=minRun' f n r
 | 0,n,r,h=>by show 1<=n+r;omega
 | f+1,n,r,h=>by
  rw[minRun'_succ];by_cases c:n < 64
  . rw[if_pos c];omega
  . rw[if_neg c];exact l9 (by omega)
end fE
namespace LD
open PySem PySem.Spec L2 LB PyProof.Rows LW
section
variable{X:Cx}{tg a b c e:Expr}{es:List Expr}{ta tb tc t:bq}{tA:gf}{pos p apos cv:Pos}
inductive LV(ds:List Dt)(Q:Dt->Prop):Prop
 | mk (c:_) (h1:ds= [.bl c]) (h2:Q (.int (if c then 1 else 0)))
theorem vC(hm:X.mg "int"=none)(ha:Av X [e] tA)(hg:Gl X "int":=by rfl)(he:starEach [e] X.env=(false,eval e X.env)::starEach [] X.env:=by rfl)(dq:(backTo pos (starEach [] X.env)).any (·.1)=false:=by rfl):
  Ev X (.Call (.Name "int" p) [e] [] pos) (vE LV tA):=mQ zu (fun M H xs ds Qd Q al r nE k=>(by obtain⟨c,e,q⟩:=nE;exact(by
 subst e;obtain⟨x,rfl,r1⟩:=dE r;exact .inr ⟨c,by rw[r1.sv],k H _ _ q (fun _ _ z=>z) (.int _)⟩))) hg hm jT ha (by decide) (by decide) he dq
theorem Gh:Ev X e (fun _ _=>False):=fun pins s σ H Q I pd=>(by obtain⟨_,_,_,_,_,_,q,_⟩:=pd;exact(q.elim))
end
end LD
namespace LD
open PySem PySem.Spec L2 LB IB PyProof.Rows
inductive vZ:Dt->Prop where
 | aN:vZ .aN
 | bl (b:Bool):vZ (.bl b)
 | int (i:Int):vZ (.int i)
 | str (x:Str):vZ (.str x)
theorem Rep.Mj(r:Rep M H v d)(f:vZ d):Rep M' H' v d:=by
 cases f <;> cases r
 . exact .aN
 . exact .bl _
 . exact .int _
 . exact .str _
section
variable{X:Cx}{a b e:Expr}{t ta tk:bq}{tA:gf}{pos p apos cv:Pos}
inductive Pa(ds:List Dt)(Q:Dt->Prop):Prop
 | mk (ns:List Int) (h1:ds= [.lst (ns.map .int)]) (h2:Q (.int ns.sum))
theorem HS(hc:X.calm=true)(hm:X.mg "sum"=none)(ha:Av X [e] tA)(hg:Gl X "sum":=by rfl)(he:starEach [e] X.env=(false,eval e X.env)::starEach [] X.env:=by rfl)(dq:(backTo pos (starEach [] X.env)).any (·.1)=false:=by rfl):
  Ev X (.Call (.Name "sum" p) [e] [] pos) (vE Pa tA):=jq (Dj hc) (fun M H xs ds Qd Q al r cw k=>(by
 obtain⟨ns,e,q⟩:=cw;subst e;obtain⟨x,rfl,r1⟩:=dE r;obtain⟨a,zs,rfl,ha,n,rr⟩:=r1.dS;rw[ints_rep rr] at ha;exact⟨a,ns,rfl,cX.of ha,k H _ _ q (fun _ _ z=>z) (.int _)⟩)) hg hm zw ha (by decide) (by decide) he dq
end
end LD
namespace LD
open PySem PySem.Spec L2 LB PyProof.Rows LW
def qJ(M:Addr->Prop)(H:Hp)(vs:List V)(ss:List Sl):Prop:=vs.length=ss.length/\ ∀(i:Nat) v s,vs[i]?=some v->ss[i]?=some s->n8 M H (some v) s []/\s.bK=false
theorem qJ.nil:qJ M H [] []:=⟨rfl,fun i v s h=>by simp at h⟩
theorem qJ.cons{M:Addr->Prop}{H:Hp}{v:V}{s:Sl}{vs:List V}{ss:List Sl}(h:n8 M H (some v) s [])(nb:s.bK=false)(r:qJ M H vs ss):qJ M H (v::vs) (s::ss):=
 ⟨by rw[ZG,ZG,r.1],fun i y t h1 h2=>by
  cases i with
  | zero=>cases h1;cases h2;exact⟨h,nb⟩
  | succ j=>exact r.2 j y t (by simpa using h1) (by simpa using h2)⟩
abbrev DS:=List Sl->(Dt->Prop)->Prop
def spS(S:DS):Sp:=fun vs H Q _=> ∃M ss Qd,kh M H/\qJ M H vs ss/\S ss Qd/\ ∀r H' v',Qd r->aD H H'->Rep M H' v' r->Q v' H'
theorem vq(al:kh M H)(r:qJ M H vs ss)(w: ∀W∈Ws,P7 W M (List.replicate (ss.length+n) []) H (ss++List.replicate n .no)):
  aB Ws M (List.replicate (ss.length+n) []) H (vs.map some++List.replicate n none) (ss++List.replicate n .no):=by
 have bz:(List.replicate (ss.length+n) ([]:List Addr)).flatten= []:=by simp
 refine⟨by simp [r.1],by simp,fun i s h=>?_,by rw[bz];exact ac7,fun a ha=>by rw[bz] at ha;exact absurd ha Zi,al,w⟩;have hi:=(Zq.mp h).1;rw[Zy,ad4] at hi;have ha:(List.replicate (ss.length+n) ([]:List Addr))[i]?=some []:=by rw[ZI,if_pos hi]
 by_cases hl:i < ss.length
 . rw[ZR hl] at h;have hv:vs[i]?=some (vs[i]'(by rw[r.1];exact hl)):=Zg _;exact⟨_,[],by rw[ZR (by rw[Ze,r.1];exact hl),Zo,hv];rfl,ha,(r.2 i _ s hv h).1⟩
 . rw[ZW (by omega),ZI] at h;split at h
   . rename_i hn;cases h;exact⟨none,[],by rw[ZW (by rw[Ze,r.1];omega),ZI,if_pos (by rw[Ze,r.1];exact hn)],ha,rfl⟩
   . cases h
theorem x4:P7 ⟨H,fun _=>False,M,M,none⟩ M (List.replicate k []) H δ:=by
 have bz:(List.replicate k ([]:List Addr)).flatten= []:=by simp
 refine⟨fun b o e _=>e,fun b n=>n,fun a ha=>by rw[bz] at ha;exact absurd ha Zi,fun a h=>h,fun a h=> .inl h,fun d c e=>(by cases e),fun j s as h1 h2 _ a ha=>?_⟩;rw[ZI] at h2;split at h2
 . cases h2;exact absurd ha Zi
 . cases h2
section
variable{P:Program}{w:World}{K:PySem.W.Frag}{mg:Str->Option Value}{base:Heap}
theorem AG{N ps:List Str}(r:qJ M H vs ss)(l:ss.length=ps.length):L2.start N vs=vs.map some++List.replicate (N.length - ps.length) none:=by unfold L2.start;rw[r.1,l]
theorem US {x qual : Str} {st : Stmt} {k : Nat} (F : gb K x qual st f fd) (sc : aJ N ps (af st)) (len : ∀ ss Qd, S ss Qd -> ss.length = ps.length) (gU : ∀ (bP : Value) (A : Around) (outer : List Env) (s : Shared) (H : Hp) (E : XK), bT k (A.deeper (envOfC qual (af st) s.heap.objs.size f bP)) ->
   ∃T,zW (mS eC P w K mg base N qual (af st) f bP A outer s H E).Fy (cI st) T/\ ∀ss Qd,S ss Qd->T {nx:=fun _=>Qd .aN,rt:=fun d _=>Qd d} (ss++List.replicate (N.length - ps.length) .no)):
  aY P w K mg base eC (k+1) f fd ps (spS S):=by
 refine F.ok sc (fun vs H Q E h=>?_) (fun bP A outer s H vs Q E hr h=>?_)
 . obtain⟨M,ss,Qd,al,r,q,_⟩:=h;rw[r.1];exact len ss Qd q
 . obtain⟨M,ss,Qd,al,r,q,kk⟩:=h;obtain⟨T,hT,hq⟩:=gU bP A outer s H E hr;refine⟨lS T,hT,[⟨H,fun _=>False,M,M,none⟩],M,List.replicate (ss.length+(N.length - ps.length)) [],ss++List.replicate (N.length - ps.length) .no,_,?_,?_,hq ss Qd q⟩
   . rw[AG r (len ss Qd q)];exact vq al r fun W hW=>by rw[Zl.mp hW];exact x4
   . have same : ∀ {M' α' H' σ' δ'}, aB [⟨H, fun _ => False, M, M, none⟩] M' α' H' σ' δ' -> aD H H' /\ ∀ a, M a -> M' a := fun E' => by
       have k:=E'.w _ (Zl.mpr rfl);exact⟨fun b o e=>k.bs b o e (fun z=>z),k.m0⟩
     refine⟨fun M' α' H' σ' δ' E' q=>kk _ _ _ q (same E').1 .aN,fun M' α' H' σ' δ' v d E' r' q=>kk _ _ _ q (same E').1 (r'.mono fun a o e n=>⟨e,fun z=>n ((same E').2 a z)⟩),fun _ _ _ _ _ _ z=>z.elim,fun _ _ _ _ _ _ z=>z.elim⟩
end
end LD
namespace L2
open PySem PySem.Spec PyProof.Rows
def t8(P:Program)(w:World)(K:PySem.W.Frag)(mg:Str->Option Value)(base:Heap)(f:Addr)(k:Nat)(ps:List Str)(sp:Sp):Prop:=
 ∃fd,PySem.W.keepIn K (.ref f)=true/\Binds K fd ps []/\aY P w K mg base eC k f fd ps sp
section
variable{X:Cx}{f:Addr}{k i:Nat}{ps:List Str}{sp:Sp}{x:Str}{p pos:Pos}{e:Expr}{es:List Expr}{t:TA}
def Jg(f:Addr)(sp:Sp)(i:Nat)(t:TA):TE:=fun σ H Q=>σ[i]?=some (some (.ref f))/\t σ H fun vs H1=>sp vs H1 Q E0
theorem BA(h:t8 X.prog X.w X.K X.mg X.base f k ps sp)(hr:bT k X.A)(hn:PE X (.Name x p) (dM i))(ha:PA X (e::es) t)
  (he:starEach (e::es) X.env=(false,eval e X.env)::starEach es X.env:=by rfl) (dq:(backTo pos (starEach es X.env)).any (·.1)=false:=by rfl):
  PE X (.Call (.Name x p) (e::es) [] pos) (Jg f sp i t):=by
 obtain⟨fd,hk,hb,F⟩:=h;intro pins s σ H Q I hh;obtain⟨hσ,q⟩:=hh;refine af7 (aP (hn pins s σ H (fun v H1=>v= .ref f/\t σ H1 fun vs H2=>sp vs H2 Q E0) I ⟨_,hσ,rfl,q⟩) fun u s1 zz=>?_);obtain⟨v,H1,I1,rv,ev,q1⟩:=zz;subst ev;obtain rfl:u=Value.ref f:=rv;refine PySem.W.callWith_K (h₀:=X.base) I.ok.mod.PL hk (aP (ha pos pins s1 σ H1 _ I1 q1) fun us s2 fW=>?_) he dq;obtain⟨vs,H2,I2,r,q2⟩:=fW;refine⟨I2.qR,?_⟩;exact A4 (dvs:= []) (ds:= []) F hr hb .nil Hj I2 r (by rw[ab8];exact q2)
end
end L2
namespace LD
open PySem PySem.Spec L2 LB PyProof.Rows LW
abbrev DQ:=List Sl->(List Sl->List Sl->Prop)->Prop
inductive lW(t:DQ)(σ:L2.St)(H:Hp)(Q:List V->Hp->Prop):Prop
 | mk (W:List Wd) (M:Addr->Prop) (α:List (List Addr)) (δ:List Sl) (Qd:List Sl->List Sl->Prop) (h1:aB W M α H σ δ) (h2:t δ Qd) (h3: ∀ss δ' H' vs,Qd ss δ'->aB W M α H' σ δ'->cQ α H H'->qJ M H' vs ss->Q vs H')
abbrev Wv(X:Cx)(es:List Expr)(t:DQ):Prop:=PA X es (lW t)
section
variable{X:Cx}{e:Expr}{es:List Expr}{te:bq}{t:DQ}{tA:gf}{y x:Str}{yp p pos:Pos}{f:Addr}{k:Nat}{ps:List Str}{S:DS}{S1:DN}
def QJ:DQ:=fun δ Q=>Q [] δ
def VR(te:bq)(t:DQ):DQ:=fun δ Q=>te δ fun d δ1=>t δ1 fun ss δ2=>Q (.im d::ss) δ2
def VT(f:Addr)(i:Nat)(t:DQ):DQ:=fun δ Q=>δ[i]?=some (.fn f)/\t δ fun ss δ2=>Q (.fn f::ss) δ2
def VS(f:Addr)(t:DQ):DQ:=fun δ Q=>t δ fun ss δ2=>Q (.fn f::ss) δ2
theorem G0:Wv X [] QJ:=PA.imp aL fun σ H Q zz=>(by obtain⟨W,M,α,δ,Qd,E,q,k⟩:=zz;exact k _ _ _ _ q E cQ.rf .nil)
theorem Ms(he:Ev X e te)(hr:Wv X es t)(hs:starEach (e::es) X.env=(false,eval e X.env)::starEach es X.env:=by rfl):Wv X (e::es) (VR te t):=PA.imp (au he hr hs) fun σ H Q zz=>(by
 obtain⟨W,M,α,δ,Qd,E,q,k⟩:=zz;exact⟨W,M,α,δ,_,E,q,fun d δ1 H1 v q1 E1 c1 r1=>⟨W,M,α,δ1,_,E1,q1,fun ss δ2 H2 vs q2 E2 c2 r2=>k _ _ _ _ q2 E2 (c1.tr c2) (.cons (s:= .im d) ⟨rfl,v,rfl,r1.chg E1 c2⟩ rfl r2)⟩⟩)
theorem Mu(i:Nat)(ho:PE X (.Name y yp) (dM i))(hr:Wv X es t)(hs:starEach (.Name y yp::es) X.env=(false,eval (.Name y yp) X.env)::starEach es X.env:=by rfl):Wv X (.Name y yp::es) (VT f i t):=PA.imp (au ho hr hs) fun σ H Q zz=>(by
 obtain⟨W,M,α,δ,Qd,E,⟨h,q⟩,k⟩:=zz;obtain⟨o,as,s1,s2,ea,eo⟩:=E.sl i _ h;subst eo;exact⟨_,s1,W,M,α,δ,_,E,q,fun ss δ2 H2 vs q2 E2 c2 r2=>k _ _ _ _ q2 E2 c2 (.cons (s:= .fn f) ⟨rfl,rfl⟩ rfl r2)⟩)
theorem Mt(hg:Gl X x)(hm:X.mg x=some (.ref f))(hr:Wv X es t)(nO:(x==("__debug__":Str))=false:=by decide)(hs:starEach (.Name x p::es) X.env=(false,eval (.Name x p) X.env)::starEach es X.env:=by rfl):Wv X (.Name x p::es) (VS f t):=PA.imp (au (E8 (v:= .ref f) hg hm rfl nO) hr hs) fun σ H Q zz=>(by
 obtain⟨W,M,α,δ,Qd,E,q,k⟩:=zz;exact⟨W,M,α,δ,_,E,q,fun ss δ2 H2 vs q2 E2 c2 r2=>k _ _ _ _ q2 E2 c2 (.cons (s:= .fn f) ⟨rfl,rfl⟩ rfl r2)⟩)
def Xv(S:DS)(t:DQ):bq:=fun δ Q=>t δ fun ss δ'=>S ss fun r=>Q r δ'
theorem HX(h:gk X.prog X.w X.K X.mg X.base x k ps (spS S))(hr:bT k X.A)(ha:Wv X (e::es) t)(hg:Gl X x:=by rfl)
  (nO:(x==("__debug__":Str))=false:=by decide) (he:starEach (e::es) X.env=(false,eval e X.env)::starEach es X.env:=by rfl) (dq:(backTo pos (starEach es X.env)).any (·.1)=false:=by rfl):
  Ev X (.Call (.Name x p) (e::es) [] pos) (Xv S t):=PE.imp (pW h hr hg ha nO he dq) fun σ H Q zz=>(by
 obtain⟨W,M,α,δ,Qd,E,q,k⟩:=zz;refine⟨W,M,α,δ,_,E,q,fun ss δ' H' vs q1 E1 c1 r1=>?_⟩;show spS S (vs++ []) H' Q E0;rw[ab8];exact⟨M,ss,_,E1.al,r1,q1,fun r H2 v2 q2 s r2=>k _ _ _ _ q2 (E1.same s) (c1.tr (cQ.of s)) r2⟩)
def S8(f:Addr)(S1:DN)(i:Nat)(tA:gf):bq:=fun δ Q=>δ[i]?=some (.fn f)/\tA δ fun ds δ'=>S1 ds fun r=>Q r δ'
theorem gZ(i:Nat)(h:t8 X.prog X.w X.K X.mg X.base f k ps (cM S1))(hr:bT k X.A)(ho:PE X (.Name y yp) (dM i))(ha:Av X (e::es) tA)
  (he:starEach (e::es) X.env=(false,eval e X.env)::starEach es X.env:=by rfl) (dq:(backTo pos (starEach es X.env)).any (·.1)=false:=by rfl):
  Ev X (.Call (.Name y yp) (e::es) [] pos) (S8 f S1 i tA):=PE.imp (BA h hr ho ha he dq) fun σ H Q zz=>(by
 obtain⟨W,M,α,δ,Qd,E,⟨hf,q⟩,k⟩:=zz;obtain⟨o,as,s1,s2,ea,eo⟩:=E.sl i _ hf;subst eo;refine⟨s1,W,M,α,δ,_,E,q,fun ds δ' H' vs q1 E1 c1 r1=>?_⟩;exact⟨M,ds,_,E1.al,r1,q1,fun r H2 v2 q2 s r2=>k _ _ _ _ q2 (E1.same s) (c1.tr (cQ.of s)) r2⟩)
end
noncomputable def mq:List Dt->Option (List Key)
 | []=>some []
 | d::ds=>match ND d,mq ds with
  | some k,some ks=>some (k::ks)
  | _,_=>none
noncomputable def yM:Dt->Option (List Key)
 | .tup ds=>mq ds
 | _=>none
theorem sM: ∀{ds:List Dt} {vs:List V} {ks:List Key},az M H vs ds->mq ds=some ks->vs=ks.map kV
 | [],vs,ks,r,h=>by cases h;cases r.cz;rfl
 | d::ds,vs,ks,r,h=>by
  obtain⟨x,ys,rfl,rx,ry⟩:=r.aK;unfold mq at h;split at h
  . rename_i k Yg h1 h2;cases h;rw[FH rx h1,sM ry h2];rfl
  . cases h
theorem i8(r:Rep M H v d)(h:yM d=some k): ∃b,v= .ref b/\H b=some (.tup (k.map kV)):=by
 cases d with
 | tup ds=>
  obtain⟨b,xs,rfl,hb,n,rr⟩:=r.bJ;rw[sM rr h] at hb;exact⟨b,rfl,hb⟩
 | _=>cases h
noncomputable def x6:List (List Key)->List Dt->List Key->Option Dt
 | k'::ks,d::ds,k=>if k'=k then some d else x6 ks ds k
 | _,_,_=>none
theorem rC: ∀{vs:List (List Key × V)} {ds:List Dt} {d:Dt},az M H (vs.map (·.2)) ds->x6 (vs.map (·.1)) ds k=some d-> ∃v,fH vs k=some v/\Rep M H v d
 | [],ds,d,r,h=>by cases ds <;> cases h
 | (k',v)::vs,[],d,r,h=>by cases h
 | (k',v)::vs,d'::ds,d,r,h=>by
  obtain⟨x,ys,e,rx,ry⟩:=r.aK;rw[Zx] at e;injection e with e1 e2
  have e1:v=x:=e1;subst e1 e2;rw[Zx,x6] at h;by_cases c:k'=k
  . rw[if_pos c] at h;cases h;exact⟨v,by unfold fH;rw[List.find?_cons_of_pos (by simpa using c)];rfl,rx⟩
  . rw[if_neg c] at h;obtain⟨u,hu,ru⟩:=rC ry h;exact⟨u,by unfold fH at hu ⊢;rw[List.find?_cons_of_neg (by simpa using c)];exact hu,ru⟩
theorem rZ [DecidableEq κ]{aH:List (κ × V)}(h:k∉aH.map (·.1)):putK aH k v=aH++ [(k,v)]:=by
 unfold putK;rw[if_neg];intro z;obtain⟨kv,m,e⟩:=am0.mp z;exact h (ZF.mpr ⟨kv,m,by simpa using e⟩)
noncomputable def TD(ks:List (List Key))(ds:List Dt):TB where
 rel:=fun M H v as=> ∃a vs,as= [a]/\v= .ref a/\H a=some (.dT vs)/\vs.map (·.1)=ks/\az M H (vs.map (·.2)) ds
 st:=fun z ka k=>by
  obtain⟨a,vs,rfl,ev,h,e,r⟩:=z;exact⟨a,vs,rfl,ev,ka a (by simp) _ h,e,r.mono k⟩
noncomputable abbrev td (ks:List (List Key)) (ds:List Dt):Sl:= .ob (TD ks ds)
section
variable{X:Cx}{a b e:Expr}{ta tb tv t:bq}{x:Str}{xp pos pos':Pos}
inductive Gj(Q:Dt->List Sl->Prop)(d1 d2:Dt)(δ2:List Sl):Prop
 | mk (ks:List (List Key)) (ds:List Dt) (k:List Key) (d:Dt) (h1:d1= .kC ks ds) (h2:yM d2=some k) (h3:x6 ks ds k=some d) (h4:Q d δ2)
def Ox(ta tb:bq):bq:=fun δ Q=>ta δ fun d1 δ1=>tb δ1 fun d2 δ2=>Gj Q d1 d2 δ2
theorem gY(hu:X.A.units+1 < cLine)(ha:Ev X a ta)(hb:Ev X b tb)(hs:LL b:=by exact fun _ _=>rfl):Ev X (.Subscript a b pos) (Ox ta tb):=PE.imp (i3 hu ha hb hs) fun σ H Q zz=>(by
 obtain⟨W,M,α,δ,Qd,E,q,k⟩:=zz;refine⟨W,M,α,δ,_,E,q,fun d1 δ1 H1 x q1 E1 c1 r1=>⟨W,M,α,δ1,_,E1,q1,fun d2 δ2 H2 y zz E2 c2 r2=>?_⟩⟩;obtain⟨ks,ds,kk,d,e,hk,hv,q2⟩:=zz;subst e;obtain⟨a,vs,rfl,ha,n,e2,rr⟩:=(r1.chg E1 c2).Hq;subst e2;obtain⟨v,WE,rv⟩:=rC rr hv;obtain⟨kb,rfl,KA⟩:=i8 r2 hk;exact⟨a,v,rfl,by rw[<-WE];exact kJ.t ha KA,k _ _ _ _ q2 E2 (c1.tr c2) rv⟩)
inductive Ow(i:Nat)(Δ:cO)(δ:List Sl):Prop
 | mk (h1:bC δ i) (h2:Δ.nx (δ.set i (td [] [])))
theorem AV(i:Nat)(hN:X.N.Nodup)(hi:X.N[i]?=some x:=by rfl)(hx:Loc X.env.scope x:=by first | exact Or.inl rfl | exact Or.inr rfl)(hs:swapsWith (.Dict [] [] pos') (some (.Name x xp)) pos.line X.env=pure false:=by rfl)(hf:X.fn x=true\/X.env.scope.names.lookup x=some .local:=by first | exact .inl rfl | exact .inr rfl | assumption):
  Ex X (.Assign [.Name x xp] (.Dict [] [] pos') pos) (Ow i):=PS.imp (dj hN hi hx si hs hf) fun D σ H zz=>(by
 obtain⟨Ws,M,α,δ,Δ,E,L,ok,q⟩:=zz;intro p hp;exact L.nx _ _ _ _ _ (E.pH (s:=td [] []) hp (fun xs z=>by cases z) ok rfl ⟨_,rfl,p,[],rfl,rfl,ag,rfl,.nil⟩) q)
theorem lB{i:Nat}(E:aB W M α H σ δ)(h:δ[i]?=some (td ks ds)): ∃a vs,σ[i]?=some (some (.ref a))/\α[i]?=some [a]/\H a=some (.dT vs)/\vs.map (·.1)=ks/\az M H (vs.map (·.2)) ds:=by
 obtain⟨o,as,s1,s2,v,rfl,a,vs,rfl,rfl,h1,h2,h3⟩:=E.sl i _ h;exact⟨a,vs,s1,s2,h1,h2,h3⟩
inductive xG(i:Nat)(Δ:cO)(d d2:Dt)(δ2:List Sl):Prop
 | mk (k:List Key) (ks:List (List Key)) (ds:List Dt) (h1:yM d2=some k) (h2:δ2[i]?=some (td ks ds)) (h3:ks.length < sizeLine) (h4:k∉ks) (h5:Δ.nx (δ2.set i (td (ks++ [k]) (ds++ [d]))))
def Ou(i:Nat)(tb tv:bq):jF:=fun Δ δ=>tv δ fun d δ1=>(∃NC HP,δ1[i]?=some (td NC HP))/\tb δ1 fun d2 δ2=>xG i Δ d d2 δ2
theorem pK(i:Nat)(hu:X.A.units+1 < cLine)(ho:PE X (.Name x xp) (dM i))(hb:Ev X b tb)(hv:Ev X e tv)(hs:swapsWith e (some (.Subscript (.Name x xp) b pos')) pos.line X.env=pure false:=by rfl):
  Ex X (.Assign [.Subscript (.Name x xp) b pos'] e pos) (Ou i tb tv):=PS.imp (pU hu ho hb hv hs) fun D σ H zz=>(by
 obtain⟨Ws,M,α,δ,Δ,E,L,q⟩:=zz;refine⟨Ws,M,α,δ,_,E,q,fun d δ1 H1 v zz E1 c1 r1=>?_⟩;obtain⟨⟨NC,HP,h0⟩,q1⟩:=zz;obtain⟨a,TZ,h1,h2,h3,h4,r3⟩:=lB E1 h0;refine⟨_,h1,Ws,M,α,δ1,_,E1,q1,fun d2 δ2 H2 y zz E2 c2 r2=>?_⟩;obtain⟨k,ks,ds,hk,hd,l,nk,q2⟩:=zz;obtain⟨a',vs,uc,qS,K0,SA,Hf⟩:=lB E2 hd;rw[h1] at uc;cases uc;obtain⟨kb,rfl,KA⟩:=i8 r2 hk;subst SA;refine⟨a,_,rfl,kI.t K0 KA (by rw[Ze] at l;exact l),?_⟩;rw[rZ nk];have ma:M a:=E2.mu a (aW qS (by simp));have mo: ∀b u,H2 b=some u-> ¬M b->upd H2 a (.dT (vs++ [(k,v)])) b=some u/\ ¬M b:=fun b u e n=>⟨by rw[ah (fun z=>n (by rw[z];exact ma))];exact e,n⟩
 obtain⟨E3,_⟩:=E2.mod (s':=td (vs.map (·.1)++ [k]) (ds++ [d])) (H':=upd H2 a (.dT (vs++ [(k,v)]))) hd h1 qS rfl ⟨_,rfl,a,vs++ [(k,v)],rfl,rfl,ag,by rw[ZA];rfl,by
   rw[ZA];exact(Hf.mono mo).append (.one ((r1.chg E1 c2).mono mo))⟩ (fun b u e n=>by rw[ah (fun z=>n (by rw[z];simp))];exact e) (fun b hb=>by rw[Zl.mp hb];exact⟨_,ag,fun xs z=>by cases z⟩)
 exact L.nx _ _ _ _ _ E3 q2)
inductive eE:List Sl->List Sl->Prop
 | nil:eE [] []
 | no {δ δ0:List Sl}:eE δ δ0->eE (.no::δ) (.no::δ0)
 | im {d:Dt} {δ δ0:List Sl}:eE δ δ0->eE (.im d::δ) (.im d::δ0)
 | fn {f:Addr} {δ δ0:List Sl}:eE δ δ0->eE (.fn f::δ) (.fn f::δ0)
 | td {ks:List (List Key)} {ds:List Dt} {δ δ0:List Sl}:eE δ δ0->eE (td ks ds::δ) (.im (.kC ks ds)::δ0)
theorem eE.len(h:eE δ δ0):δ.length=δ0.length:=by induction h <;> simp_all
theorem eE.at(h:eE δ δ0): ∀{i:Nat} {s0:Sl},δ0[i]?=some s0->(δ[i]?=some s0/\(s0= .no\/(∃d,s0= .im d)\/ ∃f,s0= .fn f))\/ ∃ks ds,δ[i]?=some (LD.td ks ds)/\s0= .im (.kC ks ds):=by
 induction h with
 | nil=>intro i s0 h;simp at h
 | no _ ih=>intro i s0 h;cases i with
  | zero=>cases h;exact .inl ⟨rfl,.inl rfl⟩
  | succ i=>simpa using ih (by simpa using h)
 | im _ ih=>intro i s0 h;cases i with
  | zero=>cases h;exact .inl ⟨rfl,.inr (.inl ⟨_,rfl⟩)⟩
  | succ i=>simpa using ih (by simpa using h)
 | fn _ ih=>intro i s0 h;cases i with
  | zero=>cases h;exact .inl ⟨rfl,.inr (.inr ⟨_,rfl⟩)⟩
  | succ i=>simpa using ih (by simpa using h)
 | td _ ih=>intro i s0 h;cases i with
  | zero=>cases h;exact .inr ⟨_,_,rfl,rfl⟩
  | succ i=>simpa using ih (by simpa using h)
inductive Lq(t:bq)(δ:List Sl)(Q:Dt->List Sl->Prop):Prop
 | mk (δ0:List Sl) (h1:eE δ δ0) (h2:t δ0 fun d _=>vZ d/\Q d δ)
theorem yL(E:aB W M α H σ δ)(h:eE δ δ0):aB [] (fun a=>M a/\a∉α.flatten) (List.replicate δ0.length []) H σ δ0:=by
 have bz:(List.replicate δ0.length ([]:List Addr)).flatten= []:=by simp
 have mo: ∀a u,H a=some u-> ¬M a->H a=some u/\ ¬(M a/\a∉α.flatten):=fun a u e n=>⟨e,fun z=>n z.1⟩
 refine⟨by rw[E.ls,h.len],by simp,fun i s0 hi=>?_,by rw[bz];exact ac7,fun a ha=>by rw[bz] at ha;exact absurd ha Zi,fun a ha=>E.al a ha.1,fun W hW=>absurd hW Zi⟩;have hl:=(Zq.mp hi).1;have ha:(List.replicate δ0.length ([]:List Addr))[i]?=some []:=by rw[ZI,if_pos hl]
 rcases h.at hi with ⟨hd,hs⟩ | ⟨ks,ds,hd,rfl⟩
 . obtain⟨o,as,h1,h2,h3⟩:=E.sl i _ hd;refine⟨o,[],h1,ha,?_⟩;rcases hs with rfl | ⟨d,rfl⟩ | ⟨f,rfl⟩
   . rfl
   . exact⟨rfl,let ⟨v,e,r⟩:=h3.2;⟨v,e,r.mono mo⟩⟩
   . exact⟨rfl,h3.2⟩
 . obtain⟨a,vs,h1,h2,h3,h4,r⟩:=lB E hd;have rm:=r.mono mo;exact⟨_,[],h1,ha,rfl,_,rfl,.kC h3 (fun z=>z.2 (aW h2 (by simp))) h4 rm.1 rm.2⟩
theorem qp(h:Ev X e t):Ev X e (Lq t):=PE.imp h fun σ H Q zz=>(by
 obtain⟨W,M,α,δ,Qd,E,⟨δ0,fr,q⟩,k⟩:=zz;refine⟨[],_,_,δ0,_,yL E fr,q,fun d δ' H' v zz E1 c1 r1=>?_⟩;obtain⟨at',q1⟩:=zz;have sm:aD H H':=fun b u e=>c1 b u e (by simp);exact k _ _ _ _ q1 (E.same sm) (cQ.of sm) (r1.Mj at'))
end
theorem aB.SF(E:aB Ws M α H σ δ)(hi:δ[i]?=some (td ks ds)): ∃M' α',aB Ws M' α' H σ (δ.set i (.im (.kC ks ds))):=by
 have dX:=(Zq.mp hi).1;obtain⟨a,xs,h1,h2,h3,h4,r⟩:=lB E hi;have mono: ∀{v:V} {d:Dt},Rep M H v d->Rep (fun b=>M b/\b≠a) H v d:=fun r=>r.mono fun b u e n=>⟨e,fun z=>n z.1⟩
 have l7: ∀{v:List V} {d:List Dt},az M H v d->az (fun b=>M b/\b≠a) H v d:=fun r=>r.mono fun b u e n=>⟨e,fun z=>n z.1⟩
 refine⟨fun b=>M b/\b≠a,α.set i [],⟨by rw[ZQ,E.ls],by rw[ZQ,ZQ,E.la],fun j s hj=>?_,ck E.nd ac7 (fun x hx=>absurd hx Zi),fun b hb=>?_,fun b hb=>E.al b hb.1,fun W hW=>?_⟩⟩
 . by_cases bW:i=j
   . subst bW;rw[ZH dX] at hj;cases hj;have rm:=l7 r;exact⟨some (.ref a),[],h1,by rw[ZH (by rw[E.la];exact dX)],rfl,_,rfl,.kC h3 (fun z=>z.2 rfl) h4 rm.1 rm.2⟩
   . rw[Zr bW] at hj;obtain⟨o2,Ds,g1,g2,g3⟩:=E.sl j s hj;refine⟨o2,Ds,g1,by rw[Zr bW];exact g2,?_⟩;cases s with
     | no=>exact g3
     | im d=>exact⟨g3.1,let ⟨v,e,r⟩:=g3.2;⟨v,e,mono r⟩⟩
     | ow ds=>obtain⟨b,xs,e1,e2,e3,r⟩:=g3;exact⟨b,xs,e1,e2,e3,l7 r⟩
     | bx t=>exact g3
     | dk ks ds=>obtain⟨b,vs,e1,e2,e3,e4,r⟩:=g3;exact⟨b,vs,e1,e2,e3,e4,l7 r⟩
     | ob R=>obtain⟨v,e,r⟩:=g3;exact⟨v,e,R.st r (fun _ _ _ q=>q) fun b u q n=>⟨q,fun z=>n z.1⟩⟩
     | fn f=>exact g3
 . obtain⟨l,hl,hx⟩:=al8.mp hb;obtain⟨j,hj,e⟩:=aa5 hl;have ej:(α.set i [])[j]?=some l:=by rw[Zg hj,e]
   by_cases bW:i=j
   . subst bW;rw[ZH (by rw[E.la];exact dX)] at ej;cases ej;exact absurd hx Zi
   . rw[Zr bW] at ej;refine⟨E.mu b (aW ej hx),fun z=>?_⟩;subst z;exact fM E.nd ej h2 (Ne.symm bW) hx (by simp)
 . have k:=E.w W hW;refine⟨k.bs,k.ex,fun b hb=>(bL hb).elim (k.fr b) fun z=>absurd z Zi,fun b z=>⟨k.m0 b z,fun y=>?_⟩,fun b z=>k.m1 b z.1,fun d c e=>?_,fun j s as g1 g2 nb=>?_⟩
   . subst y;exact k.fz i _ _ hi h2 rfl b (by simp) z
   . obtain⟨t,e1,e2⟩:=k.bx d c e;have:i≠0:=fun z=>by subst z;rw[hi] at e1;cases e1
     exact⟨t,by rw[Zr this];exact e1,by rw[Zr this];exact e2⟩
   . by_cases bW:i=j
     . subst bW;rw[ZH (by rw[E.la];exact dX)] at g2;cases g2;exact fun b hb=>absurd hb Zi
     . rw[Zr bW] at g1 g2;exact k.fz j s as g1 g2 nb
section
variable{X:Cx}{st:Stmt}{rest:List Stmt}{T:jF}
inductive Ih(i:Nat)(T:jF)(Δ:cO)(δ:List Sl):Prop
 | mk (ks:List (List Key)) (ds:List Dt) (h1:δ[i]?=some (td ks ds)) (h2:T Δ (δ.set i (.im (.kC ks ds))))
theorem za: ∀D σ H,lS (Ih i T) D σ H->lS T D σ H:=fun D σ H cw=>(by obtain⟨Ws,M,α,δ,Δ,E,L,ks,ds,h,q⟩:=cw;exact(by
 obtain⟨M',α',E'⟩:=aB.SF E h;exact⟨Ws,M',α',_,Δ,E',L,q⟩))
theorem lJ(i:Nat)(h:Ex X st T):Ex X st (Ih i T):=PS.imp h za
end
end LD
namespace L2
open PySem PySem.Spec PyProof.Rows
theorem nW (I : Nat -> Shared -> Prop) (turn : ∀ n s, I n s -> wpAny (model prog w) A (pyNext it) (fun r s₁ => match r with
   | none=>R (.ok .next) s₁
   | some v=>wpAny (model prog w) A (letOwnedTupleGo target it v) (fun _ s₀=>wpAny (model prog w) A (assign target env v) (fun _ s₂=>
     wpAny (model prog w) A (eval kx env) (fun kv s₄=>wpAny (model prog w) A (eval vx env) (fun vv s₅=>
       wpAny (model prog w) A (dictSet D kv vv) (fun _ s₆=> ∃m,m < n/\I m s₆) (fun _ _=>False) s₅) (fun _ _=>False) s₄) (fun _ _=>False) s₂) (fun _ _=>False) s₀) (fun _ _=>False) s₁) (fun _ _=>False) s) (n:Nat) (h:I n s):codeAny (model prog w) A (.compLoop (.DictComp kx vx [⟨target,iter,[],0⟩] scope pos) 0 it (.ref D) env) R s:=by
 refine codeAny_loop rfl I (fun n s hI=>?_) n h;show wpAny _ A ((compTurn (.DictComp kx vx [⟨target,iter,[],0⟩] scope pos) 0 it (.ref D) env).onRaise (fun x=>do noteFrame x env;theTreesLotGoes x)) _ _ s;refine wpAny_noted ?_;rw[compTurn_dict];refine Zd (ab6 (Zd (ZU (turn n s hI) (fun r s₁ h₁=>?_) fun _ _ h'=>h'.elim)));cases r with
 | none=>exact Zf h₁
 | some v=>
  refine Zd (ZU h₁ (fun _ s₀ h₀=>?_) fun _ _ h'=>h'.elim);refine Zd (ZU h₀ (fun _ s₂ h₂=>Zd (wpAny_tests_nil ?_)) fun _ _ h'=>h'.elim);refine Zd (Zd (ZU h₂ (fun kv s₄ h₄=>Zd (aa9 (ZU h₄ (fun vv s₅ h₅=>Zd (ab6 (aa9 (ZU h₅ (fun _ s₆ h₆=>Zf ⟨rfl,h₆⟩) fun _ _ h'=>h'.elim)))) fun _ _ h'=>h'.elim))) fun _ _ h'=>h'.elim))
def DU(nt:Nat)(js:List Nat)(g:TG)(tk tv:TE)(σ:St)(Q:VK)(D:Addr)(J:It)(H0:Hp):Prop:=
 ∃W:Nat->Nat->Hp->Prop,(∃m,W 0 m H0)/\ ∀i m H,W i m H->
  (J.stop i H/\Q (.ref D) H)\/(J.go i H/\ ∃B:Hp->Prop,(∀H',B H'-> ∃m',m' < m/\W (i+1) m' H')/\ ∀x H',J.uo i H x H'->g x (ic nt js σ) H' fun σ2 H2=>
   tk σ2 H2 fun kv H3=>tv σ2 H3 fun v H4=> ∃H5,kI H4 D kv v H5/\B H5)
def Az(nt:Nat)(js:List Nat)(wi:TI)(g:TG)(tk tv:TE):TE:=fun σ H Q=>wi σ H fun J H1=> ∀D,H1 D=none->DU nt js g tk tv σ Q D J (upd H1 D (.dT []))
theorem lq(h:Q (.ref s.heap.objs.size) {s with heap:=s.heap.push {cls:= .type "dict",data:= .dict #[]}}):wpAny M A newDict Q E s:=by
 unfold newDict;exact Z9 h
theorem zm(hu:A.units < cLine)(I:Inv X pins σ H s)(g:kI H a y v H')(ry:RelV y u)(rv:RelV v r)(h: ∀s',Inv X pins σ H' s'->Q () s'):
  wpAny (model X.prog X.w) A (dictSet a u r) Q E s:=by
 rcases g with ⟨aH,k,e,ey,l,eH⟩ | ⟨aH,k,b,e,ey,eb,l,eH⟩
 . subst ey eH;obtain⟨z,hd,vs,rel,dd⟩:=CO I.aT e;have hz:vs.length<=sizeLine:=by rw[<-rel.length];exact z
   have hl:(putK aH k v).length<=sizeLine:=by have:=da aH k v;lia
   refine wpAny_dictSet_pairs (hsz:=hz) (sP ry) dd fun h' ug hs=>h _ ?_;have he: ∃q,h'.get? a=some q:=let ⟨q,_,_,hq,_⟩:=ug;⟨q,hq⟩;exact eK I (by rw[e];exact True.intro) hs he (vy hl hd (rel.put k rv) ug)
 . subst ey eH;cases (show u=Value.ref b from ry);obtain⟨z,hd,xs,rel,dd⟩:=tH I.aT e;have hz:xs.length<=sizeLine:=by rw[<-Paired.length rel];exact z
   have hl:(putK aH k v).length<=sizeLine:=by have:=da aH k v;lia
   refine wpAny_dictSet_heap (hsz:=hz) hu (p8 I.aT eb) dd fun h' ug hs=>h _ ?_;obtain⟨q,es,ep,hq,h2,h3,h4,_,h5⟩:=ug;refine eK I (by rw[e];exact True.intro) hs ⟨q,hq⟩ ⟨hl,hd,_,(rel.put k eb rv).keeps fun c ys ec=>?_,q,es,ep,hq,h2,h3,h4,h5⟩;rw[ah (wU ec e (fun z=>nomatch z))];exact ec
theorem vG{kx vx tg iter:Expr}{pos:Pos}{g:TG}{tk tv:TE}{cl:List (Str × Addr)}{Q:VK}{E:Value->Shared->Prop}{RR:Value->Addr->Result->Shared->Prop}(S:jD X N nt js scope)(hc:X.calm=true)(hg: ∀s H cl C ex,PG (dz X N scope s H cl C ex) tg g)(eQ:jC nt g)(hk: ∀s H cl C ex,PE (dz X N scope s H cl C ex) kx tk)(hv: ∀s H cl C ex,PE (dz X N scope s H cl C ex) vx tv)(hu:X.A.units < cLine){tn:Nat->Heap->Prop}(I:Inv X pins σ H s)(T:Turn X.prog X.w X.K tg J fp it tn)(st:tn 0 s.heap)(ff: ∀b∈fp,dh X pins H b)(c1: ∀x c,(x,c)∈cl->X.env.cells.lookup x=some c)(c2: ∀x,(x,NameKind.free)∈scope.names-> ∃c,(x,c)∈cl)(R: ∀D,H D=none->DU nt js g tk tv σ Q D J (upd H D (.dT [])))(fin: ∀(D C:Addr) (s':Shared) (H':Hp),Inv X pins σ H' s'->dh X pins H' C->(∃m,s'.heap.Ns C m)->Q (.ref D) H'->RR (.ref D) C (.ok .next) s'):
  wpAny (model X.prog X.w) X.A newDict (fun acc s₃=>wpAny (model X.prog X.w) X.A (newFunctionEnv scope X.env.globals cl [] X.env.qual none .none (some X.env)) (fun iJ s₄=>
   codeAny (model X.prog X.w) X.A (.compStart (.DictComp kx vx [⟨tg,iter,[],0⟩] scope pos) 0 (.ref it) acc {iJ with scope:=relabel scope X.env}) (RR acc iJ.locals) s₄) E s₃) E s:=by
 refine lq (eO fun iJ tG CL=>?_);rw[tG,CL];dsimp only;have hD:H s.heap.objs.size=none:=I.aT.fresh (Zj _);obtain⟨W,⟨m0,w0⟩,turn⟩:=R s.heap.objs.size hD;have kD: ∀b u,s.heap.get? b=some u->(s.heap.push {cls:= .type "dict",data:= .dict #[]}).get? b=some u:=fun b u e=>Zh _ e;have I3:Inv X pins σ (upd H s.heap.objs.size (.dT [])) {s with heap:=s.heap.push {cls:= .type "dict",data:= .dict #[]},toks:=s.toks}:=
  I.laid kD (Zj _) (mM s.heap I.big)
 have fs: ∀b∈fp,b < s.heap.objs.size:=fun b hb=>by
  obtain⟨o,e,_⟩:=T.obj _ _ st b hb;exact ZD e
 have HJ: ∀b∈fp,dh X pins (upd H s.heap.objs.size (.dT [])) b:=fun b hb=>⟨by rw[ah (ZY (fs b hb))];exact(ff b hb).1,(ff b hb).2⟩
 have I4:=jU (tk:=s.toks) S hc I3 HJ (fun b hb=>by show b < (s.heap.push _).objs.size;rw[ab2];exact ag8 (fs b hb)) c1 c2;dsimp only at I4;have Oa:(s.heap.push {cls:= .type "dict",data:= .dict #[]}).objs.size=s.heap.objs.size+1:=ab2 ..;generalize hY:dz X N scope {s with heap:=s.heap.push {cls:= .type "dict",data:= .dict #[]},toks:=s.toks} (upd H s.heap.objs.size (.dT [])) cl (s.heap.push {cls:= .type "dict",data:= .dict #[]}).objs.size fp=Y at I4;have UL:=hY;have ni:Y.env=m5 scope cl (s.heap.push {cls:= .type "dict",data:= .dict #[]}).objs.size X.env:=by rw[<-hY];rfl
 have bO:Y.prog=X.prog:=by rw[<-hY];rfl
 have Yw:Y.w=X.w:=by rw[<-hY];rfl
 have YA:Y.A=X.A:=by rw[<-hY];rfl
 have YK:Y.K=X.K:=by rw[<-hY];rfl
 have jz:Y.calm=true:=by rw[<-hY];exact hc
 have qU:Y.xe=fun _ _=>False:=by rw[<-hY];rfl
 have tX:Y.ex=fp:=by rw[<-hY];rfl
 have OV:Y.pn= []:=by rw[<-hY];rfl
 have OW:Y.fs=qT X.stack:=by rw[<-hY];rfl
 have Iy:Y.s₀={s with heap:=s.heap.push {cls:= .type "dict",data:= .dict #[]},toks:=s.toks}:=by rw[<-hY];rfl
 have OX:Y.H₀=upd H s.heap.objs.size (.dT []):=by rw[<-hY];rfl
 have N0:PG Y tg g:=by rw[<-hY];exact hg _ _ _ _ _
 have WX:PE Y kx tk:=by rw[<-hY];exact hk _ _ _ _ _
 have WD:PE Y vx tv:=by rw[<-hY];exact hv _ _ _ _ _
 have WH:Y.A.units < cLine:=by rw[YA];exact hu
 have hm:(Y.N.length:Nat)=(ic nt js σ).length:=I4.len.symm;rw[<-ni,<-bO,<-Yw,<-YA];have CA: ∀{H':Hp} (_: ∀b∈fp,H' b=none),∀b∈fp,dh Y [] H' b:=fun{H'} hn b hb=>by
  refine⟨hn b hb,(I4.ok.HL b (by rw[tX];exact hb)).1,I4.ok.vo b (by rw[tX];exact hb),.inl (by rw[tX];exact hb),(I4.ok.HL b (by rw[tX];exact hb)).2,fun p hp=>?_⟩;rw[OV] at hp;simp at hp
 have back: ∀{H':Hp} {s':Shared} {σ':St},Inv Y [] σ' H' s'->Inv X pins σ H' s'/\dh X pins H' Y.env.locals/\ ∃m,s'.heap.Ns Y.env.locals m:=fun{H' s' σ'} J=>by
  have hb:Un (qT X.stack) fp (upd H s.heap.objs.size (.dT [])) H' (s.heap.push {cls:= .type "dict",data:= .dict #[]}) s'.heap:=by
   have:=J.base;rw[OW,tX,OX,Iy] at this;exact this
  have loc:Y.env.locals=s.heap.objs.size+1:=by rw[ni];exact Oa
  have os:s'.os=s.os:=by
   have:=J.os;rw[Iy] at this;exact this
  have aT:gm X.prog X.w H' s'.heap:=by
   have:=J.aT;rw[bO,Yw] at this;exact this
  refine⟨I3.Dm (ch:=fp) os hb aT J.bare fun b hb=>⟨(ff b hb).2.2.2.1,(ff b hb).2.1,(ff b hb).2.2.2.2.1,(ff b hb).2.2.2.2.2⟩,?_,let ⟨m,q,_⟩:=J.loc;⟨m,q⟩⟩;exact I.vn (by rw[loc];exact ao7 _) J.free
 have loop:codeAny (model Y.prog Y.w) Y.A (.compLoop (.DictComp kx vx [⟨tg,iter,[],0⟩] scope pos) 0 (.ref it) (.ref s.heap.objs.size) Y.env) (RR (.ref s.heap.objs.size) Y.env.locals)
   {s with heap:=pushCells ((s.heap.push {cls:= .type "dict",data:= .dict #[]}).push {cls:= .type "dict",data:= .dict #[]}) scope.names}:=by
  refine nW (fun n s'=> ∃i H',Inv Y [] (ic nt js σ) H' s'/\tn i s'.heap/\(∀b∈fp,H' b=none)/\W i n H') ?_ m0
   ⟨0,_,I4,T.keep _ _ _ st fun b _ o e=>ag5 _ _ b o (Zh _ (kD b o e)),fun b hb=>(HJ b hb).1,w0⟩
  rintro n s5 ⟨i,H5,I5,uD,zb,w5⟩
  rcases turn i n H5 w5 with ⟨stop,q⟩ | ⟨go,B,hB,step⟩
  . have hd:=T.done Y bO Yw YK jz i [] s5 _ H5 (fun _ _=>False) I5 (CA zb) uD stop;rw[<-bO,<-Yw] at hd;refine aP hd fun r s6 iO=>?_;obtain⟨hr,I6⟩:=iO;subst hr;obtain⟨b1,b2,b3⟩:=back I6;exact fin _ _ _ _ b1 b2 b3 q
  . have hd:=T.item Y bO Yw YK jz i [] s5 _ H5 (fun _ _=>False) I5 (CA zb) uD go;rw[<-bO,<-Yw] at hd;refine aP hd fun r s6 nF=>?_;obtain⟨u,hr,h6⟩:=nF;subst hr;refine aP h6 fun _ s7 o9=>?_;obtain⟨x,H7,I7,r7,y7,uC,K4⟩:=o9;have LS:=I7.pinned (CA K4) (T.obj _ _ uC);have g7:=eQ _ _ _ _ (step x H7 y7);have h7:=N0 _ s7 _ H7 x u _ LS r7 g7;rw[qU] at h7;refine aP h7 fun _ s8 nE=>?_;obtain⟨σ8,H8,I8,q8,l8,k8⟩:=nE;have h8:=WX _ s8 σ8 H8 _ I8 q8;rw[qU] at h8;refine aP h8 fun Yf s9 gn=>?_;obtain⟨kv,H9,I9,r9,q9⟩:=gn;have h9:=WD _ s9 σ8 H9 _ I9 q9;rw[qU] at h9;refine aP h9 fun X8 fb k9=>?_;obtain⟨vv,ki,t6,M8,D6,dp,Jz⟩:=k9;have F1:=zm (E:=fun _ _=>False) (Q:=fun _ s'=> ∃m,m < n/\ ∃i H',Inv Y [] (ic nt js σ) H' s'/\tn i s'.heap/\(∀b∈fp,H' b=none)/\W i m H') WH t6 dp r9 M8 fun MR GW=>by
     obtain⟨m',DZ,IS⟩:=hB D6 Jz;refine⟨m',DZ,i+1,D6,GW.dJ.weak l8.symm fun k v e=>?_,T.keep _ _ _ uC fun b hb o e=>(GW.pin (b,o) (Zw _ (Zw _ (bf hb e)))).1,fun b hb=>?_,IS⟩
     . by_cases hk:nt<=k
       . rw[k8 k hk];exact e
       . exfalso;unfold ic at e;rw[ZR (by simp;lia),ZI,if_pos (by lia)] at e;cases e
     . obtain⟨o,e,d⟩:=T.obj _ _ uC b hb;exact(GW.pin (b,o) (Zw _ (Zw _ (bf hb e)))).2.1
    exact F1
 have tF:(s.heap.push {cls:= .type "dict",data:= .dict #[]}).objs.size=Y.env.locals:=by rw[ni];rfl
 rw[tF];exact codeAny_compStart_dict loop (by rw[bO,Yw,YA] at*;exact T.self _ 0 _ _ _ (T.keep _ _ _ st fun b _ o e=>ag5 _ _ b o (Zh _ (kD b o e))) loop)
theorem By(S:jD X N nt js scope)(hc:X.calm=true)(hi:PI X tg iter wi)(hg: ∀s H cl C ex,PG (dz X N scope s H cl C ex) tg g)(eQ:jC nt g)(hk: ∀s H cl C ex,PE (dz X N scope s H cl C ex) kx tk)(hv: ∀s H cl C ex,PE (dz X N scope s H cl C ex) vx tv)(hu:X.A.units < cLine)(hs: ∀x,foldedSetIterable iter X.env x=pure x:=by intro _;rfl):PE X (.DictComp kx vx [⟨tg,iter,[],0⟩] scope pos) (Az nt js wi g tk tv):=by
 intro pins s σ H Q I h;obtain⟨cl,KP,c1,c2⟩:=fR (scope:=scope) (env:=X.env) fun x hx e=>I.ok.has x.1 (S.L6 x hx e);rw[arm_eval_DictComp];refine aj5 (use:=none) rfl hs KP S.kind S.names (aP (hi pins s σ H _ I h) fun v s1 h1=>aP h1 fun L8 s2 h2=>?_);obtain⟨it,fp,tn,J,H2,rfl,I2,T,gg,f2,R⟩:=h2;refine vG (RR:=fun acc C=>compPost (model X.prog X.w) X.A X.xe none (EP X pins σ Q) acc C) S hc hg eQ hk hv hu I2 T gg f2 c1 c2 R fun D C s' H' I' fo iy q=>?_;obtain⟨m,hn⟩:=iy;refine⟨m,hn,fun h' sb=>⟨.ref D,H',?_,rfl,q⟩⟩;obtain⟨f0,f1,_,f3,f4,f5⟩:=fo;exact I'.turned (t':=s'.toks) (fun b o hb e=>(sb.2 b hb).trans e) f0 f1 f3 f4 f5
end L2
namespace LD
open PySem PySem.Spec L2 LB PyProof.Rows LW
abbrev DR:=List Sl->(List (List Key)->List Dt->List Sl->Prop)->Prop
inductive Ut(t:DR)(σ:L2.St)(H:Hp)(Q:VK):Prop
 | mk (W:List Wd) (M:Addr->Prop) (α:List (List Addr)) (δ:List Sl) (Qd:List (List Key)->List Dt->List Sl->Prop) (h1:aB W M α H σ δ) (h2:t δ Qd) (h3: ∀ks ds δ' H1 vs a,Qd ks ds δ'->aB W M α H1 σ δ'->cQ α H H1->vs.map (·.1)=ks->az M H1 (vs.map (·.2)) ds->H1 a=none->Q (.ref a) (upd H1 a (.dT vs)))
abbrev TC(X:Cx)(e:Expr)(t:DR):Prop:=PE X e (Ut t)
section
variable{X:Cx}{N:List Str}{nt:Nat}{js:List Nat}{scope:Scope}{kx vx tg iter e:Expr}{pos pos':Pos}{ti:qV}{g:uh}{tk tv:bq}{t:DR}{x:Str}{xp:Pos}
def Oy(i:Nat)(t:DR):jF:=fun Δ δ=>t δ fun ks ds δ'=>bC δ' i/\Δ.nx (δ'.set i (td ks ds))
theorem AW(i:Nat)(hN:X.N.Nodup)(he:TC X e t)(hi:X.N[i]?=some x:=by rfl)(hx:Loc X.env.scope x:=by first | exact Or.inl rfl | exact Or.inr rfl)(hs:swapsWith e (some (.Name x xp)) pos.line X.env=pure false:=by rfl)(hf:X.fn x=true\/X.env.scope.names.lookup x=some .local:=by first | exact .inl rfl | exact .inr rfl | assumption):
  Ex X (.Assign [.Name x xp] e pos) (Oy i t):=PS.imp (dj hN hi hx he hs hf) fun D σ H zz=>(by
 obtain⟨Ws,M,α,δ,Δ,E,L,q⟩:=zz;refine⟨Ws,M,α,δ,_,E,q,fun ks ds δ' H1 vs a zz E1 c1 e1 r1 h1=>?_⟩;obtain⟨ok,q1⟩:=zz;have mo: ∀b u,H1 b=some u-> ¬M b->upd H1 a (.dT vs) b=some u/\ ¬(M b\/b=a):=fun b u e n=>⟨by rw[ah (aj e h1)];exact e,fun z=>z.elim n (aj e h1)⟩
 exact L.nx _ _ _ _ _ (E1.pH (s:=td ks ds) h1 (fun xs z=>by cases z) ok rfl ⟨_,rfl,a,vs,rfl,rfl,ag,e1,r1.mono mo⟩) q1)
def De(nt:Nat)(js:List Nat)(ti:qV)(g:uh)(tk tv:bq):DR:=fun δ Q=>ti δ fun ao δ1=>ao.length<=sizeLine/\ ∃(fk:Dt->List Key) (fv:Dt->Dt),(∀d∈ao,g d (cin nt js δ1) fun δ2=>tk δ2 fun dk δ3=>yM dk=some (fk d)/\tv δ3 fun r _=>r=fv d)/\(ao.map fk).Nodup/\Q (ao.map fk) (ao.map fv) δ1
theorem vI(sV: ∀v σ H Q,lG g v σ H Q->gh v σ H Q): ∀σ H Q,Ut (De nt js ti g tk tv) σ H Q->Az nt js (lI ti) gh (lE tk) (lE tv) σ H Q:=fun σ H Q zz=>(by
 obtain⟨W,M,α,δ,Qd,E,q,k⟩:=zz;refine⟨W,M,α,δ,_,E,q,fun ao δ1 H1 J fW E1 c1 yl D hD=>?_⟩;obtain⟨hsz,fk,fv,step,nd,q1⟩:=fW;have s0:aD H1 (upd H1 D (.dT [])):=aD.new hD;refine⟨fun i m H2=>m=ao.length - i/\i<=ao.length/\ ∃vs,H2 D=some (.dT vs)/\vs.map (·.1)=(ao.take i).map fk/\az (fun b=>M b\/b=D) H2 (vs.map (·.2)) ((ao.take i).map fv)/\aD H1 H2/\kh (fun b=>M b\/b=D) H2,⟨ao.length,by simp,ZV _,[],ag,rfl,.nil,s0,fun a ha=>?_⟩,?_⟩
 . rcases ha with ha | ha
   . obtain⟨o,e,n⟩:=E1.al a ha;exact⟨o,s0 _ _ e,n⟩
   . subst ha;exact⟨_,ag,fun xs z=>by cases z⟩
 rintro i m H2 ⟨rfl,hi,vs,y4,Of,iY,s2,Hs⟩
 have kf:Kf M H1 H2:=fun b o e _=>s2 _ _ e;by_cases dX:i < ao.length
 . have hb: ∀b,H1 b≠none-> ¬M b-> ¬(fun b=>M b\/b=D) b:=fun b n z y=>y.elim z fun w=>n (by rw[w];exact hD);obtain⟨go,uo⟩:=yl.go i H2 (fun b=>M b\/b=D) kf Hs hb dX;refine .inr ⟨go,fun H'=> ∃vs,H' D=some (.dT vs)/\vs.map (·.1)=(ao.take (i+1)).map fk/\az (fun b=>M b\/b=D) H' (vs.map (·.2)) ((ao.take (i+1)).map fv)/\aD H1 H'/\kh (fun b=>M b\/b=D) H',fun H' kZ=>⟨ao.length - (i+1),by omega,rfl,dX,kZ⟩,fun x H3 y=>?_⟩;obtain⟨s3,d,hd,rx⟩:=uo x H3 y;have E2:aB [] (fun b=>M b\/b=D) (List.replicate (nt+js.length) []) H2 (ic nt js σ) (cin nt js δ1):=by
    have su:aD (upd H1 D (.dT vs)) H2:=fun b o e=>by
     by_cases hb:b=D
     . subst hb;rw[ag] at e;cases e;exact y4
     . rw[ah hb] at e;exact s2 _ _ e
    have Ea:aB [] (fun b=>M b\/b=D) α H2 σ δ1:=⟨E1.ls,E1.la,fun i s h=>let ⟨o,as,h1,h2,h3⟩:=E1.sl i s h;⟨o,as,h1,h2,(h3.grow (u:= .dT vs) hD).same su⟩,E1.nd,fun a h=> .inl (E1.mu a h),Hs,fun W hW=>absurd hW Zi⟩
    exact qy Ea
   have E3:=E2.same s3;have bz:(List.replicate (nt+js.length) ([]:List Addr)).flatten= []:=by simp
   refine sV _ _ _ _ ⟨[],_,_,_,d,_,E3,rx,step d (ZT hd),fun α4 δ4 σ4 q4 E4 hα=>?_⟩;have D4:α4.flatten= []:=ae6.mpr fun x hx=>by have:=hα x hx;rw[bz] at this;exact absurd this Zi
   refine⟨[],_,α4,δ4,_,E4,q4,fun dk δ5 H5 kv kj E5 c5 rk=>?_⟩;obtain⟨hk,q5⟩:=kj;have s5:aD H3 H5:=fun b o e=>c5 b o e (by rw[D4];exact Zi);refine⟨[],_,α4,δ5,_,E5,q5,fun r δ6 H6 v e6 E6 c6 r6=>?_⟩;subst e6;have s6:aD H5 H6:=fun b o e=>c6 b o e (by rw[D4];exact Zi);have A3:aD H2 H6:=fun b o e=>s6 _ _ (s5 _ _ (s3 _ _ e));have Sy:=A3 _ _ y4;have QM:ao.take (i+1)=ao.take i++ [d]:=by rw[ai3,hd];rfl
   obtain⟨kb,Xo,KA⟩:=i8 (rk.same s6) hk;subst Xo;have nk:fk d∉vs.map (·.1):=by
    rw[Of];have:(ao.map fk).Nodup:=nd;rw[<-ae7 (i+1) ao,QM,ZA,ZA] at this;have:=(ac4.mp (ac4.mp this).1).2.2;exact fun z=>this _ z _ Zu rfl
   have lv:vs.length < sizeLine:=by
    have:vs.length=(ao.take i).length:=by rw[<-Ze (f:=(·.1)),Of,Ze]
    rw[this,ae8];exact ZJ (by omega) hsz
   refine⟨_,kI.t Sy KA lv,?_⟩;rw[rZ nk];have up: ∀{zs:List V} {ds:List Dt},az (fun b=>M b\/b=D) H6 zs ds->az (fun b=>M b\/b=D) (upd H6 D (.dT (vs++ [(fk d,v)]))) zs ds:=fun r=>r.mono fun a o e n=>⟨by rw[ah (fun z=>n (.inr z))];exact e,n⟩
   refine⟨vs++ [(fk d,v)],ag,by rw[QM,ZA,ZA,Of];rfl,?_,fun b o e=>by rw[ah (aj e hD)];exact A3 _ _ (s2 _ _ e),fun a ha=>?_⟩
   . rw[QM,ZA,ZA];exact up ((iY.same A3).append (.one r6))
   . by_cases hb:a=D
     . subst hb;exact⟨_,ag,fun xs z=>by cases z⟩
     . rw[ah hb];exact E6.al a ha
 . have e:i=ao.length:=by omega
   subst e;refine .inl ⟨yl.stop H2 kf,?_⟩;rw[ad9] at iY Of;have eH:upd (fun b=>if b=D then none else H2 b) D (.dT vs)=H2:=by
    funext b
    by_cases hb:b=D
    . subst hb;rw[ag,y4]
    . rw[ah hb,if_neg hb]
   rw[<-eH];have sH:aD H1 (fun b=>if b=D then none else H2 b):=fun b o e=>by
    show(if b=D then none else H2 b)=some o;rw[if_neg (aj e hD)];exact s2 _ _ e
   refine k _ _ _ _ _ _ q1 (E1.same sH) (c1.tr (cQ.of sH)) Of (iY.mono fun a o e n=>⟨?_,fun z=>n (.inl z)⟩) (by show(if D=D then none else H2 D)=none;rw[if_pos rfl]);show(if a=D then none else H2 a)=some o;rw[if_neg (fun z=>n (.inr z))];exact e)
theorem Fw(S:jD X N nt js scope)(hc:X.calm=true)(hi:Iv X tg iter ti)(hg: ∀s H cl C ex,PG (dz X N scope s H cl C ex) tg gh)(eQ:jC nt gh)(sV: ∀v σ H Q,lG g v σ H Q->gh v σ H Q)(hk: ∀s H cl C ex,Ev (dz X N scope s H cl C ex) kx tk)(hv: ∀s H cl C ex,Ev (dz X N scope s H cl C ex) vx tv)(hu:X.A.units < cLine)(hs: ∀x,foldedSetIterable iter X.env x=pure x:=by intro _;rfl):TC X (.DictComp kx vx [⟨tg,iter,[],0⟩] scope pos) (De nt js ti g tk tv):=PE.imp (By S hc hi hg eQ hk hv hu hs) (vI sV)
end
section
variable{X:Cx}{x:Str}{xp p pos:Pos}
noncomputable def sX(P:Program)(w:World)(k:List Key):Int:=tupleKeyHash (aS P w) k
inductive Lx(P:Program)(w:World)(i:Nat)(δ:List Sl)(Q:List (List Key)->List Dt->List Sl->Prop):Prop
 | mk (ks:List (List Key)) (ds:List Dt) (h1:δ[i]?=some (td ks ds)) (h2:ks≠ []) (h3:(ks.map (sX P w)).Nodup) (h4:Q ks ds δ)
theorem vL:bootBuiltins "dict"=some (.type "dict"):=by decide+kernel
theorem Fv(i:Nat)(hA:X.A.handled=none)(hm:X.mg "dict"=none)(ho:PE X (.Name x xp) (dM i))(hg:Gl X "dict":=by rfl)(he:starEach [.Name x xp] X.env=(false,eval (.Name x xp) X.env)::starEach [] X.env:=by rfl)(dq:(backTo pos (starEach [] X.env)).any (·.1)=false:=by rfl):
  TC X (.Call (.Name "dict" p) [.Name x xp] [] pos) (Lx X.prog X.w i):=PE.imp (fe (IB.vK hA) hg hm vL (au ho aL he) (by decide) (by decide) he dq) fun σ H Q zz=>(by
 obtain⟨W,M,α,δ,Qd,E,⟨ks,ds,h1,h2,h3,q⟩,k⟩:=zz;obtain⟨a,vs,s1,s2,s3,s4,s5⟩:=lB E h1;subst s4;refine⟨_,s1,a,vs,rfl,s3,fun z=>h2 (by rw[z];rfl),by rw[ZP] at h3;exact h3,fun d hd=>k _ _ _ _ _ _ q E cQ.rf rfl s5 hd⟩)
end
end LD
namespace fS
open PySem PySem.Spec L2 LB PyProof.Rows PySem.W Qe
theorem uR{α β:Type}{R:α->β->Prop}{l:List α}{m:List β}(h:Paired R l m): ∀{i:Nat} {x:α} {y:β},l[i]?=some x->m[i]?=some y->R x y:=by
 induction h with
 | nil=>intro i x y h;simp at h
 | cons r _ ih=>
  intro i x y h1 h2;cases i with
  | zero=>cases h1;cases h2;exact r
  | succ j=>exact ih (by simpa using h1) (by simpa using h2)
end fS
namespace L2
open PySem PySem.Spec PyProof.Rows
noncomputable def held:Option Value->Array Value
 | none=> #[]
 | some v=> #[v,v]
def vY(val:Nat->Int)(j:Nat):Option Value->Prop
 | none=>j=0
 | some v=> ∃i t,i < j/\v= .int (val i) t/\ ∀k,k < j->val k<=val i
theorem Du(a v:Value):argsOk "max" ⟨[a],[("default",v)]⟩:=by unfold argsOk;kernel_rfl
section
variable{prog:Program}{w:World}{A:Around}{R:Result->Shared->Prop}{I S:Addr}{fp wr:List Addr}{n:Nat}{P:Nat->Value->Prop}{St:Nat->Heap->Prop}{val:Nat->Int}{d:Value}
theorem yG(W:Walks prog w A.in1 I fp wr n P St)(hv: ∀i v,P i v-> ∃t,v= .int (val i) t)(hS:S∉fp): ∀(k j:Nat) (s:Shared) (b:Option Value) (c:Nat),n - j=k->j<=n->St j s.heap->vY val j b->
  s.heap.get? S=some {cls:= .type "list",dict:=none,data:= .seq (held b) c,slots:= #[]}->
  (∀b h' tk,vY val n b->(∀x o,x∉wr->x≠S->s.heap.get? x=some o->h'.get? x=some o)->R (.ok (.ret (b.getD d))) {s with heap:=h',toks:=tk})->
  codeAny (model prog w) A (.builtin "max.loop" ⟨[.ref I,.none,.ref S],[("default",d)]⟩) R s:=by
 have nw:S∉wr:=fun z=>hS (W.sub _ z);have nm:(toString "max"++toString ".loop":String)="max.loop":=by decide
 intro k;induction k with
 | zero=>
  intro j s b c e1 e2 st g hs hR;have e3:j=n:=by omega
  subst e3;refine ak0 F.entry_max_loop ?_;rw[ai8 aj3 _];show wpAny _ A.in1 (seqItems? (.ref S) >>=_) _ _ s;refine Zd (ad2 hs rfl ?_);show wpAny _ A.in1 (tryCatch (pyNext (.ref I)) _ >>=_) _ _ s;refine Zd (wpAny_tryCatch (W.done s _ _ st fun h' tk hk=>?_));have Ck:=hk S _ nw hs;cases b with
  | none=>exact Zd (ad1 (Zf (hR none _ tk g fun x o n1 n2 e=>hk x o n1 e)))
  | some v=>
   have mB:h'.get? S=some {cls:= .type "list",dict:=none,data:= .seq #[v,v] c,slots:= #[]}:=Ck;show wpAny _ A.in1 (updateSeq S (fun _=> #[]) >>=_) _ _ _;refine Zd (wpAny_updateSeq mB rfl (Zd (am6 (Zf ?_))));exact hR (some v) _ tk g fun x o n1 n2 e=>(ae2 _ _ (Ne.symm n2)).trans (hk x o n1 e)
 | succ k ih=>
  intro j s b c e1 e2 st g hs hR;have lt:j < n:=by omega
  refine ak0 F.entry_max_loop ?_;rw[ai8 aj3 _];show wpAny _ A.in1 (seqItems? (.ref S) >>=_) _ _ s;refine Zd (ad2 hs rfl ?_);show wpAny _ A.in1 (tryCatch (pyNext (.ref I)) _ >>=_) _ _ s;refine Zd (wpAny_tryCatch (W.item j s _ _ lt st fun v h' tk hP ay hk=>?_));have Ck:=hk S _ nw hs;obtain⟨t,rfl⟩:=hv _ _ hP;cases b with
  | none=>
   have e3:j=0:=g;subst e3;show wpAny _ A.in1 (updateSeq S (fun _=> #[_,_]) >>=_) _ _ _;refine Zd (wpAny_updateSeq Ck rfl ?_);rw[nm];refine Zf ⟨am4 aj3 _,ih 1 _ (some (.int (val 0) t)) _ (by omega) lt (W.frame _ _ _ ay fun x hx o e=>?_) ⟨0,t,Nat.one_pos,rfl,fun k hk=>?_⟩ (ag1 _ Ck rfl) fun b h2 DX g2 k2=>?_⟩
   . exact(ae2 _ _ (fun z:S=x=>hS (by rw[z];exact hx))).trans e
   . rw[show k=0 by omega];exact ad6 _
   . exact hR b h2 DX g2 fun x o n1 n2 e=>k2 x o n1 n2 ((ae2 _ _ (Ne.symm n2)).trans (hk x o n1 e))
  | some u=>
   obtain⟨i,t2,i1,rfl,i2⟩:=g;have mB:h'.get? S=some {cls:= .type "list",dict:=none,data:= .seq #[.int (val i) t2,.int (val i) t2] c,slots:= #[]}:=Ck;show wpAny _ A.in1 (tryCatch (holding [_,_] (richCompare .Gt (.int (val j) t) (.int (val i) t2) >>=_)) _ >>=_) _ _ _;refine Zd (wpAny_tryCatch (aa9 (Zd (CmpOf.ints_gt (P:=fun i v=> ∃t,v= .int (val i) t) val (fun _ _ z=>z) j i _ _ _ _ _ ⟨t,rfl⟩ ⟨t2,rfl⟩ ?_))));refine Zd (aa9 (af3 ?_));refine Zd (am6 (Zf ?_));by_cases c1:val j > val i
   . rw[if_pos (show(fun i j=>decide (val i > val j)) j i=true from ZZ c1)];refine Zd (wpAny_updateSeq mB rfl (Zd (am6 ?_)));rw[nm];refine Zf ⟨am4 aj3 _,ih (j+1) _ (some (.int (val j) t)) _ (by omega) lt (W.frame _ _ _ ay fun x hx o e=>?_) ⟨j,t,Nat.lt_succ_self _,rfl,fun k hk=>?_⟩ (ag1 _ mB rfl) fun b h2 DX g2 k2=>?_⟩
     . exact(ae2 _ _ (fun z:S=x=>hS (by rw[z];exact hx))).trans e
     . rcases Nat.lt_succ_iff_lt_or_eq.mp hk with z | z
       . have:=i2 k z;omega
       . rw[z];exact ad6 _
     . exact hR b h2 DX g2 fun x o n1 n2 e=>k2 x o n1 n2 ((ae2 _ _ (Ne.symm n2)).trans (hk x o n1 e))
   . rw[if_neg (show¬(fun i j=>decide (val i > val j)) j i=true from fun z=>c1 (ZL z))];refine Zd (am6 ?_);rw[nm];refine Zf ⟨am4 aj3 _,ih (j+1) _ (some (.int (val i) t2)) c (by omega) lt ay ⟨i,t2,by omega,rfl,fun k hk=>?_⟩ Ck fun b h2 DX g2 k2=>?_⟩
     . rcases Nat.lt_succ_iff_lt_or_eq.mp hk with z | z
       . exact i2 k z
       . rw[z];omega
     . exact hR b h2 DX g2 fun x o n1 n2 e=>k2 x o n1 n2 (hk x o n1 e)
end
theorem yH(hh:A.handled=none)(hl:s.heap.IsList l (intItems xs))(h: ∀b h' tk,vY (numAt xs) xs.size b->(∀x o,s.heap.get? x=some o->h'.get? x=some o)->Q (b.getD d) {s with heap:=h',toks:=tk}):
  wpAny (model prog w) A (call (.builtin "max") [.ref l] [("default",d)]) Q E s:=by
 have nm:(toString "max"++toString ".loop":String)="max.loop":=by decide
 refine kmb_tree F.kind_max F.plain_max F.entry_max (Du _ _) ?_;show wpAny _ A.in1 (Builtin.Builtins.bindParams "max" ["key","default"] 0 ⟨[],[("default",d)]⟩ >>=_) _ _ s;refine Zd (wpAny_of_eq (show Builtin.Builtins.bindParams "max" ["key","default"] 0 ⟨[],[("default",d)]⟩=pure [none,some d] from rfl) ?_);refine Zd (Zf ?_);refine Zd (iter_intList hl fun s2 e st fr ne=>?_);subst e;refine Zd (Z9 ?_);rw[nm];have hz:(intItems xs).size=xs.size:=by simp [intItems]
 have W:=Walks.list (prog:=prog) (w:=w) (A:=A.in1) hh s.heap.objs.size l ne (intItems xs);refine Zf ⟨am4 aj3 _,yG (val:=numAt xs) W (fun _ _=>intItems_at) (fun hm=>Z7 _ (fr _ hm)) _ 0 _ none 0 rfl (ZV _) (W.frame _ _ _ st fun x _ o e=>Zh _ e) rfl (Zs _ rfl) fun b h' tk g hk=>?_⟩;refine h b h' tk (hz▸g) (old_kept fun x o n e=>hk x o n (ZY (ZD e)) (Zh _ e))
section
variable{X:Cx}{e:Expr}{j7:List Keyword}{t tk:TA}{p pos:Pos}
def X0(ns:List Int)(d:V)(v:V):Prop:=(ns= []/\v=d)\/ ∃M,v= .int M/\M∈ns/\ ∀a∈ns,a<=M
def ME(t tk:TA):TE:=fun σ H Q=>t σ H fun vs H1=>tk σ H1 fun ks H2=> ∃(a:Addr) (ns:List Int) (d:V),vs= [.ref a]/\ks= [d]/\H2 a=some (.lst (ns.map V.int))/\ ∀v,X0 ns d v->Q v H2
theorem zx:bootBuiltins "max"=some (.builtin "max"):=by decide+kernel
theorem EY(hc:X.calm=true)(hg:Gl X "max")(hm:X.mg "max"=none)(ha:PA X [e] t)(hk:PK X j7 tk)
  (FV:(backToKw pos (keywordEach j7 X.env)).filterMap (·.1)=(["default"]:List Str):=by rfl) (k1:backTo pos (starEach [e] X.env)=(false,eval e X.env)::backTo pos (starEach [] X.env):=by rfl) (k2:(backTo pos (starEach [e] X.env)).any (·.1)=false:=by rfl)
  (k3:(backToKw pos (keywordEach j7 X.env)).all (·.1.isSome)=true:=by rfl) (k4:(backToKw pos (keywordEach j7 X.env)).any (·.1.isNone)=false:=by rfl):
  PE X (.Call (.Name "max" p) [e] j7 pos) (ME t tk):=by
 intro pins s σ H Q I h;refine af7 (cE I hg hm zx (callWith_kw (aP (ha pos pins s σ H _ I h) fun us s1 zz=>?_) k1 k2 k3 k4));obtain⟨vs,H1,I1,r1,q1⟩:=zz;refine aP (hk pos pins s1 σ H1 _ I1 q1) fun ws s2 zz=>?_;obtain⟨zs,H2,I2,rz,q2⟩:=zz;obtain⟨a,ns,d,rfl,rfl,hq,q⟩:=q2;obtain⟨u,rfl,ru⟩:=vals1 r1;cases ru;obtain⟨ud,rfl,rd⟩:=vals1 rz;rw[FV];obtain⟨ao,rv,pl,_⟩:=I2.list (cX.of hq);have hi:=intsAre_of rv;obtain⟨xs,hx⟩:=hi.allInts.items;have NW:s2.heap.IsList a (intItems xs):=hx▸pl.isList;have HD:ns=xs.toList.map (·.1):=by
  rw[<-nums_intItems,<-hx];exact(show numsOf ao.toArray.toList=ns from hi.numsOf).symm
 refine yH (I2.ok.hd hc) NW fun b h' tk g hk=>?_;have hlen:ns.length=xs.size:=by rw[HD,Ze,Zv]
 cases b with
 | none=>exact⟨d,H2,I2.kept hk,rd,q d (.inl ⟨List.eq_nil_of_length_eq_zero (hlen.trans g),rfl⟩)⟩
 | some v=>
  obtain⟨i,t2,g1,rfl,g2⟩:=g;refine⟨.int _,H2,I2.kept hk,⟨_,rfl⟩,q _ (.inr ⟨_,rfl,?_,fun m hm=>?_⟩)⟩
  . rw[numAt_eq,<-HD];exact getD_mem (by omega)
  . rw[HD] at hm;obtain⟨j,hj,rfl⟩:=mem_getD hm;rw[Ze,Zv] at hj;rw[<-numAt_eq];exact g2 j hj
end
end L2
namespace LD
open PySem PySem.Spec L2 LB PyProof.Rows LW
section
variable{X:Cx}{e:Expr}{tA:gf}{p pos p7 cp:Pos}{j:Nat}{nm:Option Str}
inductive LU(ds:List Dt)(Q:Dt->Prop):Prop
 | mk (ns:List Int) (h1:ds= [.lst (ns.map .int)]) (h2:ns= []->Q .aN) (h3: ∀m,m∈ns->(∀a∈ns,a<=m)->Q (.int m))
theorem Lj(hc:X.calm=true)(hm:X.mg "max"=none)(ha:Av X [e] tA)(hg:Gl X "max":=by rfl)
  (FV:(backToKw pos (keywordEach [⟨nm,.Constant .none j cp,p7⟩] X.env)).filterMap (·.1)=(["default"]:List Str):=by rfl) (k1:backTo pos (starEach [e] X.env)=(false,eval e X.env)::backTo pos (starEach [] X.env):=by rfl) (k2:(backTo pos (starEach [e] X.env)).any (·.1)=false:=by rfl)
  (k3:(backToKw pos (keywordEach [⟨nm,.Constant .none j cp,p7⟩] X.env)).all (·.1.isSome)=true:=by rfl) (k4:(backToKw pos (keywordEach [⟨nm,.Constant .none j cp,p7⟩] X.env)).any (·.1.isNone)=false:=by rfl):
  Ev X (.Call (.Name "max" p) [e] [⟨nm,.Constant .none j cp,p7⟩] pos) (vE LU tA):=PE.imp (EY hc hg hm ha (wN Bu Bl) FV k1 k2 k3 k4) fun σ H Q zz=>(by
 obtain⟨W,M,α,δ,Qd,E,q,k⟩:=zz;refine⟨W,M,α,δ,_,E,q,fun es δ1 H1 vs zz E1 c1 r1=>?_⟩;obtain⟨ns,e1,q2,q3⟩:=zz;subst e1;obtain⟨x,rfl,rx⟩:=dE r1;obtain⟨a,zs,rfl,ha,n,rr⟩:=rx.dS;rw[ints_rep rr] at ha;refine⟨a,ns,.aN,rfl,rfl,ha,fun v hv=>?_⟩;rcases hv with ⟨h1,rfl⟩ | ⟨m,rfl,h1,h2⟩
 . exact k _ _ _ _ (q2 h1) E1 c1 .aN
 . exact k _ _ _ _ (q3 m h1 h2) E1 c1 (.int _))
end
end LD
namespace PySem
open Sem (wp)
open Builtin
theorem i5:fillsNumberSlot (.type "tuple") "mul"=pure false:=
 fillsNumberSlot_seq (id:="tuple.__mul__") (r:=some (.builtin "tuple.__rmul__")) F.slot_tuple_mul.lookup (by decide+kernel) F.slot_tuple_rmul.lookup (by decide+kernel)
theorem nM:seqRepeat? (.type "tuple")=pure (some (.builtin "tuple.__mul__")):=by
 unfold seqRepeat?;rw[seqSlot_of (T:="tuple") (name:="__mul__") (id:="tuple.__mul__") F.slot_tuple_mul.lookup (by decide+kernel),seqSlot_of (T:="tuple") (name:="__rmul__") (id:="tuple.__rmul__") F.slot_tuple_rmul.lookup (by decide+kernel)];rfl
theorem fg(a:Int)(t:Tok)(l:Addr)(items:Array Value)(n:Nat)(dd:Option Addr)(sl:Array (Option Value)):
  Meets (Builtin.«int.__rmul__» ⟨[.int a t,.ref l],[]⟩) (fun _ R s=>s.heap.get? l=some {cls:= .type "tuple",dict:=dd,data:= .seq items n,slots:=sl}/\R (.ok (.ret Value.notImplemented)) s):=
 .of_wp fun prog w A R s h=>by obtain⟨hp,g,d,tk,os⟩:=s;obtain⟨hl,h⟩:=h;wp_walk using aa7 hl;exact⟨_,rfl,h⟩
theorem rE(l:Addr)(items:Array Value)(n:Nat)(dd:Option Addr)(sl:Array (Option Value))(t:Tok):
  Meets (Builtin.«tuple.__mul__» ⟨[.ref l,.int 1 t],[]⟩) (fun _ R s=>s.heap.get? l=some {cls:= .type "tuple",dict:=dd,data:= .seq items n,slots:=sl}/\R (.ok (.ret (Value.ref l))) {s with heap:=s.heap,toks:=s.toks}):=
 .of_wp fun prog w A R s h=>by obtain⟨hp,g,d,tk,os⟩:=s;obtain⟨hl,h⟩:=h;have f1:=AutoSeq1.idx_int;wp_walk using aa7 hl;exact⟨_,rfl,h⟩
theorem rD(l:Addr)(items:Array Value)(n:Nat)(dd:Option Addr)(sl:Array (Option Value))(k:Int)(t:Tok)(KJ: ¬(decide (k < -(2^63)) || decide (k>=2^63))=true)(h1: ¬(items.isEmpty || k==1)=true)(h0: ¬(decide (k<=0) || items.isEmpty)=true)
  (KQ: ¬(items.size:Int)*k > (2^63 - 1) / 8) (NT: ¬Builtin.Tuple.tupleTooMany ((items.size:Int)*k)=true) (hsz:(List.foldl (fun x1 x2=>x1++x2) #[] (List.replicate k.toNat items)).size<=sizeLine):
  Meets (Builtin.«tuple.__mul__» ⟨[.ref l,.int k t],[]⟩) (fun _ R s=>s.heap.get? l=some {cls:= .type "tuple",dict:=dd,data:= .seq items n,slots:=sl}/\R (.ok (.ret (Value.ref s.heap.objs.size))) {s with heap:=s.heap.push {cls:=Value.type "tuple",data:=Data.seq (List.foldl (fun x1 x2=>x1++x2) #[] (List.replicate k.toNat items))},toks:=s.toks}):=
 .of_wp fun prog w A R s h=>by obtain⟨hp,g,d,tk,os⟩:=s;obtain⟨hl,h⟩:=h;have f1:=AutoSeq1.idx_int;wp_walk using aa7 hl;rw[if_neg KJ];dsimp only;wp_walk using aa7 hl;rw[if_neg KQ,if_neg NT];wp_walk using aa7 hl;exact⟨_,rfl,h⟩
end PySem
namespace L2
open PySem PySem.Spec PyProof.Rows HT
section
variable{X:Cx}
def Hc:R2:=fun x y H Q=> ∃l k xs,x= .ref l/\y= .int k/\H l=some (.tup xs)/\xs≠ []/\1<=k/\k < 2^63/\xs.length*k.toNat<=sizeLine/\ ∀p H',tZ H (List.replicate k.toNat xs).flatten p H'->Q (.ref p) H'
theorem Fg:jA X (binaryOp .Mult) Hc:=by
 intro pins s σ H x y v u Q I rx ry h;obtain⟨l,k,xs,rfl,rfl,hH,xm,h1,h2,hz,q⟩:=h;cases rx;obtain⟨t,rfl⟩:=ry;obtain⟨ao,r,p1,_⟩:=I.tuple (eV.of hH);obtain⟨⟨c1,d1,t1,l1⟩,a1,a2,n1,a3⟩:=id p1;simp only at a2 a3;subst a2 a3;have hv:ao≠ []:=fun z=>xm (r.p4.mp z);have hlen:ao.toArray.size*k.toNat<=sizeLine:=by rw[ZC,<-r.length];exact hz
 refine wpAny_binaryOp_repeat_ref (T:="tuple") (U:="int") (by decide) ⟨_,a1,rfl⟩ (fun s'=>typeIs_int s' k t) i5 F.fills_int_mul F.slot_int_rmul nM F.slot_int_index.lookup
  (aj9 F.slot_int_rmul (typeIs_int s k t) F.entry_int_rmul (F.args_int_rmul_2 _ _) (fg k t l ao.toArray n1 d1 l1) ⟨a1,rfl,⟨_,a1,rfl⟩,?_⟩)
 by_cases hk:k=1
 . subst hk;refine aj9 F.slot_tuple_mul ⟨_,a1,rfl⟩ F.entry_tuple_mul (F.args_tuple_mul_2 _ _) (rE l ao.toArray n1 d1 l1 t) ⟨a1,?_⟩;exact⟨.ref l,H,I,rfl,q l H (.inl ⟨rfl,by simpa using hH⟩)⟩
 . have FT : List.foldl (fun x1 x2 => x1 ++ x2) #[] (List.replicate k.toNat ao.toArray) = (List.replicate k.toNat ao).flatten.toArray := by
     have:=foldl_rep ao k.toNat [];rw[List.nil_append] at this;exact this
   have hmul:((ao.toArray.size:Int)*k)=((ao.toArray.size*k.toNat:Nat):Int):=by
    rw[Int.natCast_mul,Int.toNat_of_nonneg (by lia)]
   have PQ:(sizeLine:Nat)<=(2^63 - 1) / 8:=by decide
   refine aj9 F.slot_tuple_mul ⟨_,a1,rfl⟩ F.entry_tuple_mul (F.args_tuple_mul_2 _ _) (rD l ao.toArray n1 d1 l1 k t (by simp;lia) (by simp [hv,hk]) (by simp [hv];lia) (by rw[hmul];lia) (by rw[hmul];intro z;have z':=ZL z;lia) (by rw[FT,ZC,len_rep];rw[ZC,Nat.mul_comm] at hlen;exact hlen)) ⟨a1,?_⟩;rw[FT];refine⟨.ref s.heap.objs.size,_,I.laid (t':=s.toks) (o:= .tup (List.replicate k.toNat xs).flatten) (fun b ob q=>Zh _ q) (Zj _) ⟨by rw[len_rep,Nat.mul_comm];exact hz,_,r.rep _,nz.new _ _⟩,rfl,q _ _ (.inr ⟨I.aT.fresh (Zj _),rfl⟩)⟩
end
end L2
namespace LD
open PySem PySem.Spec L2 PyProof.Rows
section
variable{X:Cx}{a b:Expr}{ta tb:bq}{pos:Pos}
def DK:D2:=fun d1 d2 Q=> ∃ds k,d1= .tup ds/\d2= .int k/\ds≠ []/\1<=k/\k < 2^63/\ds.length*k.toNat<=sizeLine/\Q (.tup (List.replicate k.toNat ds).flatten)
theorem Gb:xV Hc DK:=fun M H x y d1 d2 Qd Q al r1 r2 cw k=>(by obtain⟨ds,n,e1,e2,ne,h1,h2,l,q⟩:=cw;exact(by
 subst e1;subst e2;obtain⟨a,xs,rfl,ha,nn,rr⟩:=r1.bJ;refine⟨a,n,xs,rfl,r2.ofInt,ha,fun z=>ne (by subst z;have:=rr.1;cases ds with | nil=>rfl | cons _ _=>simp at this),h1,h2,by rw[rr.1];exact l,fun p H' nt=>?_⟩;exact k H' _ _ q nt.keep (Rep.ik nt.at (al.JY nt) ((rr.rep _).same nt.keep))))
theorem Li(ha:Ev X a ta)(hb:Ev X b tb):Ev X (.BinOp a .Mult b pos) (nS DK ta tb):=tM Fg Gb ha hb
end
section
variable{X:Cx}{pos:Pos}
def CS(i j l:Nat):uh:=fun d δ Q=> ∃d1 d2 d3,d= .tup [d1,d2,d3]/\bC δ i/\bC (δ.set i (.im d1)) j/\bC ((δ.set i (.im d1)).set j (.im d2)) l/\Q (((δ.set i (.im d1)).set j (.im d2)).set l (.im d3))
theorem vg{i j l:Nat}{K:PySem.W.Frag}: ∀v σ H Q,lG (CS i j l) v σ H Q->y9 K 3 (eJ (bV i) (eJ (bV j) (eJ (bV l) vm))) v σ H Q:=fun v σ H Q fW=>(by obtain⟨W,M,α,δ,d,Qd,E,r,⟨d1,d2,d3,e,Fq,Fp,Nk,q⟩,k⟩:=fW;exact(by
 subst e;obtain⟨a,xs,rfl,ha,n,rr⟩:=r.bJ;obtain⟨x,ys,rfl,r2,r3⟩:=rr.aK;obtain⟨y,zs,rfl,r4,r5⟩:=r3.aK;obtain⟨z,ws,rfl,r6,r7⟩:=r5.aK;cases r7.cz;exact⟨a,_,rfl,eV.of ha,rfl,x,_,rfl,y,_,rfl,z,_,rfl,rfl,k _ _ _ q (((E.gw r2 Fq).gw r4 Fp).gw r6 Nk) fun x h=>bZ x (bZ x (bZ x h))⟩))
theorem qg(i j l:Nat)(hc:X.calm=true)(hN:X.N.Nodup)(hi:X.N[i]?=some x:=by rfl)(hj:X.N[j]?=some y:=by rfl)(hl:X.N[l]?=some z:=by rfl)(hx:Loc X.env.scope x:=by first | exact Or.inl rfl | exact Or.inr rfl)(hy:Loc X.env.scope y:=by first | exact Or.inl rfl | exact Or.inr rfl)(hz:Loc X.env.scope z:=by first | exact Or.inl rfl | exact Or.inr rfl)(hf:X.fn x=true\/X.env.scope.names.lookup x=some .local:=by first | exact .inl rfl | exact .inr rfl | assumption)(yV:X.fn y=true\/X.env.scope.names.lookup y=some .local:=by first | exact .inl rfl | exact .inr rfl | assumption)(Sf:X.fn z=true\/X.env.scope.names.lookup z=some .local:=by first | exact .inl rfl | exact .inr rfl | assumption)(hn:(assignEach [.Name x px, .Name y py, .Name z pz] X.env).length=3:=by rfl)(Ku:(assignEach [.Name x px, .Name y py, .Name z pz] X.env).findIdx? (·.1)=none:=by rfl)(h1:(assignEach [.Name x px, .Name y py, .Name z pz] X.env).map (·.2)=assign (.Name x px) X.env::(assignEach [.Name y py, .Name z pz] X.env).map (·.2):=by rfl)(h2:(assignEach [.Name y py, .Name z pz] X.env).map (·.2)=assign (.Name y py) X.env::(assignEach [.Name z pz] X.env).map (·.2):=by rfl)(h3:(assignEach [.Name z pz] X.env).map (·.2)=assign (.Name z pz) X.env::(assignEach [] X.env).map (·.2):=by rfl):
  Gv X (.Tuple [.Name x px,.Name y py,.Name z pz] kk pos) (CS i j l):=PG.imp (cT hc (aI (aE hN hi hx hf) (aI (aE hN hj hy yV) (aI (aE hN hl hz Sf) bR h3) h2) h1) hn Ku) vg
end
end LD
namespace LD
open PySem PySem.Spec L2 LB PyProof.Rows LW
section
variable{X:Cx}{a b e f:Expr}{ta tb:bq}{tA:gf}{p pos:Pos}
inductive DM(ds:List Dt)(Q:Dt->Prop):Prop
 | mk (i j:Int) (h1:ds= [.int i,.int j]) (h2:0 < j) (h3:j < 2^64) (h4:Q (.tup [.int (i / j),.int (i % j)]))
theorem qD:bootBuiltins "divmod"=some (.builtin "divmod"):=by decide+kernel
theorem C3(hm:X.mg "divmod"=none)(ha:Av X [e,f] tA)(hg:Gl X "divmod":=by rfl)(he:starEach [e,f] X.env=(false,eval e X.env)::starEach [f] X.env:=by rfl)(dq:(backTo pos (starEach [f] X.env)).any (·.1)=false:=by rfl):
  Ev X (.Call (.Name "divmod" p) [e,f] [] pos) (vE DM tA):=jq jy (fun M H xs ds Qd Q al r zz k=>(by
 obtain⟨i,j,e1,h2,h3,q⟩:=zz;subst e1;obtain⟨x,ys,rfl,r2,r3⟩:=r.aK;obtain⟨y,zs,rfl,r4,r5⟩:=r3.aK;cases r5.cz;cases r2.ofInt;cases r4.ofInt;refine⟨i,j,rfl,⟨h2,h3⟩,fun q1 hq=>?_⟩;exact k _ _ _ q (aD.new hq) (Rep.ik ag (al.fresh hq) (.cons (.int _) (.cons (.int _) .nil))))) hg hm qD ha (by decide) (by decide) he dq
end
section
variable{X:Cx}{pos:Pos}
inductive CT(i j l m:Nat)(d:Dt)(δ:List Sl)(Q:List Sl->Prop):Prop
 | mk (d1 d2 d3 d4:Dt) (h1:d= .tup [d1,d2,d3,d4]) (h2:bC δ i) (h3:bC (δ.set i (.im d1)) j) (h4:bC ((δ.set i (.im d1)).set j (.im d2)) l) (h5:bC (((δ.set i (.im d1)).set j (.im d2)).set l (.im d3)) m) (h6:Q ((((δ.set i (.im d1)).set j (.im d2)).set l (.im d3)).set m (.im d4)))
theorem vh{i j l m:Nat}{K:PySem.W.Frag}: ∀v σ H Q,lG (CT i j l m) v σ H Q->y9 K 4 (eJ (bV i) (eJ (bV j) (eJ (bV l) (eJ (bV m) vm)))) v σ H Q:=fun v σ H Q zz=>(by
 obtain⟨W,M,α,δ,d,Qd,E,r,⟨d1,d2,d3,d4,e,Fq,Fp,Nk,Wh,q⟩,k⟩:=zz;subst e;obtain⟨a,xs,rfl,ha,n,rr⟩:=r.bJ;obtain⟨x,ys,rfl,r2,r3⟩:=rr.aK;obtain⟨y,zs,rfl,r4,r5⟩:=r3.aK;obtain⟨z,ws,rfl,r6,r7⟩:=r5.aK;obtain⟨u,us,rfl,r8,r9⟩:=r7.aK;cases r9.cz;exact⟨a,_,rfl,eV.of ha,rfl,x,_,rfl,y,_,rfl,z,_,rfl,u,_,rfl,rfl,k _ _ _ q ((((E.gw r2 Fq).gw r4 Fp).gw r6 Nk).gw r8 Wh) fun x h=>bZ x (bZ x (bZ x (bZ x h)))⟩)
theorem K1(i j l m:Nat)(hc:X.calm=true)(hN:X.N.Nodup)(hi:X.N[i]?=some x:=by rfl)(hj:X.N[j]?=some y:=by rfl)(hl:X.N[l]?=some z:=by rfl)(hm:X.N[m]?=some u:=by rfl)(hx:Loc X.env.scope x:=by first | exact Or.inl rfl | exact Or.inr rfl)(hy:Loc X.env.scope y:=by first | exact Or.inl rfl | exact Or.inr rfl)(hz:Loc X.env.scope z:=by first | exact Or.inl rfl | exact Or.inr rfl)(hu:Loc X.env.scope u:=by first | exact Or.inl rfl | exact Or.inr rfl)(hf:X.fn x=true\/X.env.scope.names.lookup x=some .local:=by first | exact .inl rfl | exact .inr rfl | assumption)(yV:X.fn y=true\/X.env.scope.names.lookup y=some .local:=by first | exact .inl rfl | exact .inr rfl | assumption)(Sf:X.fn z=true\/X.env.scope.names.lookup z=some .local:=by first | exact .inl rfl | exact .inr rfl | assumption)(W4:X.fn u=true\/X.env.scope.names.lookup u=some .local:=by first | exact .inl rfl | exact .inr rfl | assumption)(hn:(assignEach [.Name x px, .Name y py, .Name z pz, .Name u pu] X.env).length=4:=by rfl)(Ku:(assignEach [.Name x px, .Name y py, .Name z pz, .Name u pu] X.env).findIdx? (·.1)=none:=by rfl)(h1:(assignEach [.Name x px, .Name y py, .Name z pz, .Name u pu] X.env).map (·.2)=assign (.Name x px) X.env::(assignEach [.Name y py, .Name z pz, .Name u pu] X.env).map (·.2):=by rfl)(h2:(assignEach [.Name y py, .Name z pz, .Name u pu] X.env).map (·.2)=assign (.Name y py) X.env::(assignEach [.Name z pz, .Name u pu] X.env).map (·.2):=by rfl)(h3:(assignEach [.Name z pz, .Name u pu] X.env).map (·.2)=assign (.Name z pz) X.env::(assignEach [.Name u pu] X.env).map (·.2):=by rfl)(h4:(assignEach [.Name u pu] X.env).map (·.2)=assign (.Name u pu) X.env::(assignEach [] X.env).map (·.2):=by rfl):
  Gv X (.Tuple [.Name x px,.Name y py,.Name z pz,.Name u pu] kk pos) (CT i j l m):=PG.imp (cT hc (aI (aE hN hi hx hf) (aI (aE hN hj hy yV) (aI (aE hN hl hz Sf) (aI (aE hN hm hu W4) bR h4) h3) h2) h1) hn Ku) vh
end
section
variable{X:Cx}
inductive OC(i:Nat)(δ:List Sl)(Q:Dt->List Sl->Prop):Prop
 | mk (ds:List Dt) (h1:δ[i]?=some (.ow ds)) (h2:Q .aN (δ.set i (.ow ds.reverse)))
theorem oU(i:Nat){xp apos cv:Pos}(ho:PE X (.Name x xp) (dM i))(gV:attributeBase (.Name x xp) "reverse" X.env (eval (.Name x xp) X.env)=eval (.Name x xp) X.env:=by rfl)(gT:(apos.endLine==cv.line)=true:=by rfl):
  Ev X (.Call (.Attribute (.Name x xp) "reverse" apos) [] [] cv) (OC i):=
 PE.imp (BB an9 PySem.F.slot_list_reverse PySem.F.type_list_reverse uZ ho gV gT) fun σ H Q zz=>(by
  obtain⟨W,M,α,δ,Qd,E,⟨ds,hd,q⟩,k⟩:=zz;obtain⟨a,xs,h1,h2,h3,r3⟩:=E.ow hd;refine⟨_,h1,.inl ⟨rfl,_,cX.of h3⟩,a,xs,rfl,rfl,h3,?_⟩;obtain⟨E2,c2⟩:=pX E hd h1 h2 r3.rev;exact k _ _ _ _ q E2 c2 .aN)
end
end LD
namespace iM
open PySem PySem.Spec L2 LB LD PyProof.Rows
abbrev Pr:=Nat × Nat
noncomputable def eM(n:Nat):List Pr:=(List.range (n - 1)).flatMap fun k=>(List.range (n - (k+1))).map fun j=>(j+1,j+1+(k+1))
theorem fL:p∈eM n↔1<=p.1/\p.1 < p.2/\p.2<=n:=by
 unfold eM;constructor
 . intro h;obtain⟨k,hk,h⟩:=ab9.mp h;obtain⟨j,hj,rfl⟩:=ZF.mp h;have:=ad3.mp hk;have:=ad3.mp hj;exact⟨by dsimp only;lia,by dsimp only;lia,by dsimp only;lia⟩
 . rintro⟨h1,h2,h3⟩
   refine ab9.mpr ⟨p.2 - p.1 - 1,ad3.mpr (by lia),ZF.mpr ⟨p.1 - 1,ad3.mpr (by lia),?_⟩⟩;obtain⟨a,b⟩:=p;simp only at h1 h2 h3 ⊢;rw[show a - 1+1=a by lia,show a+(b - a - 1+1)=b by lia]
def lo(p q:Pr):Prop:=p.2 - p.1 < q.2 - q.1\/(p.2 - p.1=q.2 - q.1/\p.1 < q.1)
theorem Dp(n:Nat):(eM n).Pairwise lo:=by
 unfold eM;rw[List.pairwise_flatMap];refine⟨fun k _=>?_,?_⟩
 . rw[ao4];refine List.pairwise_lt_range.imp fun h=> .inr ⟨?_,?_⟩
   . show _+1+(k+1) - (_+1)=_+1+(k+1) - (_+1);lia
   . show _+1 < _+1;lia
 . refine List.pairwise_lt_range.imp fun h x hx y hy=> .inl ?_;obtain⟨j,_,rfl⟩:=ZF.mp hx;obtain⟨i,_,rfl⟩:=ZF.mp hy;show _+1+(_+1) - (_+1) < _+1+(_+1) - (_+1);lia
theorem tS(h:(eM n)[i]?=some p)(hq:q∈eM n)(l:q.2 - q.1 < p.2 - p.1):q∈(eM n).take i:=by
 obtain⟨j,hj,rfl⟩:=aa5 hq;obtain⟨hi,rfl⟩:=Zq.mp h;have lt:j < i:=by
  rcases Nat.lt_trichotomy j i with c | c | c
  . exact c
  . subst c;lia
  . have:=ae5.mp (Dp n) i j hi hj c;unfold lo at this;lia
 exact List.mem_take_iff_getElem.mpr ⟨j,by lia,rfl⟩
theorem qB(h:(eM n)[i]?=some p):p∉(eM n).take i:=fun z=>by
 obtain⟨hi,rfl⟩:=Zq.mp h;obtain⟨j,hj,e⟩:=List.mem_take_iff_getElem.mp z;have:=ae5.mp (Dp n) j i (by lia) hi (by lia);rw[e] at this;unfold lo at this;lia
noncomputable def pk(p:Pr):List Key:= [.inl (p.1:Int),.inl (p.2:Int)]
theorem Bm(h:pk p=pk q):p=q:=by
 unfold pk at h;injection h with h1 h2
 injection h2 with h2 _
 injection h1 with h1
 injection h2 with h2
 exact Prod.ext (by lia) (by lia)
theorem dB: ∀{L:List Pr},p∈L->x6 (L.map pk) (L.map g) (pk p)=some (g p)
 | q::L,h=>by
  rw[Zx,Zx,x6];by_cases c:pk q=pk p
  . rw[if_pos c,Bm c]
  . rw[if_neg c];exact dB ((ZS.mp h).elim (fun z=>absurd (by rw[z]) c) id)
theorem JF{p:Pr}{L:List Pr}(h:p∉L):pk p∉L.map pk:=fun z=>by
 obtain⟨q,hq,e⟩:=ZF.mp z;exact h (Bm e▸hq)
noncomputable def dg(n:Nat):List Pr:=(List.range' 1 n).map fun i=>(i,i)
theorem p6:p∈dg n↔p.1=p.2/\1<=p.1/\p.1<=n:=by
 unfold dg;constructor
 . intro h;obtain⟨i,hi,rfl⟩:=ZF.mp h;have:=ab3.mp hi;exact⟨rfl,by simp;lia,by simp;lia⟩
 . rintro⟨h1,h2,h3⟩
   exact ZF.mpr ⟨p.1,ab3.mpr ⟨by lia,by lia⟩,Prod.ext rfl h1⟩
theorem CQ(h:(eM n)[i]?=some p):p∉dg n++(eM n).take i:=fun z=>by
 have:=fL.mp (ZT h);rcases Zz.mp z with z | z
 . have:=p6.mp z;lia
 . exact qB h z
theorem xP(e:(eM n)[i]?=some (l,h))(h1:l<=a)(h2:a<=b)(h3:b<=h)(h4:b - a < h - l):(a,b)∈dg n++(eM n).take i:=by
 have m:=fL.mp (ZT e);simp only at m;by_cases c:a=b
 . exact ZX _ (p6.mpr ⟨c,by simp;lia,by simp;lia⟩)
 . exact Zw _ (tS e (fL.mpr ⟨by simp;lia,by simp;lia,by simp;lia⟩) h4)
theorem Ts(e:(eM n)[i]?=some (l,h))(h1:l<=a)(h2:a < b)(h3:b<=h)(h4:b - a < h - l):(a,b)∈(eM n).take i:=by
 have m:=fL.mp (ZT e);simp only at m;exact tS e (fL.mpr ⟨by simp;lia,by simp;lia,by simp;lia⟩) h4
theorem take_snoc(h:(eM n)[i]?=some p):(eM n).take (i+1)=(eM n).take i++ [p]:=by rw[ai3,h];rfl
noncomputable def hk(i:Nat):Int:=reduceHash (Builtin.Tuple.tupleHashOf [hashInt (i:Int),hashInt (i:Int)])
theorem FY(P:Program)(w:World)(i:Nat):sX P w (pk (i,i))=hk i:=by rfl
theorem Cn:((List.range' 1 12).map hk).Nodup:=by decide+kernel
theorem yA{f:Nat->Int}(UO:((List.range' 1 m).map f).Nodup)(h:n<=m):((List.range' 1 n).map f).Nodup:=by
 have e:List.range' 1 m=List.range' 1 n++List.range' (1+n) (m - n):=by
  rw[ai5,Nat.add_sub_cancel' h]
 rw[e,ZA] at UO;exact UO.sublist (List.sublist_append_left _ _)
theorem Lg(f:List Key->Int)(n:Nat):((dg n).map pk).map f=(List.range' 1 n).map fun i=>f (pk (i,i)):=by
 unfold dg;rw[ZP,ZP];rfl
theorem xy(P:Program)(w:World)(h:n<=12):(((dg n).map pk).map (sX P w)).Nodup:=by
 have e1:=Lg (sX P w) n;have e2:((List.range' 1 n).map fun i=>sX P w (pk (i,i)))=(List.range' 1 n).map hk:=ZK fun i _=>FY P w i;exact(e1.trans e2)▸yA Cn h
section
variable{α:Type}
noncomputable def nN(jn:List α->α)(rg lf:Nat->Nat->α)(l h:Nat):List α:=(List.range' l (h - l)).map fun a=>jn [rg l a,lf (a+1) h]
noncomputable def Jv(jn:List α->α)(rg rt:Nat->Nat->α)(l h:Nat):List α:=(List.range' (l+1) (h - l)).map fun a=>jn [rt l a,rg a h]
noncomputable def Kb(jn:List α->α)(lf lt:Nat->Nat->α)(l h:Nat):List α:=(List.range' l (h - l)).map fun a=>jn [lf l a,lt a h]
noncomputable def toV(jn:List α->α)(w lf rg:Nat->Nat->α)(n:Nat):List α:=(List.range' 1 n).map fun t=>jn [w t 0,lf 1 t,rg t n]
structure Tz(oJ oC:List α->Prop)(jn ch:List α->α)(n:Nat)(w rg rt lf lt:Nat->Nat->α):Prop where
 j0:oJ []
 r0: ∀l,rg l l=jn []
 l0: ∀l,lf l l=jn []
 ji: ∀l a h,1<=l->l<=a->a < h->h<=n->oJ [rg l a,lf (a+1) h]
 ci: ∀l h,1<=l->l < h->h<=n->oC (nN jn rg lf l h)
 jr: ∀l h,1<=l->l < h->h<=n->oJ [w h l,ch (nN jn rg lf l h)]
 er: ∀l h,1<=l->l < h->h<=n->rt l h=jn [w h l,ch (nN jn rg lf l h)]
 jl: ∀l h,1<=l->l < h->h<=n->oJ [w l h,ch (nN jn rg lf l h)]
 el: ∀l h,1<=l->l < h->h<=n->lt l h=jn [w l h,ch (nN jn rg lf l h)]
 jR: ∀l a h,1<=l->l < a->a<=h->h<=n->oJ [rt l a,rg a h]
 cR: ∀l h,1<=l->l < h->h<=n->oC (Jv jn rg rt l h)
 eR: ∀l h,1<=l->l < h->h<=n->rg l h=ch (Jv jn rg rt l h)
 jL: ∀l a h,1<=l->l<=a->a < h->h<=n->oJ [lf l a,lt a h]
 cL: ∀l h,1<=l->l < h->h<=n->oC (Kb jn lf lt l h)
 eL: ∀l h,1<=l->l < h->h<=n->lf l h=ch (Kb jn lf lt l h)
 jt: ∀t,1<=t->t<=n->oJ [w t 0,lf 1 t,rg t n]
 ct:oC (toV jn w lf rg n)
variable (D:α->Dt)
def oP(ok:List α->Prop)(f:List α->α):DN:=fun ds Q=> ∃L:List α,ds= [.lst (L.map D)]/\ok L/\Q (D (f L))
noncomputable def Gg(L:List Pr)(f:Nat->Nat->α):Dt:= .kC (L.map pk) (L.map fun p=>D (f p.1 p.2))
noncomputable def rT(n:Nat)(w:Nat->Nat->α)(i:Nat):Dt:= .tup ((List.range (n+1)).map fun o=>D (w i o))
noncomputable def Ja(n:Nat)(w:Nat->Nat->α):Dt:= .tup ((List.range' 1 n).map (rT D n w))
theorem pQ{n:Nat}{w:Nat->Nat->α}{i x:Nat}(h:x<=n):iK ((List.range (n+1)).map fun o=>D (w i o)) (x:Int)=some (D (w i x)):=
 a0 (j:=x) (by rw[Zo,ad0 (by omega)];rfl)
theorem wb{n:Nat}{w:Nat->Nat->α}{x:Nat}(h1:1<=x)(h:x<=n):iK ((List.range' 1 n).map (rT D n w)) ((x:Int) - 1)=some (rT D n w x):=by
 rw[show(x:Int) - 1=((x - 1:Nat):Int) by omega];exact a0 (j:=x - 1) (by rw[Zo,af2 (by omega),show 1+1*(x - 1)=x by omega];rfl)
end
end iM
namespace LD
open PySem PySem.Spec L2 LB PyProof.Rows
theorem x5{Δ:cO}(I:Nat->List Sl->Prop)(h0: ∃m,I m δ)(h: ∀m δ,I m δ-> ∀Δ':cO,(∀m' δ',m' < m->I m' δ'->Δ'.nx δ')->(∀d δ',Δ.rt d δ'->Δ'.rt d δ')->u δ fun b δ1=>if b=true then tb Δ' δ1 else Δ.nx δ1):C5 u tb Δ δ:=
 ⟨I,h0,fun m δ hI=>h m δ hI _ (fun m' δ' hm hi=>⟨m',hm,hi⟩) fun _ _ z=>z⟩
theorem cG{ao:List Dt}{g:uh}{tb:jF}{Δ:cO}(I:Nat->List Sl->Prop)(h0:I 0 δ1)(h: ∀i d δ2,ao[i]?=some d->I i δ2-> ∀Δ':cO,(∀δ',I (i+1) δ'->Δ'.nx δ')->(∀d δ',Δ.rt d δ'->Δ'.rt d δ')->g d δ2 fun δ3=>tb Δ' δ3)(fin: ∀δ2,I ao.length δ2->Δ.nx δ2):
  ∃P:Nat->List Sl->Prop,P 0 δ1/\(∀i d δ2,ao[i]?=some d->P i δ2->g d δ2 fun δ3=>tb {Δ with nx:=P (i+1),ct:=P (i+1),bk:=Δ.nx} δ3)/\ ∀δ2,P ao.length δ2->Δ.nx δ2:=
 ⟨I,h0,fun i d δ2 e hI=>h i d δ2 e hI _ (fun _ z=>z) fun _ _ z=>z,fin⟩
end LD
namespace t5
abbrev Wo:=Option Int
noncomputable def ad:Wo->Wo->Wo
 | some a,some b=>some (a+b)
 | _,_=>none
noncomputable def mx:Wo->Wo->Wo
 | some a,some b=>some (max a b)
 | some a,none=>some a
 | none,y=>y
noncomputable def hZ:List Wo->Wo
 | []=>some 0
 | x::xs=>ad x (hZ xs)
noncomputable def fm:List Wo->Wo
 | []=>none
 | x::xs=>mx x (fm xs)
theorem nh(x y z:Wo):ad (ad x y) z=ad x (ad y z):=by cases x <;> cases y <;> cases z <;> simp [ad,Int.add_assoc]
theorem kX(x y:Wo):ad x y=ad y x:=by cases x <;> cases y <;> simp [ad,Int.add_comm]
theorem GL(x:Wo):ad (some 0) x=x:=by cases x <;> simp [ad]
theorem ng(x:Wo):ad x (some 0)=x:=by cases x <;> simp [ad]
theorem xQ(x:Wo):ad x none=none:=by cases x <;> rfl
theorem wV(x:Wo):mx x none=x:=by cases x <;> rfl
theorem BW(x y z:Wo):mx (mx x y) z=mx x (mx y z):=by cases x <;> cases y <;> cases z <;> simp [mx] <;> lia
theorem Iw(x y z:Wo):ad x (mx y z)=mx (ad x y) (ad x z):=by cases x <;> cases y <;> cases z <;> simp [ad,mx] <;> lia
theorem Nt(x y z:Wo):ad (mx y z) x=mx (ad y x) (ad z x):=by rw[kX,Iw,kX x y,kX x z]
theorem Ek(l m:List Wo):hZ (l++m)=ad (hZ l) (hZ m):=by
 induction l with
 | nil=>simp [hZ,GL]
 | cons x xs ih=>show ad x (hZ (xs++m))=_;rw[ih,hZ,nh]
theorem F4(l m:List Wo):fm (l++m)=mx (fm l) (fm m):=by
 induction l with
 | nil=>rfl
 | cons x xs ih=>show mx x (fm (xs++m))=_;rw[ih,fm,BW]
theorem Ar{l m:List Wo}(h:l.Perm m):hZ l=hZ m:=by
 induction h with
 | nil=>rfl
 | cons x _ ih=>rw[hZ,hZ,ih]
 | swap x y l=>rw[hZ,hZ,hZ,hZ,<-nh,<-nh,kX y x]
 | trans _ _ i1 i2=>rw[i1,i2]
theorem jd:fm l=none↔ ∀x∈l,x=none:=by
 induction l with
 | nil=>simp [fm]
 | cons x xs ih=>
  cases x with
  | none=>
   show fm xs=none↔_;rw[ih];exact⟨fun h y hy=>(ZS.mp hy).elim id (h y),fun h y hy=>h y (Zn _ hy)⟩
  | some a=>
   refine⟨fun h=>?_,fun h=>?_⟩
   . cases e:fm xs with
     | none=>rw[fm,e] at h;cases h
     | some b=>rw[fm,e] at h;cases h
   . have:=h _ Zu;cases this
theorem kS: ∀{l:List Wo} {v:Int},fm l=some v->some v∈l
 | x::xs,v,h=>by
  cases x with
  | none=>exact Zn _ (kS (by simpa [fm,mx] using h))
  | some a=>
   cases e:fm xs with
   | none=>rw[fm,e] at h;cases h;exact Zu
   | some b=>
    rw[fm,e] at h;have hv:max a b=v:=Option.some.inj h;by_cases c:a<=b
    . have:b=v:=by lia
      rw[this] at e;exact Zn _ (kS e)
    . have:a=v:=by lia
      rw[this];exact Zu
theorem Cu: ∀{l:List Wo} {v u:Int},fm l=some v->some u∈l->u<=v
 | x::xs,v,u,h,hu=>by
  rcases ZS.mp hu with e | hu
  . subst e;cases e:fm xs with
    | none=>rw[fm,e] at h;cases h;exact ad6 _
    | some b=>rw[fm,e] at h;have:max u b=v:=Option.some.inj h;lia
  . cases e:fm xs with
    | none=>have:=jd.mp e _ hu;cases this
    | some b=>
     have i:=Cu e hu;cases x with
     | none=>rw[fm,e] at h;cases h;exact i
     | some a=>rw[fm,e] at h;have:max a b=v:=Option.some.inj h;lia
theorem fq{α β:Type}{f g:α->List β}: ∀{l:List α},(∀a∈l,f a=g a)->l.flatMap f=l.flatMap g
 | [],_=>rfl
 | a::l,h=>by rw[ak8,ak8,h a Zu,fq fun b hb=>h b (Zn _ hb)]
abbrev Way:=List (Nat × Nat)
noncomputable def wt(w:Nat->Nat->Wo)(a:Way):Wo:=hZ (a.map fun p=>w p.1 p.2)
noncomputable def ev(w:Nat->Nat->Wo)(S:List Way):Wo:=fm (S.map (wt w))
noncomputable def pr(S T:List Way):List Way:=S.flatMap fun a=>T.map fun b=>a++b
theorem IP(w:Nat->Nat->Wo)(a b:Way):wt w (a++b)=ad (wt w a) (wt w b):=by unfold wt;rw[ZA,Ek]
theorem CD(w:Nat->Nat->Wo)(S T:List Way):ev w (S++T)=mx (ev w S) (ev w T):=by unfold ev;rw[ZA,F4]
theorem F6(w:Nat->Nat->Wo)(a:Way)(T:List Way):ev w (T.map fun b=>a++b)=ad (wt w a) (ev w T):=by
 induction T with
 | nil=>exact(xQ _).symm
 | cons b T ih=>
  show mx (wt w (a++b)) (ev w (T.map fun b=>a++b))=ad (wt w a) (mx (wt w b) (ev w T));rw[ih,IP,Iw]
theorem kc(w:Nat->Nat->Wo)(S T:List Way):ev w (pr S T)=ad (ev w S) (ev w T):=by
 induction S with
 | nil=>rfl
 | cons a S ih=>
  show ev w ((T.map fun b=>a++b)++pr S T)=ad (mx (wt w a) (ev w S)) (ev w T);rw[CD,F6,ih,Nt]
theorem jh(w:Nat->Nat->Wo)(L:List Nat)(f:Nat->List Way):ev w (L.flatMap f)=fm (L.map fun x=>ev w (f x)):=by
 induction L with
 | nil=>rfl
 | cons x L ih=>rw[ak8,CD,ih];rfl
theorem K8(w:Nat->Nat->Wo)(a:Way):ev w [a]=wt w a:=wV _
theorem qi(w:Nat->Nat->Wo)(i o:Nat):ev w [[(i,o)]]=w i o:=by rw[K8];exact ng _
structure vP where
 rg:List Way
 rt:List Way
 lf:List Way
 lt:List Way
noncomputable def xf(q:Nat->Nat->vP)(l h:Nat):List Way:=(List.range' l (h - l)).flatMap fun at'=>pr (q l at').rg (q (at'+1) h).lf
noncomputable def Rv(q:Nat->Nat->vP)(rt:List Way)(l h:Nat):List Way:=(List.range' (l+1) (h - l)).flatMap fun a=>pr (if a=h then rt else(q l a).rt) (if a=h then [[]] else(q a h).rg)
noncomputable def Rw(q:Nat->Nat->vP)(lt:List Way)(l h:Nat):List Way:=(List.range' l (h - l)).flatMap fun a=>pr (if a=l then [[]] else(q l a).lf) (if a=l then lt else(q a h).lt)
noncomputable def Nv(q:Nat->Nat->vP)(l h:Nat):vP:=⟨Rv q (pr [[(h,l)]] (xf q l h)) l h,pr [[(h,l)]] (xf q l h),Rw q (pr [[(l,h)]] (xf q l h)) l h,pr [[(l,h)]] (xf q l h)⟩
noncomputable def sp:Nat->Nat->Nat->vP
 | 0,_,_=>⟨[[]],[],[[]],[]⟩
 | d+1,l,h=>if h<=l+d then sp d l h else Nv (sp d) l h
noncomputable def Q(l h:Nat):vP:=sp (h - l) l h
theorem G6: ∀(d l h:Nat),h<=l+d->sp d l h=Q l h
 | 0,l,h,hd=>by unfold Q;rw[show h - l=0 by lia]
 | d+1,l,h,hd=>by
  by_cases c:h<=l+d
  . rw[sp,if_pos c];exact G6 d l h c
  . unfold Q;rw[show h - l=d+1 by lia]
theorem nq(l:Nat):Q l l=⟨[[]],[],[[]],[]⟩:=by unfold Q;rw[Nat.sub_self];rfl
theorem yF(e: ∀a b,l<=a->b<=h->b - a < h - l->q a b=r a b):Nv q l h=Nv r l h:=by
 have ei:xf q l h=xf r l h:=by
  unfold xf;refine fq fun a ha=>?_;have:=ab3.mp ha;rw[e l a (by lia) (by lia) (by lia),e (a+1) h (by lia) (by lia) (by lia)]
 have er: ∀x,Rv q x l h=Rv r x l h:=fun x=>fq fun a ha=>by
  have:=ab3.mp ha;by_cases c:a=h
  . rw[if_pos c,if_pos c,if_pos c,if_pos c]
  . rw[if_neg c,if_neg c,if_neg c,if_neg c,e l a (by lia) (by lia) (by lia),e a h (by lia) (by lia) (by lia)]
 have el: ∀x,Rw q x l h=Rw r x l h:=fun x=>fq fun a ha=>by
  have:=ab3.mp ha;by_cases c:a=l
  . rw[if_pos c,if_pos c,if_pos c,if_pos c]
  . rw[if_neg c,if_neg c,if_neg c,if_neg c,e l a (by lia) (by lia) (by lia),e a h (by lia) (by lia) (by lia)]
 unfold Nv;rw[ei,er,el]
theorem dr(lt:l < h):Q l h=Nv Q l h:=by
 obtain⟨d,e⟩: ∃d,h - l=d+1:=⟨h - l - 1,by lia⟩
 unfold Q;rw[e,sp,if_neg (by lia)];exact yF fun a b h1 h2 h3=>G6 d a b (by lia)
theorem Jo(w:Nat->Nat->Wo)(lt:l < h):ev w (Q l h).rt=ad (w h l) (fm ((List.range' l (h - l)).map fun a=>ad (ev w (Q l a).rg) (ev w (Q (a+1) h).lf))):=by
 rw[dr lt];show ev w (pr [[(h,l)]] (xf Q l h))=_;rw[kc,qi];unfold xf;rw[jh];congr 2
 exact ZK fun a _=>kc _ _ _
theorem J7(w:Nat->Nat->Wo)(lt:l < h):ev w (Q l h).lt=ad (w l h) (fm ((List.range' l (h - l)).map fun a=>ad (ev w (Q l a).rg) (ev w (Q (a+1) h).lf))):=by
 rw[dr lt];show ev w (pr [[(l,h)]] (xf Q l h))=_;rw[kc,qi];unfold xf;rw[jh];congr 2
 exact ZK fun a _=>kc _ _ _
theorem Ju(w:Nat->Nat->Wo)(lt:l < h):ev w (Q l h).rg=fm ((List.range' (l+1) (h - l)).map fun a=>ad (ev w (Q l a).rt) (ev w (Q a h).rg)):=by
 have er:(Q l h).rg=(List.range' (l+1) (h - l)).flatMap fun a=>pr (Q l a).rt (Q a h).rg:=by
  conv=>lhs;rw[dr lt]
  show(List.range' (l+1) (h - l)).flatMap _=_;refine fq fun a ha=>?_;by_cases c:a=h
  . subst c;rw[if_pos rfl,if_pos rfl,nq];congr 1
    rw[dr lt];rfl
  . rw[if_neg c,if_neg c]
 rw[er,jh];congr 1
 exact ZK fun a _=>kc _ _ _
theorem Ka(w:Nat->Nat->Wo)(lt:l < h):ev w (Q l h).lf=fm ((List.range' l (h - l)).map fun a=>ad (ev w (Q l a).lf) (ev w (Q a h).lt)):=by
 have er:(Q l h).lf=(List.range' l (h - l)).flatMap fun a=>pr (Q l a).lf (Q a h).lt:=by
  conv=>lhs;rw[dr lt]
  show(List.range' l (h - l)).flatMap _=_;refine fq fun a ha=>?_;by_cases c:a=l
  . subst c;rw[if_pos rfl,if_pos rfl,nq];congr 1
    rw[dr lt];rfl
  . rw[if_neg c,if_neg c]
 rw[er,jh];congr 1
 exact ZK fun a _=>kc _ _ _
noncomputable def ws(a:Way):List Nat:=a.map (·.1)
structure kY(S:List Way)(lo n m:Nat):Prop where
 c: ∀a∈S,(ws a).Perm (List.range' lo n)/\ ∀p∈a,p.2<=m
theorem jS(h1:kY S lo n m)(h2:kY T (lo+n) k m):kY (pr S T) lo (n+k) m:=⟨fun a ha=>by
 obtain⟨x,hx,ha⟩:=ab9.mp ha;obtain⟨y,hy,rfl⟩:=ZF.mp ha;refine⟨?_,fun p hp=>(Zz.mp hp).elim ((h1.c x hx).2 p) ((h2.c y hy).2 p)⟩;unfold ws;rw[ZA,<-ai5];exact(h1.c x hx).1.append (h2.c y hy).1⟩
theorem mU{L:List Nat}{f:Nat->List Way}{lo n m:Nat}(h: ∀x∈L,kY (f x) lo n m):kY (L.flatMap f) lo n m:=⟨fun a ha=>by
 obtain⟨x,hx,ha⟩:=ab9.mp ha;exact(h x hx).c a ha⟩
theorem kW:kY [[]] lo 0 m:=⟨fun a ha=>by rw[Zl.mp ha];exact⟨.nil,fun p hp=>absurd hp Zi⟩⟩
theorem qu(h:o<=m):kY [[(i,o)]] i 1 m:=⟨fun a ha=>by
 rw[Zl.mp ha];exact⟨.refl _,fun p hp=>by rw[Zl.mp hp];exact h⟩⟩
theorem kY.cast(h:kY S lo n m)(e1:lo=Wt)(e2:n=n'):kY S Wt n' m:=by subst e1;subst e2;exact h
theorem Dh(h1:kY S (lo+k) n m)(h2:kY T lo k m):kY (pr S T) lo (n+k) m:=⟨fun a ha=>by
 obtain⟨x,hx,ha⟩:=ab9.mp ha;obtain⟨y,hy,rfl⟩:=ZF.mp ha;refine⟨?_,fun p hp=>(Zz.mp hp).elim ((h1.c x hx).2 p) ((h2.c y hy).2 p)⟩;unfold ws;rw[ZA,Nat.add_comm n k,<-ai5];exact List.perm_append_comm.trans ((h2.c y hy).1.append (h1.c x hx).1)⟩
theorem Io: ∀(d l h:Nat),h - l=d->l<=h->h<=m->kY (Q l h).rg (l+1) (h - l) m/\kY (Q l h).lf l (h - l) m/\(l < h->kY (Q l h).rt (l+1) (h - l) m/\kY (Q l h).lt l (h - l) m):=fun d=>by
 induction d using Nat.strongRecOn with
 | _ d ih=>
  intro l h hd hl hm;by_cases c:l=h
  . subst c;rw[nq,Nat.sub_self];exact⟨kW,kW,fun z=>absurd z (Z7 _)⟩
  have lt:l < h:=by lia
  have hi:kY (xf Q l h) (l+1) (h - l - 1) m:=mU fun a ha=>by
   have:=ab3.mp ha;have h1:=(ih (a - l) (by lia) l a rfl (by lia) (by lia)).1;have h2:=(ih (h - (a+1)) (by lia) (a+1) h rfl (by lia) (by lia)).2.1;exact(jS h1 (h2.cast (by lia) rfl)).cast rfl (by lia)
  have HC:kY (Q l h).rt (l+1) (h - l) m:=by
   rw[dr lt];show kY (pr [[(h,l)]] (xf Q l h)) _ _ _;have h1:kY [[(h,l)]] (l+1+(h - l - 1)) 1 m:=(qu (by lia)).cast (by lia) rfl;exact(Dh h1 hi).cast rfl (by lia)
  have dX:kY (Q l h).lt l (h - l) m:=by
   rw[dr lt];show kY (pr [[(l,h)]] (xf Q l h)) _ _ _;exact(jS (qu (by lia)) hi).cast rfl (by lia)
  refine⟨?_,?_,fun _=>⟨HC,dX⟩⟩
  . rw[dr lt];refine mU fun a ha=>?_;have:=ab3.mp ha;by_cases e:a=h
    . rw[if_pos e,if_pos e];rw[dr lt] at HC;exact(jS HC kW).cast rfl (by lia)
    . rw[if_neg e,if_neg e];have h1:=((ih (a - l) (by lia) l a rfl (by lia) (by lia)).2.2 (by lia)).1;have h2:=(ih (h - a) (by lia) a h rfl (by lia) hm).1;exact(jS h1 (h2.cast (by lia) rfl)).cast rfl (by lia)
  . rw[dr lt];refine mU fun a ha=>?_;have:=ab3.mp ha;by_cases e:a=l
    . rw[if_pos e,if_pos e];rw[dr lt] at dX;exact(jS kW dX).cast rfl (by lia)
    . rw[if_neg e,if_neg e];have h1:=(ih (a - l) (by lia) l a rfl (by lia) (by lia)).2.1;have h2:=((ih (h - a) (by lia) a h rfl (by lia) hm).2.2 (by lia)).2;exact(jS h1 (h2.cast (by lia) rfl)).cast rfl (by lia)
noncomputable def GP(n:Nat):List Way:=(List.range' 1 n).flatMap fun t=>pr [[(t,0)]] (pr (Q 1 t).lf (Q t n).rg)
theorem Ei(w:Nat->Nat->Wo)(n:Nat):ev w (GP n)=fm ((List.range' 1 n).map fun t=>ad (w t 0) (ad (ev w (Q 1 t).lf) (ev w (Q t n).rg))):=by
 unfold GP;rw[jh];congr 1
 exact ZK fun t _=>by rw[kc,qi,kc]
theorem xH(n:Nat): ∀a∈GP n,(ws a).Perm (List.range' 1 n)/\ ∀p∈a,p.2<=n:=fun a ha=>by
 obtain⟨t,ht,ha⟩:=ab9.mp ha;have:=ab3.mp ht;have h1:=(Io (m:=n) (t - 1) 1 t rfl (by lia) (by lia)).2.1;have h2:=(Io (m:=n) (n - t) t n rfl (by lia) (Zj _)).1;have h3:kY [[(t,0)]] t 1 n:=qu (ZV _);obtain⟨x,hx,ha⟩:=ab9.mp ha;obtain⟨y,hy,rfl⟩:=ZF.mp ha;obtain⟨u,hu,hy⟩:=ab9.mp hy;obtain⟨v,hv,rfl⟩:=ZF.mp hy;refine⟨?_,fun p hp=>?_⟩
 . have p1:=(h1.c u hu).1;have p2:=(h2.c v hv).1;have p3:=(h3.c x hx).1;unfold ws at p1 p2 p3 ⊢;rw[ZA,ZA];have e:List.range' 1 n=List.range' 1 (t - 1)++(List.range' t 1++List.range' (t+1) (n - t)):=by
    have a1:List.range' t 1++List.range' (t+1) (n - t)=List.range' t (1+(n - t)):=ai5 ..;have a2:List.range' 1 (t - 1)++List.range' (1+(t - 1)) (1+(n - t))=List.range' 1 ((t - 1)+(1+(n - t))):=ai5 ..;rw[a1];rw[show(1:Nat)+(t - 1)=t by lia] at a2;rw[a2];congr 1
    lia
   rw[e];refine(p3.append (p1.append p2)).trans ?_;rw[<-Z0,<-Z0];exact List.perm_append_comm.append_right _
 . rcases Zz.mp hp with hp | hp
   . exact(h3.c x hx).2 p hp
   . rcases Zz.mp hp with hp | hp
     . exact(h1.c u hu).2 p hp
     . exact(h2.c v hv).2 p hp
noncomputable def gq(w:Nat->Nat->Wo):Nat->List Nat->Wo
 | _,[]=>some 0
 | i,x::xs=>ad (w i x) (gq w (i+1) xs)
noncomputable abbrev jG (w:Nat->Nat->Wo) (h:List Nat):Wo:=gq w 1 h
noncomputable def lk(a:Way)(i:Nat):Nat:=(a.lookup i).getD 0
noncomputable def FZ(n:Nat)(a:Way):List Nat:=(List.range' 1 n).map (lk a)
theorem qX(w:Nat->Nat->Wo)(f:Nat->Nat): ∀(n i:Nat),gq w i ((List.range' i n).map f)=hZ ((List.range' i n).map fun j=>w j (f j))
 | 0,_=>rfl
 | n+1,i=>by rw[al7,Zx,Zx,gq,hZ,qX w f n (i+1)]
theorem lookup_mem: ∀{a:Way} {p:Nat × Nat},(ws a).Nodup->p∈a->a.lookup p.1=some p.2
 | q::a,p,nd,h=>by
  unfold ws at nd;rw[Zx,af4] at nd;obtain⟨qa,qb⟩:=q;rcases ZS.mp h with e | h
  . subst e;simp [Z3]
  . have ne:p.1≠qa:=fun z=>nd.1 (by rw[<-z];exact ZF.mpr ⟨p,h,rfl⟩);have:(p.1==qa)=false:=ac0.mpr ne;rw[Z3,this];exact lookup_mem nd.2 h
theorem D9(w:Nat->Nat->Wo)(h:(ws a).Perm (List.range' 1 n)):wt w a=jG w (FZ n a):=by
 have nd:(ws a).Nodup:=h.nodup_iff.mpr List.nodup_range';unfold jG FZ;rw[qX];have e:a.map (fun p=>w p.1 p.2)=(ws a).map fun j=>w j (lk a j):=by
  unfold ws;rw[ZP];refine ZK fun p hp=>?_;show w p.1 p.2=w p.1 (lk a p.1);unfold lk;rw[lookup_mem nd hp];rfl
 unfold wt;rw[e];exact Ar (h.map _)
noncomputable def jW(n:Nat):List (List Nat):=(GP n).map (FZ n)
theorem rh(w:Nat->Nat->Wo)(n:Nat):ev w (GP n)=fm ((jW n).map (jG w)):=by
 unfold ev jW;rw[ZP];congr 1
 exact ZK fun a ha=>D9 w (xH n a ha).1
theorem bX(m:h∈jW n):h.length=n:=by
 obtain⟨a,_,rfl⟩:=ZF.mp m;unfold FZ;rw[Ze,ZM]
theorem yJ{a:Way}:a.lookup i=some x->(i,x)∈a:=by
 induction a with
 | nil=>intro h;cases h
 | cons p a ih=>
  intro h;obtain⟨pa,pb⟩:=p;rw[Z3] at h;by_cases c:i=pa
  . subst c;simp at h;subst h;exact Zu
  . have:(i==pa)=false:=ac0.mpr c;rw[this] at h;exact Zn _ (ih h)
theorem kM(m:h∈jW n): ∀x∈h,x<=n:=by
 obtain⟨a,ha,rfl⟩:=ZF.mp m;intro x hx;obtain⟨i,_,rfl⟩:=ZF.mp hx;unfold lk;cases e:a.lookup i with
 | none=>exact ZV _
 | some y=>exact(xH n a ha).2 _ (yJ e)
noncomputable def code(B:Nat):List Nat->Int
 | []=>0
 | x::xs=>(x:Int)*(B:Int)^xs.length+code B xs
theorem lQ{B:Nat}(h:0 < B)(n:Nat):0 < (B:Int)^n:=Int.pow_pos (by lia)
theorem hU: ∀{h:List Nat},(∀x∈h,x < B)->0<=code B h/\code B h < (B:Int)^h.length
 | [],_=>⟨ad6 _,by show(0:Int) < 1;decide⟩
 | x::xs,hx=>by
  have x1:=hx x Zu;obtain⟨a,b⟩:=hU (h:=xs) fun y hy=>hx y (Zn _ hy);have p:=lQ (B:=B) (by lia) xs.length;unfold code;rw[ZG,Int.pow_succ];generalize (B:Int)^xs.length=P at*;have e1:0<=(x:Int)*P:=Int.mul_nonneg (by lia) (by lia);have e2:((x:Int)+1)*P<=(B:Int)*P:=aa2 (by lia) (by lia);rw[ag4,am7] at e2;rw[Int.mul_comm P];exact⟨by lia,by lia⟩
theorem oY(B:Nat): ∀(h:List Nat) (x:Nat),code B (h++ [x])=code B h*(B:Int)+(x:Int)
 | [],x=>by simp [code]
 | y::ys,x=>by
  rw[List.cons_append,code,code,oY B ys x,Zy,List.length_singleton,Int.pow_succ,ag4,Int.mul_assoc,Int.add_assoc]
noncomputable def PJ:List Nat->List Nat->Bool
 | [],ys=>!ys.isEmpty
 | _::_,[]=>false
 | x::xs,y::ys=>if x=y then PJ xs ys else decide (x < y)
theorem mX: ∀{h g:List Nat},h.length=g.length->(∀x∈h,x < B)->(∀x∈g,x < B)->(code B h < code B g↔PJ h g=true)
 | [],[],_,_,_=>by simp [code,PJ]
 | x::xs,y::ys,l,hx,hy=>by
  have l':xs.length=ys.length:=by simpa using l
  have ih:=mX l' (fun z hz=>hx z (Zn _ hz)) fun z hz=>hy z (Zn _ hz);obtain⟨a1,a2⟩:=hU (h:=xs) fun z hz=>hx z (Zn _ hz);obtain⟨b1,b2⟩:=hU (h:=ys) fun z hz=>hy z (Zn _ hz);have p:=lQ (B:=B) (by have:=hx x Zu;lia) xs.length;unfold code PJ;rw[<-l'] at b2 ⊢;generalize (B:Int)^xs.length=P at*;by_cases c:x=y
  . subst c;rw[if_pos rfl,<-ih];constructor <;> intro <;> lia
  . rw[if_neg c,decide_eq_true_iff];rcases Nat.lt_or_gt_of_ne c with d | d
    . have e2:((x:Int)+1)*P<=(y:Int)*P:=aa2 (by lia) (by lia);rw[ag4,am7] at e2;exact⟨fun _=>d,fun _=>by lia⟩
    . have e2:((y:Int)+1)*P<=(x:Int)*P:=aa2 (by lia) (by lia);rw[ag4,am7] at e2;exact⟨fun z=>by lia,fun z=>by lia⟩
theorem code_inj: ∀{h g:List Nat},h.length=g.length->(∀x∈h,x < B)->(∀x∈g,x < B)->code B h=code B g->h=g
 | [],[],_,_,_,_=>rfl
 | x::xs,y::ys,l,hx,hy,e=>by
  have l':xs.length=ys.length:=by simpa using l
  obtain⟨a1,a2⟩:=hU (h:=xs) fun z hz=>hx z (Zn _ hz);obtain⟨b1,b2⟩:=hU (h:=ys) fun z hz=>hy z (Zn _ hz);have p:=lQ (B:=B) (by have:=hx x Zu;lia) xs.length;unfold code at e;rw[<-l'] at b2 e;have c:x=y:=by
   generalize (B:Int)^xs.length=P at*;rcases Nat.lt_trichotomy x y with d | d | d
   . have e2:((x:Int)+1)*P<=(y:Int)*P:=aa2 (by lia) (by lia);rw[ag4,am7] at e2;lia
   . exact d
   . have e2:((y:Int)+1)*P<=(x:Int)*P:=aa2 (by lia) (by lia);rw[ag4,am7] at e2;lia
  subst c;rw[code_inj l' (fun z hz=>hx z (Zn _ hz)) (fun z hz=>hy z (Zn _ hz)) (by lia)]
noncomputable def wr(n:Nat)(w:Nat->Nat->Wo)(i o:Nat):Wo:=(w i o).map fun v=>v*((n:Int)+1)^n - (o:Int)*((n:Int)+1)^(n - i)
theorem kK(n:Nat)(w:Nat->Nat->Wo): ∀(h:List Nat) (i:Nat),i+h.length=n+1->1<=i->gq (wr n w) i h=(gq w i h).map fun v=>v*((n:Int)+1)^n - code (n+1) h
 | [],i,e,_=>by simp [gq,code]
 | x::xs,i,e,i1=>by
  have e':i+1+xs.length=n+1:=by rw[ZG] at e;lia
  rw[gq,gq,kK n w xs (i+1) e' (by lia)];unfold wr;rw[show n - i=xs.length by lia];have ec:code (n+1) (x::xs)=(x:Int)*((n:Int)+1)^xs.length+code (n+1) xs:=by
   rw[code];push_cast
   rfl
  rw[ec];cases w i x with
  | none=>rfl
  | some a=>
   cases gq w (i+1) xs with
   | none=>rfl
   | some b=>
    show some ((a*((n:Int)+1)^n - (x:Int)*((n:Int)+1)^xs.length)+(b*((n:Int)+1)^n - code (n+1) xs))=some ((a+b)*((n:Int)+1)^n - ((x:Int)*((n:Int)+1)^xs.length+code (n+1) xs));congr 1
    rw[ag4];generalize a*((n:Int)+1)^n=p;generalize b*((n:Int)+1)^n=q;generalize (x:Int)*((n:Int)+1)^xs.length=r;lia
inductive qP(n:Nat)(w:Nat->Nat->Wo):Option (Int × List Nat)->Prop
 | no (h: ∀g∈jW n,jG w g=none):qP n w none
 | yes (v:Int) (h:List Nat) (m:h∈jW n) (e:jG w h=some v) (b: ∀g∈jW n,∀u,jG w g=some u->u < v\/(u=v/\code (n+1) h<=code (n+1) g)):qP n w (some (v,h))
theorem EK{v u c d P:Int}(c0:0<=c)(cP:c < P)(d0:0<=d)(dP:d < P)(h:u*P - d<=v*P - c):u < v\/(u=v/\c<=d):=by
 rcases Int.lt_trichotomy u v with z | z | z
 . exact .inl z
 . subst z;exact .inr ⟨rfl,by lia⟩
 . have e2:(v+1)*P<=u*P:=aa2 (by lia) (by lia);rw[ag4,am7] at e2;lia
theorem oh(m:h∈jW n):0<=code (n+1) h/\code (n+1) h < ((n:Int)+1)^n:=by
 have:=hU (B:=n+1) (h:=h) fun x hx=>ao2 (kM m x hx);rw[bX m] at this;push_cast at this
 exact this
theorem zD(h:ev (wr n w) (GP n)=none):qP n w none:= .no fun g m=>by
 rw[rh] at h;have:=jd.mp h _ (ZF.mpr ⟨g,m,rfl⟩);unfold jG at this;rw[kK n w g 1 (by rw[bX m];lia) (by decide)] at this;cases e:jG w g with
 | none=>rfl
 | some v=>unfold jG at e;rw[e] at this;cases this
theorem zC(h:ev (wr n w) (GP n)=some T): ∃v g,qP n w (some (v,g))/\T=v*((n:Int)+1)^n - code (n+1) g:=by
 rw[rh] at h;obtain⟨g,m,e⟩:=ZF.mp (kS h);unfold jG at e;rw[kK n w g 1 (by rw[bX m];lia) (by decide)] at e;cases ew:jG w g with
 | none=>unfold jG at ew;rw[ew] at e;cases e
 | some v=>
  have UX:=ew;unfold jG at UX;rw[UX] at e;have eT:v*((n:Int)+1)^n - code (n+1) g=T:=Option.some.inj e;refine⟨v,g,.yes v g m ew fun g' m' u eu=>?_,eT.symm⟩;have hm:some (u*((n:Int)+1)^n - code (n+1) g')∈(jW n).map (jG (wr n w)):=ZF.mpr ⟨g',m',by
   unfold jG at eu ⊢;rw[kK n w g' 1 (by rw[bX m'];lia) (by decide),eu];rfl⟩
  have:=Cu h hm;rw[<-eT] at this;obtain⟨a,b⟩:=oh m;obtain⟨c,d⟩:=oh m';exact EK a b c d this
abbrev Rs:=Int × List Nat
structure XX(n:Nat)(r:Rs):Prop where
 l:r.2.length=n
 b: ∀x∈r.2,x<=n
theorem GI(h:qP n w (some r)):XX n r:=by
 cases h with
 | yes v h m e b=>exact⟨bX m,kM m⟩
theorem zB(h:qP n w r)(h':qP n w r'):r=r':=by
 cases h with
 | no h=>cases h' with
  | no _=>rfl
  | yes v g m e b=>rw[h g m] at e;cases e
 | yes v g m e b=>cases h' with
  | no h=>rw[h g m] at e;cases e
  | yes v' g' m' e' b'=>
   have z1:=b g' m' v' e';have z2:=b' g m v e;have ev:v=v':=by lia
   subst ev;have ec:code (n+1) g=code (n+1) g':=by lia
   rw[code_inj (by rw[bX m,bX m']) (fun x hx=>ao2 (kM m x hx)) (fun x hx=>ao2 (kM m' x hx)) ec]
noncomputable def kB(B:Int):Nat->Int->List Int
 | 0,_=> []
 | k+1,x=>x % B::kB B k (x / B)
theorem oS(hB:0 < B)(v:Int): ∀(n:Nat) (h:List Nat),h.length=n->(∀x∈h,x < B)->kB B n (code B h - v*(B:Int)^n)=h.reverse.map Int.ofNat
 | 0,[],_,_=>rfl
 | n+1,h,l,hx=>by
  have ne:h≠ []:=fun z=>by rw[z] at l;cases l
  obtain⟨hs,x,e⟩: ∃hs x,h=hs++ [x]:=⟨h.dropLast,h.getLast ne,(al3 ne).symm⟩
  subst e;have l':hs.length=n:=by rw[Zy] at l;simpa using l
  have xB:=hx x (by simp);have e1:code B (hs++ [x]) - v*(B:Int)^(n+1)=(x:Int)+(code B hs - v*(B:Int)^n)*(B:Int):=by
   rw[oY,Int.pow_succ,Int.sub_mul,Int.mul_assoc];lia
  have b0:(B:Int)≠0:=by lia
  rw[kB,e1,Int.add_mul_emod_self_right,Int.emod_eq_of_lt (by lia) (by lia),Int.add_mul_ediv_right _ _ b0,Int.ediv_eq_zero_of_lt (by lia) (by lia),Int.zero_add,oS hB v n hs l' fun y hy=>hx y (ZX _ hy)];simp
end t5
namespace og
open PySem L2
theorem yX(h:Q 0xFCA86420 {s with toks:=s.toks+1}):wpAny (model prog w) A (pyHash .none) Q E s:=by
 unfold pyHash;have hv: [Value.none].any Value.onHeap=false:=rfl;refine Zd ?_;rw[cRoomFor,if_neg (by rw[hv];exact Zp)];refine Zf ?_;refine Zd (ah7 (typeIs_none s) F.slot_NoneType_hash.lookup ?_);show wpAny _ _ (if (some (Value.builtin "NoneType.__hash__")==some Value.none)=true then _ else _) Q E s;rw[if_neg (by rw[beq_builtin_none];exact Zp)];refine Zd (ah7 (typeIs_none s) F.slot_NoneType_hash.lookup ?_);show wpAny _ _ (callSpecialIfBoundUnlessNone? Value.none "__hash__" _ >>=_) Q E s;refine Zd (wpAny_callSpecialIfBoundUnlessNone?_slot (typeIs_none s) F.slot_NoneType_hash (ab4 F.slot_NoneType_hash (typeIs_none s) F.entry_NoneType_hash (show wpAny _ _ (do ret (<-mkInt 0xFCA86420)) _ _ s from wpAny_ret_mkInt ?_) (F.args_NoneType_hash_1 _)));show wpAny _ _ (if (decide (-(2:Int)^63<=0xFCA86420) && decide ((0xFCA86420:Int) < 2^63))=true then _ else _) Q E _;rw[if_pos (by decide)];exact Zf h
noncomputable def Ug:Option Int->Value->Bool
 | none,.none=>true
 | none,_=>false
 | some i,v=>v.isInt i
noncomputable def Nn:Option Int->Int
 | none=>0xFCA86420
 | some i=>hashInt i
theorem fK(h:Ug k v=true):(k=none/\v= .none)\/ ∃i t,k=some i/\v= .int i t:=by
 cases k with
 | none=>cases v <;> first | exact .inl ⟨rfl,rfl⟩ | cases h
 | some i=>obtain⟨t,e⟩:=Value.isInt_shape (show v.isInt i=true from h);exact .inr ⟨i,t,rfl,e⟩
noncomputable def optKind(prog:Program)(w:World):PySem.KeyKind prog w (Option Int) where
 is:=Ug
 hash:=Nn
 inj:=fun v a b ha hb=>by
  rcases fK ha with ⟨rfl,rfl⟩ | ⟨i,t,rfl,rfl⟩
  . rcases fK hb with ⟨rfl,_⟩ | ⟨j,u,rfl,e⟩
    . rfl
    . cases e
  . rcases fK hb with ⟨rfl,e⟩ | ⟨j,u,rfl,e⟩
    . cases e
    . injection e with e1 _;rw[e1]
 byValue:=fun k v h=>by rcases fK h with ⟨rfl,rfl⟩ | ⟨i,t,rfl,rfl⟩ <;> rfl
 pyHash:=fun hv h=>by
  rcases fK hv with ⟨rfl,rfl⟩ | ⟨i,t,rfl,rfl⟩
  . exact yX h
  . exact wpAny_pyHash_int h
 eqBool:=fun hu hv h=>by
  rcases fK hu with ⟨rfl,rfl⟩ | ⟨i,t,rfl,rfl⟩
  . rcases fK hv with ⟨rfl,rfl⟩ | ⟨j,u,rfl,rfl⟩
    . exact SeqAt.EqAt.same _ _ _ _ _ (by simpa using h)
    . exact SeqAt.EqAt.none_int _ _ _ _ _ _ (by simpa using h)
  . rcases fK hv with ⟨rfl,rfl⟩ | ⟨j,u,rfl,rfl⟩
    . exact SeqAt.EqAt.int_none _ _ _ _ _ _ (by simpa using h)
    . exact wpAny_eqBool_int (by
        have e:decide (some i=some j)=(i==j):=by
         by_cases c:i=j
         . subst c;simp
         . rw[ZO (fun z=>c (Option.some.inj z))];exact(ac0.mpr c).symm
        rw[e] at h;exact h)
 «strs» :=fun k x t v h=>by rcases fK h with ⟨_,e⟩ | ⟨_,_,_,e⟩ <;> cases e
abbrev SK:=List Int × Int × List (Option Int)
def iN(prog:Program)(w:World)(h:Heap)(k:SK)(a:Addr):Prop:= ∃o n a1 t a2,h.get? a=some o/\o.cls= .type "tuple"/\o.data= .seq #[.ref a1,.int k.2.1 t,.ref a2] n/\IsTupleKey (intKind prog w) h k.1 a1/\IsTupleKey (optKind prog w) h k.2.2 a2
noncomputable def pG(prog:Program)(w:World)(k:SK):Int:=reduceHash (Builtin.Tuple.tupleHashOf [tupleKeyHash (intKind prog w) k.1,hashInt k.2.1,tupleKeyHash (optKind prog w) k.2.2])
section
variable{prog:Program}{w:World}{A:Around}{E:Value->Shared->Prop}{s:Shared}
theorem iN.typeIs(x:iN prog w s.heap k a):s.TypeIs (.ref a) "tuple":=let ⟨o,_,_,_,_,ho,hc,_⟩:=x;⟨o,ho,hc⟩
theorem iN.inj(hx:iN prog w h x a)(hy:iN prog w h y a):x=y:=by
 obtain⟨o,n,a1,t,a2,ho,_,hd,h1,h2⟩:=hx;obtain⟨o',n',Zc,t',Zb,zQ,_,zS,uc,qS⟩:=hy;obtain rfl:o=o':=Option.some.inj (ho.symm.trans zQ);rw[hd] at zS;simp only [Data.seq.injEq,List.toArray_inj,Array.mk.injEq,List.cons.injEq,Value.ref.injEq,Value.int.injEq,and_true] at zS;obtain⟨⟨rfl,⟨e,_⟩,rfl⟩,_⟩:=zS;exact Prod.ext (h1.inj uc) (Prod.ext e (h2.inj qS))
theorem iN.keeps{es ep}(x:iN prog w h k a)(ho:h.get? d=some o)(hd:o.data= .dict es ep)(hs:Heap.SameBut d h h'):iN prog w h' k a:=by
 obtain⟨o',n,a1,t,a2,zQ,hc,zS,h1,h2⟩:=x;have xm:a≠d:=by
  rintro rfl
  obtain rfl:o'=o:=Option.some.inj (zQ.symm.trans ho);rw[hd] at zS;exact nomatch zS
 exact⟨o',n,a1,t,a2,(hs.2 a xm).trans zQ,hc,zS,h1.keeps ho hd hs,h2.keeps ho hd hs⟩
theorem Ez(hu:A.units+1 < cLine)(hk:iN prog w s.heap k a)(h:Q (pG prog w k) {s with toks:=s.toks+(k.1.length+k.2.2.length+4)}):
  wpAny (model prog w) A (pyHash (.ref a)) Q E s:=by
 have hT:=hk.typeIs;obtain⟨p,b,q⟩:=k;obtain⟨o,n,a1,t,a2,ho,_,hd,h1,h2⟩:=hk;unfold pyHash;first | unfold pyHashByItsType | skip
 first | refine Zd (wpAny_cRoomFor_or (.inr (by lia)) ?_) | skip
 refine Zd (ah7 hT F.slot_tuple_hash.lookup ?_);show wpAny _ _ (if (some (Value.builtin "tuple.__hash__")==some Value.none)=true then _ else _) Q E s;rw[if_neg (by rw[beq_builtin_none];exact Zp)];refine Zd (ah7 hT F.slot_tuple_hash.lookup ?_);show wpAny _ _ (callSpecialIfBoundUnlessNone? (.ref a) "__hash__" _ >>=_) Q E s;refine Zd (wpAny_callSpecialIfBoundUnlessNone?_slot hT F.slot_tuple_hash (ab4 F.slot_tuple_hash hT F.entry_tuple_hash ?_ (F.args_tuple_hash_1 _)));show wpAny _ _ (Builtin.Tuple.tupleItemsOf (.ref a) >>=_) _ _ s;refine Zd (wpAny_tupleItemsOf ho hd ?_);refine Zd ?_;rw[<-Array.forIn_toList];show wpAny _ _ (forIn [Value.ref a1,Value.int b t,Value.ref a2] _ _) _ _ s;have PN:A.in1.units < cLine:=an1 (knd:=intKind prog w) hu;rw[ab7];refine Zd (Zd (wpAny_pyHash_tuple PN h1 (Zf ?_)));dsimp only;rw[ab7];refine Zd (Zd (wpAny_pyHash_int (Zf ?_)));dsimp only;rw[ab7];refine Zd (Zd (wpAny_pyHash_tuple PN h2 (Zf ?_)));dsimp only;rw[ai9];refine Zf ?_;show wpAny _ _ (retInt (Builtin.Tuple.tupleHashOf [tupleKeyHash (intKind prog w) p,hashInt b,tupleKeyHash (optKind prog w) q])) _ _ _;generalize hz:Builtin.Tuple.tupleHashOf [tupleKeyHash (intKind prog w) p,hashInt b,tupleKeyHash (optKind prog w) q]=z;refine wpAny_ret_mkInt ?_;show wpAny _ _ (if (decide (-(2:Int)^63<=z) && decide (z < 2^63))=true then _ else _) Q E _;have e:pG prog w (p,b,q)=reduceHash z:=by unfold pG;rw[hz]
 rw[e] at h;unfold reduceHash at h;have et:s.toks+(p.length+1)+1+(q.length+1)+1=s.toks+(p.length+q.length+4):=by lia
 by_cases hr:(decide (-(2:Int)^63<=z) && decide (z < 2^63))=true
 . rw[if_pos hr];rw[if_pos hr] at h;refine Zf ?_;dsimp only at h ⊢;rw[et];exact h
 . rw[if_neg hr];rw[if_neg hr] at h;refine Zd (ad1 (Zf ?_));dsimp only at h ⊢;rw[et];exact h
theorem uF(hu:A.units < cLine)(hx:iN prog w s.heap x a)(hy:iN prog w s.heap y b)(h:P (.done (.ret (.bool (decide (x=y))))) s):
  wpAny (model prog w) A (Builtin.«tuple.__eq__» ⟨[.ref a,.ref b],[]⟩) P E s:=by
 have Xe:=hy.typeIs;obtain⟨p,i,q⟩:=x;obtain⟨p',i',q'⟩:=y;obtain⟨oa,na,a1,t,a2,WO,_,Mh,h1,h2⟩:=hx;obtain⟨ob,nb,b1,u,b2,WN,_,nO,g1,g2⟩:=hy;show wpAny _ _ (isInstance (.ref b) (.type "tuple") >>=_) _ _ s;refine Zd (al5 Xe isSubtype_tuple_tuple ?_);simp only [af1,aa1,ad8];refine Zd (wpAny_tupleItemsOf WO Mh ?_);refine Zd (wpAny_tupleItemsOf WN nO ?_);refine Zd ?_;show wpAny _ _ (forIn [(Value.ref a1,Value.ref b1),(Value.int i t,Value.int i' u),(Value.ref a2,Value.ref b2)] _ _) _ _ s;rw[ab7];refine Zd (Zd (wpAny_eqBool_tuple hu h1 g1 ?_));by_cases c1:p=p'
 . subst c1;rw[ZZ rfl];simp only [af1,aa1,ad8];refine Zf ?_;dsimp only;rw[ab7];refine Zd (Zd (wpAny_eqBool_int ?_));by_cases c2:i=i'
   . subst c2;rw[beq_self_eq_true];simp only [af1,aa1,ad8];refine Zf ?_;dsimp only;rw[ab7];refine Zd (Zd (wpAny_eqBool_tuple hu h2 g2 ?_));by_cases c3:q=q'
     . subst c3;rw[ZZ rfl] at h ⊢;simp only [af1,aa1,ad8];refine Zf ?_;dsimp only;rw[ai9];exact Zf (Zf h)
     . rw[ZO c3];rw[ZO (fun z=>c3 (aa6 (fun k:SK=>k.2.2) z))] at h;simp only [Bool.not_false,al0];exact Zd (Zf (Zf (Zf (Zf h))))
   . rw[ac0.mpr c2];rw[ZO (fun z=>c2 (aa6 (fun k:SK=>k.2.1) z))] at h;simp only [Bool.not_false,al0];exact Zd (Zf (Zf (Zf (Zf h))))
 . rw[ZO c1];rw[ZO (fun z=>c1 (aa6 (fun k:SK=>k.1) z))] at h;simp only [Bool.not_false,al0];exact Zd (Zf (Zf (Zf (Zf h))))
theorem MP(hu:A.units+1 < cLine)(hx:iN prog w s.heap x a)(hy:iN prog w s.heap y b)(h:Q (decide (x=y)) s):
  wpAny (model prog w) A (eqBool (.ref a) (.ref b)) Q E s:=by
 unfold eqBool;try with_reducible refine aa9 ?_
 show wpAny _ _ (if (Value.ref a==Value.ref b)=true then _ else _) Q E s;by_cases So:(Value.ref a==Value.ref b)=true
 . rw[if_pos So];have e:a=b:=by have:=eq_of_beq So;injection this
   subst e;obtain rfl:=hx.inj hy;exact Zd (ad1 (Zf (by simpa using h)))
 . rw[if_neg So];exact Zd (wpAny_richCompare_same_room (op:= .Eq) hx.typeIs hy.typeIs F.slot_tuple_eq
    (ab4 F.slot_tuple_eq hx.typeIs F.entry_tuple_eq (uF (an1 (knd:=intKind prog w) hu) hx hy ⟨_,rfl,(fun e=>nomatch e),af3 h⟩) (F.args_tuple_eq_2 _ _)) (by lia))
theorem j3{K:Type} [DecidableEq K]{knd:KeyKind prog w K}{ks:List K}{Q:Bool->Shared->Prop}(m:Nat)(hk:IsTupleKey knd s.heap ks a)(h:Q true s):wpAny (model prog w) A (eqIsQuiet (m+1) (.ref a)) Q E s:=by
 have hT:=hk.typeIs;obtain⟨o,items,n,ho,_,hd,hi⟩:=hk;unfold eqIsQuiet;refine Zd (ah7 hT F.slot_tuple_eq.lookup ?_);show wpAny _ _ (isInstance (.ref a) (.type "tuple") >>=_) _ _ s;refine Zd (al5 hT isSubtype_tuple_tuple ?_);simp only [af1,aa1,ad8];refine Zd (ad2 ho hd ?_);refine Zd ?_;show wpAny _ _ (forIn items _ _) _ _ s;rw[<-Array.forIn_toList];refine wpAny_forIn_list _ (fun rest r s'=>r.1=none/\s'=s/\ ∀v∈rest,carriedByValue v=true) _ ?_ ?_ _ _ ⟨rfl,rfl,hi.byValue⟩
 . rintro v rest r s' ⟨hr,rfl,yY⟩
   rw[eqIsQuiet_byValue _ (yY v Zu)];refine Zd (Zf ?_);simp only [af1,aa1,ad8];exact Zf ⟨rfl,rfl,fun u WI=>yY u (Zn _ WI)⟩
 . rintro⟨r1,r2⟩ s' ⟨hr,rfl,_⟩
   simp only at hr;subst hr;exact Zf h
theorem AK(hk:iN prog w s.heap k a)(h:Q true s):wpAny (model prog w) A (eqIsQuiet 8 (.ref a)) Q E s:=by
 have hT:=hk.typeIs;obtain⟨o,n,a1,t,a2,ho,_,hd,h1,h2⟩:=hk;unfold eqIsQuiet;refine Zd (ah7 hT F.slot_tuple_eq.lookup ?_);show wpAny _ _ (isInstance (.ref a) (.type "tuple") >>=_) _ _ s;refine Zd (al5 hT isSubtype_tuple_tuple ?_);simp only [af1,aa1,ad8];refine Zd (ad2 ho hd ?_);refine Zd ?_;show wpAny _ _ (forIn #[Value.ref a1,Value.int k.2.1 t,Value.ref a2] _ _) _ _ s;rw[<-Array.forIn_toList];show wpAny _ _ (forIn [Value.ref a1,Value.int k.2.1 t,Value.ref a2] _ _) _ _ s;rw[ab7];refine Zd (Zd (j3 6 h1 ?_));simp only [af1,aa1,ad8];refine Zf ?_;dsimp only;rw[ab7,eqIsQuiet_byValue _ (show carriedByValue (Value.int k.2.1 t)=true from rfl)];refine Zd (Zd (Zf ?_));simp only [af1,aa1,ad8];refine Zf ?_;dsimp only;rw[ab7];refine Zd (Zd (j3 6 h2 ?_));simp only [af1,aa1,ad8];refine Zf ?_;dsimp only;rw[ai9];exact Zf (Zf h)
end
noncomputable def iA(prog:Program)(w:World):HeapKind prog w SK where
 is:=iN prog w
 hash:=pG prog w
 draws:=fun k=>k.1.length+k.2.2.length+4
 room:=fun A=>A.units+1 < cLine
 inj:=fun hx hy=>hx.inj hy
 keeps:=fun x ho hd hs=>x.keeps ho hd hs
 pyHash:=fun hu hk h=>Ez hu hk h
 eqBool:=fun hu hx hy h=>MP hu hx hy h
 quiet:=fun hk h=>AK hk h
end og
namespace og
open PySem PySem.Spec L2 PyProof.Rows
abbrev SE:=SK × Addr × V
def tY(p:SE)(q:SK × Addr × Value):Prop:=p.1=q.1/\p.2.1=q.2.1/\RelV p.2.2 q.2.2
def Q2(P:Program)(w:World)(a:Addr)(xs:List SE):Heap->Prop:=fun h=>xs.length<=sizeLine/\(a==sysModules)=false/\ ∃ys,Paired tY xs ys/\ ∃o es ep,h.get? a=some o/\o.ExactDict/\o.data= .dict es ep/\es.toList=ys.map (entryOfKey (iA P w))/\(ys.map (·.1)).Nodup
noncomputable def pI(P:Program)(w:World)(a:Addr)(xs:List SE):HO:= .ext (Q2 P w a xs)
noncomputable def oV:Option Int->V
 | none=> .aN
 | some i=> .int i
def jB(H:Hp)(k:SK)(b:Addr):Prop:= ∃b1 b2,H b=some (.tup [.ref b1,.int k.2.1,.ref b2])/\H b1=some (.tup (k.1.map V.int))/\H b2=some (.tup (k.2.2.map oV))
structure DA(P:Program)(w:World)(H:Hp)(a:Addr)(xs:List SE):Prop where
 h:H a=some (pI P w a xs)
 k: ∀x∈xs,jB H x.1 x.2.1
noncomputable def km(xs:List SE)(k:SK):Option V:=(xs.find? fun x=>decide (x.1=k)).map (·.2.2)
noncomputable def ko(xs:List SE)(k:SK)(b:Addr)(v:V):List SE:=if (km xs k).isSome then xs.map (fun x=>if x.1=k then(x.1,x.2.1,v) else x) else xs++ [(k,b,v)]
theorem Cd{ks:List Int}: ∀{us:List Value},Vals (ks.map V.int) us->ItemsAre (intKind P w) ks us:=by
 induction ks with
 | nil=>intro us r;cases r;exact .nil
 | cons i ks ih=>
  intro us r;rw[Zx] at r;cases r with
  | cons h t=>
   obtain⟨tk,rfl⟩:=h;exact .cons (by show Value.isInt i (.int i tk)=true;simp [Value.isInt]) (ih t)
theorem BF{ks:List (Option Int)}: ∀{us:List Value},Vals (ks.map oV) us->ItemsAre (optKind P w) ks us:=by
 induction ks with
 | nil=>intro us r;cases r;exact .nil
 | cons i ks ih=>
  intro us r;rw[Zx] at r;cases r with
  | cons h t=>
   cases i with
   | none=>cases (show _=Value.none from h);exact .cons rfl (ih t)
   | some i=>
    obtain⟨tk,rfl⟩:=h;exact .cons (by show Value.isInt i (.int i tk)=true;simp [Value.isInt]) (ih t)
theorem jB.is(ok:gm P w H h)(x:jB H k b):(iA P w).is h k b:=by
 obtain⟨b1,b2,e,e1,e2⟩:=x;obtain⟨_,ao,r,o,h1,h2,_,n,h3⟩:=(show aQ P w H h b (.tup [.ref b1,.int k.2.1,.ref b2]) from ok b _ e)
 obtain⟨_,Wy,r1,o1,g1,g2,_,n1,g3⟩:=(show aQ P w H h b1 (.tup (k.1.map V.int)) from ok b1 _ e1)
 obtain⟨_,NI,r2,o2,f1,f2,_,n2,f3⟩:=(show aQ P w H h b2 (.tup (k.2.2.map oV)) from ok b2 _ e2)
 cases r with
 | cons q1 r=>cases r with
  | cons q2 r=>cases r with
   | cons q3 r=>
    cases r;cases (show _=Value.ref b1 from q1);obtain⟨t,rfl⟩:=q2;cases (show _=Value.ref b2 from q3);exact⟨o,n,b1,t,b2,h1,h2,h3,⟨o1,Wy.toArray,n1,g1,g2,g3,by simpa using Cd r1⟩,⟨o2,NI.toArray,n2,f1,f2,f3,by simpa using BF r2⟩⟩
theorem AQ(ok:gm P w H h)(d:DA P w H a xs):xs.length<=sizeLine/\(a==sysModules)=false/\ ∃ys,Paired tY xs ys/\h.DictOfH (iA P w) a ys:=by
 obtain⟨⟨z,y,ys,r,o,es,ep,h1,h2,h3,h4,h5⟩,_,_⟩:=(show aQ P w H h a (pI P w a xs) from ok a _ d.h)
 refine⟨z,y,ys,r,o,es,ep,h1,h2,h3,h4,?_,h5⟩;have all: ∀{l:List SE} {m:List (SK × Addr × Value)},Paired tY l m->(∀x∈l,jB H x.1 x.2.1)-> ∀x∈m,(iA P w).is h x.1 x.2.1:=by
  intro l m q;induction q with
  | nil=>intro _ x hx;exact nomatch hx
  | @cons p q ps qs hq t ih=>
   intro hk x hx;rcases ZS.mp hx with e | hx
   . subst e;have:=(hk p (by simp)).is ok;rw[hq.1,hq.2.1] at this;exact this
   . exact ih (fun x hx=>hk x (Zn _ hx)) x hx
 exact all r d.k
theorem wB(r:Paired tY xs ys)(k:SK):kH (km xs k) ((atKey ys k).map (·.2)):=by
 induction r with
 | nil=>exact True.intro
 | @cons p q ps qs h t ih=>
  obtain⟨h1,_,h2⟩:=h;by_cases e:p.1=k
  . have e':q.1=k:=h1.symm.trans e;have b1:atKey (q::qs) k=some q.2:=by simp [atKey,ae4,e']
    have b2:km (p::ps) k=some p.2.2:=by simp [km,ae4,e]
    rw[b1,b2];exact h2
  . have e': ¬q.1=k:=fun z=>e (h1.trans z);have b1:atKey (q::qs) k=atKey qs k:=by simp [atKey,ae4,e']
    have b2:km (p::ps) k=km ps k:=by simp [km,ae4,e]
    rw[b1,b2];exact ih
theorem A7(r:Paired tY xs ys)(k:SK)(ru:RelV v u):Paired tY (xs.map fun x=>if x.1=k then(x.1,x.2.1,v) else x) (ys.map (putAt k u)):=by
 induction r with
 | nil=>exact .nil
 | @cons p q ps qs h t ih=>
  rw[Zx,Zx];refine .cons ?_ ih;obtain⟨h1,h2,h3⟩:=h;unfold putAt;by_cases e:p.1=k
  . rw[if_pos e,if_pos (h1.symm.trans e)];exact⟨h1,h2,ru⟩
  . rw[if_neg e,if_neg (fun z=>e (h1.trans z))];exact⟨h1,h2,h3⟩
theorem EJ(r:Paired tY xs ys)(k:SK)(ru:RelV v u):Paired tY (ko xs k b v) (storedH ys k b u):=by
 have e:(km xs k).isSome=(atKey ys k).isSome:=by rw[(wB r k).jO,Option.isSome_map]
 unfold ko storedH;rw[e];by_cases q:(atKey ys k).isSome=true
 . rw[if_pos q,if_pos q];exact A7 r k ru
 . rw[if_neg q,if_neg q];exact Paired.snoc r ⟨rfl,rfl,ru⟩
theorem Be:(ko xs k b v).length<=xs.length+1:=by
 unfold ko;split
 . rw[Ze];exact ao7 _
 . rw[Zy];exact Zj _
theorem yk{R:SK->Addr->Prop}(h: ∀x∈xs,R x.1 x.2.1)(hb:R k b): ∀x∈ko xs k b v,R x.1 x.2.1:=by
 intro x hx;unfold ko at hx;split at hx
 . obtain⟨y,hy,rfl⟩:=ZF.mp hx;split
   . exact h y hy
   . exact h y hy
 . rcases Zz.mp hx with z | z
   . exact h x z
   . rw[Zl.mp z];exact hb
theorem uG(hu:A.units+2 < cLine)(I:Inv X pins σ H s)(d:DA X.prog X.w H a xs)(hk:jB H k b)(hl:xs.length < sizeLine)(rv:RelV v r)(h: ∀s',Inv X pins σ (upd H a (pI X.prog X.w a (ko xs k b v))) s'->Q () s'):
  wpAny (model X.prog X.w) A (setItem (.ref a) (.ref b) r) Q E s:=by
 obtain⟨z,hd,ys,rel,dd⟩:=AQ I.aT d;have hz:ys.length<=sizeLine:=by rw[<-Paired.length rel];exact z
 have hl:(ko xs k b v).length<=sizeLine:=by have:=Be (xs:=xs) (k:=k) (b:=b) (v:=v);lia
 refine wpAny_setItem_heap (knd:=iA X.prog X.w) (hsz:=hz) (show A.in1.units+1 < cLine by have:A.in1.units=A.units+1:=rfl;lia) (hk.is I.aT) dd fun h' ug hs=>h _ ?_;obtain⟨q,es,ep,hq,h2,h3,h4,_,h5⟩:=ug;have pr:=EJ (b:=b) rel k rv;refine eK I (by rw[d.h];exact True.intro) hs ⟨q,hq⟩ ⟨⟨hl,hd,_,pr,q,es,ep,hq,h2,h3,h4,h5⟩,⟨q,hq⟩,fun h1 qS f k2=>?_⟩;obtain⟨f1,f2,zs,f3,o,CF,F8,f4,f5⟩:=f;exact⟨f1,f2,zs,f3,o,CF,F8,k2 _ f4,f5⟩
theorem AR(h:Heap)(hb:sysModules < h.objs.size):aQ P w H (h.push {cls:= .type "dict",data:= .dict #[]}) h.objs.size (pI P w h.objs.size []):=
 ⟨⟨ZV _,ac0.mpr (Ne.symm (ZY hb)),[],.nil,_,#[],0,Zs _ rfl,⟨rfl,rfl,rfl⟩,rfl,rfl,ac7⟩,⟨_,Zs _ rfl⟩,fun h1 qS f k2=>by
  obtain⟨f1,f2,zs,f3,o,CF,F8,f4,f5⟩:=f;exact⟨f1,f2,zs,f3,o,CF,F8,k2 _ f4,f5⟩⟩
def G7(td ty tv:TE)(P:Program)(w:World):TS:=fun D σ H=>tv σ H fun v H1=>td σ H1 fun x H2=>ty σ H2 fun y H3=> ∃a b xs k,x= .ref a/\y= .ref b/\DA P w H3 a xs/\jB H3 k b/\xs.length < sizeLine/\D.nx σ (upd H3 a (pI P w a (ko xs k b v)))
theorem ER(hu:X.A.units+2 < cLine)(ho:PE X o td)(hi:PE X i ty)(hv:PE X value tv)(hs:swapsWith value (some (.Subscript o i pos')) pos.line X.env=pure false):
  PS X (.Assign [.Subscript o i pos'] value pos) (G7 td ty tv X.prog X.w):=by
 intro pins s σ H D I h;refine wpAny_Assign_Subscript (aP (hv pins s σ H _ I h) fun r s1 ⟨v,H1,I1,rv,q1⟩=>aP (ho pins s1 σ H1 _ I1 q1) fun u s2 ⟨x,H2,I2,rx,q2⟩=>aP (hi pins s2 σ H2 _ I2 q2) fun iv s3 IF=>?_) hs;obtain⟨y,H3,I3,ry,a,b,xs,k,ex,ey,d,hk,hl,q3⟩:=IF;subst ex;subst ey;obtain rfl:u=Value.ref a:=rx;obtain rfl:iv=Value.ref b:=ry;exact uG hu I3 d hk hl rv fun s4 I4=>⟨σ,_,I4,q3⟩
end og
namespace aX
open PySem L2 LB LD PyProof.Rows
noncomputable def top(i:Nat):Stmt:=PySem.Challenge.pw_hungwords_k35_the_best_still_to_be_had.main.body.getD i (.Pass ⟨0,0,0,0⟩)
noncomputable abbrev jK:Stmt:=top 1
noncomputable abbrev eZ:Stmt:=top 2
noncomputable abbrev gE:Stmt:=top 3
noncomputable abbrev iT:Stmt:=top 4
noncomputable abbrev uL:Stmt:=top 5
noncomputable abbrev lL:Stmt:=top 6
noncomputable abbrev iD:Stmt:=top 8
noncomputable abbrev gH:Stmt:=top 9
noncomputable abbrev gI:Stmt:=top 10
noncomputable abbrev gF:Stmt:=top 11
noncomputable abbrev gK:Stmt:=top 13
noncomputable abbrev dR:Stmt:=top 14
noncomputable abbrev iV:Stmt:=top 15
noncomputable abbrev iC:Stmt:=top 16
noncomputable abbrev uM:Stmt:=top 17
noncomputable abbrev pO:Stmt:=top 19
noncomputable abbrev pM:Stmt:=top 20
noncomputable abbrev gG:Stmt:=top 21
noncomputable abbrev AX:Stmt:=top 22
noncomputable abbrev lK:Stmt:=top 23
noncomputable abbrev AY:Stmt:=top 24
noncomputable abbrev uN:Stmt:=top 25
noncomputable abbrev pL:Stmt:=top 26
noncomputable abbrev pN:Stmt:=top 27
noncomputable abbrev iU:Stmt:=top 28
noncomputable abbrev uO:Stmt:=top 29
noncomputable abbrev Jm:Stmt:=top 30
structure Txt(mg:Str->Option Value):Prop where
 nC:mg "isinstance"=none
 len:mg "len"=none
 P5:mg "enumerate"=none
 tup:mg "tuple"=none
 int:mg "int"=none
 bool:mg "bool"=none
 ig:mg "range"=none
 lst:mg "list"=none
 U0:mg "divmod"=none
 all:mg "all"=none
 str:mg "str"=none
 sum:mg "sum"=none
 zip:mg "zip"=none
 L1:mg "sorted"=none
 max:mg "max"=none
 SR:mg "dict"=none
theorem uH:aJ ["worths"] ["worths"] (af jK):=⟨rfl,rfl,rfl,by decide+kernel,rfl,by decide+kernel,by decide+kernel⟩
theorem uJ:aJ ["worths"] ["worths"] (af eZ):=⟨rfl,rfl,rfl,by decide+kernel,rfl,by decide+kernel,by decide+kernel⟩
theorem yh:aJ ["w","h"] ["w","h"] (af gE):=⟨rfl,rfl,rfl,by decide+kernel,rfl,by decide+kernel,by decide+kernel⟩
theorem rQ:aJ ["w","scale"] ["w"] (af iT):=⟨rfl,rfl,rfl,by decide+kernel,rfl,by decide+kernel,by decide+kernel⟩
theorem pJ:aJ ["base","many","scale","place"] ["base","many"] (af uL):=⟨rfl,rfl,rfl,by decide+kernel,rfl,by decide+kernel,by decide+kernel⟩
theorem g8:aJ ["number","base","many","found","place","figure"] ["number","base","many"] (af lL):=⟨rfl,rfl,rfl,by decide+kernel,rfl,by decide+kernel,by decide+kernel⟩
theorem gy:aJ ["w","total","h"] ["w"] (af iD):=⟨rfl,rfl,rfl,by decide+kernel,rfl,by decide+kernel,by decide+kernel⟩
theorem iB:aJ ["w","joined","chosen","right","left","right_tied","left_tied","low","high","inner"] ["w","joined","chosen"] (af gH):=⟨rfl,rfl,rfl,by decide+kernel,rfl,by decide+kernel,by decide+kernel⟩
theorem yi:aJ ["n"] ["n"] (af gI):=⟨rfl,rfl,rfl,by decide+kernel,rfl,by decide+kernel,by decide+kernel⟩
theorem ox:aJ ["w","joined","chosen","right","right_tied","left","left_tied"] ["w","joined","chosen"] (af gF):=⟨rfl,rfl,rfl,by decide+kernel,rfl,by decide+kernel,by decide+kernel⟩
theorem yj:aJ ["stand"] ["stand"] (af gK):=⟨rfl,rfl,rfl,by decide+kernel,rfl,by decide+kernel,by decide+kernel⟩
theorem eG:aJ ["stand","word","pile","ahead","ons","bottomed","coming"] ["stand","word"] (af dR):=⟨rfl,rfl,rfl,by decide+kernel,rfl,by decide+kernel,by decide+kernel⟩
theorem AU:aJ ["w","lists"] ["w","lists"] (af iV):=⟨rfl,rfl,rfl,by decide+kernel,rfl,by decide+kernel,by decide+kernel⟩
theorem rS:aJ ["w","stand"] ["w","stand"] (af iC):=⟨rfl,rfl,rfl,by decide+kernel,rfl,by decide+kernel,by decide+kernel⟩
theorem wq:aJ ["w","stand","best"] ["w","stand"] (af uM):=⟨rfl,rfl,rfl,by decide+kernel,rfl,by decide+kernel,by decide+kernel⟩
theorem lF:aJ ["_law_script","_law_cells"] ["_law_script"] (af pO):=⟨rfl,rfl,rfl,by decide+kernel,rfl,by decide+kernel,by decide+kernel⟩
theorem fJ:aJ ["_law_state","_law_many","_law_turn","_law_place","_law_cell","_law_digit","_law_stirred"] ["_law_state","_law_many"] (af pM):=⟨rfl,rfl,rfl,by decide+kernel,rfl,by decide+kernel,by decide+kernel⟩
theorem wu:aJ ["_law_found","_law_due"] ["_law_found","_law_due"] (af gG):=⟨rfl,rfl,rfl,by decide+kernel,rfl,by decide+kernel,by decide+kernel⟩
theorem uI:aJ ["_law_stand","_law_pile","_law_coming","_law_ons","_law_more"] ["_law_stand"] (af AX):=⟨rfl,rfl,rfl,by decide+kernel,rfl,by decide+kernel,by decide+kernel⟩
theorem jI:aJ ["_law_stand","_law_word","_law_pile","_law_coming","_law_ons","_law_on"] ["_law_stand","_law_word"] (af lK):=⟨rfl,rfl,rfl,by decide+kernel,rfl,by decide+kernel,by decide+kernel⟩
theorem AS:aJ ["_law_stand","_law_pile","_law_coming","_law_ons"] ["_law_stand"] (af AY):=⟨rfl,rfl,rfl,by decide+kernel,rfl,by decide+kernel,by decide+kernel⟩
theorem iR:aJ ["_law_stand","_law_known","_law_waiting","_law_found","_law_here","_law_word","_law_behind_here"] ["_law_stand"] (af uN):=⟨rfl,rfl,rfl,by decide+kernel,rfl,by decide+kernel,by decide+kernel⟩
theorem gx:aJ ["_law_state","_law_many","_law_most","_law_stand","_law_steps","_law_turn","_law_some"] ["_law_state","_law_many","_law_most"] (af pL):=⟨rfl,rfl,rfl,by decide+kernel,rfl,by decide+kernel,by decide+kernel⟩
theorem dQ:aJ ["_law_state","_law_many","_law_way","_law_none","_law_rows","_law_word","_law_row","_law_on","_law_some"] ["_law_state","_law_many"] (af pN):=⟨rfl,rfl,rfl,by decide+kernel,rfl,by decide+kernel,by decide+kernel⟩
theorem rR:aJ ["_law_w","_law_h","_law_some"] ["_law_w","_law_h"] (af iU):=⟨rfl,rfl,rfl,by decide+kernel,rfl,by decide+kernel,by decide+kernel⟩
theorem iS:aJ ["_law_w","_law_some","_law_found","_law_h","_law_worth_here"] ["_law_w","_law_some"] (af uO):=⟨rfl,rfl,rfl,by decide+kernel,rfl,by decide+kernel,by decide+kernel⟩
theorem ip:aJ ["_law_script","_law_state","_law_turn","_law_many","_law_stand","_law_ends_here","_law_again","_law_w","_law_due","_law_kept","_law_once_more"] ["_law_script"] (af Jm):=⟨rfl,rfl,rfl,by decide+kernel,rfl,by decide+kernel,by decide+kernel⟩
end aX
namespace aX
open PySem PySem.Spec L2 LB LD PyProof.Rows t5
theorem ky{c A B:Prop} [Decidable c](hc:c)(h:A):if c then A else B:=by rw[if_pos hc];exact h
theorem mv{c A B:Prop} [Decidable c](hc: ¬c)(h:B):if c then A else B:=by rw[if_neg hc];exact h
noncomputable def di:Wo->Dt
 | none=> .aN
 | some v=> .int v
def jH:DN:=fun ds Q=> ∃L:List Wo,ds= [.lst (L.map di)]/\Q (di (hZ L))
def oM:DN:=fun ds Q=> ∃L:List Wo,ds= [.lst (L.map di)]/\L.length<=sizeLine/\Q (di (fm L))
theorem v8(L:List Wo):(L.map di).all dY=true:=by
 induction L with
 | nil=>rfl
 | cons x xs ih=>rw[Zx,ao9,ih,Bool.and_true];cases x <;> rfl
theorem GZ(L:List Wo):inD .aN (L.map di)=decide (none∈L):=by
 induction L with
 | nil=>rfl
 | cons x xs ih=>
  unfold inD at ih ⊢;rw[Zx,ag9,ih];cases x with
  | none=>simp [di,HM]
  | some v=>simp [di,HM]
theorem ly: ∀{L:List Wo},none∈L->hZ L=none
 | x::xs,h=>by
  rcases ZS.mp h with e | e
  . rw[<-e];rfl
  . rw[hZ,ly e,xQ]
theorem lz: ∀(L:List Wo),none∉L-> ∃ns:List Int,L=ns.map some/\hZ L=some ns.sum
 | [],_=>⟨[],rfl,rfl⟩
 | none::xs,h=>absurd Zu h
 | some v::xs,h=>by
  obtain⟨ns,e1,e2⟩:=lz xs fun z=>h (Zn _ z);exact⟨v::ns,by rw[e1];rfl,by rw[hZ,e2];rfl⟩
theorem v7(ns:List Int):(ns.map some).map di=ns.map Dt.int:=by rw[ZP];rfl
noncomputable def gv(L:List Wo):List Int:=L.filterMap id
noncomputable def RF:Dt->Bool
 | .aN=>false
 | _=>true
theorem Ai(L:List Wo):((L.map di).filter RF).map id=(gv L).map Dt.int:=by
 induction L with
 | nil=>rfl
 | cons x xs ih=>
  rw[List.map_id] at ih ⊢;cases x with
  | none=>exact ih
  | some v=>show Dt.int v::((xs.map di).filter RF)=_;rw[ih];rfl
theorem F2(h:gv L= []):fm L=none:=jd.mpr fun x hx=>by
 cases x with
 | none=>rfl
 | some v=>
  have:v∈gv L:=ak2.mpr ⟨some v,hx,rfl⟩;rw[h] at this;cases this
theorem F3(h1:m∈gv L)(h2: ∀a∈gv L,a<=m):fm L=some m:=by
 induction L generalizing m with
 | nil=>cases h1
 | cons x xs ih=>
  cases x with
  | none=>exact ih h1 h2
  | some v=>
   have e:gv (some v::xs)=v::gv xs:=rfl;rw[e] at h1 h2;show mx (some v) (fm xs)=some m;cases e2:fm xs with
   | none=>
    have n:gv xs= []:=by
     cases e3:gv xs with
     | nil=>rfl
     | cons a as=>
      have hm:a∈gv xs:=by rw[e3];exact Zu
      obtain⟨y,hy,Uy⟩:=ak2.mp hm;have:=jd.mp e2 y hy;rw[this] at Uy;cases Uy
    rw[n] at h1;cases Zl.mp h1;rfl
   | some u=>
    have hu:some u∈xs:=kS e2;have Kt:u∈gv xs:=ak2.mpr ⟨some u,hu,rfl⟩;show some (max v u)=some m;have a1:=h2 v Zu;have a2:=h2 u (Zn _ Kt);rcases ZS.mp h1 with z | z
    . rw[z] at a2 ⊢;congr 1;omega
    . have:=ih z fun a ha=>h2 a (Zn _ ha);rw[e2] at this;cases this;congr 1;omega
section
variable{P:Program}{w:World}{K:PySem.W.Frag}{mg:Str->Option Value}{base:Heap}
theorem j5(F:gb K "together" "together" jK f fd)(T:Txt mg):aY P w K mg base eC 1 f fd ["worths"] (cM jH):=by
 refine nP F uH (fun ds Qd h=>?_) (fun bP A outer s H E hr=>⟨_,(aq (eD (Eo fw (dv 0))
 (aG (aM fw))
 bU)
 (aG (aM (HS rfl T.sum (aa (dv 0) ae))))),fun ds Qd h=>?_⟩)
 . obtain⟨L,rfl,_⟩:=h;rfl
 . obtain⟨L,rfl,q⟩:=h;refine⟨_,rfl,⟨_, .inl rfl,rfl,v8 L,?_⟩⟩;rw[GZ];by_cases c:none∈L
   . rw[ZZ c];rw[ly c] at q;exact⟨true,rfl,cF q⟩
   . rw[ZO c];obtain⟨ns,e1,e2⟩:=lz L c;rw[e2] at q;exact⟨false,rfl,bD ⟨_,rfl,ns,by rw[e1,v7],q⟩⟩
theorem sj(F:gb K "greatest" "greatest" eZ f fd)(T:Txt mg):aY P w K mg base eC 1 f fd ["worths"] (cM oM):=by
 refine nP F uJ (fun ds Qd h=>?_) (fun bP A outer s H E hr=>⟨_,(aG (aM (Lj rfl T.max (aa (Ov.ev (cD (N:= ["worth"]) (nt:=1) (js:= []) ⟨rfl,by decide+kernel,by decide,rfl,by decide+kernel,(by show∀x∈(_:List (Str × NameKind)),x.2=NameKind.free->(af eZ).names.lookup x.1=some .cell\/(af eZ).names.lookup x.1=some .free;decide+kernel)⟩ rfl (mz (dv 0)) (fun _ _ _ _ _=>aE (i:=0) (show(["worth"]:List Str).Nodup by decide+kernel) rfl (by first | exact Or.inl rfl | exact Or.inr rfl)) cj bo (fun _ _ _ _ _=>HK (pB (dv 0))) (fun _ _ _ _ _=>(dv 0)))) ae)))),fun ds Qd h=>?_⟩)
 . obtain⟨L,rfl,_⟩:=h;rfl
 . obtain⟨L,rfl,l,q⟩:=h;refine⟨_,rfl,⟨_,rfl,by rw[Ze];exact l,RF,id,fun d hd=>?_,?_⟩⟩
   . obtain⟨x,_,rfl⟩:=ZF.mp hd;refine⟨⟨_,rfl,rfl⟩,?_⟩;cases x with
     | none=>exact⟨_,rfl,false,rfl,rfl,fun z=>by cases z⟩
     | some v=>exact⟨_,rfl,true,rfl,rfl,fun z=>⟨_,rfl,rfl⟩⟩
   . rw[Ai];refine⟨_,rfl,fun z=>?_,fun m h1 h2=>?_⟩
     . rw[F2 z] at q;exact q
     . rw[F3 h1 h2] at q;exact q
end
noncomputable def i0(b:Int)(m:Nat):List Int:=(List.range (m+1)).map fun i=>b^i
def An:DN:=fun ds Q=> ∃(b:Int) (m:Nat),ds= [.int b,.int (m:Int)]/\0<=b/\b < 2^60/\m<=60/\Q (.lst ((i0 b m).reverse.map .int))
noncomputable def shr(B:Int):Nat->Int->Int
 | 0,x=>x
 | k+1,x=>shr B k x / B
theorem AO(B:Int): ∀(k:Nat) (x:Int),shr B k (x / B)=shr B (k+1) x
 | 0,_=>rfl
 | k+1,x=>by rw[shr,AO B k x];rfl
theorem oR(B:Int): ∀(k:Nat) (x:Int),kB B (k+1) x=kB B k x++ [shr B k x % B]
 | 0,_=>rfl
 | k+1,x=>by rw[kB,oR B k (x / B),AO,kB];rfl
theorem tq(B:Int): ∀(k:Nat) (x:Int),(kB B k x).length=k
 | 0,_=>rfl
 | k+1,x=>by rw[kB,ZG,tq B k]
def tm:DN:=fun ds Q=> ∃(x b:Int) (m:Nat),ds= [.int x,.int b,.int (m:Int)]/\0 < b/\b < 2^60/\m<=60/\Q (.lst ((kB b m x).reverse.map .int))
inductive XF(b:Int)(m:Nat)(i:Nat)(δ:List Sl):Prop
 | mk (s:Sl) (h1:δ= [.im (.int b),.im (.int (m:Int)),.ow ((i0 b i).map .int),s]) (h2:s.bK=false)
inductive X1(x b:Int)(m:Nat)(i:Nat)(δ:List Sl):Prop
 | mk (s4 s5:Sl) (h1:δ= [.im (.int (shr b i x)),.im (.int b),.im (.int (m:Int)),.ow ((kB b i x).map .int),s4,s5]) (h2:s4.bK=false) (h3:s5.bK=false)
theorem oB(b:Int)(m:Nat):i0 b (m+1)=i0 b m++ [b^(m+1)]:=by
 unfold i0;rw[List.range_succ,ZA];rfl
section
variable{P:Program}{w:World}{K:PySem.W.Frag}{mg:Str->Option Value}{base:Heap}
theorem BH(F:gb K "units" "units" uL f fd)(T:Txt mg):aY P w K mg base eC 1 f fd ["base","many"] (cM An):=by
 refine nP F pJ (fun ds Qd h=>?_) (fun bP A outer s H E hr=>⟨_,(aq (jJ 2 pJ.nd (j6 (aa aA ae)))
 (aq (gA rfl (iH T.ig (aa (dv 1) ae)) (eS 3 pJ.nd)
 (aG (gB (fA 2 (pv 2) (aa (xF (C1 2 (pv 2) (mP aA)) (dv 0)) ae)))) ac8)
 (aq (gB (oU 2 (pv 2)))
 (aG (oy 2 (aM (dv 2))))))),fun ds Qd h=>?_⟩)
 . obtain⟨b,m,rfl,_⟩:=h;rfl
 . obtain⟨b,m,rfl,b0,b1,m1,q⟩:=h;refine⟨by show 1<=sizeLine;decide,⟨_,rfl,rfl⟩,?_⟩;refine⟨_,rfl,_,rfl,by lia,by lia,?_⟩;refine cG (XF b m) ⟨.no,by rw[show i0 b 0= [1] from by simp [i0]];rfl,rfl⟩ (fun i d δ hi hP Δ' ub HC=>?_) (fun δ hP=>?_)
   . obtain⟨s,rfl,hs⟩:=hP;have il:i < m:=by have:=(Zq.mp hi).1;rw[Ze,ZN] at this;lia
     refine⟨⟨_,rfl,hs⟩,?_⟩;have hl:iK ((i0 b i).map Dt.int) (-1)=some (.int (b^i)):=by
      cases i with
      | zero=>rw[show i0 b 0= [1] from by simp [i0]];rw[Int.pow_zero];exact m8 (α:=Dt) [] _
      | succ i=>rw[oB,ZA];exact m8 _ _
     refine⟨⟨_,rfl⟩,⟨_,rfl⟩,_,rfl,_,_,_,rfl,rfl,hl,_,rfl,?_⟩;refine⟨_,_,rfl,rfl,.inr ⟨by lia,by lia⟩,_,_,rfl,rfl,?_,ub _ ⟨.im d,?_,rfl⟩⟩
     . rw[Ze];exact ZJ (show(i0 b i).length < 100 by rw[i0,Ze,ZN];lia) (by decide)
     . rw[oB,ZA,Int.pow_succ];rfl
   . obtain⟨s,rfl,hs⟩:=hP;rw[Ze,ZN,ab5];refine⟨_,rfl,_,rfl,?_⟩;rw[List.map_reverse] at q;exact⟨_,rfl,q⟩
theorem uV(F:gb K "figures" "figures" lL f fd)(T:Txt mg):aY P w K mg base eC 1 f fd ["number","base","many"] (cM tm):=by
 refine nP F g8 (fun ds Qd h=>?_) (fun bP A outer s H E hr=>⟨_,(aq (jJ 3 g8.nd (j6 ae))
 (aq (gA rfl (iH T.ig (aa (dv 2) ae)) (eS 4 g8.nd)
 (aq (oz (C3 T.U0 (aa (dv 0) (aa (dv 1) ae))) (Cy 0 5 rfl g8.nd))
 (aG (gB (fA 3 (pv 3) (aa (dv 5) ae))))) ac8)
 (aq (gB (oU 3 (pv 3)))
 (aG (oy 3 (aM (dv 3))))))),fun ds Qd h=>?_⟩)
 . obtain⟨x,b,m,rfl,_⟩:=h;rfl
 . obtain⟨x,b,m,rfl,b0,b1,m1,q⟩:=h;refine⟨by show 0<=sizeLine;decide,⟨_,rfl,rfl⟩,?_⟩;refine⟨_,rfl,_,rfl,by lia,by lia,?_⟩;refine cG (X1 x b m) ⟨.no, .no,rfl,rfl,rfl⟩ (fun i d δ hi hP Δ' ub HC=>?_) (fun δ hP=>?_)
   . obtain⟨s4,s5,rfl,h4,h5⟩:=hP;have il:i < m:=by have:=(Zq.mp hi).1;rw[Ze,ZN] at this;lia
     refine⟨⟨_,rfl,h4⟩,?_⟩;refine⟨_,rfl,_,rfl,_,_,rfl,b0,by lia,_,_,rfl,⟨_,rfl,rfl⟩,⟨_,rfl,h5⟩,?_⟩;refine⟨⟨_,rfl⟩,_,rfl,_,_,rfl,rfl,?_,ub _ ⟨.im d,.im (.int (shr b i x % b)),?_,rfl,rfl⟩⟩
     . rw[Ze,tq];exact ZJ (show i < 100 by lia) (by decide)
     . rw[oR,ZA];rfl
   . obtain⟨s4,s5,rfl,h4,h5⟩:=hP;rw[Ze,ZN,ab5];refine⟨_,rfl,_,rfl,?_⟩;rw[List.map_reverse] at q;exact⟨_,rfl,q⟩
end
noncomputable def Pw(p:Nat × Nat):Dt:= .tup [.int (p.1:Int),.int (p.2:Int)]
noncomputable def eM(n:Nat):List (Nat × Nat):=(List.range (n - 1)).flatMap fun k=>(List.range (n - (k+1))).map fun j=>(j+1,j+1+(k+1))
def tR:DN:=fun ds Q=> ∃n:Nat,ds= [.int (n:Int)]/\n<=60/\Q (.lst ((eM n).map Pw))
theorem sL{α β:Type}{f:α->List β}{c:Nat}: ∀{l:List α},(∀x∈l,(f x).length<=c)->(l.flatMap f).length<=l.length*c
 | [],_=>by simp
 | x::l,h=>by
  rw[ak8,Zy,ZG,Nat.succ_mul];have:=sL (l:=l) fun y hy=>h y (Zn _ hy);have:=h x Zu;omega
theorem xK(h:n<=60):(eM n).length < 3601:=by
 have:=sL (f:=fun k=>(List.range (n - (k+1))).map fun j=>(j+1,j+1+(k+1))) (c:=60) (l:=List.range (n - 1)) fun x _=>by rw[Ze,ZN];omega
 rw[ZN] at this;have e:(n - 1)*60<=60*60:=am2 _ (by omega);unfold eM;omega
noncomputable def wF(n:Nat):Dt->List Dt
 | .int v=>(List.range (n - v.toNat)).map fun j=>Pw (j+1,j+1+v.toNat)
 | _=> []
noncomputable def VQ(v:Int):Dt->Dt
 | .int u=> .tup [.int u,.int (u+v)]
 | _=> .aN
theorem Am(n:Nat):((List.range ((n:Int) - 1).toNat).map fun k=>Dt.int (1+(k:Nat))).flatMap (wF n)=(eM n).map Pw:=by
 unfold eM;rw[List.flatMap_map,List.map_flatMap,show((n:Int) - 1).toNat=n - 1 by omega];congr 1
 funext k
 show(List.range (n - (1+(k:Int)).toNat)).map _=_;rw[show(1+(k:Int)).toNat=k+1 by omega,ZP];rfl
section
variable{P:Program}{w:World}{K:PySem.W.Frag}{mg:Str->Option Value}{base:Heap}
theorem uW(F:gb K "by_width" "by_width" gI f fd)(T:Txt mg):aY P w K mg base eC 1 f fd ["n"] (cM tR):=by
 refine nP F yi (fun ds Qd h=>?_) (fun bP A outer s H E hr=>⟨_,(aG (aM (Ov.ev (Fx 1 (N:= ["width","low","n"]) (nt:=2) (js:= [0]) ⟨rfl,by decide+kernel,by decide,rfl,by decide+kernel,(by show∀x∈(_:List (Str × NameKind)),x.2=NameKind.free->(af gI).names.lookup x.1=some .cell\/(af gI).names.lookup x.1=some .free;decide+kernel)⟩ rfl
 (gP T.ig (aa aA (aa (dv 0) ae))) (fun _ _ _ _ _=>aE (i:=0) (show(["width","low","n"]:List Str).Nodup by decide+kernel) rfl (by first | exact Or.inl rfl | exact Or.inr rfl)) cj bo (fun _ _ _ _ _=>dZ) (fun _ _ _ _ _=>(gP T.ig (aa aA (aa (dy (iu (dv 2) (dv 0)) aA) ae)))) (fun _ _ _ _ _=>aE (i:=1) (show(["width","low","n"]:List Str).Nodup by decide+kernel) rfl (by first | exact Or.inl rfl | exact Or.inr rfl)) y8 bo (fun _ _ _ _ _=>dZ) (fun _ _ _ _ _=>(bt (aa (dv 1) (aa (dy (dv 1) (dv 0)) ae)))))))),fun ds Qd h=>?_⟩)
 . obtain⟨n,rfl,_⟩:=h;rfl
 . obtain⟨n,rfl,n1,q⟩:=h;refine⟨_,rfl,_,_,rfl,⟨by decide,by decide,by lia,by lia⟩,?_⟩;refine⟨wF n,?_,fun d hd=>?_,?_⟩
   . rw[Am,Ze];exact ZJ (xK n1) (by decide)
   . obtain⟨k,hk,rfl⟩:=ZF.mp hd;have kl:k < n - 1:=by have:=ad3.mp hk;omega
     refine⟨⟨_,rfl,rfl⟩,?_⟩;simp only [HZ,al0];refine⟨_,rfl,_,rfl,_,_,rfl,rfl,_,_,rfl,rfl,_,_,rfl,⟨by decide,by decide,by lia,by lia⟩,fun _=>true,VQ (1+(k:Int)),fun e he=>?_,?_⟩
     . obtain⟨j,_,rfl⟩:=ZF.mp he;refine⟨⟨_,rfl,rfl⟩,rfl,fun _=>?_⟩;exact⟨_,rfl,_,rfl,_,rfl,_,_,rfl,rfl,by show 2<=sizeLine;decide,rfl⟩
     . rw[ab1.mpr fun _ _=>rfl,ZP];show(List.range (n - (1+(k:Int)).toNat)).map _=_;rw[show(1+(k:Int)).toNat=k+1 by omega,show((n:Int) - (1+(k:Int))+1 - 1).toNat=n - (k+1) by omega];refine ZK fun j _=>?_;show Dt.tup [.int ((j+1:Nat):Int),.int ((j+1+(k+1):Nat):Int)]=Dt.tup [.int (1+(j:Int)),.int (1+(j:Int)+(1+(k:Int)))];rw[show((j+1:Nat):Int)=1+(j:Int) by omega,show((j+1+(k+1):Nat):Int)=1+(j:Int)+(1+(k:Int)) by omega]
   . show Qd (.lst _);rw[Am];exact q
end
noncomputable def dD(n:Nat)(w:Nat->Nat->Wo)(i:Nat):Dt:= .tup ((List.range (n+1)).map fun o=>di (w i o))
noncomputable def eX(n:Nat)(w:Nat->Nat->Wo):Dt:= .tup ((List.range' 1 n).map (dD n w))
noncomputable def xI(x:Nat):Dt:= .int (x:Int)
noncomputable def mE(h:List Nat):Dt:= .tup (h.map xI)
def q0:DN:=fun ds Q=> ∃(n:Nat) (w:Nat->Nat->Wo) (h:List Nat),ds= [eX n w,mE h]/\h.length=n/\(∀x∈h,x<=n)/\n<=60/\Q (di (jG w h))
theorem lM{n:Nat}{w:Nat->Nat->Wo}(h:x<=n):iK ((List.range (n+1)).map fun o=>di (w i o)) (x:Int)=some (di (w i x)):=
 a0 (j:=x) (by rw[Zo,ad0 (by omega)];rfl)
noncomputable def Ld:Dt->Dt
 | .tup [.tup ds,.int v]=>(iK ds v).getD .aN
 | _=> .aN
theorem pf: ∀{h:List Nat} {i:Nat},(∀x∈h,x<=n)->(cS ((List.range' i h.length).map (dD n w)) (h.map xI)).map Ld=(List.zipWith w (List.range' i h.length) h).map di
 | [],_,_=>rfl
 | x::h,i,hx=>by
  have ih:=pf (n:=n) (w:=w) (h:=h) (i:=i+1) fun y hy=>hx y (Zn _ hy);rw[ZG,al7,Zx,Zx,ak6,Zx,<-ih];unfold cS;rw[ak6,Zx];congr 1
  show(iK ((List.range (n+1)).map fun o=>di (w i o)) (x:Int)).getD .aN=_;rw[lM (hx x Zu)];rfl
theorem uk: ∀{h:List Nat} {i:Nat} {d:Dt},d∈cS ((List.range' i h.length).map (dD n w)) (h.map xI)-> ∃j x,x∈h/\d= .tup [dD n w j,xI x]
 | [],_,d,hd=>by cases hd
 | x::h,i,d,hd=>by
  rw[ZG,al7,Zx,Zx] at hd;unfold cS at hd;rw[ak6] at hd;rcases ZS.mp hd with e | e
  . exact⟨i,x,Zu,e⟩
  . obtain⟨j,y,hy,e⟩:=uk (i:=i+1) e;exact⟨j,y,Zn _ hy,e⟩
theorem pA: ∀{h:List Nat} {i:Nat},hZ (List.zipWith w (List.range' i h.length) h)=gq w i h
 | [],_=>rfl
 | x::h,i=>by rw[ZG,al7,ak6,hZ,pA,gq]
section
variable{P:Program}{w:World}{K:PySem.W.Frag}{mg:Str->Option Value}{base:Heap}
theorem uS(F:gb K "worth_of" "worth_of" gE f fd)(T:Txt mg)(zG:gk P w K mg base "together" 1 ["worths"] (cM jH)):aY P w K mg base eC 2 f fd ["w","h"] (cM q0):=by
 refine nP F yh (fun ds Qd h=>?_) (fun bP A outer s H E hr=>⟨_,(aG (aM (bE zG (hr.mono (by decide)) (aa (Ov.ev (cD (N:= ["row","on"]) (nt:=2) (js:= []) ⟨rfl,by decide+kernel,by decide,rfl,by decide+kernel,(by show∀x∈(_:List (Str × NameKind)),x.2=NameKind.free->(af gE).names.lookup x.1=some .cell\/(af gE).names.lookup x.1=some .free;decide+kernel)⟩ rfl (sU (aa (dv 0) (aa (dv 1) ae)) fun z=>lR (by rfl) T.zip z) (fun _ _ _ _ _=>cT rfl (aI (aE (i:=0) (show(["row","on"]:List Str).Nodup by decide+kernel) rfl (by first | exact Or.inl rfl | exact Or.inr rfl)) (aI (aE (i:=1) (show(["row","on"]:List Str).Nodup by decide+kernel) rfl (by first | exact Or.inl rfl | exact Or.inr rfl)) bR))) bS bj (fun _ _ _ _ _=>dZ) (fun _ _ _ _ _=>(dF (dv 0) (dv 1))))) ae)))),fun ds Qd h=>?_⟩)
 . obtain⟨n,w,h,rfl,_⟩:=h;rfl
 . obtain⟨n,w,h,rfl,l,hx,n1,q⟩:=h;subst l;refine⟨_,rfl,_,rfl,true,true,_,_,rfl,?_⟩;have zl:(cS ((List.range' 1 h.length).map (dD h.length w)) (h.map xI)).length<=60:=by
    unfold cS;rw[ah1,Ze,Ze,ZM];omega
   refine⟨ZE zl (by decide),fun _=>true,Ld,fun d hd=>?_,?_⟩
   . obtain⟨j,x,hm,rfl⟩:=uk hd;refine⟨_,_,rfl,⟨_,rfl,rfl⟩,⟨_,rfl,rfl⟩,rfl,fun _=>?_⟩;exact⟨_,rfl,_,rfl,_,_,_,.inr rfl,rfl,lM (hx x hm),by show di (w j x)=(iK _ _).getD _;rw[lM (hx x hm)];rfl⟩
   . rw[ab1.mpr fun _ _=>rfl,pf hx];exact⟨_,rfl,by rw[pA];exact q⟩
end
theorem AL{env:Env}: ∀x∈([]:List (Str × NameKind)),x.2= .free->env.kindOf x.1=some .cell\/env.kindOf x.1=some .free:=fun x hx=>absurd hx Zi
theorem wm{env:Env}{p:Str × NameKind}(h:p.2≠ .free)(r: ∀x∈l,x.2= .free->env.kindOf x.1=some .cell\/env.kindOf x.1=some .free): ∀x∈p::l,x.2= .free->env.kindOf x.1=some .cell\/env.kindOf x.1=some .free:=fun x hx e=>by
 rcases ZS.mp hx with z | z
 . subst z;exact absurd e h
 . exact r x z e
theorem wj{env:Env}{p:Str × NameKind}(h:env.kindOf p.1=some .cell\/env.kindOf p.1=some .free)(r: ∀x∈l,x.2= .free->env.kindOf x.1=some .cell\/env.kindOf x.1=some .free): ∀x∈p::l,x.2= .free->env.kindOf x.1=some .cell\/env.kindOf x.1=some .free:=fun x hx e=>by
 rcases ZS.mp hx with z | z
 . subst z;exact h
 . exact r x z e
def Sm(w:Nat->Nat->Wo):Prop:= ∀i o v,w i o=some v-> -(2^60) < v/\v < 2^60
def wC:DN:=fun ds Q=> ∃(n:Nat) (w:Nat->Nat->Wo),ds= [eX n w]/\n<=60/\Sm w/\Q (eX n (wr n w))
noncomputable def MV(n i:Nat):Dt->Dt
 | .tup [.int o,.int v]=> .int (v*((n:Int)+1)^n - o*((n:Int)+1)^(n - i))
 | _=> .aN
noncomputable def T8(n:Nat):Dt->Dt
 | .tup [.int i,.tup ds]=> .tup ((br 0 ds).map (MV n i.toNat))
 | _=> .aN
theorem kU(h:d∈br k ds): ∃j e,ds[j]?=some e/\d= .tup [.int ((j+k:Nat):Int),e]:=by
 unfold br at h;obtain⟨j,hj,e⟩:=List.mem_mapIdx.mp h;exact⟨j,_,Zg hj,e.symm⟩
theorem Jr(n:Nat)(w:Nat->Nat->Wo)(i:Nat):(br 0 ((List.range (n+1)).map fun o=>di (w i o))).map (MV n i)=(List.range (n+1)).map fun o=>di (wr n w i o):=by
 apply ae3;intro j;unfold br;rw[Zo,ai7,Zo,Zo];cases e:(List.range (n+1))[j]? with
 | none=>rfl
 | some o=>
  have:o=j:=by
   have:=Zq.mp e;obtain⟨h1,h2⟩:=this;rw[List.getElem_range] at h2;exact h2.symm
  subst this;show some (MV n i (.tup [.int ((o+0:Nat):Int),di (w i o)]))=some (di (wr n w i o));unfold wr;cases w i o <;> rfl
theorem Jt(n:Nat)(w:Nat->Nat->Wo):(br 1 ((List.range' 1 n).map (dD n w))).map (T8 n)=(List.range' 1 n).map (dD n (wr n w)):=by
 apply ae3;intro j;unfold br;rw[Zo,ai7,Zo,Zo];cases e:(List.range' 1 n)[j]? with
 | none=>rfl
 | some i=>
  have:i=j+1:=by
   obtain⟨h1,h2⟩:=Zq.mp e;rw[List.getElem_range'] at h2;omega
  subst this;show some (Dt.tup ((br 0 _).map (MV n (((j+1:Nat):Int)).toNat)))=some (dD n (wr n w) (j+1));rw[ab5,Jr];rfl
theorem Bk{n k:Nat}(h:k<=n):iK ((i0 ((n:Int)+1) n).reverse.map Dt.int) (k:Int)=some (.int (((n:Int)+1)^(n - k))):=
 a0 (j:=k) (by
  unfold i0;rw[Zo,List.getElem?_reverse (by rw[Ze,ZN];omega),Ze,ZN,Zo,ad0 (by omega)];rw[show n+1 - 1 - k=n - k by omega];rfl)
section
variable{P:Program}{w:World}{K:PySem.W.Frag}{mg:Str->Option Value}{base:Heap}
theorem yv(F:gb K "ranked" "ranked" iT f fd)(T:Txt mg)(vQ:gk P w K mg base "units" 1 ["base","many"] (cM An)):aY P w K mg base eC 2 f fd ["w"] (cM wC):=by
 refine nP F rQ (fun ds Qd h=>?_) (fun bP A outer s H E hr=>⟨_,(aq (cA 1 rQ.nd (bE vQ (hr.mono (by decide)) (aa (dy (cN T.len (aa (dv 0) ae)) aA) (aa (cN T.len (aa (dv 0) ae)) ae))))
 (aG (aM (jm T.tup (aa (Ov.ev (cD (N:= ["word","row","scale"]) (nt:=2) (js:= [1]) ⟨rfl,by decide+kernel,by decide,rfl,by decide+kernel,(by show∀x∈(_:List (Str × NameKind)),x.2=NameKind.free->(af iT).names.lookup x.1=some .cell\/(af iT).names.lookup x.1=some .free;decide+kernel)⟩ rfl (xh T.P5 (aa (dv 0) ae) aA) (fun _ _ _ _ _=>cT rfl (aI (aE (i:=0) (show(["word","row","scale"]:List Str).Nodup by decide+kernel) rfl (by first | exact Or.inl rfl | exact Or.inr rfl)) (aI (aE (i:=1) (show(["word","row","scale"]:List Str).Nodup by decide+kernel) rfl (by first | exact Or.inl rfl | exact Or.inr rfl)) bR))) bS bj (fun _ _ _ _ _=>dZ) (fun _ _ _ _ _=>(jm T.tup (aa (Ov.ev (cD (N:= ["on","worth","scale","word"]) (nt:=2) (js:= [2,0]) ⟨rfl,by decide+kernel,by decide,rfl,by decide+kernel,(by repeat (first | exact AL | refine wj (by first | exact Or.inl rfl | exact Or.inr rfl) ?_ | refine wm (fun z=>nomatch z) ?_))⟩ rfl (xi T.P5 (aa (dv 1) ae)) (fun _ _ _ _ _=>cT rfl (aI (aE (i:=0) (show(["on","worth","scale","word"]:List Str).Nodup by decide+kernel) rfl (by first | exact Or.inl rfl | exact Or.inr rfl)) (aI (aE (i:=1) (show(["on","worth","scale","word"]:List Str).Nodup by decide+kernel) rfl (by first | exact Or.inl rfl | exact Or.inr rfl)) bR))) bS bj (fun _ _ _ _ _=>dZ) (fun _ _ _ _ _=>(fP (lC (dv 1)) fw (iu (xF (dv 1) (dF (dv 2) aA)) (xF (dv 0) (dF (dv 2) (dv 3)))))))) ae))))) ae))))),fun ds Qd h=>?_⟩)
 . obtain⟨n,w,rfl,_⟩:=h;rfl
 . obtain⟨n,w,rfl,n1,sm,q⟩:=h;have hl:((List.range' 1 n).map (dD n w)).length=n:=by rw[Ze,ZM]
   have PX:(br 1 ((List.range' 1 n).map (dD n w))).length=n:=by unfold br;rw[ak3,hl]
   refine⟨_,rfl,_,.inr rfl,_,_,rfl,rfl,_,rfl,_,.inr rfl,?_⟩;rw[hl];refine⟨(n:Int)+1,n,rfl,by lia,by lia,n1,⟨_,rfl,rfl⟩,?_⟩;refine⟨_,rfl,_,rfl,rfl,by rw[PX];exact ZE n1 (by decide),fun _=>true,T8 n,fun d hd=>?_,?_⟩
   . obtain⟨j,e,he,rfl⟩:=kU hd;have jl:j < n:=by have:=(Zq.mp he).1;rw[hl] at this;exact this
     have ee:e=dD n w (j+1):=by
      rw[Zo,af2 jl] at he;have:=(Option.some.inj he).symm;rw[this];congr 1;omega
     subst ee;have rl:(br 0 ((List.range (n+1)).map fun o=>di (w (j+1) o))).length=n+1:=by unfold br;rw[ak3,Ze,ZN]
     refine⟨_,_,rfl,⟨_,rfl,rfl⟩,⟨_,rfl,rfl⟩,rfl,fun _=>?_⟩;refine⟨_,rfl,_,rfl,by rw[rl];exact ZE (show n+1<=61 by omega) (by decide),fun _=>true,MV n (j+1),fun d hd=>?_,?_⟩
     . obtain⟨o,e,he,rfl⟩:=kU hd;have ol:o<=n:=by have:=(Zq.mp he).1;rw[Ze,ZN] at this;omega
       have ee:e=di (w (j+1) o):=by
        rw[Zo,ad0 (by omega)] at he;exact(Option.some.inj he).symm
       subst ee;refine⟨_,_,rfl,⟨_,rfl,rfl⟩,⟨_,rfl,rfl⟩,rfl,fun _=>?_⟩;cases ew:w (j+1) o with
       | none=>exact⟨_,rfl,true,rfl,cF rfl⟩
       | some v=>
        have vs:=sm _ _ _ ew;refine⟨_,rfl,false,rfl,bD ?_⟩;have o1:vW ((o+0:Nat):Int) (((n:Int)+1)^(n - (j+1))):= .inl ⟨by lia,by lia⟩;have v1:vW v (((n:Int)+1)^(n - 0)):= .inl ⟨by lia,by lia⟩;exact⟨_,rfl,_,rfl,_,_,_,.inl rfl,rfl,Bk (k:=0) (ZV _),_,_,rfl,rfl,v1,_,rfl,_,rfl,_,rfl,_,_,_,.inl rfl,rfl,Bk (k:=j+1) jl,_,_,rfl,rfl,o1,_,_,rfl,rfl,rfl⟩
     . rw[ab1.mpr fun _ _=>rfl];exact⟨_,.inl rfl,rfl⟩
   . rw[ab1.mpr fun _ _=>rfl,Jt];exact⟨_,.inl rfl,q⟩
end
noncomputable def Wb(r:Rs):Dt:= .tup [.int r.1,mE r.2]
noncomputable def Hl:Option Rs->Dt
 | none=> .aN
 | some r=>Wb r
end aX
namespace aX
open PySem PySem.Spec L2 LB LD PyProof.Rows iM
theorem MU:((List.range m).map fun k=>Dt.int (1+(k:Nat)))=(List.range' 1 m).map xI:=by
 rw[aj6,ZP];refine ZK fun k _=>?_;show Dt.int _=Dt.int _;congr 1
noncomputable def fI{β:Type} [Inhabited β](g:Nat->β):Dt->β
 | .int v=>g v.toNat
 | _=>default
instance:Inhabited Dt:=⟨.aN⟩
theorem Jq{l h:Nat}:((List.range ((h:Int) - (l:Int)).toNat).map fun k=>Dt.int ((l:Int)+(k:Nat)))=(List.range' l (h - l)).map xI:=by
 rw[show((h:Int) - (l:Int)).toNat=h - l by omega,aj6,ZP];refine ZK fun k _=>?_;show Dt.int _=Dt.int _;congr 1
theorem u6{L:List Nat}{g:Nat->Dt}:(((L.map xI).filter fun _=>true).map (fI g))=L.map g:=by
 rw[ab1.mpr fun _ _=>rfl,ZP];rfl
theorem wZ:((List.range' 1 n).map xI).map (fI fun i=>pk (i,i))=(dg n).map pk:=by
 unfold dg;rw[ZP,ZP];rfl
theorem Eh{n:Nat}{d:Dt}(h: ∀i,f (i,i)=d):((List.range' 1 n).map xI).map (fI fun _=>d)=(dg n).map f:=by
 unfold dg;rw[ZP,ZP];exact ZK fun i _=>(h i).symm
section
variable{α:Type}(D:α->Dt)
noncomputable abbrev IX (L:List Pr) (f:Nat->Nat->α):Sl:=td (L.map pk) (L.map fun p=>D (f p.1 p.2))
def HI(oJ oC:List α->Prop)(jn ch:List α->α)(fj fc:Addr):DS:=fun ss Q=> ∃(n:Nat) (w rg rt lf lt:Nat->Nat->α),ss= [.im (Ja D n w),.fn fj,.fn fc]/\1<=n/\n<=12/\Tz oJ oC jn ch n w rg rt lf lt/\
 Q (.tup [Gg D (dg n++iM.eM n) rg,Gg D (iM.eM n) rt,Gg D (dg n++iM.eM n) lf,Gg D (iM.eM n) lt])
def FI(n:Nat)(w rg rt lf lt:Nat->Nat->α)(fj fc:Addr)(i:Nat)(δ:List Sl):Prop:= ∃(s7 s8 s9:Sl),δ= [.im (Ja D n w),.fn fj,.fn fc,IX D (dg n++(iM.eM n).take i) rg,IX D (dg n++(iM.eM n).take i) lf,IX D ((iM.eM n).take i) rt,IX D ((iM.eM n).take i) lt,s7,s8,s9]/\s7.bK=false/\s8.bK=false/\s9.bK=false/\eE [s9] [s9]
end
theorem wH{Δ:cO}(e2:d2=Pw (l,h))(e1:δ[i]?=some (IX D L f))(hL:L.length<=4000)(hn:(l,h)∉L)(hd:d=D (f l h))(q:Δ.nx (δ.set i (IX D (L++ [(l,h)]) f))):xG i Δ d d2 δ:=by
 subst e2;subst hd;refine⟨pk (l,h),_,_,rfl,e1,by rw[Ze];exact af8 hL (by decide),JF hn,?_⟩;unfold IX at q;rw[ZA,ZA] at q;exact q
section
variable{P:Program}{wd:World}{K:PySem.W.Frag}{mg:Str->Option Value}{base:Heap}
theorem Fm(Mj: ∀x,vZ (D x))(hJ:t8 P wd K mg base fj 1 pj (cM (oP D oJ jn)))(hC:t8 P wd K mg base fc 1 pc (cM (oP D oC ch)))(F:gb K "fill" "fill" gH f fd)(T:Txt mg)(DH:gk P wd K mg base "by_width" 1 ["n"] (cM tR)):aY P wd K mg base eC 2 f fd ["w","joined","chosen"] (spS (HI D oJ oC jn ch fj fc)):=by
 refine US F iB (fun ss Qd h=>?_) (fun bP A outer s H E hr=>⟨_,aq (AW 3 iB.nd (Fw (N:= ["word","joined"]) (nt:=1) (js:= [1]) ⟨rfl,by decide+kernel,by decide,rfl,by decide+kernel,(by show∀x∈(_:List (Str × NameKind)),x.2=NameKind.free->(af gH).names.lookup x.1=some .cell\/(af gH).names.lookup x.1=some .free;decide+kernel)⟩ rfl (gP T.ig (aa aA (aa (dy (cN T.len (aa (dv 0) ae)) aA) ae))) (fun _ _ _ _ _=>aE (i:=0) (show(["word","joined"]:List Str).Nodup by decide+kernel) rfl (by first | exact Or.inl rfl | exact Or.inr rfl)) cj bo (fun _ _ _ _ _=>bt (aa (dv 0) (aa (dv 0) ae))) (fun _ _ _ _ _=>gZ 1 hJ (hr.mono (by decide)) (pv 1) (aa (df ae) ae)) (Nat.lt_of_succ_lt (dW hr))))
  (aq (AW 4 iB.nd (Fv 3 hr.hd T.SR (pv 3)))
  (aq (AV 5 iB.nd)
  (aq (AV 6 iB.nd)
  (aq (gA rfl (mz (bE DH (hr.mono (by decide)) (aa (cN T.len (aa (dv 0) ae)) ae))) (Cy 7 8 rfl iB.nd)
   (aq (cA 9 iB.nd (qp (gZ 2 hC (hr.mono (by decide)) (pv 2) (aa (Ov.ev (cD (N:= ["at","joined","right","low","left","high"]) (nt:=1) (js:= [1,3,7,4,8]) ⟨rfl,by decide+kernel,by decide,rfl,by decide+kernel,(by show∀x∈(_:List (Str × NameKind)),x.2=NameKind.free->(af gH).names.lookup x.1=some .cell\/(af gH).names.lookup x.1=some .free;decide+kernel)⟩ rfl (gP T.ig (aa (dv 7) (aa (dv 8) ae))) (fun _ _ _ _ _=>aE (i:=0) (show(["at","joined","right","low","left","high"]:List Str).Nodup by decide+kernel) rfl (by first | exact Or.inl rfl | exact Or.inr rfl)) cj bo (fun _ _ _ _ _=>dZ) (fun _ _ _ _ _=>gZ 1 hJ (hr.mono (by decide)) (pv 1) (aa (df (aa (gY (dW hr) (dv 2) (bt (aa (dv 3) (aa (dv 0) ae)))) (aa (gY (dW hr) (dv 4) (bt (aa (dy (dv 0) aA) (aa (dv 5) ae)))) ae))) ae)))) ae))))
   (aq (pK 5 (dW hr) (pv 5) (bt (aa (dv 7) (aa (dv 8) ae))) (gZ 1 hJ (hr.mono (by decide)) (pv 1) (aa (df (aa (dF (dF (dv 0) (iu (dv 8) aA)) (dv 7)) (aa (dv 9) ae))) ae)))
   (aq (pK 6 (dW hr) (pv 6) (bt (aa (dv 7) (aa (dv 8) ae))) (gZ 1 hJ (hr.mono (by decide)) (pv 1) (aa (df (aa (dF (dF (dv 0) (iu (dv 7) aA)) (dv 8)) (aa (dv 9) ae))) ae)))
   (aq (pK 3 (dW hr) (pv 3) (bt (aa (dv 7) (aa (dv 8) ae))) (qp (gZ 2 hC (hr.mono (by decide)) (pv 2) (aa (Ov.ev (cD (N:= ["at","joined","right_tied","low","right","high"]) (nt:=1) (js:= [1,5,7,3,8]) ⟨rfl,by decide+kernel,by decide,rfl,by decide+kernel,(by show∀x∈(_:List (Str × NameKind)),x.2=NameKind.free->(af gH).names.lookup x.1=some .cell\/(af gH).names.lookup x.1=some .free;decide+kernel)⟩ rfl (gP T.ig (aa (dy (dv 7) aA) (aa (dy (dv 8) aA) ae))) (fun _ _ _ _ _=>aE (i:=0) (show(["at","joined","right_tied","low","right","high"]:List Str).Nodup by decide+kernel) rfl (by first | exact Or.inl rfl | exact Or.inr rfl)) cj bo (fun _ _ _ _ _=>dZ) (fun _ _ _ _ _=>gZ 1 hJ (hr.mono (by decide)) (pv 1) (aa (df (aa (gY (dW hr) (dv 2) (bt (aa (dv 3) (aa (dv 0) ae)))) (aa (gY (dW hr) (dv 4) (bt (aa (dv 0) (aa (dv 5) ae)))) ae))) ae)))) ae))))
   (aG (pK 4 (dW hr) (pv 4) (bt (aa (dv 7) (aa (dv 8) ae))) (qp (gZ 2 hC (hr.mono (by decide)) (pv 2) (aa (Ov.ev (cD (N:= ["at","joined","left","low","left_tied","high"]) (nt:=1) (js:= [1,4,7,6,8]) ⟨rfl,by decide+kernel,by decide,rfl,by decide+kernel,(by show∀x∈(_:List (Str × NameKind)),x.2=NameKind.free->(af gH).names.lookup x.1=some .cell\/(af gH).names.lookup x.1=some .free;decide+kernel)⟩ rfl (gP T.ig (aa (dv 7) (aa (dv 8) ae))) (fun _ _ _ _ _=>aE (i:=0) (show(["at","joined","left","low","left_tied","high"]:List Str).Nodup by decide+kernel) rfl (by first | exact Or.inl rfl | exact Or.inr rfl)) cj bo (fun _ _ _ _ _=>dZ) (fun _ _ _ _ _=>gZ 1 hJ (hr.mono (by decide)) (pv 1) (aa (df (aa (gY (dW hr) (dv 2) (bt (aa (dv 3) (aa (dv 0) ae)))) (aa (gY (dW hr) (dv 4) (bt (aa (dv 0) (aa (dv 5) ae)))) ae))) ae)))) ae))))))))) ac8)
  (aG (lJ 3 (lJ 5 (lJ 4 (lJ 6 (aM (bt (aa (dv 3) (aa (dv 5) (aa (dv 4) (aa (dv 6) ae))))))))))))))),fun ss Qd h=>?_⟩)
 . obtain⟨n,w,rg,rt,lf,lt,rfl,_⟩:=h;rfl
 . obtain⟨n,w,rg,rt,lf,lt,rfl,n1,nB,V,q⟩:=h;have hl:((List.range' 1 n).map (rT D n w)).length=n:=by rw[Ze,ZM]
   refine⟨_,rfl,_,.inr rfl,_,_,rfl,rfl,1,_,rfl,⟨by decide,by decide,by rw[hl];lia,by rw[hl];lia⟩,?_⟩;rw[hl,show((n:Int)+1 - 1).toNat=n by lia,MU];refine⟨by rw[Ze,ZM];exact ZE nB (by decide),fI fun i=>pk (i,i),fI fun i=>D (jn []),fun d hd=>?_,?_,?_⟩
   . obtain⟨i,hi,rfl⟩:=ZF.mp hd;exact⟨⟨_,rfl,rfl⟩,_,rfl,_,rfl,by show 2<=sizeLine;decide,rfl,rfl,by show 0<=sizeLine;decide,[],rfl,V.j0,rfl⟩
   . rw[wZ];exact List.Pairwise.of_map _ (fun a b z e=>z (aa6 _ e)) (xy P wd nB)
   . rw[wZ,show((List.range' 1 n).map xI).map (fI fun i=>D (jn []))=(dg n).map fun p=>D (rg p.1 p.2) from Eh fun i=>by rw[V.r0]];refine⟨⟨_,rfl,rfl⟩,_,_,rfl,fun z=>?_,xy _ _ nB,⟨_,rfl,rfl⟩,⟨_,rfl,rfl⟩,⟨_,rfl,rfl⟩,?_⟩
     . have:=aa6 List.length z;unfold dg at this;rw[Ze,Ze,ZM] at this;have:n=0:=this;lia
     refine⟨_,rfl,_,.inr rfl,n,by rw[hl],ZE nB (by decide),_,rfl,?_⟩;have e0:((dg n).map fun p=>D (rg p.1 p.2))=(dg n).map fun p=>D (lf p.1 p.2):=ZK fun p hp=>by
      have:=(p6.mp hp).1;rw[this,V.r0,V.l0]
     refine cG (FI D n w rg rt lf lt fj fc) ⟨.no,.no,.no,?_,rfl,rfl,rfl,.no .nil⟩ (fun i d δ hi hP Δ' ub _=>?_) (fun δ hP=>?_)
     . rw[an7,ab8];show [_,_,_,td ((dg n).map pk) ((dg n).map fun p=>D (rg p.1 p.2)),td ((dg n).map pk) ((dg n).map fun p=>D (rg p.1 p.2)),td [] [],td [] [],_,_,_]= [_,_,_,td ((dg n).map pk) ((dg n).map fun p=>D (rg p.1 p.2)),td ((dg n).map pk) ((dg n).map fun p=>D (lf p.1 p.2)),td [] [],td [] [],_,_,_]
       rw[<-e0]
     . obtain⟨s7,s8,s9,rfl,b7,b8,b9,f9⟩:=hP;rw[Zo] at hi;obtain⟨⟨l,h⟩,hp,rfl⟩:=ae1.mp hi;have hp:(iM.eM n)[i]?=some (l,h):=hp;obtain⟨m1,m2,m3⟩:=fL.mp (ZT hp);have m1:1<=l:=m1;have m2:l < h:=m2;have m3:h<=n:=m3;have lw:(iM.eM n).length < 3601:=xK (ZE nB (by decide));have lt':((iM.eM n).take i).length<=3601:=by rw[ae8];lia
       have ld:(dg n++(iM.eM n).take i).length<=4000:=by
        rw[Zy];have:(dg n).length=n:=by unfold dg;rw[Ze,ZM]
        lia
       refine⟨_,_,rfl,⟨_,rfl,b7⟩,⟨_,rfl,b8⟩,?_⟩;refine⟨_,eE.im (eE.fn (eE.fn (eE.td (eE.td (eE.td (eE.td (eE.im (eE.im f9)))))))),rfl,?_⟩;refine⟨_,rfl,_,rfl,(l:Int),(h:Int),rfl,⟨by lia,by lia,by lia,by lia⟩,?_⟩;rw[Jq];refine⟨by rw[Ze,ZM];exact ZE (show h - l<=12 by lia) (by decide),fun _=>true,fI fun a=>D (jn [rg l a,lf (a+1) h]),fun d hd=>?_,?_⟩
       . obtain⟨a,ha,rfl⟩:=ZF.mp hd;have:=ab3.mp ha;exact⟨⟨_,rfl,rfl⟩,rfl,fun _=>⟨rfl,_,rfl,_,rfl,_,rfl,by show 2<=sizeLine;decide,⟨_,_,pk (l,a),_,rfl,rfl,dB (xP hp (by lia) (by lia) (by lia) (by lia)),_,rfl,_,rfl,_,_,rfl,rfl,_,rfl,by show 2<=sizeLine;decide,⟨_,_,pk (a+1,h),_,rfl,rfl,dB (xP hp (by lia) (by lia) (by lia) (by lia)),by show 2<=sizeLine;decide,[rg l a,lf (a+1) h],rfl,V.ji l a h (by lia) (by lia) (by lia) (by lia),rfl⟩⟩⟩⟩
       rw[u6];refine⟨iM.nN jn rg lf l h,by rw[iM.nN,ZP];rfl,V.ci l h m1 m2 m3,Mj _,⟨_,rfl,b9⟩,?_⟩;refine⟨rfl,_,rfl,_,rfl,_,_,rfl,rfl,_,_,_,.inr rfl,rfl,wb D (by lia) (by lia),_,rfl,_,_,_,.inr rfl,rfl,pQ D (by lia),_,rfl,by show 2<=sizeLine;decide,[w h l,ch (iM.nN jn rg lf l h)],rfl,V.jr l h m1 m2 m3,⟨_,_,rfl⟩,_,rfl,_,rfl,by show 2<=sizeLine;decide,wH (L:=(iM.eM n).take i) (f:=rt) rfl rfl (by lia) (qB hp) (by rw[V.er l h m1 m2 m3]) ?_⟩;refine⟨rfl,_,rfl,_,rfl,_,_,rfl,rfl,_,_,_,.inr rfl,rfl,wb D (by lia) (by lia),_,rfl,_,_,_,.inr rfl,rfl,pQ D (by lia),_,rfl,by show 2<=sizeLine;decide,[w l h,ch (iM.nN jn rg lf l h)],rfl,V.jl l h m1 m2 m3,⟨_,_,rfl⟩,_,rfl,_,rfl,by show 2<=sizeLine;decide,wH (L:=(iM.eM n).take i) (f:=lt) rfl rfl (by lia) (qB hp) (by rw[V.el l h m1 m2 m3]) ?_⟩;refine⟨_,eE.im (eE.fn (eE.fn (eE.td (eE.td (eE.td (eE.td (eE.im (eE.im (eE.im .nil))))))))),rfl,?_⟩;refine⟨_,rfl,_,_,rfl,rfl,_,rfl,_,_,rfl,rfl,((l+1:Nat):Int),((h+1:Nat):Int),rfl,⟨by lia,by lia,by lia,by lia⟩,?_⟩;rw[Jq];have mt: ∀{a b:Nat},l<=a->a < b->b<=h->(a,b)∈(iM.eM n).take i++ [(l,h)]:=fun{a b} h1 h2 h3=>by
        by_cases c:b - a < h - l
        . exact ZX _ (Ts hp h1 h2 h3 c)
        . exact Zw _ (by rw[show a=l by lia,show b=h by lia];exact Zl.mpr rfl)
       refine⟨by rw[Ze,ZM];exact ZE (show h+1 - (l+1)<=12 by lia) (by decide),fun _=>true,fI fun a=>D (jn [rt l a,rg a h]),fun d hd=>?_,?_⟩
       . obtain⟨a,ha,rfl⟩:=ZF.mp hd;have:=ab3.mp ha;exact⟨⟨_,rfl,rfl⟩,rfl,fun _=>⟨rfl,_,rfl,_,rfl,_,rfl,by show 2<=sizeLine;decide,⟨_,_,pk (l,a),_,rfl,rfl,dB (mt (by lia) (by lia) (by lia)),_,rfl,_,rfl,_,rfl,by show 2<=sizeLine;decide,⟨_,_,pk (a,h),_,rfl,rfl,dB (xP hp (by lia) (by lia) (by lia) (by lia)),by show 2<=sizeLine;decide,[rt l a,rg a h],rfl,V.jR l a h (by lia) (by lia) (by lia) (by lia),rfl⟩⟩⟩⟩
       rw[u6];refine⟨Jv jn rg rt l h,by rw[Jv,ZP,Nat.add_sub_add_right];rfl,V.cR l h m1 m2 m3,Mj _,⟨_,_,rfl⟩,_,rfl,_,rfl,by show 2<=sizeLine;decide,wH (L:=dg n++(iM.eM n).take i) (f:=rg) rfl rfl ld (CQ hp) (by rw[V.eR l h m1 m2 m3]) ?_⟩;refine⟨_,eE.im (eE.fn (eE.fn (eE.td (eE.td (eE.td (eE.td (eE.im (eE.im (eE.im .nil))))))))),rfl,?_⟩;refine⟨_,rfl,_,rfl,(l:Int),(h:Int),rfl,⟨by lia,by lia,by lia,by lia⟩,?_⟩;rw[Jq];refine⟨by rw[Ze,ZM];exact ZE (show h - l<=12 by lia) (by decide),fun _=>true,fI fun a=>D (jn [lf l a,lt a h]),fun d hd=>?_,?_⟩
       . obtain⟨a,ha,rfl⟩:=ZF.mp hd;have:=ab3.mp ha;exact⟨⟨_,rfl,rfl⟩,rfl,fun _=>⟨rfl,_,rfl,_,rfl,_,rfl,by show 2<=sizeLine;decide,⟨_,_,pk (l,a),_,rfl,rfl,dB (xP hp (by lia) (by lia) (by lia) (by lia)),_,rfl,_,rfl,_,rfl,by show 2<=sizeLine;decide,⟨_,_,pk (a,h),_,rfl,rfl,dB (mt (by lia) (by lia) (by lia)),by show 2<=sizeLine;decide,[lf l a,lt a h],rfl,V.jL l a h (by lia) (by lia) (by lia) (by lia),rfl⟩⟩⟩⟩
       rw[u6];refine⟨Kb jn lf lt l h,by rw[Kb,ZP];rfl,V.cL l h m1 m2 m3,Mj _,⟨_,_,rfl⟩,_,rfl,_,rfl,by show 2<=sizeLine;decide,wH (L:=dg n++(iM.eM n).take i) (f:=lf) rfl rfl ld (CQ hp) (by rw[V.eL l h m1 m2 m3]) ?_⟩;refine ub _ ⟨.im (.int (l:Int)),.im (.int (h:Int)),.im (D (ch (iM.nN jn rg lf l h))),?_,rfl,rfl,rfl,.im .nil⟩;rw[take_snoc hp,<-Z0];rfl
     . obtain⟨s7,s8,s9,rfl,b7,b8,b9,f9⟩:=hP;rw[Ze,show(aX.eM n).length=(iM.eM n).length from rfl,ad9];exact⟨_,_,rfl,_,_,rfl,_,_,rfl,_,_,rfl,_,rfl,_,rfl,_,rfl,_,rfl,by show 4<=sizeLine;decide,q⟩
end
section
variable{α:Type}(D:α->Dt)
def Hk(oJ oC:List α->Prop)(jn ch:List α->α)(fj fc:Addr):DS:=fun ss Q=> ∃(n:Nat) (w rg rt lf lt:Nat->Nat->α),ss= [.im (Ja D n w),.fn fj,.fn fc]/\1<=n/\n<=12/\Tz oJ oC jn ch n w rg rt lf lt/\Q (D (ch (toV jn w lf rg n)))
noncomputable def T1(g:Nat->Dt):Dt->Dt
 | .tup [.int v,_]=>g v.toNat
 | _=> .aN
theorem FF{n:Nat}{w:Nat->Nat->α}{g:Nat->Dt}:((br 1 ((List.range' 1 n).map (rT D n w))).filter fun _=>true).map (T1 g)=(List.range' 1 n).map g:=by
 rw[ab1.mpr fun _ _=>rfl];apply ae3;intro j;unfold br;rw[Zo,ai7,Zo,Zo];by_cases c:j < n
 . rw[af2 c];show some (g (((j+1:Nat):Int)).toNat)=some (g (1+1*j));rw[ab5,show 1+1*j=j+1 by lia]
 . rw[ac2 (by rw[ZM];lia)];rfl
end
section
variable{P:Program}{wd:World}{K:PySem.W.Frag}{mg:Str->Option Value}{base:Heap}
theorem uT(Mj: ∀x,vZ (D x))(hJ:t8 P wd K mg base fj 1 pj (cM (oP D oJ jn)))(hC:t8 P wd K mg base fc 1 pc (cM (oP D oC ch)))(F:gb K "over_all" "over_all" gF f fd)(T:Txt mg)(DF:gk P wd K mg base "fill" 2 ["w","joined","chosen"] (spS (HI D oJ oC jn ch fj fc))):aY P wd K mg base eC 3 f fd ["w","joined","chosen"] (spS (Hk D oJ oC jn ch fj fc)):=by
 refine US F ox (fun ss Qd h=>?_) (fun bP A outer s H E hr=>⟨_,(aq (oz (HX DF (hr.mono (by decide)) (Ms (dv 0) (Mu (f:=fj) 1 (pv 1) (Mu (f:=fc) 2 (pv 2) G0)))) (K1 3 4 5 6 rfl ox.nd))
 (aG (aM (gZ 2 hC (hr.mono (by decide)) (pv 2) (aa (Ov.ev (cD (N:= ["top","row","joined","left","right","w"]) (nt:=2) (js:= [1,5,3,0]) ⟨rfl,by decide+kernel,by decide,rfl,by decide+kernel,(by show∀x∈(_:List (Str × NameKind)),x.2=NameKind.free->(af gF).names.lookup x.1=some .cell\/(af gF).names.lookup x.1=some .free;decide+kernel)⟩ rfl (xh T.P5 (aa (dv 0) ae) aA) (fun _ _ _ _ _=>cT rfl (aI (aE (i:=0) (show(["top","row","joined","left","right","w"]:List Str).Nodup by decide+kernel) rfl (by first | exact Or.inl rfl | exact Or.inr rfl)) (aI (aE (i:=1) (show(["top","row","joined","left","right","w"]:List Str).Nodup by decide+kernel) rfl (by first | exact Or.inl rfl | exact Or.inr rfl)) bR))) bS bj (fun _ _ _ _ _=>dZ) (fun _ _ _ _ _=>(gZ 2 hJ (hr.mono (by decide)) (pv 2) (aa (df (aa (dF (dv 1) aA) (aa (gY (dW hr) (dv 3) (bt (aa aA (aa (dv 0) ae)))) (aa (gY (dW hr) (dv 4) (bt (aa (dv 0) (aa (cN T.len (aa (dv 5) ae)) ae)))) ae)))) ae))))) ae))))),fun ss Qd h=>?_⟩)
 . obtain⟨n,w,rg,rt,lf,lt,rfl,_⟩:=h;rfl
 . obtain⟨n,w,rg,rt,lf,lt,rfl,n1,nB,V,q⟩:=h;have hl:((List.range' 1 n).map (rT D n w)).length=n:=by rw[Ze,ZM]
   have PX:(br 1 ((List.range' 1 n).map (rT D n w))).length=n:=by unfold br;rw[ak3,hl]
   refine⟨_,rfl,rfl,rfl,n,w,rg,rt,lf,lt,rfl,n1,nB,V,_,_,_,_,rfl,⟨_,rfl,rfl⟩,⟨_,rfl,rfl⟩,⟨_,rfl,rfl⟩,⟨_,rfl,rfl⟩,?_⟩;refine⟨rfl,_,rfl,_,rfl,rfl,by rw[PX];exact ZE nB (by decide),fun _=>true,T1 fun t=>D (jn [w t 0,lf 1 t,rg t n]),fun d hd=>?_,?_⟩
   . obtain⟨j,e,he,rfl⟩:=kU hd;have jl:j < n:=by have:=(Zq.mp he).1;rw[hl] at this;exact this
     have ee:e=rT D n w (j+1):=by
      rw[Zo,af2 jl] at he;have:=(Option.some.inj he).symm;rw[this];congr 1;lia
     subst ee;have mL: ∀{a b:Nat},1<=a->a<=b->b<=n->(a,b)∈dg n++iM.eM n:=fun{a b} h1 h2 h3=>by
      by_cases c:a=b
      . exact ZX _ (p6.mpr ⟨c,by dsimp only;lia,by dsimp only;lia⟩)
      . exact Zw _ (fL.mpr ⟨by dsimp only;lia,by dsimp only;lia,by dsimp only;lia⟩)
     refine⟨_,_,rfl,⟨_,rfl,rfl⟩,⟨_,rfl,rfl⟩,rfl,fun _=>?_⟩;refine⟨rfl,_,rfl,_,_,_,.inr rfl,rfl,pQ D (x:=0) (ZV _),_,rfl,_,rfl,by show 2<=sizeLine;decide,?_⟩;refine⟨_,_,pk (1,j+1),_,rfl,rfl,dB (mL (by lia) (by lia) (by lia)),_,rfl,_,rfl,_,rfl,_,.inr rfl,by show 2<=sizeLine;decide,?_⟩;rw[hl];exact⟨_,_,pk (j+1,n),_,rfl,rfl,dB (mL (by lia) (by lia) (by lia)),by show 3<=sizeLine;decide,[w (j+1) 0,lf 1 (j+1),rg (j+1) n],rfl,V.jt (j+1) (by lia) (by lia),rfl⟩
   . rw[FF];exact⟨toV jn w lf rg n,by rw[toV,ZP];rfl,V.ct,q⟩
end
open t5
theorem yd:hZ [a,b]=ad a b:=by show ad a (ad b (some 0))=_;rw[ng]
theorem QL:hZ [a,b,c]=ad a (ad b c):=by show ad a (ad b (ad c (some 0)))=_;rw[ng]
def Rm(n:Nat)(L:List Wo):Prop:=L.length<=n
theorem CC(w:Nat->Nat->Wo):ev w [[]]=hZ []:=by
 show mx (wt w []) none=hZ [];exact wV _
theorem V4{n:Nat}(w:Nat->Nat->Wo)(nB:n<=12):Tz (fun _=>True) (Rm 12) hZ fm n w (fun l h=>ev w (Q l h).rg) (fun l h=>ev w (Q l h).rt) (fun l h=>ev w (Q l h).lf) (fun l h=>ev w (Q l h).lt) where
 j0:=trivial
 r0:=fun l=>by rw[nq];exact CC w
 l0:=fun l=>by rw[nq];exact CC w
 ji:=fun _ _ _ _ _ _ _=>trivial
 ci:=fun l h _ _ _=>by show(iM.nN _ _ _ _ _).length<=12;unfold iM.nN;rw[Ze,ZM];lia
 jr:=fun _ _ _ _ _=>trivial
 er:=fun l h _ lt _=>by rw[yd,Jo w lt];unfold iM.nN;congr 2;exact ZK fun a _=>yd.symm
 jl:=fun _ _ _ _ _=>trivial
 el:=fun l h _ lt _=>by rw[yd,J7 w lt];unfold iM.nN;congr 2;exact ZK fun a _=>yd.symm
 jR:=fun _ _ _ _ _ _ _=>trivial
 cR:=fun l h _ _ _=>by show(Jv _ _ _ _ _).length<=12;unfold Jv;rw[Ze,ZM];lia
 eR:=fun l h _ lt _=>by rw[Ju w lt];unfold Jv;congr 1;exact ZK fun a _=>yd.symm
 jL:=fun _ _ _ _ _ _ _=>trivial
 cL:=fun l h _ _ _=>by show(Kb _ _ _ _ _).length<=12;unfold Kb;rw[Ze,ZM];lia
 eL:=fun l h _ lt _=>by rw[Ka w lt];unfold Kb;congr 1;exact ZK fun a _=>yd.symm
 jt:=fun _ _ _=>trivial
 ct:=by show(toV _ _ _ _ _).length<=12;unfold toV;rw[Ze,ZM];exact nB
theorem IV(w:Nat->Nat->Wo)(n:Nat):fm (toV hZ w (fun l h=>ev w (Q l h).lf) (fun l h=>ev w (Q l h).rg) n)=ev w (GP n):=by
 rw[Ei];unfold toV;congr 1
 exact ZK fun t _=>QL
theorem Aj(x:Wo):vZ (di x):=by cases x <;> constructor
def Iu:DN:=fun ds Q=> ∃(n:Nat) (w:Nat->Nat->Wo),ds= [eX n w]/\1<=n/\n<=12/\Sm w/\ ∀r,qP n w r->Q (Hl r)
abbrev Uv:DN:=oP di (fun _=>True) hZ
abbrev Vm:DN:=oP di (Rm 12) fm
theorem wg(h: ∀ds Q,S' ds Q->S ds Q): ∀vs H Q E,cM S' vs H Q E->cM S vs H Q E:=fun vs H Q E z=>by
 obtain⟨M,ds,Qd,al,r,q,k⟩:=z;exact⟨M,ds,Qd,al,r,h _ _ q,k⟩
theorem NH: ∀ds Q,Uv ds Q->jH ds Q:=fun ds Q z=>by obtain⟨L,e,_,q⟩:=z;exact⟨L,e,q⟩
theorem OQ: ∀ds Q,Vm ds Q->oM ds Q:=fun ds Q z=>by obtain⟨L,e,l,q⟩:=z;exact⟨L,e,ZE l (by decide),q⟩
section
variable{P:Program}{wd:World}{K:PySem.W.Frag}{mg:Str->Option Value}{base:Heap}
theorem Fo(gJ:mg "together"=some (.ref fj))(gC:mg "greatest"=some (.ref fc))(F:gb K "best_plain" "best_plain" iD f fd)(T:Txt mg)(DD:gk P wd K mg base "over_all" 3 ["w","joined","chosen"] (spS (Hk di (fun _=>True) (Rm 12) hZ fm fj fc)))(qN:gk P wd K mg base "ranked" 2 ["w"] (cM wC))(DG:gk P wd K mg base "figures" 1 ["number","base","many"] (cM tm))(nv:gk P wd K mg base "worth_of" 2 ["w","h"] (cM q0)):aY P wd K mg base eC 4 f fd ["w"] (cM Iu):=by
 refine nP F gy (fun ds Qd h=>?_) (fun bP A outer s H E hr=>⟨_,(aq (cA 1 gy.nd (HX DD (hr.mono (by decide)) (Ms (bE qN (hr.mono (by decide)) (aa (dv 0) ae)) (Mt (by rfl) gJ (Mt (by rfl) gC G0)))))
 (aq (eD (lC (dv 1))
 (aG (aM fw))
 bU)
 (aq (cA 2 gy.nd (jm T.tup (aa (bE DG (hr.mono (by decide)) (aa (mP (dv 1)) (aa (dy (cN T.len (aa (dv 0) ae)) aA) (aa (cN T.len (aa (dv 0) ae)) ae)))) ae)))
 (aG (aM (bt (aa (bE nv (hr.mono (by decide)) (aa (dv 0) (aa (dv 2) ae))) (aa (dv 2) ae)))))))),fun ds Qd h=>?_⟩)
 . obtain⟨n,w,rfl,_⟩:=h;rfl
 . obtain⟨n,w,rfl,n1,nB,sm,q⟩:=h;have hl:((List.range' 1 n).map (dD n w)).length=n:=by rw[Ze,ZM]
   refine⟨_,rfl,n,w,rfl,by lia,sm,n,wr n w,_,_,_,_,rfl,n1,nB,V4 (wr n w) nB,⟨_,rfl,rfl⟩,?_⟩;rw[IV];cases e:ev (wr n w) (GP n) with
   | none=>exact⟨_,rfl,true,rfl,cF (q none (zD e))⟩
   | some t=>
    obtain⟨v,g,B,rfl⟩:=zC e;refine⟨_,rfl,false,rfl,bD ?_⟩;have gi:=GI B;have ef:kB ((n:Int)+1) n (-(v*((n:Int)+1)^n - code (n+1) g))=g.reverse.map Int.ofNat:=by
     have:=oS (B:=n+1) (by lia) v n g gi.l fun x hx=>ao2 (gi.b x hx);rw[show -(v*((n:Int)+1)^n - code (n+1) g)=code (n+1) g - v*((n:Int)+1)^n by lia];push_cast at this
     exact this
    refine⟨_,rfl,_,rfl,_,rfl,_,.inr rfl,_,_,rfl,rfl,_,rfl,_,.inr rfl,?_⟩;rw[hl];refine⟨_,_,n,rfl,by lia,by lia,by lia,?_⟩;rw[ef];have ew:jG w g=some v:=by cases B;assumption
    have eg:((g.reverse.map Int.ofNat).reverse.map Dt.int)=g.map xI:=by rw[<-List.map_reverse,List.reverse_reverse,ZP];rfl
    rw[eg];refine⟨_,.inl rfl,⟨_,rfl,rfl⟩,_,rfl,_,rfl,n,w,g,rfl,gi.l,gi.b,by lia,_,rfl,by show 2<=sizeLine;decide,?_⟩;rw[ew];exact q (some (v,g)) B
end
end aX
namespace aX
open PySem PySem.Spec L2 LB LD PyProof.Rows
noncomputable abbrev nI (x:Nat):Dt:= .int (x:Int)
noncomputable def oD:Option Nat->Dt
 | none=> .aN
 | some x=>nI x
structure St where
 aF:List Nat
 b:Nat
 cc:List (Option Nat)
 deriving DecidableEq
noncomputable def St.dt(s:St):Dt:= .tup [.tup (s.aF.map nI),nI s.b,.tup (s.cc.map oD)]
structure vV(s:St):Prop where
 n:s.cc.length<=1000
 p:s.aF.length<=1000
 ig: ∀w∈s.aF,1<=w/\w<=s.cc.length
noncomputable def St.read(s:St):St:=⟨s.aF++ [s.b],s.b+1,s.cc⟩
noncomputable def St.uv(s:St)(on:Nat):St:=⟨s.aF.dropLast,s.b,s.cc.set (s.aF.getLastD 1 - 1) (some on)⟩
noncomputable def St.next(s:St):St:=s.uv s.b
noncomputable def St.under(s:St):St:=s.uv (s.aF.dropLast.getLastD 1)
noncomputable def bF(s:St):Bool:=decide (s.b<=s.cc.length)
noncomputable def aZ(s:St):Bool:=bF s && !s.aF.isEmpty
noncomputable def bb(s:St):Bool:=decide (1 < s.aF.length)
noncomputable def fY(s:St):List Dt:=(if bF s then [Dt.str "read"] else [])++(if aZ s then [Dt.str "next"] else [])++(if bb s then [Dt.str "under"] else [])
noncomputable def first(n:Nat):St:=⟨[],1,List.replicate n none⟩
def FE:DN:=fun ds Q=> ∃s:St,ds= [s.dt]/\vV s/\Q (.lst (fY s))
def hV:DN:=fun ds Q=> ∃(s:St) (w:Str),ds= [s.dt,.str w]/\vV s/\((w="read"/\Q s.read.dt)\/(w="next"/\s.aF≠ []/\Q s.next.dt)\/(w="under"/\2<=s.aF.length/\Q s.under.dt))
theorem small(h:n<=3000):n<=sizeLine:=by
 have:3000<=sizeLine:=by decide
 omega
theorem Od{α:Type}(n:Nat)(x:α):(List.replicate n [x]).flatten=List.replicate n x:=by
 induction n with
 | zero=>rfl
 | succ k ih=>rw[ac1,ac1,aa0,ih];rfl
section
variable{P:Program}{w:World}{K:PySem.W.Frag}{mg:Str->Option Value}{base:Heap}
theorem JT(F:gb K "_law_may" "_law_may" AX f fd)(T:Txt mg):aY P w K mg base eC 1 f fd ["_law_stand"] (cM FE):=by
 refine nP F uI (fun ds Qd h=>?_) (fun bP A outer s H E hr=>⟨_,(aq (oz (dv 0) (qg 1 2 3 rfl uI.nd))
 (aq (cA 4 uI.nd (SS (dv 2) (cN T.len (aa (dv 3) ae))))
 (aG (aM (qr (qr (vB (df (aa tK ae)) (vC T.int (aa (dv 4) ae))) (vB (df (aa tK ae)) (vC T.int (aa (g6 (dv 4) (jo (C0 hr.ph (dv 1)))) ae)))) (vB (df (aa tK ae)) (vC T.int (aa (SU (cN T.len (aa (dv 1) ae)) aA) ae)))))))),fun ds Qd h=>?_⟩)
 . obtain⟨n,rfl,_⟩:=h;rfl
 . obtain⟨s,rfl,fi,q⟩:=h;refine⟨_,rfl,_,_,_,rfl,⟨_,rfl,rfl⟩,⟨_,rfl,rfl⟩,⟨_,rfl,rfl⟩,?_⟩;refine⟨_,rfl,_,rfl,_, .inr rfl,_,_,rfl,rfl,⟨_,rfl,rfl⟩,?_⟩;have ec:decide (((s.b:Nat):Int)<=((s.cc.map oD).length:Int))=bF s:=by
    rw[Ze];exact aj1.mpr Int.ofNat_le
   dsimp only;rw[ec];have eu:decide (((s.aF.map nI).length:Int) > 1)=bb s:=by
    rw[Ze];exact aj1.mpr (Int.ofNat_lt (n:=1))
   have fin: ∀c1 c2 c3:Bool,Dt.lst (((List.replicate (if c1 then(1:Int) else 0).toNat [Dt.str "read"]).flatten++(List.replicate (if c2 then(1:Int) else 0).toNat [Dt.str "next"]).flatten)++(List.replicate (if c3 then(1:Int) else 0).toNat [Dt.str "under"]).flatten)= .lst ((if c1 then [Dt.str "read"] else [])++(if c2 then [Dt.str "next"] else [])++(if c3 then [Dt.str "under"] else [])):=by
    intro c1 c2 c3;cases c1 <;> cases c2 <;> cases c3 <;> rfl
   have sz: ∀c:Bool,[Dt.aN].length*(if c then(1:Int) else 0).toNat<=sizeLine:=fun c=>by cases c <;> decide
   have lo: ∀c:Bool,-(2^63)<=(if c then(1:Int) else 0):=fun c=>by cases c <;> decide
   have hi: ∀c:Bool,(if c then(1:Int) else 0) < 2^63:=fun c=>by cases c <;> decide
   have l1: ∀(c:Bool) (x:Dt),(List.replicate (if c then(1:Int) else 0).toNat [x]).flatten.length<=1:=fun c x=>by cases c <;> simp
   have go: ∀c2:Bool,c2=aZ s->Qd (Dt.lst (((List.replicate (if bF s then(1:Int) else 0).toNat [Dt.str "read"]).flatten++(List.replicate (if c2 then(1:Int) else 0).toNat [Dt.str "next"]).flatten)++(List.replicate (if bb s then(1:Int) else 0).toNat [Dt.str "under"]).flatten)):=fun c2 e=>by
    subst e;rw[fin];exact q
   refine⟨by show 1<=sizeLine;decide,_,rfl,_,rfl,_,_,rfl,rfl,lo _,hi _,sz _,by show 1<=sizeLine;decide,_,rfl,_,rfl,?_⟩;have s2: ∀(c c':Bool) (x y:Dt),(List.replicate (if c then(1:Int) else 0).toNat [x]).flatten.length+(List.replicate (if c' then(1:Int) else 0).toNat [y]).flatten.length<=sizeLine:=fun c c' x y=>small (by have:=l1 c x;have:=l1 c' y;omega);have s3: ∀(c c' c2:Bool) (x y z:Dt),((List.replicate (if c then(1:Int) else 0).toNat [x]).flatten++(List.replicate (if c' then(1:Int) else 0).toNat [y]).flatten).length+(List.replicate (if c2 then(1:Int) else 0).toNat [z]).flatten.length<=sizeLine:=fun c c' c2 x y z=>small (by have:=l1 c x;have:=l1 c' y;have:=l1 c2 z;rw[Zy];omega);by_cases cr:bF s=true
   . refine ky cr ⟨_,rfl,_,rfl,_,rfl,_,_,rfl,rfl,lo _,hi _,sz _,_,_,rfl,rfl,s2 _ _ _ _,by show 1<=sizeLine;decide,_,rfl,_,.inr rfl,_,_,rfl,rfl,_,rfl,_,_,rfl,rfl,lo _,hi _,sz _,_,_,rfl,rfl,s3 _ _ _ _ _ _,?_⟩;dsimp only;rw[eu];exact go _ (by unfold aZ;rw[cr];simp)
   . refine mv cr ⟨_,rfl,_,_,rfl,rfl,lo _,hi _,sz _,_,_,rfl,rfl,s2 _ _ _ _,by show 1<=sizeLine;decide,_,rfl,_,.inr rfl,_,_,rfl,rfl,_,rfl,_,_,rfl,rfl,lo _,hi _,sz _,_,_,rfl,rfl,s3 _ _ _ _ _ _,?_⟩;dsimp only;rw[eu];exact go _ (by unfold aZ;rw[Bool.not_eq_true] at cr;rw[cr];rfl)
end
theorem tP(ds:List Dt):LD.cutD ds none (some (-1))=ds.dropLast:=by
 unfold LD.cutD;rw[HT.iW,an8,am9];have e:HT.cB ds.length ds.length (some (-1))=ds.length - 1:=by
  show(if (-1:Int) < 0 then((-1:Int)+(ds.length:Int)).toNat else min (-1:Int).toNat ds.length)=_;rw[if_pos (by decide)];omega
 rw[e,List.dropLast_eq_take]
theorem qt{os:List (Option Nat)}(w1:1<=hi)(w2:hi<=os.length)(ei:i=((hi - 1:Nat):Int))(ej:j=(hi:Int))(d:Dt)(x:Option Nat)(ed:d=oD x):LD.cutD (os.map oD) none (some i)++ [d]++LD.cutD (os.map oD) (some j) none=(os.set (hi - 1) x).map oD:=by
 subst ei;subst ej;subst ed;unfold LD.cutD;rw[HT.pP,HT.pP,HT.iW,HT.iW,Ze,Nat.min_eq_left w2,Nat.min_eq_left (by omega),an8,am9,<-List.map_take,<-List.map_drop,List.take_of_length_le (l:=(os.drop hi).map oD) (by rw[Ze,aj2];exact Zj _)];rw[List.set_eq_take_append_cons_drop,if_pos (by omega),ZA,Zx,Z0];rw[show hi - 1+1=hi by omega];rfl
theorem vF(ds:List Dt)(lo hi:Option Int):(LD.cutD ds lo hi).length<=ds.length:=by
 unfold LD.cutD;have:=HT.AZ ds.length ds.length (Zj _) hi;exact ZE (List.length_take_le ..) (by omega)
theorem Ej(h:ps≠ []):iK (ps.map nI) (-1)=some (nI (ps.getLastD 1)):=by
 have e:ps.map nI=ps.dropLast.map nI++ [nI (ps.getLastD 1)]:=by
  rw[<-List.map_singleton (f:=nI),<-ZA];congr 1
  rw[ag2,List.getLast?_eq_some_getLast h,al6,al3 h]
 rw[e];exact m8 _ _
theorem top2{ps:List Nat}(h:2<=ps.length):iK (ps.map nI) (-2)=some (nI (ps.dropLast.getLastD 1)):=by
 have e1:ps.dropLast≠ []:=fun z=>by have:=aa6 List.length z;simp at this;omega
 have g:(ps.map nI)[ps.length - 2]?=some (nI (ps.dropLast.getLastD 1)):=by
  rw[Zo,ag2,List.getLast?_eq_getElem?,ai6,List.getElem?_dropLast,if_pos (by omega)];rw[show ps.length - 1 - 1=ps.length - 2 by omega,Zg (by omega)];rfl
 unfold iK w9;rw[if_neg (by decide),Ze,if_pos (by omega)];show(ps.map nI)[_]?=_;rw[show(-2+(ps.length:Int)).toNat=ps.length - 2 by omega];exact g
theorem mG(h:ps≠ []):ps.getLastD 1∈ps:=by
 rw[ag2,List.getLast?_eq_some_getLast h,al6];exact List.getLast_mem h
section
variable{P:Program}{w:World}{K:PySem.W.Frag}{mg:Str->Option Value}{base:Heap}
theorem uU(F:gb K "_law_behind" "_law_behind" lK f fd)(T:Txt mg):aY P w K mg base eC 1 f fd ["_law_stand","_law_word"] (cM hV):=by
 refine nP F jI (fun ds Qd h=>?_) (fun bP A outer s H E hr=>⟨_,(aq (oz (dv 0) (qg 2 3 4 rfl jI.nd))
 (aq (eD (Ep (dv 1) tK)
 (aG (aM (bt (aa (jQ (dv 2) (bt (aa (dv 3) ae))) (aa (dy (dv 3) aA) (aa (dv 4) ae))))))
 bU)
 (aq (cA 5 jI.nd (fP (Ep (dv 1) tK) (dv 3) (dF (dv 2) (mP aA))))
 (aG (aM (bt (aa (tL (dv 2) lX (lV (mP aA))) (aa (dv 3) (aa (jQ (jQ (tL (dv 4) lX (lV (iu (dF (dv 2) (mP aA)) aA))) (bt (aa (dv 5) ae))) (tL (dv 4) (lV (dF (dv 2) (mP aA))) lX)) ae))))))))),fun ds Qd h=>?_⟩)
 . obtain⟨s,w,rfl,_⟩:=h;rfl
 . obtain⟨s,w,rfl,fi,q⟩:=h;refine⟨_,rfl,_,_,_,rfl,⟨_,rfl,rfl⟩,⟨_,rfl,rfl⟩,⟨_,rfl,rfl⟩,_,rfl,_,rfl,_,rfl,?_⟩;rcases q with ⟨rfl,q⟩ | ⟨rfl,np,q⟩ | ⟨rfl,np,q⟩
   . refine ky (by decide) ?_;refine⟨_,rfl,_,rfl,by show 1<=sizeLine;decide,_,_,rfl,rfl,small (by have:=fi.p;rw[Ze];simp;omega),_,rfl,_,_,rfl,rfl,_,rfl,by show 3<=sizeLine;decide,?_⟩;have e:s.read.dt= .tup [.tup (s.aF.map nI++ [nI s.b]), .int ((s.b:Int)+1), .tup (s.cc.map oD)]:=by
      unfold St.read St.dt;rw[ZA];rfl
     rw[e] at q;exact q
   . refine mv (by decide) ?_;have hp:=fi.ig _ (mG np);have l1: ∀i:Option Int,(LD.cutD (s.cc.map oD) none i).length<=s.cc.length:=fun i=>by have:=vF (s.cc.map oD) none i;rwa [Ze] at this
     have hn:=fi.n;have key:=qt (os:=s.cc) (hi:=s.aF.getLastD 1) hp.1 hp.2 (i:=((s.aF.getLastD 1:Nat):Int) - 1) (j:=((s.aF.getLastD 1:Nat):Int)) (by omega) rfl (nI s.b) (some s.b) rfl;refine⟨_,rfl,_,rfl,_,rfl,ky (by decide) ⟨_,rfl,⟨_,rfl,rfl⟩,?_⟩⟩;refine⟨_,rfl,_,rfl,_,rfl,_,rfl,_,rfl,_,rfl,_,rfl,_,rfl,_,_,_,.inr rfl,rfl,Ej np,_,_,rfl,rfl,_,rfl,_,rfl,_,rfl,by show 1<=sizeLine;decide,_,_,rfl,rfl,small (by have:=l1 (some (((s.aF.getLastD 1:Nat):Int) - 1));simp only [ZG,ag7];omega),_,rfl,_,rfl,_,rfl,_,_,_,.inr rfl,rfl,Ej np,_,rfl,_,rfl,_,_,rfl,rfl,?_,by show 3<=sizeLine;decide,?_⟩
     . rw[<-Zy,key,Ze,ZQ];exact small (by omega)
     . rw[key,tP];have e:s.next.dt= .tup [.tup (s.aF.map nI).dropLast,nI s.b, .tup ((s.cc.set (s.aF.getLastD 1 - 1) (some s.b)).map oD)]:=by
        unfold St.next St.uv St.dt;rw[List.map_dropLast]
       rw[e] at q;exact q
   . refine mv (by decide) ?_;have Ro:s.aF≠ []:=fun z=>by rw[z] at np;exact absurd np (by decide)
     have hp:=fi.ig _ (mG Ro);have l1: ∀i:Option Int,(LD.cutD (s.cc.map oD) none i).length<=s.cc.length:=fun i=>by have:=vF (s.cc.map oD) none i;rwa [Ze] at this
     have hn:=fi.n;have key:=qt (os:=s.cc) (hi:=s.aF.getLastD 1) hp.1 hp.2 (i:=((s.aF.getLastD 1:Nat):Int) - 1) (j:=((s.aF.getLastD 1:Nat):Int)) (by omega) rfl (nI (s.aF.dropLast.getLastD 1)) (some (s.aF.dropLast.getLastD 1)) rfl;refine⟨_,rfl,_,rfl,_,rfl,mv (by decide) ⟨_,rfl,_,rfl,_,_,_,.inr rfl,rfl,top2 np,⟨_,rfl,rfl⟩,?_⟩⟩;refine⟨_,rfl,_,rfl,_,rfl,_,rfl,_,rfl,_,rfl,_,rfl,_,rfl,_,_,_,.inr rfl,rfl,Ej Ro,_,_,rfl,rfl,_,rfl,_,rfl,_,rfl,by show 1<=sizeLine;decide,_,_,rfl,rfl,small (by have:=l1 (some (((s.aF.getLastD 1:Nat):Int) - 1));simp only [ZG,ag7];omega),_,rfl,_,rfl,_,rfl,_,_,_,.inr rfl,rfl,Ej Ro,_,rfl,_,rfl,_,_,rfl,rfl,?_,by show 3<=sizeLine;decide,?_⟩
     . rw[<-Zy,key,Ze,ZQ];exact small (by omega)
     . rw[key,tP];have e:s.under.dt= .tup [.tup (s.aF.map nI).dropLast,nI s.b, .tup ((s.cc.set (s.aF.getLastD 1 - 1) (some (s.aF.dropLast.getLastD 1))).map oD)]:=by
        unfold St.under St.uv St.dt;rw[List.map_dropLast]
       rw[e] at q;exact q
noncomputable def tD(s:St):Dt:=if s.b<=s.cc.length\/s.aF.length≠1 then .aN else .tup ((s.cc.set (s.aF.headD 1 - 1) (some 0)).map oD)
def Og:DN:=fun ds Q=> ∃s:St,ds= [s.dt]/\vV s/\Q (tD s)
theorem Fl(F:gb K "_law_end" "_law_end" AY f fd)(T:Txt mg):aY P w K mg base eC 1 f fd ["_law_stand"] (cM Og):=by
 refine nP F AS (fun ds Qd h=>?_) (fun bP A outer s H E hr=>⟨_,(aq (oz (dv 0) (qg 1 2 3 rfl AS.nd))
 (aq (eD (PW.pt (w_or (QP (dv 2) (cN T.len (aa (dv 3) ae))) (rp (uw (cN T.len (aa (dv 1) ae)) aA))))
 (aG (aM fw))
 bU)
 (aG (aM (jQ (jQ (tL (dv 3) lX (lV (iu (dF (dv 1) aA) aA))) (bt (aa aA ae))) (tL (dv 3) (lV (dF (dv 1) aA)) lX)))))),fun ds Qd h=>?_⟩)
 . obtain⟨s,rfl,_⟩:=h;rfl
 . obtain⟨s,rfl,fi,q⟩:=h;refine⟨_,rfl,_,_,_,rfl,⟨_,rfl,rfl⟩,⟨_,rfl,rfl⟩,⟨_,rfl,rfl⟩,_,rfl,_,rfl,_, .inr rfl,_,_,rfl,rfl,_,rfl,?_⟩;by_cases c1:s.b<=s.cc.length
   . refine ky (ZZ (by rw[Ze];exact Int.ofNat_le.mpr c1)) (cF ?_);rw[tD,if_pos (.inl c1)] at q;exact q
   . refine mv (by rw[Ze];intro z;exact c1 (Int.ofNat_le.mp (ZL z))) ⟨_,rfl,_, .inr rfl,_,rfl,_,rfl,?_⟩;by_cases c2:s.aF.length=1
     . refine mv (by rw[Ze,c2];decide) ?_;obtain⟨aF,b,cc⟩:=s;obtain⟨p,rfl⟩: ∃p,aF= [p]:=by
        match aF,c2 with
        | [p],_=>exact⟨p,rfl⟩
       have hp:=fi.ig p (by simp);have hn:=fi.n;dsimp only at hp hn;have l1: ∀i:Option Int,(LD.cutD (cc.map oD) none i).length<=cc.length:=fun i=>by have:=vF (cc.map oD) none i;rwa [Ze] at this
       have key:=qt (os:=cc) (hi:=p) hp.1 hp.2 (i:=((p:Nat):Int) - 1) (j:=((p:Nat):Int)) (by omega) rfl (.int 0) (some 0) rfl;refine⟨_,rfl,_,rfl,_,_,_,.inr rfl,rfl,rfl,_,_,rfl,rfl,_,rfl,_,rfl,by show 1<=sizeLine;decide,_,_,rfl,rfl,small (by have:=l1 (some (((p:Nat):Int) - 1));simp only [ZG,ag7];omega),_,rfl,_,rfl,_,_,_,.inr rfl,rfl,rfl,_,rfl,_,rfl,_,_,rfl,rfl,?_,?_⟩
       . rw[<-Zy,key,Ze,ZQ];exact small (by omega)
       . rw[key];rw[tD,if_neg (by intro z;rcases z with z | z;exact c1 z;exact z rfl)] at q;exact q
     . refine ky (by rw[Ze];simp;omega) ?_;rw[tD,if_pos (.inr c2)] at q;exact q
end
end aX
namespace aX
open PySem PySem.Spec L2 LB LW LD PyProof.Rows
section
variable{P:Program}{w:World}{K:PySem.W.Frag}{mg:Str->Option Value}{base:Heap}
theorem Fj(F:gb K "_law_take" "_law_take" pM f fd)(T:Txt mg):aY P w K mg base eC 1 f fd ["_law_state","_law_many"] AH:=by
 refine F.ok fJ (fun vs H Q E h=>?_) (fun bP A outer s H vs Q E hr h=>?_)
 . obtain⟨d,c,t,m,rfl,_⟩:=h;rfl
 . obtain⟨d,c,t,m,rfl,B,ht,PV,WS,q⟩:=h;have hu:=dW hr;have Uo:=B.ne;have t0:=B.t0;obtain⟨ns,hc,PU,UD⟩:=B.cs;refine⟨_,bB (dj (i:=2) fJ.nd rfl (Or.inl rfl) (cC lY (i3 hu (pv 0) gM (fun _ _=>rfl)) bI))
    (bB (pU hu (pv 0) gM (pv 2) rfl)
    (bB (dj (i:=3) fJ.nd rfl (Or.inl rfl) (cC jM (pv 2) (i4 jw (by rfl) T.len PySem.boot_len (au (i3 hu (pv 0) gM (fun _ _=>rfl)) aL))))
    (bB (dj (i:=4) fJ.nd rfl (Or.inl rfl) (Bw p9 (i3 hu (pv 0) gM (fun _ _=>rfl)) (pv 3) (fun _ _=>rfl)))
    (bB (Bh (g9 Ng (pv 4) (cC BG bI bI) (dm _))
     (bB (Bi (i4 jy (by rfl) T.U0 qE (au (pv 4) (au (pv 1) aL))) (cT rfl (aI (JG (i3 hu (pv 0) gM (fun _ _=>rfl)) (pv 3) set_list) (aI (aE (i:=5) fJ.nd rfl (Or.inl rfl)) bR))))
      (iZ (pS (pv 5)))) pR)
    (bB (dj (i:=6) fJ.nd rfl (Or.inl rfl) (cC jM (cC iF (cC lY (cC lY (cC jM (pv 4) bI) (cC iF (cC iF (pv 2) (pv 2)) bI)) bI) bI) bI))
    (bB (dj (i:=6) fJ.nd rfl (Or.inl rfl) (cC jM (cC iF (pv 6) (pv 6)) bI))
    (iZ (pS (cC jM (cC Fh (cC jM (cC iF (cC lY (pv 6) (cC iF (pv 2) bI)) bI) bI) bI) (pv 1)))))))))),?_⟩
   refine⟨_,rfl,d,_,rfl,by rw[<-GG c t];exact kJ.k (k:=Sum.inr "turn") B.dc,_,_,rfl,rfl,?_⟩;refine⟨_,rfl,_,rfl,d,_,rfl,kI.k (k:=Sum.inr "turn") B.dc (by show 2 < sizeLine;decide),?_⟩;rw[LC];have PY:(upd H d (.dK (bx c (t+1)))) d=some (.dK (bx c (t+1))):=ag;have KR:(upd H d (.dK (bx c (t+1)))) c=some (.lst (ns.map V.int)):=by rw[ah Uo.symm];exact hc
   have gc:kJ (upd H d (.dK (bx c (t+1)))) d (.str "cells") (some (.ref c)):=by rw[<-tT c (t+1)];exact kJ.k (k:=Sum.inr "cells") PY
   have hl:(0:Int) < ((ns.map V.int).length:Int):=by rw[Ze];omega
   refine⟨_,rfl,_,rfl,d,_,rfl,gc,c,_,rfl,.inl (cX.of KR),_,_,rfl,rfl,hl,?_⟩;have RT:0<=(t+1) % ((ns.map V.int).length:Int):=Int.emod_nonneg _ (by omega);have Mb:(t+1) % ((ns.map V.int).length:Int) < ((ns.map V.int).length:Int):=an3 _ hl;obtain⟨cell,oK⟩: ∃cell,(ns.map V.int)[((t+1) % ((ns.map V.int).length:Int)).toNat]?=some (V.int cell):=by
    have Yq:((t+1) % ((ns.map V.int).length:Int)).toNat < ns.length:=by rw[Ze] at RT Mb ⊢;omega
    exact⟨ns[((t+1) % ((ns.map V.int).length:Int)).toNat],by simp⟩
   refine⟨_,rfl,d,_,rfl,gc,_,rfl,c,_,_,_,rfl,rfl,cX.of KR,GK RT oK,?_⟩;refine⟨_,rfl,_,_,rfl,rfl,(show zJ 10 18 from by unfold zJ;decide),_,_,rfl,rfl,_,rfl,?_⟩;refine RC (fun _=>?_) (fun _=>?_)
   . refine⟨_,rfl,_,rfl,_,_,rfl,⟨PV,WS⟩,fun p hp=>?_⟩;have hd2:(upd (upd H d (.dK (bx c (t+1)))) p (.tup [.int (cell / m), .int (cell % m)])) d=some (.dK (bx c (t+1))):=by rw[ah (aj PY hp)];exact PY
     have P1:(upd (upd H d (.dK (bx c (t+1)))) p (.tup [.int (cell / m),.int (cell % m)])) c=some (.lst (ns.map V.int)):=by rw[ah (aj KR hp)];exact KR
     refine⟨p,_,rfl,eV.of ag,rfl,_,_,rfl,?_⟩;refine⟨_,rfl,d,_,rfl,by rw[<-tT c (t+1)];exact kJ.k (k:=Sum.inr "cells") hd2,_,rfl,c,_,_,_,rfl,rfl,P1,FK RT Mb,?_⟩;refine⟨_,_,rfl,rfl,?_⟩;refine⟨_,rfl,?_⟩;refine q _ _ (Int.emod_nonneg _ (by omega)) (an3 _ PV) ⟨by rw[ah Uo];exact hd2,⟨ns.set ((t+1) % ((ns.map V.int).length:Int)).toNat (cell / m),?_,by rw[ZQ];exact PU,by rw[ZQ];exact UD⟩,by omega,by omega⟩ fun b o e h1 h2=>?_
     . rw[ag,List.map_set]
     . have e1:(upd H d (.dK (bx c (t+1)))) b=some o:=by rw[ah h1];exact e
       rw[ah h2,ah (aj e1 hp)];exact e1
   . refine⟨_,rfl,_,_,rfl,rfl,(by show(0:Int) < 2147483549;decide),_,rfl,_,rfl,_,_,rfl,rfl, .inl ⟨by omega,by omega⟩,_,_,rfl,rfl, .inr ⟨by decide,by decide⟩,_,_,rfl,rfl,_,_,rfl,rfl,_,_,rfl,rfl, .inr ⟨by decide,by decide⟩,_,_,rfl,rfl,(by show(0:Int) < 2147483647;decide),?_⟩;generalize UE:((cell % 2147483549+(t+1)*(t+1)*4441+23)*48271 % 2147483647:Int)=mx;have m0:0<=mx:=by rw[<-UE];exact Int.emod_nonneg _ (by decide)
     have m1:mx < 2147483647:=by rw[<-UE];exact an3 _ (by decide)
     refine⟨_,rfl,_,rfl,_,_,rfl,rfl,.inl ⟨by omega,by omega⟩,_,_,rfl,rfl,(by show(0:Int) < 2147483399;decide),?_⟩;refine⟨_,rfl,_,rfl,_,_,rfl,rfl,.inr ⟨by decide,by decide⟩,_,_,rfl,rfl,_,_,rfl,rfl,.inr ⟨by decide,by decide⟩,_,_,rfl,rfl,(by show(0:Int) < 2147483549;decide),_,_,rfl,rfl,⟨by decide,by decide⟩,_,rfl,_,_,rfl,rfl,PV,?_⟩;refine q _ _ (Int.emod_nonneg _ (by omega)) (an3 _ PV) ⟨PY,⟨ns,KR,PU,UD⟩,by omega,by omega⟩ fun b o e h1 h2=>?_;rw[ah h1];exact e
theorem BO(F:gb K "_law_begin" "_law_begin" pO f fd)(T:Txt mg):aY P w K mg base eC 1 f fd ["_law_script"] (pD K):=by
 refine F.ok lF (fun vs H Q E h=>?_) (fun bP A outer s H vs Q E hr h=>?_)
 . obtain⟨a,ns,rfl,_⟩:=h;rfl
 . obtain⟨a,ns,rfl,hS,hn,q⟩:=h;have hu:=dW hr;refine⟨_,bB (dj (i:=1) lF.nd rfl (Or.inl rfl) (fe jv (by rfl) T.lst bN (au (sf Ew (pv 0) wM (wL bI)) aL)))
    (bB (Bh (g9 (yu hr.ph) (pv 1) (lU aL) (dm _)) (iZ (dj (i:=1) lF.nd rfl (Or.inl rfl) (lU (au bI aL)))) pR)
    (iZ (pS (Fb (se gM (pv 1) (se gM bI EW)) rfl rfl (by simp) (by decide))))),?_⟩
   refine⟨_,rfl,_,rfl,a,_,rfl,hS,fun p hp=>?_⟩;have SM:mT (ns.map V.int) none (some 63)=ns.map V.int:=by
    unfold mT;rw[HT.iW,show((63:Int))=((63:Nat):Int) from rfl,HT.pP,an8,am9,Ze];exact List.take_of_length_le (by rw[Ze];omega)
   rw[SM];refine⟨p,_,rfl,.inl (cX.of ag),fun l hl=>?_⟩;have s1:aD H (upd (upd H p (.lst (ns.map V.int))) l (.lst (ns.map V.int))):=fun b o e=>by
    have e1:(upd H p (.lst (ns.map V.int))) b=some o:=by rw[ah (aj e hp)];exact e
    rw[ah (aj e1 hl)];exact e1
   have R6:(upd (upd H p (.lst (ns.map V.int))) l (.lst (ns.map V.int))) l=some (.lst (ns.map V.int)):=ag;generalize upd (upd H p (.lst (ns.map V.int))) l (.lst (ns.map V.int))=H1 at s1 R6;refine⟨_,rfl,ZV _,fun e0 W6=>?_⟩;have s2:aD H1 (upd H1 e0 (.lst [])):=fun b o e=>by rw[ah (aj e W6)];exact e
   refine⟨l,e0,_,rfl,rfl,cX.of (s2 _ _ R6),cX.of ag,_,rfl,?_⟩;have fin: ∀(g:Addr) (ms:List Int) (H2:Hp),aD H H2->H2 g=some (.lst (ms.map V.int))->0 < ms.length->ms.length<=63->G5 [(tC (.str "cells"),dM 1),(tC (.str "turn"),tC (.int 0))] [some (.ref a),some (.ref g)] H2 Q:=fun g ms H2 s3 hg h1 h2=>by
    intro d hd;have nd:g≠d:=aj hg hd;refine⟨_,rfl,ag,[(Sum.inr "cells",.ref g),(Sum.inr "turn",.int 0)],rfl,by show 2<=15;decide,?_⟩;have em:iG [] [((Sum.inr "cells":Key),V.ref g),(Sum.inr "turn",V.int 0)]=bx g 0:=by
     simp [iG,putK,bx,RB]
    rw[em];refine q d g _ ⟨ag,⟨ms,by rw[ah nd,ah nd];exact hg,h1,h2⟩,ad6 _,by decide⟩ fun b o e=>?_;have e1:=s3 b o e;rw[ah (aj e1 hd),ah (aj e1 hd)];exact e1
   cases HD:ns with
   | nil=>
    refine cF ⟨by show 1<=sizeLine;decide,fun g hg=>?_⟩;refine fin g [17] _ (fun b o e=>?_) ag (by decide) (by decide);have e1:=s2 _ _ (s1 b o e);rw[ah (aj e1 hg)];exact e1
   | cons n0 nr=>
    refine bD ?_;exact fin l ns _ (fun b o e=>s2 _ _ (s1 b o e)) (s2 _ _ R6) (by rw[HD];simp) hn
theorem BJ(F:gb K "_law_take" "_law_take" pM f fd)(T:Txt mg):aY P w K mg base eC 1 f fd ["_law_state","_law_many"] (zM rL):=(Fj F T).imp fun _ _ _ _ h=>Em h
end
end aX
namespace aX
open PySem PySem.Spec L2 LB LD PyProof.Rows
noncomputable def sr(s:St)(w:Str):Bool:=(bF s && ("read":Str)==w) || (aZ s && ("next":Str)==w) || (bb s && ("under":Str)==w)
noncomputable def fX(s:St)(w:Str):St:=if ("read":Str)=w then s.read else if ("next":Str)=w then s.next else s.under
theorem Ce:inD (.str w) (fY s)=sr s w:=by
 unfold fY sr inD;cases bF s <;> cases aZ s <;> cases bb s <;> simp [HM,Bool.or_assoc]
structure Good(n m:Nat)(s:St):Prop where
 l:s.cc.length=n
 p:s.aF.length<=m
 b:1<=s.b
 ig: ∀w∈s.aF,1<=w/\w<=n
theorem vi(n:Nat):Good n 0 (first n):=⟨ad4,Zj _,Zj _,fun w hw=>absurd hw Zi⟩
theorem Good.Oe(g:Good n m s)(nB:n<=12)(Wq:m<=100):vV s:=⟨by rw[g.l];lia,by have:=g.p;lia,fun w hw=>by rw[g.l];exact g.ig w hw⟩
theorem tf(g:Good n m s)(on:Nat):Good n (m+1) (s.uv on):=⟨by show(s.cc.set _ _).length=n;rw[ZQ,g.l],by show s.aF.dropLast.length<=_;rw[ai6];have:=g.p;lia,g.b,fun w hw=>g.ig w ((al2 _).subset hw)⟩
theorem cZ(h:sr s w=true):(w="read"/\bF s=true/\fX s w=s.read)\/(w="next"/\aZ s=true/\fX s w=s.next)\/(w="under"/\bb s=true/\fX s w=s.under):=by
 unfold sr at h;rw[Bool.or_eq_true,Bool.or_eq_true,aa8,aa8,aa8,Zt,Zt,Zt] at h;unfold fX;rcases h with (⟨h,e⟩ | ⟨h,e⟩) | ⟨h,e⟩
 . subst e;exact .inl ⟨rfl,h,if_pos rfl⟩
 . subst e;exact .inr (.inl ⟨rfl,h,by rw[if_neg (by decide),if_pos rfl]⟩)
 . subst e;exact .inr (.inr ⟨rfl,h,by rw[if_neg (by decide),if_neg (by decide)]⟩)
theorem y6(g:Good n m s)(h:sr s w=true):Good n (m+1) (fX s w):=by
 rcases cZ h with ⟨_,c,e⟩ | ⟨_,c,e⟩ | ⟨_,c,e⟩
 . rw[e];have c':s.b<=s.cc.length:=ZL c;refine⟨g.l,by show(s.aF++ [s.b]).length<=_;rw[Zy];have:=g.p;show s.aF.length+1<=_;lia,by show 1<=s.b+1;lia,fun w hw=>?_⟩;rcases Zz.mp hw with h | h
   . exact g.ig w h
   . cases Zl.mp h;exact⟨g.b,by rw[<-g.l];exact c'⟩
 . rw[e];exact tf g _
 . rw[e];exact tf g _
theorem jY(f:vV s)(h:sr s w=true)(q:Q (fX s w).dt):hV [s.dt,.str w] Q:=by
 refine⟨s,w,rfl,f,?_⟩;rcases cZ h with ⟨e,c,z⟩ | ⟨e,c,z⟩ | ⟨e,c,z⟩
 . rw[z] at q;exact .inl ⟨e,q⟩
 . rw[z] at q;refine .inr (.inl ⟨e,fun y=>?_,q⟩);unfold aZ at c;rw[y] at c;simp at c
 . rw[z] at q;exact .inr (.inr ⟨e,ZL c,q⟩)
theorem zd{n:Nat}:Dt.tup [.tup [],.int 1,.tup (List.replicate ((n:Int)).toNat [Dt.aN]).flatten]=(first n).dt:=by
 show _=Dt.tup [.tup [],.int 1,.tup ((List.replicate n none).map oD)];rw[Od,List.map_replicate,ab5];rfl
theorem Lc:eq2 (nI x) (nI y)=some (decide (x=y)):=by
 show some (decide ((x:Int)=(y:Int)))=_;exact aa6 some (aj1.mpr ⟨fun h=>by lia,fun h=>by rw[h]⟩)
theorem GJ{ds:List Dt}{t:Nat}(h1:1<=t)(h:ds[t - 1]?=some d):iK ds ((t:Int) - 1)=some d:=by
 rw[show((t:Int) - 1)=((t - 1:Nat):Int) by lia];exact a0 h
noncomputable def rH(hs:List Nat):Dt:= .tup (hs.map nI)
end aX
namespace og
open PySem PySem.Spec L2 PyProof.Rows
theorem Jj{h1 h2:Heap}(f:Q2 P w a xs h1)(k: ∀o,h1.get? a=some o->h2.get? a=some o):Q2 P w a xs h2:=by
 obtain⟨f1,f2,zs,f3,o,CF,F8,f4,f5⟩:=f;exact⟨f1,f2,zs,f3,o,CF,F8,k _ f4,f5⟩
def Jd(tk tv:TE)(P:Program)(w:World):TE:=fun σ H Q=> ∀p,H p=none->tk σ (upd H p (pI P w p [])) fun x H1=>tv σ H1 fun y H2=> ∃b k,x= .ref b/\H2 p=some (pI P w p [])/\jB H2 k b/\Q (.ref p) (upd H2 p (pI P w p [(k,b,y)]))
theorem Bt(hu:X.A.units+2 < cLine)(hk:PE X k tk)(hv:PE X v tv):PE X (.Dict [some k] [v] pos) (Jd tk tv X.prog X.w):=by
 intro pins s σ H Q I q;have hn:=I.aT.fresh (Zj s.heap.objs.size);have I1:=I.laid (a:=s.heap.objs.size) (o:=pI X.prog X.w s.heap.objs.size []) (h':=s.heap.push {cls:= .type "dict",data:= .dict #[]}) (t':=s.toks) (fun _ _ q=>Zh _ q) (Zj _) (AR s.heap I.big);rw[arm_eval_Dict,zip_pairTrees [some k] [v] X.env pos rfl rfl,dictDisplay_pairs _ (by show(_::_:List _)≠ [];intro z;cases z) (by show 1 < 17;decide)];refine Zd (ab6 (Zd ?_));unfold subDict;refine Zd (wpAny_alloc ?_);refine Zd (aa9 ?_);rw[if_pos (by show 1<=15;decide)];refine Zd (pairTrees_cons_walk (aP (hk pins _ σ _ _ I1 (q _ hn)) fun u s1 ⟨x,H1,J1,rx,q1⟩=>aP (hv pins s1 σ _ _ J1 q1) fun w2 s2 ⟨y,H2,J2,ry,q2⟩=>pairTrees_nil_walk ?_));obtain⟨b,κ,ex,e,KC,q3⟩:=q2;subst ex;cases (show u=Value.ref b from rx);refine aa9 (Zd ?_);rw[ab7];have d:DA X.prog X.w H2 s.heap.objs.size []:=⟨e,fun x hx=>absurd hx Zi⟩
 obtain⟨z,hd,ys,rel,dd⟩:=AQ J2.aT d;cases rel;refine Zd (Zd (wpAny_dictSet_heap (knd:=iA X.prog X.w) (show X.A.units+1 < cLine by lia) (KC.is J2.aT) dd (fun h' ug hs=>Zf ?_) (ZV _)));dsimp only;rw[ai9];obtain⟨qo,es,ep,hq,h2,h3,h4,_,h5⟩:=ug;refine Zf (Zf (Zf (Zf ⟨.ref s.heap.objs.size,_,?_,rfl,q3⟩)));refine eK J2 (by rw[e];exact True.intro) hs ⟨qo,hq⟩ ⟨⟨by show 1<=sizeLine;decide,hd,[(κ,b,w2)],.cons ⟨rfl,rfl,ry⟩ .nil,qo,es,ep,hq,h2,h3,h4,h5⟩,⟨qo,hq⟩,fun h1 qS f k2=>Jj f k2⟩
end og
namespace og
open PySem PySem.Spec L2 LB LD PyProof.Rows
noncomputable def Uh:Option Int->Dt
 | none=> .aN
 | some i=> .int i
noncomputable def L4(k:SK):Dt:= .tup [.tup (k.1.map .int),.int k.2.1,.tup (k.2.2.map Uh)]
structure jX(M:Addr->Prop)(H:Hp)(k:SK)(b:Addr):Prop where
 ex: ∃b1 b2,(H b=some (.tup [.ref b1,.int k.2.1,.ref b2])/\ ¬M b)/\(H b1=some (.tup (k.1.map V.int))/\ ¬M b1)/\(H b2=some (.tup (k.2.2.map oV))/\ ¬M b2)
theorem jX.at(x:jX M H k b):jB H k b:=let ⟨b1,b2,e,e1,e2⟩:=x.ex;⟨b1,b2,e.1,e1.1,e2.1⟩
theorem jX.st(x:jX M H k b)(h: ∀a o,H a=some o-> ¬M a->H' a=some o/\ ¬M' a):jX M' H' k b:=let ⟨b1,b2,e,e1,e2⟩:=x.ex;⟨b1,b2,h _ _ e.1 e.2,h _ _ e1.1 e1.2,h _ _ e2.1 e2.2⟩
theorem xa: ∀{ns:List Int} {vs:List V},az M H vs (ns.map Dt.int)->vs=ns.map V.int
 | [],vs,r=>r.cz
 | n::ns,vs,r=>by
  obtain⟨x,ys,rfl,rx,ry⟩:=r.aK;cases rx.ofInt;rw[xa ry];rfl
theorem pY: ∀{ns:List (Option Int)} {vs:List V},az M H vs (ns.map Uh)->vs=ns.map oV
 | [],vs,r=>r.cz
 | none::ns,vs,r=>by
  obtain⟨x,ys,rfl,rx,ry⟩:=r.aK;cases rx.Nm;rw[pY ry];rfl
 | some n::ns,vs,r=>by
  obtain⟨x,ys,rfl,rx,ry⟩:=r.aK;cases rx.ofInt;rw[pY ry];rfl
theorem jX.of(r:Rep M H v (L4 k)): ∃b,v= .ref b/\jX M H k b:=by
 obtain⟨b,xs,rfl,hb,nb,rr⟩:=r.bJ;obtain⟨x1,r1,rfl,q1,rr⟩:=rr.aK;obtain⟨x2,r2,rfl,q2,rr⟩:=rr.aK;obtain⟨x3,r3,rfl,q3,rr⟩:=rr.aK;cases rr.cz;obtain⟨b1,y1,rfl,h1,n1,s1⟩:=q1.bJ;cases q2.ofInt;obtain⟨b2,y2,rfl,h2,n2,s2⟩:=q3.bJ;rw[xa s1] at h1;rw[pY s2] at h2;exact⟨b,rfl,b1,b2,⟨hb,nb⟩,⟨h1,n1⟩,⟨h2,n2⟩⟩
noncomputable def nQ(xs:List SE):List (SK × V):=xs.map fun x=>(x.1,x.2.2)
end og
namespace aX
open PySem PySem.Spec L2 LB LD PyProof.Rows og
noncomputable def sk(s:St):SK:=(s.aF.map Int.ofNat,Int.ofNat s.b,s.cc.map (Option.map Int.ofNat))
theorem AN:L4 (sk s)=s.dt:=by
 unfold L4 sk St.dt;simp only [ZP];congr 1
 refine List.cons_eq_cons.mpr ⟨rfl,List.cons_eq_cons.mpr ⟨rfl,List.cons_eq_cons.mpr ⟨?_,rfl⟩⟩⟩;congr 1
 refine ZK fun o _=>?_;cases o <;> rfl
theorem AM(h:sk s=sk t):s=t:=by
 obtain⟨p,b,o⟩:=s;obtain⟨p',b',o'⟩:=t;unfold sk at h;obtain⟨h1,h⟩:=Prod.mk.inj h;obtain⟨h2,h3⟩:=Prod.mk.inj h;have i1: ∀x y:Nat,Int.ofNat x=Int.ofNat y->x=y:=fun x y e=>Int.ofNat.inj e;have i2: ∀x y:Option Nat,x.map Int.ofNat=y.map Int.ofNat->x=y:=fun x y e=>by
  cases x with
  | none=>cases y with
   | none=>rfl
   | some y=>cases e
  | some x=>cases y with
   | none=>cases e
   | some y=>exact aa6 some (i1 x y (Option.some.inj e))
 have e1:p=p':=(List.map_inj_right i1).mp h1;have e2:b=b':=i1 _ _ h2;have e3:o=o':=(List.map_inj_right i2).mp h3;rw[e1,e2,e3]
noncomputable def kq(s:St):List Str:=(if bF s then [("read":Str)] else [])++(if aZ s then [("next":Str)] else [])++(if bb s then [("under":Str)] else [])
theorem BX:fY s=(kq s).map .str:=by
 unfold fY kq;rw[ZA,ZA];congr 1
 . congr 1 <;> split <;> rfl
 . split <;> rfl
theorem wW(h:w∈kq s):sr s w=true:=by
 rw[<-Ce,BX];unfold inD;exact am0.mpr ⟨_,List.mem_map_of_mem h,by show decide (w=w)=true;exact ZZ rfl⟩
theorem Kt(hr:bT k A):A.units+2 < cLine:=af8 (Nat.add_le_add_left (by decide:2<=64) _) hr.units
theorem FC:(fY s).length<=3:=by
 unfold fY;cases bF s <;> cases aZ s <;> cases bb s <;> simp
structure Wk(n m:Nat)(s:St):Prop where
 g:Good n m s
 bl:s.b<=n+1
 nd:s.aF.Nodup
 lt: ∀w∈s.aF,w < s.b
 un: ∀w,1<=w->w<=n->(s.cc[w - 1]?=some none↔w∈s.aF\/s.b<=w)
theorem Al(n:Nat):Wk n 0 (first n):=by
 refine⟨vi n,by show 1<=n+1;lia,ac7,fun w hw=>absurd hw Zi,fun w h1 h2=>⟨fun _=> .inr h1,fun _=>?_⟩⟩;show(List.replicate n none)[w - 1]?=some none;rw[ZI,if_pos (by lia)]
theorem Ak(k:Wk n m s)(g:Good n (m+1) (s.uv on))(ne:s.aF≠ []):Wk n (m+1) (s.uv on):=by
 obtain⟨q,h,e⟩: ∃q h,s.aF=q++ [h]:=⟨s.aF.dropLast,s.aF.getLast ne,(al3 ne).symm⟩
 have hl:s.aF.getLastD 1=h:=by rw[e];simp
 have hd:s.aF.dropLast=q:=by rw[e];simp
 have nd:=k.nd;have lt:=k.lt;have rg:=k.g.ig;rw[e] at nd lt rg;have hq:h∉q:=fun z=>by
  have:=ac4.mp nd;exact this.2.2 h z h Zu rfl
 have hb:h < s.b:=lt h (by simp);have h1:1<=h/\h<=n:=rg h (by simp);refine⟨g,k.bl,?_,fun w hw=>?_,fun w w1 w2=>?_⟩
 . show s.aF.dropLast.Nodup;rw[hd];exact(ac4.mp nd).1
 . have hw:w∈s.aF.dropLast:=hw;rw[hd] at hw;exact lt w (ZX _ hw)
 . show(s.cc.set (s.aF.getLastD 1 - 1) (some on))[w - 1]?=some none↔w∈s.aF.dropLast\/s.b<=w;rw[hl,hd];have hu:=k.un w w1 w2;rw[e] at hu;have lo:=k.g.l;by_cases c:w=h
   . subst c;rw[ZH (by lia)];exact⟨fun z=>(by cases z),fun z=>z.elim (fun y=>absurd y hq) fun y=>by lia⟩
   . rw[Zr (by lia),hu,Zz,Zl];exact⟨fun z=>z.elim (fun y=>y.elim .inl fun x=>absurd x c) .inr,fun z=>z.elim (fun y=> .inl (.inl y)) .inr⟩
theorem Ee(k:Wk n m s)(h:sr s w=true):Wk n (m+1) (fX s w):=by
 have g:=y6 k.g h;rcases cZ h with ⟨_,c,e⟩ | ⟨_,c,e⟩ | ⟨_,c,e⟩
 . rw[e] at g ⊢;have c':s.b<=s.cc.length:=ZL c;have lo:=k.g.l;refine⟨g,by show s.b+1<=n+1;lia,?_,fun w hw=>?_,fun w w1 w2=>?_⟩
   . show(s.aF++ [s.b]).Nodup;refine ac4.mpr ⟨k.nd,af4.mpr ⟨Zi,ac7⟩,fun a ha b hb z=>?_⟩;have:=k.lt a ha;rw[Zl.mp hb] at z;lia
   . rcases Zz.mp (show w∈s.aF++ [s.b] from hw) with z | z
     . exact ag8 (k.lt w z)
     . rw[Zl.mp z];exact Nat.lt_succ_self _
   . show s.cc[w - 1]?=some none↔w∈s.aF++ [s.b]\/s.b+1<=w;rw[k.un w w1 w2,Zz,Zl];constructor
     . rintro(z | z)
       . exact .inl (.inl z)
       . by_cases c:w=s.b
         . exact .inl (.inr c)
         . exact .inr (by lia)
     . rintro((z | z) | z)
       . exact .inl z
       . exact .inr (by lia)
       . exact .inr (by lia)
 . rw[e] at g ⊢;refine Ak k g fun z=>?_;unfold aZ at c;rw[z] at c;simp at c
 . rw[e] at g ⊢;refine Ak k g fun z=>?_;have c:1 < s.aF.length:=ZL c;rw[z] at c;exact absurd c (by simp)
structure Lv(n m:Nat)(s:St):Prop where
 k:Wk n m s
 c:m+s.aF.length+2=2*s.b
 p: ∀(i:Nat) x,s.cc[i]?=some (some x)->1<=x
theorem BY(n:Nat):Lv n 0 (first n):=⟨Al n,rfl,fun i x h=>by
 have h:(List.replicate n (none:Option Nat))[i]?=some (some x):=h;rw[ZI] at h;split at h <;> cases h⟩
theorem kP(l:Lv n m s)(o:sr s w=true):Lv n (m+1) (fX s w):=by
 refine⟨Ee l.k o,?_,?_⟩
 . have b1:=l.k.g.b;have c:=l.c;rcases cZ o with ⟨rfl,c',e⟩ | ⟨rfl,c',e⟩ | ⟨rfl,c',e⟩ <;> rw[e]
   . show m+1+(s.aF++ [s.b]).length+2=2*(s.b+1);rw[Zy];show m+1+(s.aF.length+1)+2=2*(s.b+1);lia
   all_goals
    have np:1<=s.aF.length:=by
     first
      | (unfold aZ at c';rw[aa8] at c';cases q:s.aF with | nil=>rw[q] at c';cases c'.2 | cons a b=>simp)
      | (unfold bb at c';have:=ZL c';lia)
    show m+1+s.aF.dropLast.length+2=2*s.b;rw[ai6];lia
 . rcases cZ o with ⟨rfl,c',e⟩ | ⟨rfl,c',e⟩ | ⟨rfl,c',e⟩ <;> rw[e]
   . exact l.p
   . intro i x h;have h:(s.cc.set (s.aF.getLastD 1 - 1) (some s.b))[i]?=some (some x):=h;rw[List.getElem?_set] at h;split at h
     . split at h
       . cases h;exact l.k.g.b
       . cases h
     . exact l.p i x h
   . intro i x h;have h:(s.cc.set (s.aF.getLastD 1 - 1) (some (s.aF.dropLast.getLastD 1)))[i]?=some (some x):=h;rw[List.getElem?_set] at h;split at h
     . split at h
       . cases h;have l2:2<=s.aF.length:=by unfold bb at c';exact ZL c'
         have np:s.aF.dropLast≠ []:=fun z=>by have:=aa6 List.length z;rw[ai6,ag7] at this;lia
         exact(l.k.g.ig _ ((al2 _).subset (mG np))).1
       . cases h
     . exact l.p i x h
theorem FG(l:Lv n m s)(n1:1<=n):(s.b=n+1/\s.aF.length=1)↔m=2*n - 1:=by
 have c:=l.c;have bl:=l.k.bl;constructor
 . rintro⟨h1,h2⟩;lia
 . intro h;constructor <;> lia
noncomputable def cg(s:St):Bool:=!(decide (s.b<=s.cc.length) || decide (s.aF.length≠1))
noncomputable def jk(s:St):List Nat:=(s.cc.set (s.aF.headD 1 - 1) (some 0)).map (·.getD 0)
theorem i7(l:Lv n m s)(n1:1<=n):cg s=decide (m=2*n - 1):=by
 have:=FG l n1;have ol:=l.k.g.l;have bl:=l.k.bl;unfold cg;rw[ol,ah9,Bool.not_eq_true',Bool.or_eq_false_iff,aj8,aj8,decide_eq_true_iff,<-this];constructor
 . rintro⟨h1,h2⟩;exact⟨by lia,by lia⟩
 . rintro⟨h1,h2⟩;exact⟨by lia,fun z=>z h2⟩
theorem Le(h:cg s=false):tD s= .aN:=by
 unfold cg at h;unfold tD;rw[if_pos];simp only [Bool.not_eq_false',Bool.or_eq_true,decide_eq_true_eq] at h;exact h
theorem xr(l:Lv n m s)(h:cg s=true):tD s=rH (jk s):=by
 unfold cg at h;simp only [Bool.not_eq_true',Bool.or_eq_false_iff,aj8] at h;unfold tD;rw[if_neg (by rintro(z | z);exact h.1 z;exact h.2 z)];unfold rH jk;rw[ZP];congr 1
 refine ZK fun o ho=>?_;obtain⟨i,hi,e⟩:=aa5 ho;cases o with
 | some x=>rfl
 | none=>
  exfalso;have e':(s.cc.set (s.aF.headD 1 - 1) (some 0))[i]?=some none:=by rw[Zg hi,e]
  have nD:i < s.cc.length:=by rw[ZQ] at hi;exact hi
  rw[List.getElem?_set] at e';split at e'
  . split at e' <;> cases e'
  . rename_i ne;have ol:=l.k.g.l;have un:=(l.k.un (i+1) (by lia) (by lia)).mp (by rw[Nat.add_sub_cancel];exact e');rcases un with z | z
    . have l1 : s.aF.length = 1 := by
        have:=h.2;exact Classical.not_not.mp this
      match hp:s.aF,l1 with
      | [a],_=>
       rw[hp] at z ne;have:i+1=a:=Zl.mp z;exact ne (by show a - 1=i;lia)
    . exact h.1 (by lia)
end aX
namespace LD
open PySem PySem.Spec L2 LB PyProof.Rows LW
theorem wo{Δ:cO}(Q:List Sl->Prop)(h: ∀Δ':cO,(∀δ',Q δ'->Δ'.nx δ')->(∀d δ',Δ.rt d δ'->Δ'.rt d δ')->T Δ' δ)(fin: ∀δ',Q δ'->R Δ δ'):Gk T R Δ δ:=h _ fin fun _ _ z=>z
end LD
namespace aX
open PySem PySem.Spec L2 LB LD PyProof.Rows
noncomputable def Po(hs:List Nat)(w:Nat):Nat:=hs.getD (w - 1) 0
noncomputable def QO(hs:List Nat)(x:Nat):Nat × Nat:=(min x (Po hs x),max x (Po hs x))
noncomputable def Tg(p q:Nat × Nat):Bool:=decide (p.1 < q.1) && (decide (q.1 < p.2) && decide (p.2 < q.2))
noncomputable def G1(hs:List Nat):List (Nat × Nat):=(List.range' 1 hs.length).map (QO hs)
noncomputable def Wf(hs:List Nat):Bool:=(G1 hs).all fun p=>((G1 hs).filter (Tg p)).isEmpty
noncomputable def Vk(hs:List Nat):Nat->Nat->Bool
 | 0,_=>true
 | k+1,x=>if Po hs x=0 then false else Vk hs k (Po hs x)
noncomputable def W0(hs:List Nat):Bool:=decide (hs.count 0=1) && (List.range' 1 hs.length).all fun v=>!Vk hs (hs.length+1) v
theorem Q4(n:Nat):(List.range n).map (fun j=>Dt.int (1+(j:Nat)))=(List.range' 1 n).map nI:=by
 rw[aj6,ZP];refine ZK fun j _=>?_;show Dt.int (1+(j:Int))=Dt.int ((1+j:Nat):Int);rw[show(1+(j:Int))=((1+j:Nat):Int) by lia]
noncomputable def grow(n w:Nat)(h:List Nat):List (List Nat):=((List.range (n+1)).filter fun o=>decide (o≠w)).map fun o=>h++ [o]
noncomputable def L7(n:Nat):Nat->List (List Nat)
 | 0=> [[]]
 | w+1=>(L7 n w).flatMap (grow n (w+1))
noncomputable def Tu(n:Nat):List (List Nat):=(L7 n n).filter W0
theorem Ct:(grow n w h).length<=n+1:=by
 unfold grow;rw[Ze];exact ZE (ag0 _ _) (by rw[ZN];exact Zj _)
theorem CB{α β:Type}{f:α->List β}{k:Nat}(h: ∀x,(f x).length<=k): ∀{L:List α},(L.flatMap f).length<=L.length*k
 | []=>by simp
 | x::L=>by
  rw[ak8,Zy,ZG,Nat.add_mul];have:=h x;have:=CB h (L:=L);lia
theorem wK: ∀w,(L7 n w).length<=(n+1)^w
 | 0=>Zj _
 | w+1=>by
  have:=CB (f:=grow n (w+1)) (fun _=>Ct) (L:=L7 n w);have ih:=wK (n:=n) w;rw[Nat.pow_succ];exact ZE this (am2 _ ih)
theorem Bj: ∀w,∀h∈L7 n w,h.length=w/\ ∀x∈h,x<=n
 | 0=>fun h hh=>by rw[Zl.mp hh];exact⟨rfl,fun x hx=>absurd hx Zi⟩
 | w+1=>fun h hh=>by
  obtain⟨g,hg,hm⟩:=ab9.mp hh;obtain⟨o,ho,rfl⟩:=ZF.mp hm;have ho:=ad3.mp (ag6.mp ho).1;obtain⟨l,r⟩:=Bj w g hg;refine⟨by rw[Zy,l];rfl,fun x hx=>?_⟩;rcases Zz.mp hx with z | z
  . exact r x z
  . rw[Zl.mp z];lia
theorem SH(h5:n<=5)(hw:w<=5):(n+1)^w<=7776:=ZE (Nat.pow_le_pow_left (show n+1<=6 by lia) w) (ZE (Nat.pow_le_pow_right (by decide) hw) (by decide))
end aX
namespace aX
open PySem PySem.Spec L2 LB LD PyProof.Rows og
inductive Rc(n:Nat):Nat->St->Prop
 | zero:Rc n 0 (first n)
 | step {m:Nat} {s:St} {w:Str}:Rc n m s->sr s w=true->Rc n (m+1) (fX s w)
theorem Rc.lv(h:Rc n m s):Lv n m s:=by
 induction h with
 | zero=>exact BY n
 | step _ o ih=>exact kP ih o
theorem wX(h:cg s=true):kq s= []:=by
 unfold cg at h;rw[Bool.not_eq_true',Bool.or_eq_false_iff] at h;obtain⟨h1,h2⟩:=h;have h1:=Z1 h1;have h2:s.aF.length=1:=Decidable.not_not.mp (Z1 h2);have r:bF s=false:=ZO h1;have nx:aZ s=false:=by unfold aZ;rw[r];rfl
 have u:bb s=false:=ZO (by lia);unfold kq;rw[r,nx,u];rfl
theorem i6:w∈kq s↔sr s w=true:=by
 refine⟨wW,fun h=>?_⟩;unfold kq;rcases cZ h with ⟨rfl,c,_⟩ | ⟨rfl,c,_⟩ | ⟨rfl,c,_⟩ <;> simp [c]
theorem Rc.le(n1:1<=n)(h:Rc n m s):m<=2*n - 1:=by
 cases h with
 | zero=>lia
 | step h o=>
  rename_i m s w;have l:=h.lv;have c:=l.c;have bl:=l.k.bl;by_cases z:m=2*n - 1
  . have:=i7 l n1;rw[ZZ z] at this;have m0:=i6.mpr o;rw[wX this] at m0;exact absurd m0 Zi
  . have l2:=(kP l o).c;have b2:=(kP l o).k.bl;have ie:=i7 (kP l o) n1;lia
theorem Rc.up(h:Rc n m s):s.aF.Pairwise (· < ·):=by
 induction h with
 | zero=>exact List.Pairwise.nil
 | step h o ih=>
  rename_i m s w;have lt:=h.lv.k.lt;have uv: ∀on,(s.uv on).aF.Pairwise (· < ·):=fun on=>ih.sublist (al2 _);rcases cZ o with ⟨rfl,c',e⟩ | ⟨rfl,c',e⟩ | ⟨rfl,c',e⟩ <;> rw[e]
  . refine am3.mpr ⟨ih,ao1 _ _,fun a ha b hb=>?_⟩;rw[Zl.mp hb];exact lt a ha
  . exact uv _
  . exact uv _
noncomputable def AF(s:St):List St:=(if bF s then [s.read] else [])++(if aZ s then [s.next] else [])++(if bb s then [s.under] else [])
theorem MK:AF s=(kq s).map (fX s):=by
 have r:fX s "read"=s.read:=rfl;have n:fX s "next"=s.next:=by unfold fX;rw[if_neg (by decide),if_pos rfl]
 have u:fX s "under"=s.under:=by unfold fX;rw[if_neg (by decide),if_neg (by decide)]
 unfold AF kq;cases bF s <;> cases aZ s <;> cases bb s <;> simp [r,n,u]
theorem p5:t∈AF s↔ ∃w,sr s w=true/\t=fX s w:=by
 rw[MK,ZF];exact⟨fun⟨w,h,e⟩=>⟨w,i6.mp h,e.symm⟩,fun⟨w,h,e⟩=>⟨w,i6.mpr h,e.symm⟩⟩
noncomputable def FO(A:List St)(t:St):List St:=if t∈A then A else A++ [t]
noncomputable def Pu(n:Nat):Nat->List St
 | 0=> [first n]
 | m+1=>((Pu n m).flatMap AF).foldl FO []
theorem xb: ∀{L A:List St},t∈L.foldl FO A↔t∈A\/t∈L
 | [],A=>by simp
 | x::L,A=>by
  rw[List.foldl_cons,xb];have:t∈FO A x↔t∈A\/t=x:=by
   unfold FO;split
   . rename_i h;exact⟨.inl,fun z=>z.elim id fun y=>by rw[y];exact h⟩
   . rw[Zz,Zl]
  rw[this,ZS];exact⟨fun z=>z.elim (fun y=>y.elim .inl fun x=> .inr (.inl x)) fun y=> .inr (.inr y),fun z=>z.elim (fun y=> .inl (.inl y)) fun y=>y.elim (fun x=> .inl (.inr x)) .inr⟩
theorem A9(h:Rc n m s):s∈Pu n m:=by
 induction h with
 | zero=>exact Zl.mpr rfl
 | step _ o ih=>exact xb.mpr (.inr (ab9.mpr ⟨_,ih,p5.mpr ⟨_,o,rfl⟩⟩))
noncomputable def zK(n:Nat):List St:=(List.range (2*n)).flatMap (Pu n)
theorem Jx(n1:1<=n)(h:Rc n m s):s∈zK n:=ab9.mpr ⟨m,ad3.mpr (by have:=h.le n1;lia),A9 h⟩
inductive Fr(s:St):St->Prop
 | rf:Fr s s
 | step {t:St} {w:Str}:Fr s t->sr t w=true->Fr s (fX t w)
theorem Fr.rc(h:Rc n m s)(f:Fr s t): ∃m',Rc n m' t:=by
 induction f with
 | rf=>exact⟨m,h⟩
 | step _ o ih=>obtain⟨m',r⟩:=ih;exact⟨_,r.step o⟩
theorem Fr.head(o:sr s w=true)(f:Fr (fX s w) t):Fr s t:=by
 induction f with
 | rf=>exact .step .rf o
 | step _ o' ih=>exact ih.step o'
theorem Fr.cases(f:Fr s t):t=s\/ ∃w,sr s w=true/\Fr (fX s w) t:=by
 induction f with
 | rf=>exact .inl rfl
 | step f o ih=>
  rcases ih with z | ⟨w,ow,g⟩
  . subst z;exact .inr ⟨_,o,.rf⟩
  . exact .inr ⟨w,ow,g.step o⟩
noncomputable def tx:Nat->St->List (List Nat)
 | 0,s=>if cg s then [jk s] else []
 | k+1,s=>if cg s then [jk s] else(AF s).flatMap (tx k)
theorem mK(n1:1<=n): ∀(k m:Nat) (s:St) (h:List Nat),Rc n m s->m+k=2*n - 1->(h∈tx k s↔ ∃t,Fr s t/\cg t=true/\jk t=h)
 | 0,m,s,h,r,e=>by
  have ie:=i7 r.lv n1;rw[ZZ (by lia)] at ie;unfold tx;rw[if_pos ie];constructor
  . intro z;exact⟨s,.rf,ie,(Zl.mp z).symm⟩
  . rintro⟨t,f,it,rfl⟩
    rcases f.cases with z | ⟨w,o,_⟩
    . rw[z];exact Zl.mpr rfl
    . have m0:=i6.mpr o;rw[wX ie] at m0;exact absurd m0 Zi
 | k+1,m,s,h,r,e=>by
  have ie:=i7 r.lv n1;rw[ZO (by lia)] at ie;unfold tx;rw[if_neg (by rw[ie];exact Zp),ab9];constructor
  . rintro⟨u,hu,hh⟩
    obtain⟨w,o,rfl⟩:=p5.mp hu;obtain⟨t,f,it,et⟩:=(mK n1 k (m+1) _ h (r.step o) (by lia)).mp hh;exact⟨t,f.head o,it,et⟩
  . rintro⟨t,f,it,et⟩
    rcases f.cases with z | ⟨w,o,g⟩
    . rw[z,ie] at it;cases it
    . exact⟨_,p5.mpr ⟨w,o,rfl⟩,(mK n1 k (m+1) _ h (r.step o) (by lia)).mpr ⟨t,g,it,et⟩⟩
noncomputable def sd(p:List Nat)(i:Nat):Nat:=((0::p).filter fun x=>decide (x < i)).getLastD 0
noncomputable def iX(s:St)(i:Nat):List Nat:=match s.cc.getD (i - 1) none with
 | some x=> [x]
 | none=>if i∈s.aF then sd s.aF i::List.range' s.b (s.cc.length+1 - s.b) else(0::s.aF)++(List.range' s.b (s.cc.length+1 - s.b)).filter fun x=>decide (x≠i)
noncomputable def rows(s:St):List (List Nat):=(List.range' 1 s.cc.length).map (iX s)
noncomputable def en(n:Nat):List (List Nat):=(Tu n).filter Wf
noncomputable def fits:List Nat->List (List Nat)->Bool
 | x::h,r::R=>decide (x∈r) && fits h R
 | _,_=>true
noncomputable def Cc(E:List (List Nat))(i:Nat)(r:List Nat):Bool:=E.all (fun h=>decide (h.getD i 0∈r)) && (r.all (fun x=>E.any fun h=>decide (h.getD i 0=x)) && (r.zip r.tail).all fun p=>decide (p.1 < p.2))
noncomputable def Xx(n m:Nat)(s:St):Bool:=
 let E:=(en n).filter fun h=>fits h (rows s)
 let F:=tx (2*n - 1 - m) s
 F.all (fun h=>decide (h∈E)) && (E.all (fun h=>decide (h∈F)) && (List.range n).all fun i=>Cc E i ((rows s).getD i []))
noncomputable def zr(n:Nat):Bool:=(List.range (2*n)).all fun m=>(Pu n m).all (Xx n m)
theorem To:zr 1=true:=by decide+kernel
theorem Tn:zr 2=true:=by decide+kernel
theorem Tj:zr 3=true:=by decide+kernel
theorem Ti:zr 4=true:=by decide+kernel
end aX
namespace aX
open PySem PySem.Spec L2 LB LD PyProof.Rows
noncomputable def lsN(r:List Nat):Dt:= .lst (r.map nI)
noncomputable def LG(s:St):List Nat:=List.range' s.b (s.cc.length+1 - s.b)
theorem Q5(b n:Nat):(List.range n).map (fun k=>Dt.int ((b:Int)+(k:Nat)))=(List.range' b n).map nI:=by
 rw[aj6,ZP];refine ZK fun j _=>?_;show Dt.int _=Dt.int _;congr 1
theorem tj: ∀{L:List Nat} {k i:Nat},L.Pairwise (· < ·)->L[k]?=some i->L.filter (fun x=>decide (x < i))=L.take k
 | [],k,i,_,h=>by simp at h
 | a::L,0,i,p,h=>by
  cases h;rw[List.filter_cons_of_neg (by simp)];exact List.filter_eq_nil_iff.mpr fun x hx=>by have:=(ah5.mp p).1 x hx;simp;lia
 | a::L,k+1,i,p,h=>by
  have h:L[k]?=some i:=by simpa using h
  have ai:=(ah5.mp p).1 i (ZT h);rw[List.filter_cons_of_pos (by simpa using ai),tj (ah5.mp p).2 h];rfl
theorem EV{p:List Nat}{j i:Nat}(up:p.Pairwise (· < ·))(p1: ∀x∈p,1<=x)(h:p[j]?=some i):(0::p)[j]?=some (sd p i):=by
 have u0:(0::p).Pairwise (· < ·):=ah5.mpr ⟨fun x hx=>p1 x hx,up⟩;have hj:j < p.length:=(Zq.mp h).1;unfold sd;rw[tj u0 (show(0::p)[j+1]?=some i by simpa using h),ag2,List.getLast?_take,Zg (show j < (0::p).length by rw[ZG];lia)];simp
 rw[Zg (show j < (0::p).length by rw[ZG];lia)];rfl
theorem Ux{p:List Nat}:inD (nI i) (p.map nI)=decide (i∈p):=by
 unfold inD;rw[List.any_map,ah9,am0,decide_eq_true_iff];constructor
 . rintro⟨x,hx,e⟩
   have e:((x:Int)==(i:Int))=true:=e;have:=eq_of_beq e;rw[show i=x by lia];exact hx
 . intro h;exact⟨i,h,beq_self_eq_true (i:Int)⟩
theorem UU(p:List Nat):(p.map nI).all dY=true:=Z4.mpr fun d hd=>by obtain⟨x,_,rfl⟩:=ZF.mp hd;rfl
noncomputable def Um(i:Nat):Dt->Bool
 | .int x=>!decide (x=(i:Int))
 | _=>false
theorem Fz{L:List Nat}:(L.map nI).filter (Um i)=(L.filter fun x=>decide (x≠i)).map nI:=by
 rw[List.filter_map];congr 1
 refine List.filter_congr fun x _=>?_;show(!decide ((x:Int)=(i:Int)))=decide (x≠i);by_cases c:x=i
 . rw[ZZ (by lia),ZO (fun z=>z c)];rfl
 . rw[ZO (by lia),ZZ c];rfl
def Ue:DN:=fun ds Q=> ∃(n m:Nat) (s:St) (i:Nat),ds= [s.dt,nI i]/\Rc n m s/\n<=12/\1<=i/\i<=n/\Q (lsN (iX s i))
def Ha:DN:=fun ds Q=> ∃(n m:Nat) (s:St),ds= [s.dt]/\Rc n m s/\n<=12/\Q (.lst ((rows s).map lsN))
theorem A5{s:St}(h:s.cc.getD (i - 1) none=some x):iX s i= [x]:=by unfold iX;rw[h]
theorem Jp{s:St}(h:s.cc.getD (i - 1) none=none)(hi:i∈s.aF):iX s i=sd s.aF i::LG s:=by unfold iX;rw[h];exact if_pos hi
theorem EH{s:St}(h:s.cc.getD (i - 1) none=none)(hi:i∉s.aF):iX s i=(0::s.aF)++(LG s).filter fun x=>decide (x≠i):=by unfold iX;rw[h];exact if_neg hi
theorem JS{s:St}(l:s.cc.length=n)(h1:1<=i)(h2:i<=n):(s.cc.map oD)[i - 1]?=some (oD (s.cc.getD (i - 1) none)):=by
 rw[Zo,List.getD,Zg (show i - 1 < s.cc.length by lia)];rfl
section
variable{P:Program}{w:World}{K:PySem.W.Frag}{mg:Str->Option Value}{base:Heap}
theorem Nj(F:gb K "allowed_of" "allowed_of" dR f fd)(T:Txt mg):aY P w K mg base eC 1 f fd ["stand","word"] (cM Ue):=by
 refine nP F eG (fun ds Qd h=>?_) (fun bP A outer s H E hr=>⟨_,(aq (oz (dv 0) (qg 2 3 4 rfl eG.nd))
 (aq (eD (pB (dF (dv 4) (iu (dv 1) aA)))
 (aG (aM (df (aa (dF (dv 4) (iu (dv 1) aA)) ae))))
 bU)
 (aq (cA 5 eG.nd (jQ (bt (aa aA ae)) (dv 2)))
 (aq (jJ 6 eG.nd (Fu rfl T.lst T.ig (aa (dv 3) (aa (dy (cN T.len (aa (dv 4) ae)) aA) ae))))
 (aq (eD (Eo (dv 1) (dv 2))
 (aG (oy 6 (aM (qr (df (aa (dF (dv 5) (Gi (dv 2) (aa (dv 1) ae))) ae)) (dv 6)))))
 bU)
 (aG (oy 6 (aM (qr (Ov.ev (JV T.lst (aa (dv 5) ae))) (Ov.ev (cD (N:= ["other","word"]) (nt:=1) (js:= [1]) ⟨rfl,by decide+kernel,by decide,rfl,by decide+kernel,(by show∀x∈(_:List (Str × NameKind)),x.2=NameKind.free->(af dR).names.lookup x.1=some .cell\/(af dR).names.lookup x.1=some .free;decide+kernel)⟩ rfl (mz (dv 6)) (fun _ _ _ _ _=>aE (i:=0) (show(["other","word"]:List Str).Nodup by decide+kernel) rfl (by first | exact Or.inl rfl | exact Or.inr rfl)) cj bo (fun _ _ _ _ _=>HK (uw (dv 0) (dv 1))) (fun _ _ _ _ _=>(dv 0))))))))))))),fun ds Qd h=>?_⟩)
 . obtain⟨n,m,s,i,rfl,_⟩:=h;rfl
 . obtain⟨n,m,s,i,rfl,rc,nB,i1,i2,q⟩:=h;have lv:=rc.lv;have gl:=lv.k.g.l;have bl:=lv.k.bl;have b1:=lv.k.g.b;have pl:s.aF.length<=30:=by have:=lv.k.g.p;have:=lv.c;lia
   have s3:3000<=sizeLine:=by decide
   have ea:=GJ i1 (JS gl i1 i2);have eo:(s.cc.map oD).length=n:=by rw[Ze,gl]
   refine⟨_,rfl,_,_,_,rfl,⟨_,rfl,rfl⟩,⟨_,rfl,rfl⟩,⟨_,rfl,rfl⟩,?_⟩;refine⟨_,rfl,_,rfl,_,_,rfl,rfl,_,_,_,.inr rfl,rfl,ea,?_⟩;cases P4:s.cc.getD (i - 1) none with
   | some x=>
    rw[P4] at ea;refine⟨true,rfl,cF ?_⟩;refine⟨_,rfl,_,rfl,_,_,rfl,rfl,_,_,_,.inr rfl,rfl,ea,by show 1<=sizeLine;decide,?_⟩;rw[A5 P4] at q;exact q
   | none=>
    refine⟨false,rfl,bD ?_⟩;refine⟨by show 1<=sizeLine;decide,_,rfl,_,_,rfl,rfl,by rw[Ze];show 1+s.aF.length<=sizeLine;lia,⟨_,rfl,rfl⟩,?_⟩;refine⟨_,rfl,_,rfl,_,.inr rfl,_,_,rfl,rfl,(s.b:Int),s.cc.length+1 - s.b,?_,by lia,by lia,by lia,⟨_,rfl,rfl⟩,?_⟩
    . rw[eo,show(n:Int)+1=(s.b:Int)+((s.cc.length+1 - s.b:Nat):Int) by lia]
    rw[Q5];have el:(LG s).length<=13:=by unfold LG;rw[ZM];lia
    refine⟨_,rfl,_,rfl,_,.inr rfl,rfl,UU _,?_⟩;rw[if_neg Zp,Ux];by_cases c:i∈s.aF
    . obtain⟨j,hj,ej⟩:=aa5 c;have pj:s.aF[j]?=some i:=by rw[Zg hj,ej]
      have nd:=lv.k.nd;refine⟨true,by rw[ZZ c],cF ?_⟩;refine⟨_,rfl,_,rfl,_,rfl,⟨_,rfl⟩,_,rfl,_,nI i,j,nI i,rfl,rfl,rfl,UU _,by rw[Zo,pj];rfl,beq_self_eq_true (i:Int),fun k u hk hu=>?_,?_⟩
      . rw[Zo] at hu;obtain⟨x,hx,rfl⟩:=ae1.mp hu;show((x:Int)==(i:Int))=false;rw[ac0];intro z;have z:x=i:=by lia
        obtain⟨zR,ek⟩:=Zq.mp hx;have:=ae5.mp rc.up k j zR hj hk;lia
      . have e0:=EV rc.up (fun x hx=>(lv.k.g.ig x hx).1) pj;refine⟨_,_,nI (sd s.aF i), .inr rfl,rfl,a0 (by
         show([Dt.int 0]++s.aF.map nI)[j]?=_;have: [Dt.int 0]++s.aF.map nI=(0::s.aF).map nI:=rfl;rw[this,Zo,e0];rfl),by show 1<=sizeLine;decide,_,rfl,_,_,rfl,rfl,?_,?_⟩
        . show 1+((List.range' s.b (s.cc.length+1 - s.b)).map nI).length<=sizeLine;rw[Ze];unfold LG at el;lia
        . rw[Jp P4 c] at q;exact q
    . refine⟨false,by rw[ZO c],bD ?_⟩;refine⟨_,rfl,_,rfl,_, .inr rfl,?_⟩;refine⟨_,rfl,_,rfl,?_,Um i,id,fun d hd=>?_,?_⟩
      . rw[Ze];unfold LG at el;lia
      . obtain⟨x,hx,rfl⟩:=ZF.mp hd;exact⟨⟨_,rfl,rfl⟩,_,rfl,_,rfl,_,rfl,_,rfl,rfl,fun _=>⟨_,rfl,rfl⟩⟩
      . rw[List.map_id,Fz];refine⟨_,_,rfl,rfl,?_,?_⟩
        . show(Dt.int 0::s.aF.map nI).length+_<=sizeLine;rw[ZG,Ze,Ze];have:=ag0 (fun x=>decide (x≠i)) (List.range' s.b (s.cc.length+1 - s.b));unfold LG at el;lia
        . rw[EH P4 c] at q;unfold lsN at q;rw[ZA] at q;exact q
theorem uX(F:gb K "allowed" "allowed" gK f fd)(T:Txt mg)(vT:gk P w K mg base "allowed_of" 1 ["stand","word"] (cM Ue)):aY P w K mg base eC 2 f fd ["stand"] (cM Ha):=by
 refine nP F yj (fun ds Qd h=>?_) (fun bP A outer s H E hr=>⟨_,(aG (aM (Ov.ev (cD (N:= ["word","stand"]) (nt:=1) (js:= [0]) ⟨rfl,by decide+kernel,by decide,rfl,by decide+kernel,(by show∀x∈(_:List (Str × NameKind)),x.2=NameKind.free->(af gK).names.lookup x.1=some .cell\/(af gK).names.lookup x.1=some .free;decide+kernel)⟩ rfl (gP T.ig (aa aA (aa (dy (cN T.len (aa (dF (dv 0) aA) ae)) aA) ae))) (fun _ _ _ _ _=>aE (i:=0) (show(["word","stand"]:List Str).Nodup by decide+kernel) rfl (by first | exact Or.inl rfl | exact Or.inr rfl)) cj bo (fun _ _ _ _ _=>dZ) (fun _ _ _ _ _=>(bE vT (hr.mono (by decide)) (aa (dv 1) (aa (dv 0) ae)))))))),fun ds Qd h=>?_⟩)
 . obtain⟨n,m,s,rfl,_⟩:=h;rfl
 . obtain⟨n,m,s,rfl,rc,nB,q⟩:=h;have gl:=rc.lv.k.g.l;have eo:(s.cc.map oD).length=n:=by rw[Ze,gl]
   refine⟨_,rfl,_,_,_,.inr rfl,rfl,a0 (j:=2) rfl,_,.inr rfl,_,_,rfl,rfl,1,((s.cc.map oD).length:Int)+1,rfl,⟨by decide,by decide,by lia,by lia⟩,?_⟩;rw[eo,show((n:Int)+1 - 1).toNat=n by lia,Q4];refine⟨by rw[Ze,ZM];exact small (by lia),fun _=>true,fun d=>match d with | .int x=>lsN (iX s x.toNat) | d=>d,fun d hd=>?_,?_⟩
   . obtain⟨x,hx,rfl⟩:=ZF.mp hd;rw[ab3] at hx;refine⟨⟨_,rfl,rfl⟩,rfl,fun _=>⟨_,rfl,_,rfl,n,m,s,x,rfl,rc,nB,by lia,by lia,?_⟩⟩;show lsN (iX s x)=lsN (iX s ((x:Nat):Int).toNat);rw[ab5]
   . rw[ab1.mpr fun _ _=>rfl,ZP];unfold rows at q;rw[gl,ZP] at q;have:(List.range' 1 n).map ((fun d=>match d with | .int x=>lsN (iX s x.toNat) | d=>d) ∘ nI)=(List.range' 1 n).map (lsN ∘ iX s):=ZK fun x _=>by
      show lsN (iX s ((x:Nat):Int).toNat)=_;rw[ab5];rfl
     rw[this];exact q
end
end aX
namespace og
open PySem PySem.Spec L2 LB LD PyProof.Rows
theorem J3{s s':Sl}(E:aB W M α H σ δ)(h0:δ[i]?=some s)(s1:σ[i]?=some (some (.ref a)))(a1:α[i]?=some [a])(nb:s'.bK=s.bK)(ho: ∀xs,o≠ .tup xs)(hs:(∀c u,H c=some u-> ¬M c->upd H a o c=some u/\ ¬M c)->LD.n8 M (upd H a o) (some (.ref a)) s' [a]):aB W M α (upd H a o) σ (δ.set i s'):=by
 have ma:M a:=E.mu a (aW a1 (by simp));exact(E.mod (H':=upd H a o) h0 s1 a1 nb (hs fun c u e n=>⟨by rw[ah (fun z=>n (by rw[z];exact ma))];exact e,n⟩) (fun c u e n=>by rw[ah (fun z=>n (by rw[z];simp))];exact e) (fun c hc=>by rw[Zl.mp hc];exact⟨_,ag,ho⟩)).1
end og
namespace og
open PySem PySem.Spec L2 LB LD PyProof.Rows LW
section
variable{X:Cx}{d x y:Str}{dp xp yp pos pos' pV apos cv p:Pos}{k v:Expr}{tk tv:bq}{es:List Expr}{th:t9}
theorem Rj{W:List Wd}{M:Addr->Prop}{α:List (List Addr)}{H:Hp}{σ:L2.St}{δ:List Sl}{p:Addr}(E:aB W M α H σ δ)(hd:t7 W M α p)(ho: ∀xs,o≠ .tup xs):aB W M α (upd H p o) σ δ:=by
 have mo: ∀c u,H c=some u-> ¬M c->upd H p o c=some u/\ ¬M c:=fun c u e n=>⟨by rw[ah (fun z=>n (by rw[z];exact hd.m))];exact e,n⟩
 refine⟨E.ls,E.la,fun j s hj=>?_,E.nd,E.mu,fun a ha=>?_,fun W' hW=>?_⟩
 . obtain⟨q,as,h1,h2,h3⟩:=E.sl j s hj;refine⟨q,as,h1,h2,?_⟩;have ka: ∀a∈as,∀u,H a=some u->upd H p o a=some u:=fun a ha u e=>by rw[ah (fun z=>hd.n (by rw[<-z];exact aW h2 ha))];exact e
   cases s with
   | no=>exact h3
   | fn f=>exact h3
   | bx t=>
    obtain⟨d,c,e1,e2,B⟩:=h3;subst e1;exact⟨d,c,rfl,e2,ka d (by simp) _ B.dc,(let ⟨ns,h,r⟩:=B.cs;⟨ns,ka c (by simp) _ h,r⟩),B.t0,B.t1⟩
   | im d=>exact h3.keep mo ka rfl
   | ow d=>exact h3.keep mo ka rfl
   | dk a b=>exact h3.keep mo ka rfl
   | ob R=>exact h3.keep mo ka rfl
 . by_cases c:a=p
   . subst c;exact⟨_,ag,ho⟩
   . obtain⟨u,e,n⟩:=E.al a ha;exact⟨u,by rw[ah c];exact e,n⟩
 . have w:=E.w W' hW;refine⟨fun b u e n=>?_,fun b n=>?_,w.fr,w.m0,w.m1,w.bx,w.fz⟩
   . rw[ah (fun z => by
       subst z;rcases(hd.w W' hW).1 with y | y
       . exact n y
       . rw[y] at e;cases e)]
     exact w.bs b u e n
   . by_cases c:b=p
     . subst c;rw[ag];intro z;cases z
     . rw[ah c];exact w.ex b n
def Xd(th:t9):t9:=fun δ Q=>th δ fun ss δ2=>Q (td [] []::ss) δ2
theorem Sq(hr:Hv X es th)(hs:starEach (.Dict [] [] pos::es) X.env=(false,eval (.Dict [] [] pos) X.env)::starEach es X.env:=by rfl):Hv X (.Dict [] [] pos::es) (Xd th):=PA.imp (au si hr hs) fun σ H Q fW=>(by
 obtain⟨W,M,α,δ,Qd,E,q,k⟩:=fW;intro p h1;have sm:aD H (upd H p (.dT [])):=aD.new h1;obtain⟨TQ,hd⟩:=E.hold (u:= .dT []) h1 (fun xs z=>by cases z);refine⟨W,_,α,δ,_,TQ,q,fun ss δ2 H2 vs M' bs q2 E2 c2 m1 m2 hh hb=>?_⟩;exact k _ _ _ _ _ _ q2 E2 ((cQ.of sm).tr c2) (fun a z=>m1 a (.inl z)) (fun a z=>Ht E.mu cQ.rf h1 (m2 a) z) (oI (s:=td [] []) h1 E hd ⟨_,rfl,p,[],rfl,rfl,ag,rfl,.nil⟩ rfl E2 c2 m1 m2 hh hb)
  (fun a ha=>by
   rcases Zz.mp ha with y | y
   . rw[Zl.mp y];exact E.fresh h1
   . exact fun z=>hb a y (.inl z)))
end
noncomputable def nR(ks:List SK):List (SK × V):=ks.map fun k=>(k,V.bl true)
noncomputable def XJ(P:Program)(w:World)(ks:List SK):TB where
 rel:=fun M H v as=> ∃a xs,as= [a]/\v= .ref a/\H a=some (pI P w a xs)/\nQ xs=nR ks/\ ∀x∈xs,jX M H x.1 x.2.1
 st:=fun z ka k=>by
  obtain⟨a,xs,rfl,ev,h,e,r⟩:=z;exact⟨a,xs,rfl,ev,ka a (by simp) _ h,e,fun x hx=>(r x hx).st k⟩
noncomputable abbrev Ey (P:Program) (w:World) (ks:List SK):Sl:= .ob (XJ P w ks)
noncomputable def jc{α:Type} [DecidableEq α](ks:List α)(k:α):Bool:=ks.any fun z=>decide (z=k)
theorem gW{α:Type} [DecidableEq α]{ks:List α}{k:α}:jc ks k=true↔k∈ks:=by
 unfold jc;rw[am0];exact⟨fun⟨z,hz,e⟩=>by rw[<-ZL e];exact hz,fun h=>⟨k,h,ZZ rfl⟩⟩
noncomputable def fZ{α:Type} [DecidableEq α](ks:List α)(k:α):List α:=if jc ks k=true then ks else ks++ [k]
theorem my{α:Type} [DecidableEq α]{ks:List α}{k x:α}:x∈fZ ks k↔x∈ks\/x=k:=by
 unfold fZ;split
 . rename_i c;exact⟨.inl,fun z=>z.elim id fun y=>by rw[y];exact gW.mp c⟩
 . rw[Zz,Zl]
theorem xc [DecidableEq α]{ks:List α}(h:ks.Nodup):(fZ ks k).Nodup:=by
 unfold fZ;split
 . exact h
 . rename_i c;refine ac4.mpr ⟨h,by simp,fun a ha b hb e=>c (gW.mpr ?_)⟩;rw[Zl.mp hb] at e;rw[<-e];exact ha
theorem sS{α:Type} [DecidableEq α]{ks:List α}{k:α}(h:jc ks k=false):fZ ks k=ks++ [k]:=by
 unfold fZ;rw[h];rfl
theorem AJ{i:Nat}(E:aB W M α H σ δ)(h:δ[i]?=some (Ey P w ks)): ∃a xs,σ[i]?=some (some (.ref a))/\α[i]?=some [a]/\H a=some (pI P w a xs)/\nQ xs=nR ks/\ ∀x∈xs,jX M H x.1 x.2.1:=by
 obtain⟨o,as,s1,s2,v,rfl,a,xs,rfl,rfl,h1,h2,h3⟩:=E.sl i _ h;exact⟨a,xs,s1,s2,h1,h2,h3⟩
theorem lr: ∀{xs:List SE} {ks:List SK},nQ xs=nR ks->(km xs k).isSome=jc ks k
 | [],[],_=>rfl
 | [],_::_,h=>by cases h
 | _::_,[],h=>by cases h
 | x::xs,y::ks,h=>by
  obtain⟨h1,h2⟩:=List.cons.inj h;obtain⟨h3,h4⟩:=Prod.mk.inj h1;have ih:=lr (k:=k) h2;unfold km at ih ⊢;by_cases c:x.1=k
  . rw[List.find?_cons_of_pos (by simpa using c)];exact(gW.mpr (show k∈y::ks by rw[<-c,h3];exact Zu)).symm
  . rw[List.find?_cons_of_neg (by simpa using c),ih];unfold jc;rw[ag9,ZO (fun z=>c (h3.trans z)),Bool.false_or]
theorem oA: ∀{xs:List SE} {ks:List SK},nQ xs=nR ks->nQ (xs.map fun x=>if x.1=k then(x.1,x.2.1,V.bl true) else x)=nR ks
 | [],[],_=>rfl
 | [],_::_,h=>by cases h
 | _::_,[],h=>by cases h
 | x::xs,y::ks,h=>by
  obtain⟨h1,h2⟩:=List.cons.inj h;obtain⟨h3,h4⟩:=Prod.mk.inj h1;have ih:=oA (k:=k) h2;unfold nQ nR at ih ⊢;rw[Zx,Zx,Zx,ih];congr 1
  by_cases c:x.1=k
  . rw[if_pos c];exact Prod.ext h3 rfl
  . rw[if_neg c];exact Prod.ext h3 h4
theorem Bc(h:nQ xs=nR ks):nQ (ko xs k b (V.bl true))=nR (fZ ks k):=by
 unfold ko fZ;rw[lr h];by_cases c:jc ks k=true
 . rw[if_pos c,if_pos c];exact oA h
 . rw[if_neg c,if_neg c];unfold nQ nR at h ⊢;rw[ZA,ZA,h];rfl
section
variable{X:Cx}{d x y:Str}{dp xp yp pos pos' pV p:Pos}{k v e:Expr}{tk tv te:bq}{es:List Expr}{th:t9}
def EL(P:Program)(w:World):R2:=fun x y H Q=> ∃a b xs k,x= .ref b/\y= .ref a/\DA P w H a xs/\jB H k b/\Q (.bl (!(km xs k).isSome)) H
theorem yq(hu:X.A.units+2 < cLine):jA X (compareOp .NotIn) (EL X.prog X.w):=by
 intro pins s σ H x y v u Q I rx ry h;obtain⟨a,b,xs,k,rfl,rfl,d,hk,q⟩:=h;cases rx;cases ry;obtain⟨z,hd,ys,rel,dd⟩:=AQ I.aT d;refine wpAny_notIn_heap (knd:=iA X.prog X.w) (show X.A.in1.units+1 < cLine by have:X.A.in1.units=X.A.units+1:=rfl;lia) (hk.is I.aT) hd dd ?_;have e:(km xs k).isSome=(atKey ys k).isSome:=by rw[(wB rel k).jO,Option.isSome_map]
 rw[<-e];exact⟨.bl _,H,I.tok _,rfl,q⟩
def tO(P:Program)(w:World)(i j:Nat):nA:=fun δ Q=> ∃ks k,δ[i]?=some (Ey P w ks)/\δ[j]?=some (.im (L4 k))/\Q (!jc ks k) δ
theorem Aw(i j:Nat)(hu:X.A.units+2 < cLine)(ho:PE X (.Name d dp) (dM i))(hy:PE X (.Name y yp) (dM j)):Tv X (.Compare (.Name y yp) [.NotIn] [.Name d dp] pos) (tO X.prog X.w i j):=PT.imp (g9 (yq hu) hy ho rfl) fun σ H Q zz=>(by
 obtain⟨W,M,α,δ,Qd,E,⟨ks,k,h1,h2,q⟩,kk⟩:=zz;obtain⟨a,xs,s1,a1,e1,de,ke⟩:=AJ E h1;obtain⟨v,s2,rv⟩:=E.im h2;obtain⟨b,rfl,kb⟩:=jX.of rv;refine⟨_,s2,_,s1,a,b,xs,k,rfl,rfl,⟨e1,fun x hx=>(ke x hx).at⟩,kb.at,_,rfl,?_⟩;rw[lr de];exact kk _ _ _ q E cQ.rf)
inductive C7(P:Program)(w:World)(i j:Nat)(Δ:cO)(δ:List Sl):Prop
 | mk (ks:List SK) (k:SK) (h1:δ[i]?=some (Ey P w ks)) (h2:δ[j]?=some (.im (L4 k))) (h3:ks.length < sizeLine) (q:Δ.nx (δ.set i (Ey P w (fZ ks k))))
theorem ED{st:Stmt}(i j:Nat)(h:PS X st (G7 (dM i) (dM j) (tC (.bl true)) X.prog X.w)):Ex X st (C7 X.prog X.w i j):=PS.imp h fun D σ H zz=>(by
 obtain⟨Ws,M,α,δ,Δ,E,L,ks,k,h1,h2,l,q⟩:=zz;obtain⟨a,xs,s1,a1,e1,de,ke⟩:=AJ E h1;obtain⟨v,s2,rv⟩:=E.im h2;obtain⟨b,rfl,kb⟩:=jX.of rv;have ll:xs.length=ks.length:=by
  have:=aa6 List.length de;unfold nQ nR at this;rw[Ze,Ze] at this;exact this
 refine⟨_,s1,_,s2,a,b,xs,k,rfl,rfl,⟨e1,fun x hx=>(ke x hx).at⟩,kb.at,by rw[ll];exact l,?_⟩;exact L.nx _ _ _ _ _ (J3 (s':=Ey X.prog X.w (fZ ks k)) (o:=pI X.prog X.w a (ko xs k b (V.bl true))) E h1 s1 a1 rfl (fun xs z=>by cases z) fun mo=>⟨_,rfl,a,_,rfl,rfl,ag,Bc de,yk (R:=fun k b=>jX M _ k b) (fun x hx=>(ke x hx).st mo) (kb.st mo)⟩) q)
inductive Cs(Q:SK->List Sl->Prop)(d1 d2:Dt)(δ2:List Sl):Prop
 | mk (k:SK) (h1:d1=L4 k) (h2:d2= .bl true) (q:Q k δ2)
def KY(P:Program)(w:World)(tk tv:bq)(th:t9):t9:=fun δ Q=>tk δ fun d1 δ1=>tv δ1 fun d2 δ2=>Cs (fun k δ2=>th δ2 fun ss δ3=>Q (Ey P w [k]::ss) δ3) d1 d2 δ2
theorem F0(hu:X.A.units+2 < cLine)(hk:Ev X k tk)(hv:Ev X v tv)(hr:Hv X es th)(hs:starEach (.Dict [some k] [v] pos::es) X.env=(false,eval (.Dict [some k] [v] pos) X.env)::starEach es X.env:=by rfl):Hv X (.Dict [some k] [v] pos::es) (KY X.prog X.w tk tv th):=PA.imp (au (Bt hu hk hv) hr hs) fun σ H Q zz=>(by
 obtain⟨W,M,α,δ,Qd,E,q,kk⟩:=zz;intro p hp;obtain⟨E0,hd⟩:=E.hold (u:=pI X.prog X.w p []) hp (fun xs z=>by cases z);have sm:aD H (upd H p (pI X.prog X.w p [])):=aD.new hp;refine⟨W,_,α,δ,_,E0,q,fun d1 δ1 H1 x q1 E1 c1 r1=>⟨W,_,α,δ1,_,E1,q1,fun d2 δ2 H2 y zz E2 c2 r2=>?_⟩⟩;obtain⟨κ,rfl,rfl,q2⟩:=zz;cases r2.sv;obtain⟨b,rfl,kb⟩:=jX.of (r1.chg E1 c2);have RS:H2 p=some (pI X.prog X.w p []):=c2 _ _ (c1 _ _ ag hd.n) hd.n;refine⟨b,κ,rfl,RS,kb.at,?_⟩;have E3:=Rj (o:=pI X.prog X.w p [(κ,b,.bl true)]) E2 hd (fun xs z=>by cases z);have kb:=kb.st (H':=upd H2 p (pI X.prog X.w p [(κ,b,.bl true)])) (M':=fun b=>M b\/b=p) fun c u e nn=>⟨by rw[ah (fun z=>nn (.inr z))];exact e,nn⟩
 have kp: ∀c u,H c=some u->c∉α.flatten->H2 c=some u:=fun c u e nc=>c2 _ _ (c1 _ _ (sm _ _ e) nc) nc;generalize UN:upd H2 p (pI X.prog X.w p [(κ,b,.bl true)])=H3 at E3 kb ⊢;have Xj:H3 p=some (pI X.prog X.w p [(κ,b,.bl true)]):=by rw[<-UN,ag]
 have Uu: ∀c u,H c=some u->c∉α.flatten->H3 c=some u:=fun c u e nc=>by rw[<-UN,ah (fun z=>by rw[z,hp] at e;cases e)];exact kp c u e nc
 refine⟨W,_,α,δ2,_,E3,q2,fun ss δ3 H4 vs M' bs q3 E4 c4 m1 m2 hh hb=>?_⟩;refine kk _ _ _ _ _ _ q3 E4 (fun c u e nc=>c4 _ _ (Uu c u e nc) nc) (fun a z=>m1 a (.inl z)) (fun a z=>?_) (qO.cons (as:= [p]) ⟨rfl,_,rfl,p,[(κ,b,.bl true)],rfl,rfl,c4 _ _ Xj hd.n,rfl,fun x hx=>?_⟩ (fun a ha=>by rw[Zl.mp ha];exact⟨m1 p (.inr rfl),hd.n,hd.w⟩) (by simp) (fun a ha=>by rw[Zl.mp ha];exact fun z=>hb p z (.inr rfl)) hh) (fun a ha=>?_)
 . cases e:H a with
   | none=>exact .inr rfl
   | some u=>
    by_cases hf:a∈α.flatten
    . exact .inl (E.mu a hf)
    . rcases m2 a z with (y | y) | y
      . exact .inl y
      . rw[y,hp] at e;cases e
      . rw[Uu a u e hf] at y;cases y
 . rw[Zl.mp hx];exact kb.st fun c u e n=>⟨c4 _ _ e fun z=>n (E3.mu c z),fun z=>(m2 c z).elim n fun y=>by rw[e] at y;cases y⟩
 . rcases Zz.mp ha with y | y
   . rw[Zl.mp y];exact E.fresh hp
   . exact fun z=>hb a y (.inl z))
noncomputable def zL{α:Type}(ks:List α):List Dt:=ks.map fun _=> .bl true
noncomputable abbrev IW (ks:List (List Key)):Sl:=td ks (zL ks)
theorem G2: ∀{ks:List (List Key)} {vs:List (List Key × V)},vs.map (·.1)=ks->az M H (vs.map (·.2)) (zL ks)->vs=ks.map fun k=>(k,V.bl true)
 | [],[],_,_=>rfl
 | [],_::_,h,_=>by cases h
 | _::_,[],h,_=>by cases h
 | x::ks,v::vs,h,r=>by
  obtain⟨h1,h2⟩:=List.cons.inj h;obtain⟨y,ys,e,ry,rr⟩:=r.aK;obtain⟨e1,e2⟩:=List.cons.inj e;cases ry.sv;subst e2;rw[G2 h2 rr,Zx];congr 1
  exact Prod.ext h1 e1
theorem IZ{k:List Key}{ks:List (List Key)}:putK (ks.map fun k=>(k,V.bl true)) k (V.bl true)=(fZ ks k).map fun k=>(k,V.bl true):=by
 unfold putK fZ;have e:((ks.map fun k=>(k,V.bl true)).any fun kv=>decide (kv.1=k))=jc ks k:=by rw[List.any_map];rfl
 rw[e];by_cases c:jc ks k=true
 . rw[if_pos c,if_pos c,ZP];refine ZK fun z _=>?_;show(if z=k then(z,V.bl true) else(z,V.bl true))=_;split <;> rfl
 . rw[if_neg c,if_neg c,ZA];rfl
theorem El{ks:List (List Key)}:(ks.map fun k=>(k,V.bl true)).map (·.1)=ks:=by rw[ZP];exact List.map_id ks
theorem v9: ∀{ks:List (List Key)},az M H ((ks.map fun k=>(k,V.bl true)).map (·.2)) (zL ks)
 | []=> .nil
 | x::ks=> .cons (.bl _) v9
inductive C6(i:Nat)(Δ:cO)(d2:Dt)(δ2:List Sl):Prop
 | mk (k:List Key) (ks:List (List Key)) (h1:yM d2=some k) (h2:δ2[i]?=some (IW ks)) (h3:ks.length < sizeLine) (h5:Δ.nx (δ2.set i (IW (fZ ks k))))
def Lm(i:Nat)(te:bq):jF:=fun Δ δ=>(∃NC,δ[i]?=some (IW NC))/\te δ fun d2 δ2=>C6 i Δ d2 δ2
theorem EC{st:Stmt}(i:Nat)(h:PS X st (G8 (dM i) (lE te) (tC (.bl true)))):Ex X st (Lm i te):=PS.imp h fun D σ H zz=>(by
 obtain⟨Ws,M,α,δ,Δ,E,L,⟨NC,h0⟩,q⟩:=zz;obtain⟨a,TZ,h1,h2,h3,h4,r3⟩:=lB E h0;refine⟨_,h1,Ws,M,α,δ,_,E,q,fun d2 δ2 H2 y zz E2 c2 r2=>?_⟩;obtain⟨k,ks,hk,hd,l,q2⟩:=zz;obtain⟨a',vs,uc,qS,K0,SA,Hf⟩:=lB E2 hd;rw[h1] at uc;cases uc;obtain⟨kb,rfl,KA⟩:=i8 r2 hk;have ev:=G2 SA Hf;subst ev;refine⟨a,_,rfl,kI.t K0 KA (by rw[Ze];exact l),?_⟩;rw[IZ];obtain⟨E3,_⟩:=E2.mod (s':=IW (fZ ks k)) (H':=upd H2 a (.dT ((fZ ks k).map fun k=>(k,V.bl true)))) hd h1 qS rfl ⟨_,rfl,a,_,rfl,rfl,ag,El,v9⟩ (fun b u e n=>by rw[ah (fun z=>n (by rw[z];simp))];exact e) (fun b hb=>by rw[Zl.mp hb];exact⟨_,ag,fun xs z=>by cases z⟩);exact L.nx _ _ _ _ _ E3 q2)
end
end og
namespace fD
open PySem PyProof.Rows fE
noncomputable def rk(R:Keyed->Int)(a:Array Keyed)(i:Nat):Int:=(a[i]?.map R).getD 0
def dI(R:Keyed->Int)(a:Array Keyed):Prop:=a.toList.Pairwise fun x y=>R x<=R y
def Out(R:Keyed->Int)(a b m:Array Keyed):Prop:=m.toList.Perm (a.toList++b.toList)/\dI R m
section
variable{R:Keyed->Int}
theorem bH{a:Array Keyed}(h:i < a.size):rk R a i=R a[i]:=by
 unfold rk;rw[Z2 h];rfl
theorem dI.rk{a:Array Keyed}(h:dI R a){i j:Nat}(bW:i<=j)(hj:j < a.size):rk R a i<=rk R a j:=by
 rw[bH (show i < a.size by lia),bH hj];by_cases c:i=j
 . subst c;exact ad6 _
 . exact ae5.mp h i j (by simpa using (show i < a.size by lia)) (by simpa using hj) (by lia)
theorem fN{a:Array Keyed}:(a.extract i j).toList=(a.toList.drop i).take (j - i):=by
 rw[Array.toList_extract,List.extract_eq_drop_take]
theorem cH{a:Array Keyed}(h:x∈(a.extract i j).toList): ∃k,i<=k/\k < j/\k < a.size/\R x=fD.rk R a k:=by
 obtain⟨k,hk,e⟩:=aa5 h;have KC:k < (a.extract i j).size:=by rw[<-Zv];exact hk
 have hs:(a.extract i j).size=min j a.size - i:=af9;refine⟨i+k,by lia,by lia,by lia,?_⟩;rw[bH (show i+k < a.size by lia),<-e];congr 1
 rw[Array.getElem_toList,Array.getElem_extract]
theorem dI.ex(h:dI R a)(i j:Nat):dI R (a.extract i j):=by
 unfold dI;rw[fN];exact(List.Pairwise.sublist (List.drop_sublist _ _) h).sublist (List.take_sublist _ _)
theorem wJ{a out:Array Keyed}(h:i < a.size):out.push a[i]=out++a.extract i (i+1):=by
 apply am1.mp;rw[ai4,Z8,fN,show i+1 - i=1 by lia];congr 1
 have h':i < a.toList.length:=by simpa using h
 rw[am8 h',List.take_succ_cons,an7,Array.getElem_toList]
structure Lo(R:Keyed->Int)(a b out:Array Keyed)(ia ib:Nat):Prop where
 pm:(out.toList++(a.toList.drop ia++b.toList.drop ib)).Perm (a.toList++b.toList)
 so:dI R out
 la: ∀x∈out.toList,∀j,ia<=j->j < a.size->R x<=rk R a j
 lb: ∀x∈out.toList,∀j,ib<=j->j < b.size->R x<=rk R b j
theorem dI.app(h1:dI R m)(h2:dI R n)(h: ∀x∈m.toList,∀y∈n.toList,R x<=R y):dI R (m++n):=by
 unfold dI;rw[Z8];exact am3.mpr ⟨h1,h2,h⟩
theorem xw{a:Array Keyed}(h:i<=j):a.toList.drop i=(a.extract i j).toList++a.toList.drop j:=by
 rw[fN];conv=>lhs;rw[<-ae7 (j - i) (a.toList.drop i)]
 rw[List.drop_drop,show i+(j - i)=j by lia]
theorem Lo.iQ{a b out:Array Keyed}{ia ib:Nat}(h:Lo R a b out ia ib)(sa:dI R a)(sb:dI R b){ia':Nat}(h1:ia<=ia')(hc:ia < ia'->ia'<=a.size->ib < b.size->rk R a (ia' - 1)<=rk R b ib)(h2:ia'<=a.size:=by lia):Lo R a b (out++a.extract ia ia') ia' ib:=by
 refine⟨?_,h.so.app (sa.ex _ _) fun x hx y hy=>?_,fun x hx j j1 j2=>?_,fun x hx j j1 j2=>?_⟩
 . rw[Z8];refine List.Perm.trans ?_ h.pm;rw[xw (a:=a) h1,Z0,Z0]
 . obtain⟨k,k1,k2,k3,e⟩:=cH (R:=R) hy;rw[e];exact h.la x hx k k1 k3
 . rw[Z8] at hx;rcases Zz.mp hx with z | z
   . exact h.la x z j (by lia) j2
   . obtain⟨k,k1,k2,k3,e⟩:=cH (R:=R) z;rw[e];exact sa.rk (by lia) j2
 . rw[Z8] at hx;rcases Zz.mp hx with z | z
   . exact h.lb x z j j1 j2
   . obtain⟨k,k1,k2,k3,e⟩:=cH (R:=R) z;rw[e];have q1:=sa.rk (show k<=ia' - 1 by lia) (by lia);have q2:=hc (by lia) h2 (by lia);have q3:=sb.rk j1 j2;lia
theorem Lo.gu{a b out:Array Keyed}{ia ib:Nat}(h:Lo R a b out ia ib)(sa:dI R a)(sb:dI R b){ib':Nat}(h1:ib<=ib')(hc:ib < ib'->ib'<=b.size->ia < a.size->rk R b (ib' - 1)<=rk R a ia)(h2:ib'<=b.size:=by lia):Lo R a b (out++b.extract ib ib') ia ib':=by
 refine⟨?_,h.so.app (sb.ex _ _) fun x hx y hy=>?_,fun x hx j j1 j2=>?_,fun x hx j j1 j2=>?_⟩
 . rw[Z8];refine List.Perm.trans ?_ h.pm;rw[xw (a:=b) h1,Z0];refine List.Perm.append_left _ ?_;rw[<-Z0,<-Z0];exact List.Perm.append_right _ List.perm_append_comm
 . obtain⟨k,k1,k2,k3,e⟩:=cH (R:=R) hy;rw[e];exact h.lb x hx k k1 k3
 . rw[Z8] at hx;rcases Zz.mp hx with z | z
   . exact h.la x z j j1 j2
   . obtain⟨k,k1,k2,k3,e⟩:=cH (R:=R) z;rw[e];have q1:=sb.rk (show k<=ib' - 1 by lia) (by lia);have q2:=hc (by lia) h2 (by lia);have q3:=sa.rk j1 j2;lia
 . rw[Z8] at hx;rcases Zz.mp hx with z | z
   . exact h.lb x z j (by lia) j2
   . obtain⟨k,k1,k2,k3,e⟩:=cH (R:=R) z;rw[e];exact sb.rk (by lia) j2
theorem Lo.out{a b out:Array Keyed}{ia ib:Nat}(h:Lo R a b out ia ib)(h1:ia=a.size)(h2:ib=b.size):Out R a b out:=by
 refine⟨?_,h.so⟩;have:=h.pm;rw[h1,h2,List.drop_eq_nil_of_le (by simp),List.drop_eq_nil_of_le (by simp),ab8,ab8] at this;exact this
theorem Lo.done{a b out:Array Keyed}{ia ib:Nat}(h:Lo R a b out ia ib)(sa:dI R a)(sb:dI R b)(ha:ia<=a.size)(hb:ib<=b.size)(hh:ib=b.size\/ia=a.size):Out R a b (out++a.extract ia a.size++b.extract ib b.size):=
 ((h.iQ sa sb ha (fun z1 _ z=>by lia) (Zj _)).gu sa sb hb (fun z1 _ z=>by lia) (Zj _)).out rfl rfl
theorem Lo.last{a b out:Array Keyed}{ia ib:Nat}(h:Lo R a b out ia ib)(sa:dI R a)(sb:dI R b)(ha:ia<=a.size)(hb:ib<=b.size)(hl:ib < b.size->rk R b (b.size - 1)<=rk R a ia):Out R a b (out++b.extract ib b.size++a.extract ia a.size):=
 ((h.gu sa sb hb (fun z1 _ z=>hl z1) (Zj _)).iQ sa sb ha (fun z1 _ z=>by lia) (Zj _)).out rfl rfl
end
section
variable{prog:Program}{w:World}{A:Around}{E:Value->Shared->Prop}{s:Shared}{κ:SortKind}{R:Keyed->Int}{D:Keyed->Prop}
def n9(prog:Program)(w:World)(A:Around)(E:Value->Shared->Prop)(s:Shared)(κ:SortKind)(R:Keyed->Int)(D:Keyed->Prop):Prop:= ∀(st:SortSt) (x y:Keyed) (Q:Option Bool->SortSt->Prop),kindOf st=κ->D x->D y->Q (some (decide (R x < R y))) st->wpS (model prog w) A E s (lt' x y) Q st
def Dk(D:Keyed->Prop)(a:Array Keyed):Prop:= ∀i (h:i < a.size),D a[i]
noncomputable def fG(R:Keyed->Int)(left:Bool)(r:Int)(a:Array Keyed)(i:Nat):Bool:=if left then decide (rk R a i < r) else !decide (r < rk R a i)
theorem tU(h:rk R a i<=rk R a j)(hb:fG R left r a j=true):fG R left r a i=true:=by
 unfold fG at hb ⊢;cases left
 . simp at hb ⊢;lia
 . simp at hb ⊢;lia
theorem Dq(h:rk R a i<=rk R a j)(hb:fG R left r a i=false):fG R left r a j=false:=by
 cases e:fG R left r a j with
 | false=>rfl
 | true=>rw[tU h e] at hb;cases hb
theorem m6(h:fG R true r a i=true):rk R a i < r:=by unfold fG at h;simpa using h
theorem m7(h:fG R true r a i=false):r<=rk R a i:=by unfold fG at h;simpa using h
theorem vM(h:fG R false r a i=true):rk R a i<=r:=by unfold fG at h;simpa using h
theorem vN(h:fG R false r a i=false):r < rk R a i:=by unfold fG at h;simpa using h
theorem kL(L:n9 prog w A E s κ R D){st:SortSt}{left:Bool}{base i:Nat}(hk:kindOf st=κ)(hx:Dk D arr)(kA:D key)(hi:base+i < arr.size)(h:Q (some (fG R left (R key) arr (base+i))) st):
  wpS (model prog w) A E s (do
   let x<-elem' arr (base+i)
   if left then lt' x key else return(<-lt' key x).map (!·)) Q st:=by
 refine Zk (aC hi ?_);unfold fG at h;rw[bH hi] at h;cases left with
 | true=>rw[if_pos rfl] at h ⊢;exact L _ _ _ _ hk (hx _ hi) kA h
 | false=>
  rw[if_neg Zp] at h ⊢;exact Zk (L _ _ _ _ hk kA (hx _ hi) (Zm h))
theorem eF(L:n9 prog w A E s κ R D){st:SortSt}{left:Bool}{base n hint:Nat}(hk:kindOf st=κ)(hx:Dk D arr)(kA:D key)(hb:base+n<=arr.size)(hh:hint < n)(hm: ∀i j,i<=j->j < n->rk R arr (base+i)<=rk R arr (base+j))(h: ∀k,k<=n->(∀i,i < k->fG R left (R key) arr (base+i)=true)->(∀i,k<=i->i < n->fG R left (R key) arr (base+i)=false)->Q (some k) st):wpS (model prog w) A E s (eI left key arr base n hint) Q st:=by
 have up: ∀j,j < n->fG R left (R key) arr (base+j)=true-> ∀i,i<=j->fG R left (R key) arr (base+i)=true:=fun j hj hb i hi=>tU (hm i j hi hj) hb;have dn: ∀i,fG R left (R key) arr (base+i)=false-> ∀j,i<=j->j < n->fG R left (R key) arr (base+j)=false:=fun i hb j hi hj=>Dq (hm i j hi hj) hb;rw[vk];dsimp only;have tail: ∀lo hi:Nat,lo<=hi->hi<=n->(∀i,i < lo->fG R left (R key) arr (base+i)=true)->(∀i,hi<=i->i < n->fG R left (R key) arr (base+i)=false)->wpS (model prog w) A E s (do
   let mut lo:=lo
   let mut hi:=hi
   for _ in [0:n] do
    if lo>=hi then break
    let m:=lo+(hi - lo) / 2
    let some more<-(do
      let x<-elem' arr (base+m)
      if left then lt' x key else return(<-lt' key x).map (!·):StateT SortSt Sem (Option Bool)) | return none
    if more then lo:=m+1 else hi:=m
   return some hi) Q st:=by
  intro lo hi R4 WZ hP hN;dsimp only;refine Zk (ac5 (aa3 (I:=fun x c ay=>ay=st/\c.1=none/\c.2.1<=c.2.2/\c.2.2<=n/\c.2.2 - c.2.1<=n - x/\(∀i,i < c.2.1->fG R left (R key) arr (base+i)=true)/\ ∀i,c.2.2<=i->i < n->fG R left (R key) arr (base+i)=false)
   (Q:=fun c ay=>ay=st/\c.1=none/\c.2.1=c.2.2/\c.2.2<=n/\(∀i,i < c.2.1->fG R left (R key) arr (base+i)=true)/\ ∀i,c.2.2<=i->i < n->fG R left (R key) arr (base+i)=false) ?step ?fin ⟨rfl,rfl,R4,WZ,by dsimp only;lia,hP,hN⟩) ?post)
  case post=>
   rintro⟨r,l,u⟩ ay ⟨rfl,h1,h2,h3,h4,h5⟩
   dsimp only at h1 h2 h3 h4 h5 ⊢;subst h1;subst h2;exact Zm (h _ h3 h4 h5)
  case fin=>
   rintro⟨r,l,u⟩ ay ⟨h0,h1,h2,h3,h4,h5,h6⟩
   dsimp only at h2 h4;exact⟨h0,h1,by dsimp only;lia,h3,h5,h6⟩
  case step=>
   rintro x ⟨r,l,u⟩ ay _ Yj ⟨rfl,h1,h2,h3,h4,h5,h6⟩
   dsimp only at h1 h2 h3 h4 h5 h6 ⊢;subst h1;by_cases c:l>=u
   . rw[if_pos c];exact Zm ⟨rfl,rfl,by dsimp only;lia,h3,h5,h6⟩
   . rw[if_neg c];refine Zk (kL L hk hx kA (by lia) ?_);cases e:fG R left (R key) arr (base+(l+(u - l) / 2))
     . exact Zm ⟨rfl,rfl,by dsimp only;lia,by dsimp only;lia,by dsimp only;lia,h5,dn _ e⟩
     . exact Zm ⟨rfl,rfl,by dsimp only;lia,h3,by dsimp only;lia,fun i hi=>up _ (by lia) e i (by dsimp only at hi;lia),h6⟩
 refine Zk (kL L hk hx kA (by lia) ?_);cases right:fG R left (R key) arr (base+hint) with
 | true=>
  dsimp only;rw[if_pos rfl];refine Zk (ac5 (aa3 (I:=fun x c ay=>ay=st/\c.1=none/\hint+c.2.1 < n/\fG R left (R key) arr (base+(hint+c.2.1))=true/\c.2.1 < c.2.2/\x+1<=c.2.2)
   (Q:=fun c ay=>ay=st/\c.1=none/\hint+c.2.1 < n/\fG R left (R key) arr (base+(hint+c.2.1))=true/\c.2.1 < c.2.2/\(n - hint<=c.2.2\/hint+c.2.2 < n/\fG R left (R key) arr (base+(hint+c.2.2))=false)) ?step ?fin ⟨rfl,rfl,hh,by dsimp only;rw[an0];exact right,by decide,by decide⟩) ?post)
  case post=>
   rintro⟨r,l,u⟩ ay ⟨rfl,h1,h2,h3,h4,h5⟩
   dsimp only at h1 h2 h3 h4 h5 ⊢;subst h1;have q: ∀i,hint+min u (n - hint)<=i->i < n->fG R left (R key) arr (base+i)=false:=fun i hi hn=>by
    rcases h5 with z | z
    . lia
    . exact dn _ z.2 i (by lia) hn
   exact tail _ _ (by lia) (by lia) (fun i hi=>up _ h2 h3 i (by lia)) q
  case fin=>
   rintro⟨r,l,u⟩ ay ⟨h0,h1,h2,h3,h4,h5⟩
   dsimp only at h5;exact⟨h0,h1,h2,h3,h4,.inl (by dsimp only;lia)⟩
  case step=>
   rintro x ⟨r,l,u⟩ ay _ _ ⟨rfl,h1,h2,h3,h4,h5⟩
   dsimp only at h1 h2 h3 h4 h5 ⊢;subst h1;by_cases c:u>=n - hint
   . rw[if_pos c];exact Zm ⟨rfl,rfl,h2,h3,h4,.inl c⟩
   . rw[if_neg c];refine Zk (kL L hk hx kA (by lia) ?_);cases e:fG R left (R key) arr (base+(hint+u))
     . exact Zm ⟨rfl,rfl,h2,h3,h4,.inr ⟨by dsimp only;lia,e⟩⟩
     . exact Zm ⟨rfl,rfl,by dsimp only;lia,e,by dsimp only;lia,by dsimp only;lia⟩
 | false=>
  dsimp only;rw[if_neg Zp];refine Zk (ac5 (aa3 (I:=fun x c ay=>ay=st/\c.1=none/\c.2.1<=hint/\fG R left (R key) arr (base+(hint - c.2.1))=false/\c.2.1 < c.2.2/\x+1<=c.2.2)
   (Q:=fun c ay=>ay=st/\c.1=none/\c.2.1<=hint/\fG R left (R key) arr (base+(hint - c.2.1))=false/\c.2.1 < c.2.2/\(hint+1<=c.2.2\/c.2.2<=hint/\fG R left (R key) arr (base+(hint - c.2.2))=true)) ?step ?fin ⟨rfl,rfl,ZV _,by dsimp only;rw[am9];exact right,by decide,by decide⟩) ?post)
  case post=>
   rintro⟨r,l,u⟩ ay ⟨rfl,h1,h2,h3,h4,h5⟩
   dsimp only at h1 h2 h3 h4 h5 ⊢;subst h1;have q: ∀i,i < hint+1 - min u (hint+1)->fG R left (R key) arr (base+i)=true:=fun i hi=>by
    rcases h5 with z | z
    . lia
    . exact up _ (by lia) z.2 i (by lia)
   exact tail _ _ (by lia) (by lia) q fun i hi hn=>dn _ h3 i hi hn
  case fin=>
   rintro⟨r,l,u⟩ ay ⟨h0,h1,h2,h3,h4,h5⟩
   dsimp only at h5;exact⟨h0,h1,h2,h3,h4,.inl (by dsimp only;lia)⟩
  case step=>
   rintro x ⟨r,l,u⟩ ay _ _ ⟨rfl,h1,h2,h3,h4,h5⟩
   dsimp only at h1 h2 h3 h4 h5 ⊢;subst h1;by_cases c:u>=hint+1
   . rw[if_pos c];exact Zm ⟨rfl,rfl,h2,h3,h4,.inl c⟩
   . rw[if_neg c];refine Zk (kL L hk hx kA (by lia) ?_);cases e:fG R left (R key) arr (base+(hint - u))
     . exact Zm ⟨rfl,rfl,by dsimp only;lia,e,by dsimp only;lia,by dsimp only;lia⟩
     . exact Zm ⟨rfl,rfl,h2,h3,h4,.inr ⟨by dsimp only;lia,e⟩⟩
end
theorem Lo.j4{a b out:Array Keyed}{ia ib:Nat}(h:Lo R a b out ia ib)(sa:dI R a)(sb:dI R b)(hi:ib < b.size)(hc:ia < a.size->rk R b ib<=rk R a ia):Lo R a b (out.push b[ib]) ia (ib+1):=by
 rw[wJ hi];exact h.gu sa sb (by lia) (fun _ _ z=>by rw[Nat.add_sub_cancel];exact hc z) (by lia)
theorem Lo.fU{a b out:Array Keyed}{ia ib:Nat}(h:Lo R a b out ia ib)(sa:dI R a)(sb:dI R b)(hi:ia < a.size)(hc:ib < b.size->rk R a ia<=rk R b ib):Lo R a b (out.push a[ia]) (ia+1) ib:=by
 rw[wJ hi];exact h.iQ sa sb (by lia) (fun _ _ z=>by rw[Nat.add_sub_cancel];exact hc z) (by lia)
theorem Lo.start(sa:dI R a)(sb:dI R b)(b1:0 < b.size)(hc:0 < a.size->rk R b 0<=rk R a 0):Lo R a b #[b[0]] 0 1:=
 Lo.j4 (out:= #[]) ⟨by simp,List.Pairwise.nil,fun x hx=>by simp at hx,fun x hx=>by simp at hx⟩ sa sb b1 hc
theorem qY{st:SortSt}(L:n9 prog w A E s κ R D)(hk:kindOf st=κ)(ha:Dk D a)(hb:Dk D b)(sa:dI R a)(sb:dI R b)(a1:1<=a.size)(b1:1<=b.size)(c0:rk R b 0<=rk R a 0)(cl:rk R b (b.size - 1)<=rk R a (a.size - 1))(h: ∀m g,Out R a b m->Q m (setG st g)):wpS (model prog w) A E s (mf a b) Q st:=by
 rw[sG];dsimp only;refine Zk (wpS_lift (ad1 ⟨rfl,?_⟩));refine Zk (aC (by lia) ?_);have ho:Lo R a b #[b[0]] 0 1:=Lo.start sa sb b1 fun _=>c0;by_cases c1:(1==b.size)=true
 . refine av c1 ?_;exact Zm (h _ (gallopOf st) (ho.done sa sb (by lia) (by lia) (.inl (Zt.mp c1))))
 refine ax c1 ?_;by_cases c2:(0+1==a.size)=true
 . refine av c2 ?_;have Iq:=Zt.mp c2;exact Zm (h _ (gallopOf st) (ho.last sa sb (by lia) (by lia) fun _=>by rw[show a.size - 1=0 by lia] at cl;exact cl))
 refine ax c2 ?_;have c1:1≠b.size:=fun z=>c1 (Zt.mpr z);have c2:0+1≠a.size:=fun z=>c2 (Zt.mpr z);refine Zk (ak9 ?_);refine Zk (ac5 (aa3 (I:=fun i c ay=>(∃g,ay=setG st g)/\c.1=none/\Lo R a b c.2.1 c.2.2.1 c.2.2.2.1/\c.2.2.1+1 < a.size/\c.2.2.2.1 < b.size/\1+i<=c.2.2.1+c.2.2.2.1)
  (Q:=fun c ay=>(∃g,ay=setG st g)/\ ∃r,c.1=some r/\Out R a b r) ?step ?fin ⟨⟨gallopOf st,rfl⟩,rfl,(by dsimp only;exact ho),by dsimp only;lia,by dsimp only;lia,by dsimp only;lia⟩) ?post)
 case post=>
  rintro⟨r,out,ia,ib,mg⟩ ay ⟨⟨g,rfl⟩,r',h1,h2⟩
  dsimp only at h1 ⊢;subst h1;exact Zm (h _ _ h2)
 case fin=>
  rintro⟨r,out,ia,ib,mg⟩ ay ⟨_,_,_,h1,h2,h3⟩
  dsimp only at h1 h2 h3;lia
 case step=>
  refine Im ?_;intro i out ia ib mg g _ hi hJ;have ho:Lo R a b out ia ib:=hJ.1;have h1:ia+1 < a.size:=hJ.2.1;have h2:ib < b.size:=hJ.2.2.1;have h3:1+i<=ia+ib:=hJ.2.2.2;clear hJ;dsimp only;refine Zk (ac5 (aa3 (I:=fun j c ay=>ay=setG st g/\c.1=none/\Lo R a b c.2.1 c.2.2.1 c.2.2.2.1/\c.2.2.1+1 < a.size/\c.2.2.2.1 < b.size/\1+i+min j 1<=c.2.2.1+c.2.2.2.1)
   (Q:=fun c ay=>ay=setG st g/\((∃r,c.1=some r/\Out R a b r)\/(c.1=none/\Lo R a b c.2.1 c.2.2.1 c.2.2.2.1/\c.2.2.1+1 < a.size/\c.2.2.2.1 < b.size/\1+(i+1)<=c.2.2.1+c.2.2.2.1))) ?istep ?ifin ⟨rfl,rfl,(by dsimp only;exact ho),(by dsimp only;exact h1),(by dsimp only;exact h2),by dsimp only;lia⟩) ?ipost)
  case ifin=>
   rintro⟨r,out,ia,ib,ac,bc⟩ ay ⟨e,hr,ho,h1,h2,h3⟩
   dsimp only at hr ho h1 h2 h3;exact⟨e,.inr ⟨hr,ho,h1,h2,by dsimp only;lia⟩⟩
  case istep=>
   clear ho h1 h2 h3;refine Il ?_;intro j out ia ib ac bc _ hj hJ;have ho:Lo R a b out ia ib:=hJ.1;have h1:ia+1 < a.size:=hJ.2.1;have h2:ib < b.size:=hJ.2.2.1;have h3:1+i+min j 1<=ia+ib:=hJ.2.2.2;clear hJ;have D3:ia < a.size:=by lia
   dsimp only;refine Zk (aC h2 (Zk (aC D3 (Zk (L _ _ _ _ hk (hb _ h2) (ha _ D3) ?_)))));rw[<-bH (R:=R) h2,<-bH (R:=R) D3];cases bw:decide (rk R b ib < rk R a ia) with
   | true=>
    have bw:=ZL bw;have mD:=ho.j4 sa sb h2 fun _=>af5 bw;dsimp only;refine av rfl ?_;refine Zk (aC h2 ?_);by_cases c3:(ib+1==b.size)=true
    . refine av c3 ?_;exact Zm ⟨rfl,.inl ⟨_,rfl,mD.done sa sb (by lia) (by lia) (.inl (Zt.mp c3))⟩⟩
    refine ax c3 ?_;have c3:ib+1≠b.size:=fun z=>c3 (Zt.mpr z);by_cases c4:bc+1>=mg
    . refine av c4 ?_;exact Zm ⟨rfl,.inr ⟨rfl,by dsimp only;exact mD,by dsimp only;lia,by dsimp only;lia,by dsimp only;lia⟩⟩
    . refine ax c4 ?_;exact Zm ⟨rfl,rfl,by dsimp only;exact mD,by dsimp only;lia,by dsimp only;lia,by dsimp only;lia⟩
   | false=>
    have bw:=Z1 bw;have ua:=ho.fU sa sb D3 fun _=>al4.mp bw;dsimp only;refine ax Zp ?_;refine Zk (aC D3 ?_);by_cases c3:(ia+1+1==a.size)=true
    . refine av c3 ?_;have Vp:=Zt.mp c3;exact Zm ⟨rfl,.inl ⟨_,rfl,ua.last sa sb (by lia) (by lia) fun _=>by rw[show a.size - 1=ia+1 by lia] at cl;exact cl⟩⟩
    refine ax c3 ?_;have c3:ia+1+1≠a.size:=fun z=>c3 (Zt.mpr z);by_cases c4:ac+1>=mg
    . refine av c4 ?_;exact Zm ⟨rfl,.inr ⟨rfl,by dsimp only;exact ua,by dsimp only;lia,by dsimp only;lia,by dsimp only;lia⟩⟩
    . refine ax c4 ?_;exact Zm ⟨rfl,rfl,by dsimp only;exact ua,by dsimp only;lia,by dsimp only;lia,by dsimp only;lia⟩
  case ipost=>
   clear ho h1 h2 h3;refine Na (fun r' out ia ib ac bc ho=>?_) (fun out ia ib ac bc hJ=>?_)
   . exact Zm ⟨⟨g,rfl⟩,_,rfl,ho⟩
   have ho:Lo R a b out ia ib:=hJ.1;have h1:ia+1 < a.size:=hJ.2.1;have h2:ib < b.size:=hJ.2.2.1;have h3:1+(i+1)<=ia+ib:=hJ.2.2.2;clear hJ;dsimp only;refine Zk (wpS_lift (ad1 ⟨rfl,?_⟩));refine Zk (ac5 (aa3 (I:=fun j c ay=>(∃g,ay=setG st g)/\c.1=none/\Lo R a b c.2.1 c.2.2.1 c.2.2.2.1/\c.2.2.1+1 < a.size/\c.2.2.2.1 < b.size/\1+(i+1)<=c.2.2.1+c.2.2.2.1)
    (Q:=fun c ay=>(∃g,ay=setG st g)/\((∃r,c.1=some r/\Out R a b r)\/(c.1=none/\Lo R a b c.2.1 c.2.2.1 c.2.2.2.1/\c.2.2.1+1 < a.size/\c.2.2.2.1 < b.size/\1+(i+1)<=c.2.2.1+c.2.2.2.1))) ?gstep ?gfin ⟨⟨g,rfl⟩,rfl,(by dsimp only;exact ho),(by dsimp only;exact h1),(by dsimp only;exact h2),(by dsimp only;exact h3)⟩) ?gpost)
   case gfin=>
    rintro⟨r,out,ia,ib,mg,ac,bc⟩ ay ⟨e,hr,ho,h1,h2,h3⟩
    exact⟨e,.inr ⟨hr,ho,h1,h2,h3⟩⟩
   case gpost=>
    refine M9 (fun r' out ia ib mg ac bc g ho=>?_) (fun out ia ib mg ac bc g hJ=>?_)
    . exact Zm ⟨⟨g,rfl⟩,_,rfl,ho⟩
    . dsimp only;rw[bQ];exact Zk (af6 (Zm ⟨⟨_,rfl⟩,rfl,hJ⟩))
   case gstep=>
    clear ho h1 h2 h3 hi;refine Ik ?_;intro j out ia ib mg ac bc g _ hj hJ;have ho:Lo R a b out ia ib:=hJ.1;have h1:ia+1 < a.size:=hJ.2.1;have h2:ib < b.size:=hJ.2.2.1;have h3:1+(i+1)<=ia+ib:=hJ.2.2.2;clear hJ;dsimp only;refine have key:?P:=?pk;?main
    case main=>
     by_cases c0:mg > 1
     . refine av c0 ?_;clear c0;generalize mg - 1=m;revert m
       exact key
     . refine ax c0 ?_;clear c0;generalize mg=m;revert m
       exact key
    case pk=>
     intro m;rw[bQ];refine Zk (af6 ?_);refine Zk (aC h2 ?_);refine Zk (eF L hk ha (hb _ h2) (by lia) (by lia) (fun p q pq q2=>sa.rk (by lia) (by lia)) fun k WY kt kf=>?_);rw[<-bH (R:=R) h2] at kt kf;dsimp only;have Hu:0 < k->rk R a (ia+k - 1)<=rk R b ib:=fun z=>by have:=vM (kt (k - 1) (by lia));rw[show ia+(k - 1)=ia+k - 1 by lia] at this;exact this
     have Kc:ia+k < a.size->rk R b ib<=rk R a (ia+k):=fun z=>af5 (vN (kf k (Zj _) (by lia)));clear kt kf;by_cases c3:k > 0
     . refine av c3 ?_;have ua:=ho.iQ sa sb (ia':=ia+k) (by lia) (fun _ _ _=>Hu c3) (by lia);generalize out++a.extract ia (ia+k)=Rl at ua;by_cases c4:(ia+k+1==a.size)=true
       . refine av c4 ?_;have Vo:=Zt.mp c4;exact Zm ⟨⟨_,rfl⟩,.inl ⟨_,rfl,ua.last sa sb (by lia) (by lia) fun _=>by rw[show a.size - 1=ia+k by lia] at cl;exact cl⟩⟩
       refine ax c4 ?_;have Vo:ia+k+1≠a.size:=fun z=>c4 (Zt.mpr z);clear c4;by_cases c9:(ia+k==a.size)=true
       . refine av c9 ?_;exact Zm ⟨⟨_,rfl⟩,.inl ⟨_,rfl,ua.done sa sb (by lia) (by lia) (.inr (Zt.mp c9))⟩⟩
       refine ax c9 ?_;have Y9:ia+k≠a.size:=fun z=>c9 (Zt.mpr z);clear c9;refine Zk (aC h2 ?_);have mD:=ua.j4 sa sb h2 Kc;by_cases c5:(ib+1==b.size)=true
       . refine av c5 ?_;exact Zm ⟨⟨_,rfl⟩,.inl ⟨_,rfl,mD.done sa sb (by lia) (by lia) (.inl (Zt.mp c5))⟩⟩
       refine ax c5 ?_;have c5:ib+1≠b.size:=fun z=>c5 (Zt.mpr z);have hK:ia+k < a.size:=by lia
       refine Zk (aC hK ?_);refine Zk (eF L hk hb (ha _ hK) (by lia) (by lia) (fun p q pq q2=>sb.rk (by lia) (by lia)) fun k2 zR kt kf=>?_);rw[<-bH (R:=R) hK] at kt kf;dsimp only;have lt':0 < k2->rk R b (ib+1+k2 - 1)<=rk R a (ia+k):=fun z=>by have:=af5 (m6 (kt (k2 - 1) (by lia)));rw[show ib+1+(k2 - 1)=ib+1+k2 - 1 by lia] at this;exact this
       have zP:ib+1+k2 < b.size->rk R a (ia+k)<=rk R b (ib+1+k2):=fun z=>m7 (kf k2 (Zj _) (by lia));clear kt kf;by_cases c6:k2 > 0
       . refine av c6 ?_;have yT:=mD.gu sa sb (ib':=ib+1+k2) (by lia) (fun _ _ _=>lt' c6) (by lia);by_cases c7:(ib+1+k2==b.size)=true
         . refine av c7 ?_;exact Zm ⟨⟨_,rfl⟩,.inl ⟨_,rfl,yT.done sa sb (by lia) (by lia) (.inl (Zt.mp c7))⟩⟩
         refine ax c7 ?_;have Dn:ib+1+k2≠b.size:=fun z=>c7 (Zt.mpr z);clear c7;refine Zk (aC hK ?_);have iI:=yT.fU sa sb hK zP;by_cases c7:(ia+k+1+1==a.size)=true
         . refine av c7 ?_;have Dn:=Zt.mp c7;exact Zm ⟨⟨_,rfl⟩,.inl ⟨_,rfl,iI.last sa sb (by lia) (by lia) fun _=>by rw[show a.size - 1=ia+k+1 by lia] at cl;exact cl⟩⟩
         refine ax c7 ?_;have c7:ia+k+1+1≠a.size:=fun z=>c7 (Zt.mpr z);by_cases c8:(decide (k < 7) && decide (k2 < 7))=true
         . refine av c8 ?_;exact Zm ⟨⟨_,rfl⟩,.inr ⟨rfl,by dsimp only;exact iI,by dsimp only;lia,by dsimp only;lia,by dsimp only;lia⟩⟩
         . refine ax c8 ?_;exact Zm ⟨⟨_,rfl⟩,rfl,by dsimp only;exact iI,by dsimp only;lia,by dsimp only;lia,by dsimp only;lia⟩
       . refine ax c6 ?_;have Kk:k2=0:=by lia
         subst Kk;refine Zk (aC hK ?_);have iI:=mD.fU sa sb hK zP;by_cases c7:(ia+k+1+1==a.size)=true
         . refine av c7 ?_;have Dn:=Zt.mp c7;exact Zm ⟨⟨_,rfl⟩,.inl ⟨_,rfl,iI.last sa sb (by lia) (by lia) fun _=>by rw[show a.size - 1=ia+k+1 by lia] at cl;exact cl⟩⟩
         refine ax c7 ?_;have c7:ia+k+1+1≠a.size:=fun z=>c7 (Zt.mpr z);by_cases c8:(decide (k < 7) && decide (0 < 7))=true
         . refine av c8 ?_;exact Zm ⟨⟨_,rfl⟩,.inr ⟨rfl,by dsimp only;exact iI,by dsimp only;lia,by dsimp only;lia,by dsimp only;lia⟩⟩
         . refine ax c8 ?_;exact Zm ⟨⟨_,rfl⟩,rfl,by dsimp only;exact iI,by dsimp only;lia,by dsimp only;lia,by dsimp only;lia⟩
     . refine ax c3 ?_;have k0:k=0:=by lia
       subst k0;rw[an0] at Kc;refine Zk (aC h2 ?_);have mD:=ho.j4 sa sb h2 Kc;by_cases c5:(ib+1==b.size)=true
       . refine av c5 ?_;exact Zm ⟨⟨_,rfl⟩,.inl ⟨_,rfl,mD.done sa sb (by lia) (by lia) (.inl (Zt.mp c5))⟩⟩
       refine ax c5 ?_;have c5:ib+1≠b.size:=fun z=>c5 (Zt.mpr z);have hK:ia < a.size:=by lia
       refine Zk (aC hK ?_);refine Zk (eF L hk hb (ha _ hK) (by lia) (by lia) (fun p q pq q2=>sb.rk (by lia) (by lia)) fun k2 zR kt kf=>?_);rw[<-bH (R:=R) hK] at kt kf;dsimp only;have lt':0 < k2->rk R b (ib+1+k2 - 1)<=rk R a (ia):=fun z=>by have:=af5 (m6 (kt (k2 - 1) (by lia)));rw[show ib+1+(k2 - 1)=ib+1+k2 - 1 by lia] at this;exact this
       have zP:ib+1+k2 < b.size->rk R a (ia)<=rk R b (ib+1+k2):=fun z=>m7 (kf k2 (Zj _) (by lia));clear kt kf;by_cases c6:k2 > 0
       . refine av c6 ?_;have yT:=mD.gu sa sb (ib':=ib+1+k2) (by lia) (fun _ _ _=>lt' c6) (by lia);by_cases c7:(ib+1+k2==b.size)=true
         . refine av c7 ?_;exact Zm ⟨⟨_,rfl⟩,.inl ⟨_,rfl,yT.done sa sb (by lia) (by lia) (.inl (Zt.mp c7))⟩⟩
         refine ax c7 ?_;have Dn:ib+1+k2≠b.size:=fun z=>c7 (Zt.mpr z);clear c7;refine Zk (aC hK ?_);have iI:=yT.fU sa sb hK zP;by_cases c7:(ia+1+1==a.size)=true
         . refine av c7 ?_;have Dn:=Zt.mp c7;exact Zm ⟨⟨_,rfl⟩,.inl ⟨_,rfl,iI.last sa sb (by lia) (by lia) fun _=>by rw[show a.size - 1=ia+1 by lia] at cl;exact cl⟩⟩
         refine ax c7 ?_;have c7:ia+1+1≠a.size:=fun z=>c7 (Zt.mpr z);by_cases c8:(decide (0 < 7) && decide (k2 < 7))=true
         . refine av c8 ?_;exact Zm ⟨⟨_,rfl⟩,.inr ⟨rfl,by dsimp only;exact iI,by dsimp only;lia,by dsimp only;lia,by dsimp only;lia⟩⟩
         . refine ax c8 ?_;exact Zm ⟨⟨_,rfl⟩,rfl,by dsimp only;exact iI,by dsimp only;lia,by dsimp only;lia,by dsimp only;lia⟩
       . refine ax c6 ?_;have Kk:k2=0:=by lia
         subst Kk;refine Zk (aC hK ?_);have iI:=mD.fU sa sb hK zP;by_cases c7:(ia+1+1==a.size)=true
         . refine av c7 ?_;have Dn:=Zt.mp c7;exact Zm ⟨⟨_,rfl⟩,.inl ⟨_,rfl,iI.last sa sb (by lia) (by lia) fun _=>by rw[show a.size - 1=ia+1 by lia] at cl;exact cl⟩⟩
         refine ax c7 ?_;have c7:ia+1+1≠a.size:=fun z=>c7 (Zt.mpr z);by_cases c8:(decide (0 < 7) && decide (0 < 7))=true
         . refine av c8 ?_;exact Zm ⟨⟨_,rfl⟩,.inr ⟨rfl,by dsimp only;exact iI,by dsimp only;lia,by dsimp only;lia,by dsimp only;lia⟩⟩
         . refine ax c8 ?_;exact Zm ⟨⟨_,rfl⟩,rfl,by dsimp only;exact iI,by dsimp only;lia,by dsimp only;lia,by dsimp only;lia⟩
section
variable{R:Keyed->Int}
structure Hi(R:Keyed->Int)(a b out:Array Keyed)(na nb:Nat):Prop where
 pm:((a.toList.take na++b.toList.take nb)++out.reverse.toList).Perm (a.toList++b.toList)
 so:dI R out.reverse
 la: ∀x∈out.reverse.toList,∀j,j < na->j < a.size->rk R a j<=R x
 lb: ∀x∈out.reverse.toList,∀j,j < nb->j < b.size->rk R b j<=R x
theorem cb{out x:Array Keyed}:(out++x.reverse).reverse=x++out.reverse:=by
 apply am1.mp;simp
theorem wa{a:Array Keyed}(h:i<=j):a.toList.take j=a.toList.take i++(a.extract i j).toList:=by
 rw[fN];conv=>lhs;rw[show j=i+(j - i) by lia]
 rw[List.take_add]
theorem Hi.iQ{a b out:Array Keyed}{na nb:Nat}(h:Hi R a b out na nb)(sa:dI R a)(sb:dI R b){na':Nat}(h1:na'<=na)(h2:na<=a.size)(h3:nb<=b.size)(hc:na' < na->0 < nb->rk R b (nb - 1)<=rk R a na'):Hi R a b (out++(a.extract na' na).reverse) na' nb:=by
 refine⟨?_,?_,fun x hx j j1 j2=>?_,fun x hx j j1 j2=>?_⟩
 . rw[cb,Z8];refine List.Perm.trans ?_ h.pm;rw[wa h1];refine List.Perm.trans (List.Perm.of_eq (Z0 _ _ _).symm) (List.Perm.append_right _ ?_);rw[Z0,Z0];exact List.Perm.append_left _ List.perm_append_comm
 . rw[cb];exact(sa.ex _ _).app h.so fun x hx y hy=>by
    obtain⟨k,k1,k2,k3,e⟩:=cH (R:=R) hx;rw[e];exact h.la y hy k k2 k3
 . rw[cb,Z8] at hx;rcases Zz.mp hx with z | z
   . obtain⟨k,k1,k2,k3,e⟩:=cH (R:=R) z;rw[e];exact sa.rk (by lia) k3
   . exact h.la x z j (by lia) j2
 . rw[cb,Z8] at hx;rcases Zz.mp hx with z | z
   . obtain⟨k,k1,k2,k3,e⟩:=cH (R:=R) z;rw[e];have q1:=sa.rk k1 k3;have q2:=hc (by lia) (by lia);have q3:=sb.rk (show j<=nb - 1 by lia) (by lia);lia
   . exact h.lb x z j j1 j2
theorem Hi.gu{a b out:Array Keyed}{na nb:Nat}(h:Hi R a b out na nb)(sa:dI R a)(sb:dI R b){nb':Nat}(h1:nb'<=nb)(h2:nb<=b.size)(h3:na<=a.size)(hc:nb' < nb->0 < na->rk R a (na - 1)<=rk R b nb'):Hi R a b (out++(b.extract nb' nb).reverse) na nb':=by
 refine⟨?_,?_,fun x hx j j1 j2=>?_,fun x hx j j1 j2=>?_⟩
 . rw[cb,Z8];refine List.Perm.trans ?_ h.pm;rw[wa (a:=b) h1];simp only [Z0];exact List.Perm.refl _
 . rw[cb];exact(sb.ex _ _).app h.so fun x hx y hy=>by
    obtain⟨k,k1,k2,k3,e⟩:=cH (R:=R) hx;rw[e];exact h.lb y hy k k2 k3
 . rw[cb,Z8] at hx;rcases Zz.mp hx with z | z
   . obtain⟨k,k1,k2,k3,e⟩:=cH (R:=R) z;rw[e];have q1:=sb.rk k1 k3;have q2:=hc (by lia) (by lia);have q3:=sa.rk (show j<=na - 1 by lia) (by lia);lia
   . exact h.la x z j j1 j2
 . rw[cb,Z8] at hx;rcases Zz.mp hx with z | z
   . obtain⟨k,k1,k2,k3,e⟩:=cH (R:=R) z;rw[e];exact sb.rk (by lia) k3
   . exact h.lb x z j (by lia) j2
theorem Hi.out{a b out:Array Keyed}(h:Hi R a b out 0 0):Out R a b out.reverse:=by
 refine⟨?_,h.so⟩;have:=h.pm;rw[an7,an7,ab8,List.nil_append] at this;exact this
theorem Hi.done{a b out:Array Keyed}{na nb:Nat}(h:Hi R a b out na nb)(sa:dI R a)(sb:dI R b)(ha:na<=a.size)(hb:nb<=b.size)(hh:na=0\/nb=0):Out R a b (a.extract 0 na++b.extract 0 nb++out.reverse):=by
 have:=((h.gu sa sb (nb':=0) (ZV _) hb ha fun z1 z2=>by lia).iQ sa sb (na':=0) (ZV _) ha (ZV _) fun z1 z2=>by lia).out;rw[cb,cb,<-Array.append_assoc] at this;exact this
theorem Hi.first{a b out:Array Keyed}{na nb:Nat}(h:Hi R a b out na nb)(sa:dI R a)(sb:dI R b)(ha:na<=a.size)(hb:nb<=b.size)(hh:nb=1)(hc:rk R b 0<=rk R a 0):Out R a b (b.extract 0 nb++a.extract 0 na++out.reverse):=by
 have:=((h.iQ sa sb (na':=0) (ZV _) ha hb fun z1 z2=>by rw[hh];exact hc).gu sa sb (nb':=0) (ZV _) hb (ZV _) fun z1 z2=>by lia).out;rw[cb,cb,<-Array.append_assoc] at this;exact this
theorem wI{a out:Array Keyed}(h:i < a.size):out.push a[i]=out++(a.extract i (i+1)).reverse:=by
 apply am1.mp;rw[ai4,Z8,Array.toList_reverse,fN,show i+1 - i=1 by lia];congr 1
 have h':i < a.toList.length:=by simpa using h
 rw[am8 h',List.take_succ_cons,an7,Array.getElem_toList];rfl
theorem Hi.fU{a b out:Array Keyed}{na nb:Nat}(h:Hi R a b out na nb)(sa:dI R a)(sb:dI R b)(h1:1<=na)(h2:na<=a.size)(h3:nb<=b.size)(hc:0 < nb->rk R b (nb - 1)<=rk R a (na - 1)):Hi R a b (out.push (a[na - 1]'(by lia))) (na - 1) nb:=by
 rw[wI (show na - 1 < a.size by lia),show na - 1+1=na by lia];exact h.iQ sa sb (by lia) h2 h3 fun _ z=>hc z
theorem Hi.j4{a b out:Array Keyed}{na nb:Nat}(h:Hi R a b out na nb)(sa:dI R a)(sb:dI R b)(h1:1<=nb)(h2:nb<=b.size)(h3:na<=a.size)(hc:0 < na->rk R a (na - 1)<=rk R b (nb - 1)):Hi R a b (out.push (b[nb - 1]'(by lia))) na (nb - 1):=by
 rw[wI (show nb - 1 < b.size by lia),show nb - 1+1=nb by lia];exact h.gu sa sb (by lia) h2 h3 fun _ z=>hc z
theorem Hi.start(sa:dI R a)(sb:dI R b)(a1:1<=a.size)(hc:0 < b.size->rk R b (b.size - 1)<=rk R a (a.size - 1)):Hi R a b #[a[a.size - 1]'(by lia)] (a.size - 1) b.size:=
 Hi.fU (out:= #[]) (na:=a.size) ⟨by rw[<-Zv,<-Zv,ad9,ad9];simp,List.Pairwise.nil,fun x hx=>by simp at hx,fun x hx=>by simp at hx⟩ sa sb a1 (Zj _) (Zj _) hc
end
theorem qZ{st:SortSt}(L:n9 prog w A E s κ R D)(hk:kindOf st=κ)(ha:Dk D a)(hb:Dk D b)(sa:dI R a)(sb:dI R b)(a1:1<=a.size)(b1:1<=b.size)(c0:rk R b 0<=rk R a 0)(cl:rk R b (b.size - 1)<=rk R a (a.size - 1))(h: ∀m g,Out R a b m->Q m (setG st g)):wpS (model prog w) A E s (mi a b) Q st:=by
 rw[sI];dsimp only;refine Zk (wpS_lift (ad1 ⟨rfl,?_⟩));refine Zk (aC (by lia) ?_);have ho:=Hi.start sa sb a1 fun _=>cl;by_cases c1:(a.size - 1==0)=true
 . refine av c1 ?_;exact Zm (h _ (gallopOf st) (ho.done sa sb (by lia) (by lia) (.inl (Zt.mp c1))))
 refine ax c1 ?_;by_cases c2:(b.size==1)=true
 . refine av c2 ?_;exact Zm (h _ (gallopOf st) (ho.first sa sb (by lia) (by lia) (Zt.mp c2) c0))
 refine ax c2 ?_;have Tp:a.size - 1≠0:=fun z=>c1 (Zt.mpr z);have Iq:b.size≠1:=fun z=>c2 (Zt.mpr z);clear c1 c2;refine Zk (ak9 ?_);refine Zk (ac5 (aa3 (I:=fun i c ay=>(∃g,ay=setG st g)/\c.1=none/\Hi R a b c.2.2.2.1 c.2.1 c.2.2.1/\1<=c.2.1/\c.2.1<=a.size/\2<=c.2.2.1/\c.2.2.1<=b.size/\1+i<=(a.size - c.2.1)+(b.size - c.2.2.1))
  (Q:=fun c ay=>(∃g,ay=setG st g)/\ ∃r,c.1=some r/\Out R a b r) ?step ?fin ⟨⟨gallopOf st,rfl⟩,rfl,(by dsimp only;exact ho),by dsimp only;lia,by dsimp only;lia,by dsimp only;lia,by dsimp only;lia,by dsimp only;lia⟩) ?post)
 case post=>
  rintro⟨r,na,nb,out,mg⟩ ay ⟨⟨g,rfl⟩,r',h1,h2⟩
  dsimp only at h1 ⊢;subst h1;exact Zm (h _ _ h2)
 case fin=>
  rintro⟨r,na,nb,out,mg⟩ ay ⟨_,_,ho,h1,h2,h3,h4,h5⟩
  dsimp only at h1 h2 h3 h4 h5;lia
 case step=>
  refine Im ?_;intro i na nb out mg g _ hi hJ;have ho:Hi R a b out na nb:=hJ.1;have h1:1<=na:=hJ.2.1;have h2:na<=a.size:=hJ.2.2.1;have h3:2<=nb:=hJ.2.2.2.1;have h4:nb<=b.size:=hJ.2.2.2.2.1;have h5:1+i<=(a.size - na)+(b.size - nb):=hJ.2.2.2.2.2;clear hJ;dsimp only;refine Zk (ac5 (aa3 (I:=fun j c ay=>ay=setG st g/\c.1=none/\Hi R a b c.2.2.2.1 c.2.1 c.2.2.1/\1<=c.2.1/\c.2.1<=a.size/\2<=c.2.2.1/\c.2.2.1<=b.size/\1+i+min j 1<=(a.size - c.2.1)+(b.size - c.2.2.1))
   (Q:=fun c ay=>ay=setG st g/\((∃r,c.1=some r/\Out R a b r)\/(c.1=none/\Hi R a b c.2.2.2.1 c.2.1 c.2.2.1/\1<=c.2.1/\c.2.1<=a.size/\2<=c.2.2.1/\c.2.2.1<=b.size/\1+(i+1)<=(a.size - c.2.1)+(b.size - c.2.2.1)))) ?istep ?ifin ⟨rfl,rfl,(by dsimp only;exact ho),(by dsimp only;exact h1),(by dsimp only;exact h2),(by dsimp only;exact h3),(by dsimp only;exact h4),by dsimp only;lia⟩) ?ipost)
  case ifin=>
   rintro⟨r,na,nb,out,ac,bc⟩ ay ⟨e,hr,ho,h1,h2,h3,h4,h5⟩
   dsimp only at hr ho h1 h2 h3 h4 h5;exact⟨e,.inr ⟨hr,ho,h1,h2,h3,h4,by dsimp only;lia⟩⟩
  case istep=>
   clear ho h1 h2 h3 h4 h5;refine Il ?_;intro j na nb out ac bc _ hj hJ;have ho:Hi R a b out na nb:=hJ.1;have h1:1<=na:=hJ.2.1;have h2:na<=a.size:=hJ.2.2.1;have h3:2<=nb:=hJ.2.2.2.1;have h4:nb<=b.size:=hJ.2.2.2.2.1;have h5:1+i+min j 1<=(a.size - na)+(b.size - nb):=hJ.2.2.2.2.2;clear hJ;have D3:na - 1 < a.size:=by lia
   have D1:nb - 1 < b.size:=by lia
   dsimp only;refine Zk (aC D1 (Zk (aC D3 (Zk (L _ _ _ _ hk (hb _ D1) (ha _ D3) ?_)))));rw[<-bH (R:=R) D1,<-bH (R:=R) D3];cases aw:decide (rk R b (nb - 1) < rk R a (na - 1)) with
   | true=>
    have aw:=ZL aw;have ua:=ho.fU sa sb h1 h2 h4 fun _=>af5 aw;dsimp only;refine av rfl ?_;refine Zk (aC D3 ?_);by_cases c3:(na - 1==0)=true
    . refine av c3 ?_;exact Zm ⟨rfl,.inl ⟨_,rfl,ua.done sa sb (by lia) (by lia) (.inl (Zt.mp c3))⟩⟩
    refine ax c3 ?_;have Vp:na - 1≠0:=fun z=>c3 (Zt.mpr z);clear c3;by_cases c4:ac+1>=mg
    . refine av c4 ?_;exact Zm ⟨rfl,.inr ⟨rfl,by dsimp only;exact ua,by dsimp only;lia,by dsimp only;lia,by dsimp only;lia,by dsimp only;lia,by dsimp only;lia⟩⟩
    . refine ax c4 ?_;exact Zm ⟨rfl,rfl,by dsimp only;exact ua,by dsimp only;lia,by dsimp only;lia,by dsimp only;lia,by dsimp only;lia,by dsimp only;lia⟩
   | false=>
    have aw:=Z1 aw;have mD:=ho.j4 sa sb (by lia) h4 h2 fun _=>al4.mp aw;dsimp only;refine ax Zp ?_;refine Zk (aC D1 ?_);by_cases c3:(nb - 1==1)=true
    . refine av c3 ?_;exact Zm ⟨rfl,.inl ⟨_,rfl,mD.first sa sb (by lia) (by lia) (Zt.mp c3) c0⟩⟩
    refine ax c3 ?_;have Vp:nb - 1≠1:=fun z=>c3 (Zt.mpr z);clear c3;by_cases c4:bc+1>=mg
    . refine av c4 ?_;exact Zm ⟨rfl,.inr ⟨rfl,by dsimp only;exact mD,by dsimp only;lia,by dsimp only;lia,by dsimp only;lia,by dsimp only;lia,by dsimp only;lia⟩⟩
    . refine ax c4 ?_;exact Zm ⟨rfl,rfl,by dsimp only;exact mD,by dsimp only;lia,by dsimp only;lia,by dsimp only;lia,by dsimp only;lia,by dsimp only;lia⟩
  case ipost=>
   clear ho h1 h2 h3 h4 h5;refine Na (fun r' na nb out ac bc ho=>?_) (fun na nb out ac bc hJ=>?_)
   . exact Zm ⟨⟨g,rfl⟩,_,rfl,ho⟩
   have ho:Hi R a b out na nb:=hJ.1;have h1:1<=na:=hJ.2.1;have h2:na<=a.size:=hJ.2.2.1;have h3:2<=nb:=hJ.2.2.2.1;have h4:nb<=b.size:=hJ.2.2.2.2.1;have h5:1+(i+1)<=(a.size - na)+(b.size - nb):=hJ.2.2.2.2.2;clear hJ;dsimp only;refine Zk (wpS_lift (ad1 ⟨rfl,?_⟩));refine Zk (ac5 (aa3 (I:=fun j c ay=>(∃g,ay=setG st g)/\c.1=none/\Hi R a b c.2.2.2.1 c.2.1 c.2.2.1/\1<=c.2.1/\c.2.1<=a.size/\2<=c.2.2.1/\c.2.2.1<=b.size/\1+(i+1)<=(a.size - c.2.1)+(b.size - c.2.2.1))
    (Q:=fun c ay=>(∃g,ay=setG st g)/\((∃r,c.1=some r/\Out R a b r)\/(c.1=none/\Hi R a b c.2.2.2.1 c.2.1 c.2.2.1/\1<=c.2.1/\c.2.1<=a.size/\2<=c.2.2.1/\c.2.2.1<=b.size/\1+(i+1)<=(a.size - c.2.1)+(b.size - c.2.2.1)))) ?gstep ?gfin ⟨⟨g,rfl⟩,rfl,(by dsimp only;exact ho),(by dsimp only;exact h1),(by dsimp only;exact h2),(by dsimp only;exact h3),(by dsimp only;exact h4),(by dsimp only;exact h5)⟩) ?gpost)
   case gfin=>
    rintro⟨r,na,nb,out,mg,ac,bc⟩ ay ⟨e,hr,ho,h1,h2,h3,h4,h5⟩
    exact⟨e,.inr ⟨hr,ho,h1,h2,h3,h4,h5⟩⟩
   case gpost=>
    refine M9 (fun r' na nb out mg ac bc g ho=>?_) (fun na nb out mg ac bc g hJ=>?_)
    . exact Zm ⟨⟨g,rfl⟩,_,rfl,ho⟩
    . dsimp only;rw[bQ];exact Zk (af6 (Zm ⟨⟨_,rfl⟩,rfl,hJ⟩))
   case gstep=>
    clear ho h1 h2 h3 h4 h5 hi;refine Ik ?_;intro j na nb out mg ac bc g _ hj hJ;have ho:Hi R a b out na nb:=hJ.1;have h1:1<=na:=hJ.2.1;have h2:na<=a.size:=hJ.2.2.1;have h3:2<=nb:=hJ.2.2.2.1;have h4:nb<=b.size:=hJ.2.2.2.2.1;have h5:1+(i+1)<=(a.size - na)+(b.size - nb):=hJ.2.2.2.2.2;clear hJ;dsimp only;refine have key:?P:=?pk;?main
    case main=>
     by_cases c0:mg > 1
     . refine av c0 ?_;clear c0;generalize mg - 1=m;revert m
       exact key
     . refine ax c0 ?_;clear c0;generalize mg=m;revert m
       exact key
    case pk=>
     intro m;have D1:nb - 1 < b.size:=by lia
     rw[bQ];refine Zk (af6 ?_);refine Zk (aC D1 ?_);refine Zk (eF L hk ha (hb _ D1) (by lia) (by lia) (fun p q pq q2=>sa.rk (by lia) (by lia)) fun k WY kt kf=>?_);rw[<-bH (R:=R) D1] at kt kf;simp only [Nat.zero_add] at kt kf;dsimp only;have Hu:0 < k->rk R a (k - 1)<=rk R b (nb - 1):=fun z=>vM (kt (k - 1) (by lia));have Kc:k < na->rk R b (nb - 1)<=rk R a k:=fun z=>af5 (vN (kf k (Zj _) (by lia)));clear kt kf;by_cases c3:na - k > 0
     . refine av c3 ?_;have ua:=ho.iQ sa sb (na':=k) (by lia) h2 h4 (fun z _=>Kc z);generalize out++(a.extract k na).reverse=Rl at ua;by_cases c4:(k==0)=true
       . refine av c4 ?_;exact Zm ⟨⟨_,rfl⟩,.inl ⟨_,rfl,ua.done sa sb (by lia) (by lia) (.inl (Zt.mp c4))⟩⟩
       refine ax c4 ?_;have Vo:k≠0:=fun z=>c4 (Zt.mpr z);clear c4;refine Zk (aC D1 ?_);have mD:=ua.j4 sa sb (by lia) h4 (by lia) Hu;by_cases c5:(nb - 1==1)=true
       . refine av c5 ?_;exact Zm ⟨⟨_,rfl⟩,.inl ⟨_,rfl,mD.first sa sb (by lia) (by lia) (Zt.mp c5) c0⟩⟩
       refine ax c5 ?_;have Xz:nb - 1≠1:=fun z=>c5 (Zt.mpr z);clear c5;have hK:k - 1 < a.size:=by lia
       refine Zk (aC hK ?_);refine Zk (eF L hk hb (ha _ hK) (by lia) (by lia) (fun p q pq q2=>sb.rk (by lia) (by lia)) fun k2 zR lt lf=>?_);rw[<-bH (R:=R) hK] at lt lf;simp only [Nat.zero_add] at lt lf;dsimp only;have lt':0 < k2->rk R b (k2 - 1)<=rk R a (k - 1):=fun z=>af5 (m6 (lt (k2 - 1) (by lia)));have zP:k2 < nb - 1->rk R a (k - 1)<=rk R b k2:=fun z=>m7 (lf k2 (Zj _) (by lia));clear lt lf;by_cases c6:nb - 1 - k2 > 0
       . refine av c6 ?_;have yT:=mD.gu sa sb (nb':=k2) (by lia) (by lia) (by lia) (fun z _=>zP z);by_cases c7:(k2==1)=true
         . refine av c7 ?_;exact Zm ⟨⟨_,rfl⟩,.inl ⟨_,rfl,yT.first sa sb (by lia) (by lia) (Zt.mp c7) c0⟩⟩
         refine ax c7 ?_;have Dn:k2≠1:=fun z=>c7 (Zt.mpr z);clear c7;by_cases c8:(k2==0)=true
         . refine av c8 ?_;exact Zm ⟨⟨_,rfl⟩,.inl ⟨_,rfl,yT.done sa sb (by lia) (by lia) (.inr (Zt.mp c8))⟩⟩
         refine ax c8 ?_;have Xy:k2≠0:=fun z=>c8 (Zt.mpr z);clear c8;refine Zk (aC hK ?_);have iI:=yT.fU sa sb (by lia) (by lia) (by lia) lt';by_cases c7:(k - 1==0)=true
         . refine av c7 ?_;exact Zm ⟨⟨_,rfl⟩,.inl ⟨_,rfl,iI.done sa sb (by lia) (by lia) (.inl (Zt.mp c7))⟩⟩
         refine ax c7 ?_;have Dn:k - 1≠0:=fun z=>c7 (Zt.mpr z);clear c7;by_cases c8:(decide (na - k < 7) && decide (nb - 1 - k2 < 7))=true
         . refine av c8 ?_;exact Zm ⟨⟨_,rfl⟩,.inr ⟨rfl,by dsimp only;exact iI,by dsimp only;lia,by dsimp only;lia,by dsimp only;lia,by dsimp only;lia,by dsimp only;lia⟩⟩
         . refine ax c8 ?_;exact Zm ⟨⟨_,rfl⟩,rfl,by dsimp only;exact iI,by dsimp only;lia,by dsimp only;lia,by dsimp only;lia,by dsimp only;lia,by dsimp only;lia⟩
       . refine ax c6 ?_;have Kk:k2=nb - 1:=by lia
         refine Zk (aC hK ?_);have iI:=mD.fU sa sb (by lia) (by lia) (by lia) (fun z=>by rw[<-Kk] at z ⊢;exact lt' z);by_cases c7:(k - 1==0)=true
         . refine av c7 ?_;exact Zm ⟨⟨_,rfl⟩,.inl ⟨_,rfl,iI.done sa sb (by lia) (by lia) (.inl (Zt.mp c7))⟩⟩
         refine ax c7 ?_;have Dn:k - 1≠0:=fun z=>c7 (Zt.mpr z);clear c7;by_cases c8:(decide (na - k < 7) && decide (nb - 1 - k2 < 7))=true
         . refine av c8 ?_;exact Zm ⟨⟨_,rfl⟩,.inr ⟨rfl,by dsimp only;exact iI,by dsimp only;lia,by dsimp only;lia,by dsimp only;lia,by dsimp only;lia,by dsimp only;lia⟩⟩
         . refine ax c8 ?_;exact Zm ⟨⟨_,rfl⟩,rfl,by dsimp only;exact iI,by dsimp only;lia,by dsimp only;lia,by dsimp only;lia,by dsimp only;lia,by dsimp only;lia⟩
     . refine ax c3 ?_;have k0:k=na:=by lia
       rw[k0] at Hu;refine Zk (aC D1 ?_);have mD:=ho.j4 sa sb (by lia) h4 (by lia) Hu;by_cases c5:(nb - 1==1)=true
       . refine av c5 ?_;exact Zm ⟨⟨_,rfl⟩,.inl ⟨_,rfl,mD.first sa sb (by lia) (by lia) (Zt.mp c5) c0⟩⟩
       refine ax c5 ?_;have Xz:nb - 1≠1:=fun z=>c5 (Zt.mpr z);clear c5;have hK:na - 1 < a.size:=by lia
       refine Zk (aC hK ?_);refine Zk (eF L hk hb (ha _ hK) (by lia) (by lia) (fun p q pq q2=>sb.rk (by lia) (by lia)) fun k2 zR lt lf=>?_);rw[<-bH (R:=R) hK] at lt lf;simp only [Nat.zero_add] at lt lf;dsimp only;have lt':0 < k2->rk R b (k2 - 1)<=rk R a (na - 1):=fun z=>af5 (m6 (lt (k2 - 1) (by lia)));have zP:k2 < nb - 1->rk R a (na - 1)<=rk R b k2:=fun z=>m7 (lf k2 (Zj _) (by lia));clear lt lf;by_cases c6:nb - 1 - k2 > 0
       . refine av c6 ?_;have yT:=mD.gu sa sb (nb':=k2) (by lia) (by lia) (by lia) (fun z _=>zP z);by_cases c7:(k2==1)=true
         . refine av c7 ?_;exact Zm ⟨⟨_,rfl⟩,.inl ⟨_,rfl,yT.first sa sb (by lia) (by lia) (Zt.mp c7) c0⟩⟩
         refine ax c7 ?_;have Dn:k2≠1:=fun z=>c7 (Zt.mpr z);clear c7;by_cases c8:(k2==0)=true
         . refine av c8 ?_;exact Zm ⟨⟨_,rfl⟩,.inl ⟨_,rfl,yT.done sa sb (by lia) (by lia) (.inr (Zt.mp c8))⟩⟩
         refine ax c8 ?_;have Xy:k2≠0:=fun z=>c8 (Zt.mpr z);clear c8;refine Zk (aC hK ?_);have iI:=yT.fU sa sb (by lia) (by lia) (by lia) lt';by_cases c7:(na - 1==0)=true
         . refine av c7 ?_;exact Zm ⟨⟨_,rfl⟩,.inl ⟨_,rfl,iI.done sa sb (by lia) (by lia) (.inl (Zt.mp c7))⟩⟩
         refine ax c7 ?_;have Dn:na - 1≠0:=fun z=>c7 (Zt.mpr z);clear c7;by_cases c8:(decide (na - k < 7) && decide (nb - 1 - k2 < 7))=true
         . refine av c8 ?_;exact Zm ⟨⟨_,rfl⟩,.inr ⟨rfl,by dsimp only;exact iI,by dsimp only;lia,by dsimp only;lia,by dsimp only;lia,by dsimp only;lia,by dsimp only;lia⟩⟩
         . refine ax c8 ?_;exact Zm ⟨⟨_,rfl⟩,rfl,by dsimp only;exact iI,by dsimp only;lia,by dsimp only;lia,by dsimp only;lia,by dsimp only;lia,by dsimp only;lia⟩
       . refine ax c6 ?_;have Kk:k2=nb - 1:=by lia
         refine Zk (aC hK ?_);have iI:=mD.fU sa sb (by lia) (by lia) (by lia) (fun z=>by rw[<-Kk] at z ⊢;exact lt' z);by_cases c7:(na - 1==0)=true
         . refine av c7 ?_;exact Zm ⟨⟨_,rfl⟩,.inl ⟨_,rfl,iI.done sa sb (by lia) (by lia) (.inl (Zt.mp c7))⟩⟩
         refine ax c7 ?_;have Dn:na - 1≠0:=fun z=>c7 (Zt.mpr z);clear c7;by_cases c8:(decide (na - k < 7) && decide (nb - 1 - k2 < 7))=true
         . refine av c8 ?_;exact Zm ⟨⟨_,rfl⟩,.inr ⟨rfl,by dsimp only;exact iI,by dsimp only;lia,by dsimp only;lia,by dsimp only;lia,by dsimp only;lia,by dsimp only;lia⟩⟩
         . refine ax c8 ?_;exact Zm ⟨⟨_,rfl⟩,rfl,by dsimp only;exact iI,by dsimp only;lia,by dsimp only;lia,by dsimp only;lia,by dsimp only;lia,by dsimp only;lia⟩
section
variable{R:Keyed->Int}
theorem jZ(h:a[i]?=b[j]?):rk R a i=rk R b j:=by unfold rk;rw[h]
theorem lN{a:Array Keyed}(hj:j<=a.size)(k:Nat):rk R (mirror a i j ((j - i) / 2)) k=if i<=k/\k < j then rk R a (i+j - 1 - k) else rk R a k:=by
 have e:=getElem?_mirror_all (i:=i) (j:=j) (xs:=a) hj k;by_cases c:i<=k/\k < j
 . rw[if_pos c] at e ⊢;exact jZ e
 . rw[if_neg c] at e ⊢;exact jZ e
theorem Js{a:Array Keyed}(ha:i < a.size)(hd:d<=i)(k:Nat):rk R (bubble a i d) k=if k=i - d then rk R a i else if i - d < k/\k<=i then rk R a (k - 1) else rk R a k:=by
 have e:=getElem?_bubble (xs:=a) (src:=i) ha d hd k;by_cases c:k=i - d
 . rw[if_pos c] at e ⊢;exact jZ e
 . rw[if_neg c] at e ⊢;by_cases c2:i - d < k/\k<=i
   . rw[if_pos c2] at e ⊢;exact jZ e
   . rw[if_neg c2] at e ⊢;exact jZ e
def a9(R:Keyed->Int)(a:Array Keyed)(i j:Nat):Prop:= ∀x y,i<=x->x<=y->y < j->rk R a x<=rk R a y
theorem a9.more{lo n:Nat}(h:a9 R a lo (lo+n))(n1:1<=n)(hl:rk R a (lo+n - 1)<=rk R a (lo+n)):a9 R a lo (lo+(n+1)):=fun x y h1 h2 h3=>by
 by_cases c:y < lo+n
 . exact h x y h1 h2 c
 . have:y=lo+n:=by lia
   subst this;by_cases d:x=lo+n
   . rw[d];exact ad6 _
   . exact Int.le_trans (h x (lo+n - 1) h1 (by lia) (by lia)) hl
theorem a9.one{lo:Nat}:a9 R a lo (lo+1):=fun x y h1 h2 h3=>by rw[show x=y by lia];exact ad6 _
structure Dx(R:Keyed->Int)(a:Array Keyed)(lo n q:Nat):Prop where
 ds: ∀i j,lo<=i->i<=j->j < lo+n->rk R a j<=rk R a i
 q1:q+1<=n
 eq: ∀i,lo+n - (q+1)<=i->i < lo+n->rk R a i=rk R a (lo+n - 1)
theorem Dx.turn{lo n q:Nat}(h:Dx R a lo n q)(hn:lo+n<=a.size):rk R (mirror a (lo+n - (q+1)) (lo+n) ((lo+n - (lo+n - (q+1))) / 2)) i=rk R a i:=by
 rw[lN hn];have:=h.q1;split
 . rename_i c;rw[h.eq _ (by lia) (by lia),h.eq i c.1 c.2]
 . rfl
theorem Dx.turned{lo n q:Nat}(h:Dx R a lo n q)(hn:lo+n<=a.size):Dx R (mirror a (lo+n - (q+1)) (lo+n) ((lo+n - (lo+n - (q+1))) / 2)) lo n q:=
 ⟨fun i j x y z=>by rw[h.turn hn,h.turn hn];exact h.ds i j x y z,h.q1,fun i x y=>by rw[h.turn hn,h.turn hn];exact h.eq i x y⟩
theorem Dx.more{lo n q:Nat}(h:Dx R a lo n q)(hl:rk R a (lo+n) < rk R a (lo+n - 1)):Dx R a lo (n+1) 0:=by
 have:=h.q1;refine⟨fun i j x y z=>?_,by lia,fun i x y=>by rw[show i=lo+(n+1) - 1 by lia]⟩;by_cases hj:j < lo+n
 . exact h.ds i j x y hj
 . have:j=lo+n:=by lia
   subst this;by_cases hi:i=lo+n
   . subst hi;exact ad6 _
   . exact Int.le_trans (af5 hl) (h.ds i (lo+n - 1) x (by lia) (by lia))
theorem Dx.alike{lo n q:Nat}(h:Dx R a lo n q)(hl:rk R a (lo+n)=rk R a (lo+n - 1)):Dx R a lo (n+1) (q+1):=by
 have q1:=h.q1;refine⟨fun i j x y z=>?_,by lia,fun i x y=>?_⟩
 . by_cases hj:j < lo+n
   . exact h.ds i j x y hj
   . have:j=lo+n:=by lia
     subst this;by_cases hi:i=lo+n
     . subst hi;exact ad6 _
     . rw[hl];exact h.ds i (lo+n - 1) x (by lia) (by lia)
 . rw[show lo+(n+1) - 1=lo+n by lia];by_cases hi:i=lo+n
   . rw[hi]
   . rw[hl];exact h.eq i (by lia) (by lia)
theorem Dx.up{lo n q:Nat}(h:Dx R a lo n q)(hn:lo+n<=a.size):a9 R (mirror a lo (lo+n) ((lo+n - lo) / 2)) lo (lo+n):=fun x y h1 h2 h3=>by
 rw[lN hn,lN hn,if_pos ⟨by lia,by lia⟩,if_pos ⟨by lia,by lia⟩];exact h.ds _ _ (by lia) (by lia) (by lia)
end
structure Wx(κ:SortKind)(a₀ ar:Array Keyed)(lo:Nat)(p:Array (Nat × Nat × Nat))(st:SortSt):Prop where
 pm:(arrOf st).Perm a₀
 kind:kindOf st=κ
 failed:failedOf st=none
 pend:pendingOf st=p
 keep: ∀i,i < lo->(arrOf st)[i]?=ar[i]?
section
variable{prog:Program}{w:World}{A:Around}{E:Value->Shared->Prop}{s:Shared}{κ:SortKind}{R:Keyed->Int}{D:Keyed->Prop}{a₀ ar:Array Keyed}{p:Array (Nat × Nat × Nat)}{lo:Nat}
theorem Wx.size{st:SortSt}(h:Wx κ a₀ ar lo p st):(arrOf st).size=a₀.size:=h.pm.size_eq
theorem Wx.dk{st:SortSt}(h:Wx κ a₀ ar lo p st)(hD: ∀x∈a₀.toList,D x):Dk D (arrOf st):=fun i hi=>hD _ ((ae0.mp h.pm).mem_iff.mp (u5 hi))
theorem Wx.lt{st:SortSt}(h:Wx κ a₀ ar lo p st)(L:n9 prog w A E s κ R D)(hD: ∀x∈a₀.toList,D x){i j:Nat}(hi:i < a₀.size)(hj:j < a₀.size)(q:Q (some (decide (rk R (arrOf st) i < rk R (arrOf st) j))) st):wpS (model prog w) A E s (ltAt' i j) Q st:=by
 have nD:i < (arrOf st).size:=by rw[h.size];exact hi
 have Me:j < (arrOf st).size:=by rw[h.size];exact hj
 rw[ltAt'_eq];refine Zk (ak9 ?_);rw[bH nD,bH Me] at q;exact Zk (aC nD (Zk (aC Me (L _ _ _ _ h.kind (h.dk hD _ nD) (h.dk hD _ Me) q))))
theorem Wx.rev{st:SortSt}(h:Wx κ a₀ ar lo p st){i j:Nat}(hi:lo<=i)(hj:j<=a₀.size)(q: ∀ay,Wx κ a₀ ar lo p ay->arrOf ay=mirror (arrOf st) i j ((j - i) / 2)->Q () ay):wpS (model prog w) A E s (reverseSlice' i j) Q st:=by
 rw[reverseSlice'_eq];refine af6 (q _ ⟨(mirror_perm _ _ _ _).trans h.pm,h.kind,h.failed,h.pend,fun k hk=>?_⟩ rfl);show(mirror (arrOf st) i j ((j - i) / 2))[k]?=_;rw[getElem?_mirror_all (by rw[h.size];exact hj),if_neg (by lia)];exact h.keep k hk
theorem Wx.Wn{st:SortSt}(h:Wx κ a₀ ar lo p st){i j:Nat}(hj:lo<=j)(bW:j<=i)(hi:i < a₀.size)(q: ∀ay,Wx κ a₀ ar lo p ay->arrOf ay=bubble (arrOf st) i (i - j)->Q () ay):wpS (model prog w) A E s (moveDown' i j) Q st:=by
 rw[moveDown'_eq];refine af6 (q _ ⟨(bubble_perm _ _ _).trans h.pm,h.kind,h.failed,h.pend,fun k hk=>?_⟩ rfl);show(bubble (arrOf st) i (i - j))[k]?=_;rw[getElem?_bubble (by rw[h.size];exact hi) _ (by lia),if_neg (by lia),if_neg (by lia)];exact h.keep k hk
theorem Ag(L:n9 prog w A E s κ R D)(hD: ∀x∈a₀.toList,D x){st:SortSt}{dU:Nat}(hn:lo+dU<=a₀.size)(h1:1<=dU)(hW:Wx κ a₀ ar lo p st)(h: ∀m ay,Wx κ a₀ ar lo p ay->1<=m->m<=dU->a9 R (arrOf ay) lo (lo+m)->Q (some m) ay):wpS (model prog w) A E s (countRun' lo dU) Q st:=by
 rw[countRun'_eq];dsimp only;refine Zk (ac5 (aa3 (I:=fun i c ay=>ay=st/\c.1=none/\c.2=i/\a9 R (arrOf st) lo (lo+i)) (Q:=fun c ay=>ay=st/\c.1=none/\1<=c.2/\c.2<=dU/\a9 R (arrOf st) lo (lo+c.2)/\(c.2 < dU->rk R (arrOf st) (lo+c.2) < rk R (arrOf st) (lo+c.2 - 1))) ?_ ?_ ⟨rfl,rfl,rfl,a9.one⟩) ?_)
 . rintro x ⟨r,n⟩ ay Ma L9 ⟨rfl,e1,e2,e3⟩
   dsimp only at e1 e2 e3 ⊢;subst e1;subst e2;refine Zk (hW.lt L hD (by lia) (by lia) ?_);cases bw:decide (rk R (arrOf ay) (lo+n) < rk R (arrOf ay) (lo+n - 1)) with
   | true=>exact Zm ⟨rfl,rfl,by dsimp only;lia,by dsimp only;lia,by dsimp only;exact e3,fun _=>by dsimp only;exact ZL bw⟩
   | false=>exact Zm ⟨rfl,rfl,rfl,e3.more (by lia) (al4.mp (Z1 bw))⟩
 . rintro⟨r,n⟩ ay ⟨f0,f1,f2,f3⟩
   dsimp only at f1 f2 f3;rw[<-f2] at f3;have f2:n=dU:=by lia
   subst f2;exact⟨f0,f1,by dsimp only;lia,Zj _,f3,fun z=>absurd z (Z7 _)⟩
 . rintro⟨r,n⟩ ay ⟨rfl,e1,e2,e3,sg,Ny⟩
   dsimp only at e1 e2 e3 sg Ny ⊢;subst e1;dsimp only;by_cases c1:(n==dU)=true
   . rw[if_pos c1];exact Zm (h _ _ hW e2 e3 sg)
   rw[if_neg c1];have Tp:n≠dU:=fun z=>c1 (Zt.mpr z);clear c1;have Ny:=Ny (by lia);have sz:=hW.size;by_cases c2:n > 1
   . rw[if_pos c2];refine Zk (hW.lt L hD (by lia) (by lia) ?_);cases bw:decide (rk R (arrOf ay) lo < rk R (arrOf ay) (lo+n - 1)) with
     | true=>exact Zm (h _ _ hW e2 e3 sg)
     | false=>
      have bw:=Z1 bw;dsimp only;rw[if_neg Zp];refine Zk (hW.rev (by lia) (by lia) fun rN w1 ea=>?_);refine Zk (wpS_lift (ad1 ⟨rfl,?_⟩));have al: ∀i,lo<=i->i < lo+n->rk R (arrOf ay) i=rk R (arrOf ay) (lo+n - 1):=fun i i1 i2=>by
       have:=sg lo i (by lia) i1 i2;have:=sg i (lo+n - 1) i1 (by lia) (by lia);lia
      have OT: ∀i,lo<=i->i < lo+n->rk R (arrOf rN) i=rk R (arrOf ay) (lo+n - 1):=fun i i1 i2=>by
       rw[ea,lN (by lia),if_pos ⟨i1,i2⟩];exact al _ (by lia) (by lia)
      have XE:rk R (arrOf rN) (lo+n)=rk R (arrOf ay) (lo+n):=by rw[ea,lN (by lia),if_neg (by lia)]
      have SN:Dx R (arrOf rN) lo (n+1) 0:=Dx.more (q:=n - 1) ⟨fun i j x y z=>by rw[OT i x (by lia),OT j (by lia) z];exact ad6 _,by lia,fun i x y=>by rw[OT i (by lia) y,OT (lo+n - 1) (by lia) (by lia)]⟩ (by rw[XE,OT (lo+n - 1) (by lia) (by lia)];exact Ny);refine Zk (ac5 (aa3 (I:=fun i c ay=>Wx κ a₀ ar lo p ay/\c.1=none/\c.2.1=i/\Dx R (arrOf ay) lo c.2.1 c.2.2) (Q:=fun c ay=>Wx κ a₀ ar lo p ay/\c.1=none/\c.2.1<=dU/\Dx R (arrOf ay) lo c.2.1 c.2.2) ?_ ?_ ⟨w1,rfl,rfl,(by dsimp only;exact SN)⟩) ?_)
      . rintro x ⟨r,m,q⟩ ay Ma L9 ⟨w',e1,e2,dx⟩
        dsimp only at e1 e2 dx ⊢;subst e1;subst e2;have q1:=dx.q1;have sz:=w'.size;refine Zk (w'.lt L hD (by lia) (by lia) ?_);cases bw:decide (rk R (arrOf ay) (lo+m) < rk R (arrOf ay) (lo+m - 1)) with
        | true=>
         have bw:=ZL bw;dsimp only;rw[if_pos rfl];by_cases c:q > 0
         . rw[if_pos c];exact Zk (w'.rev (by lia) (by lia) fun gg w2 ea=>Zm ⟨w2,rfl,rfl,by dsimp only;rw[ea];exact(dx.turned (by lia)).more (by rw[dx.turn (by lia),dx.turn (by lia)];exact bw)⟩)
         . rw[if_neg c];exact Zm ⟨w',rfl,rfl,by dsimp only;exact dx.more bw⟩
        | false=>
         have bw:=Z1 bw;dsimp only;rw[if_neg Zp];refine Zk (w'.lt L hD (by lia) (by lia) ?_);cases Tq:decide (rk R (arrOf ay) (lo+m - 1) < rk R (arrOf ay) (lo+m)) with
         | true=>exact Zm ⟨w',rfl,by dsimp only;lia,by dsimp only;exact dx⟩
         | false=>exact Zm ⟨w',rfl,rfl,by dsimp only;exact dx.alike (by have:=Z1 Tq;lia)⟩
      . rintro⟨r,m,q⟩ ay ⟨w',e1,e2,dx⟩
        dsimp only at e2;exact⟨w',e1,by dsimp only;lia,dx⟩
      . rintro⟨r,m,q⟩ ay ⟨w2,e1,e3,dx⟩
        dsimp only at e1 e3 dx ⊢;subst e1;have q1:=dx.q1;have sz:=w2.size;by_cases c:q > 0
        . rw[if_pos c];refine Zk (w2.rev (by lia) (by lia) fun gg w3 ea=>?_);have Oj:=dx.turned (by lia);rw[<-ea] at Oj;have V2:=w3.size;refine Zk (w3.rev (by lia) (by lia) fun fF w4 Lf=>?_);have sg:=Oj.up (by lia);rw[<-Lf] at sg;refine Zk (ac5 (aa3 (I:=fun i c ay=>ay=fF/\c.1=none/\c.2=i/\a9 R (arrOf fF) lo (lo+i)) (Q:=fun c ay=>ay=fF/\c.1=none/\1<=c.2/\c.2<=dU/\a9 R (arrOf fF) lo (lo+c.2)/\(c.2 < dU->rk R (arrOf fF) (lo+c.2) < rk R (arrOf fF) (lo+c.2 - 1))) ?_ ?_ ⟨rfl,rfl,rfl,sg⟩) ?_)
          . rintro x ⟨r,n⟩ ay Ma L9 ⟨rfl,e1,e2,e3⟩
            dsimp only at e1 e2 e3 ⊢;subst e1;subst e2;refine Zk (w4.lt L hD (by lia) (by lia) ?_);cases bw:decide (rk R (arrOf ay) (lo+n) < rk R (arrOf ay) (lo+n - 1)) with
            | true=>exact Zm ⟨rfl,rfl,by dsimp only;lia,by dsimp only;lia,by dsimp only;exact e3,fun _=>by dsimp only;exact ZL bw⟩
            | false=>exact Zm ⟨rfl,rfl,rfl,e3.more (by lia) (al4.mp (Z1 bw))⟩
          . rintro⟨r,n⟩ ay ⟨f0,f1,f2,f3⟩
            dsimp only at f1 f2 f3;rw[<-f2] at f3;have f2:n=dU:=by lia
            subst f2;exact⟨f0,f1,by dsimp only;lia,Zj _,f3,fun z=>absurd z (Z7 _)⟩
          . rintro⟨r,n⟩ ay ⟨rfl,e1,e2,e3,e4,e5⟩
            dsimp only at e1 e2 e3 e4 ⊢;subst e1;exact Zm (h _ _ w4 e2 e3 e4)
        . rw[if_neg c];refine Zk (w2.rev (by lia) (by lia) fun fF w4 Lf=>?_);have sg:=dx.up (by lia);rw[<-Lf] at sg;refine Zk (ac5 (aa3 (I:=fun i c ay=>ay=fF/\c.1=none/\c.2=i/\a9 R (arrOf fF) lo (lo+i)) (Q:=fun c ay=>ay=fF/\c.1=none/\1<=c.2/\c.2<=dU/\a9 R (arrOf fF) lo (lo+c.2)/\(c.2 < dU->rk R (arrOf fF) (lo+c.2) < rk R (arrOf fF) (lo+c.2 - 1))) ?_ ?_ ⟨rfl,rfl,rfl,sg⟩) ?_)
          . rintro x ⟨r,n⟩ ay Ma L9 ⟨rfl,e1,e2,e3⟩
            dsimp only at e1 e2 e3 ⊢;subst e1;subst e2;refine Zk (w4.lt L hD (by lia) (by lia) ?_);cases bw:decide (rk R (arrOf ay) (lo+n) < rk R (arrOf ay) (lo+n - 1)) with
            | true=>exact Zm ⟨rfl,rfl,by dsimp only;lia,by dsimp only;lia,by dsimp only;exact e3,fun _=>by dsimp only;exact ZL bw⟩
            | false=>exact Zm ⟨rfl,rfl,rfl,e3.more (by lia) (al4.mp (Z1 bw))⟩
          . rintro⟨r,n⟩ ay ⟨f0,f1,f2,f3⟩
            dsimp only at f1 f2 f3;rw[<-f2] at f3;have f2:n=dU:=by lia
            subst f2;exact⟨f0,f1,by dsimp only;lia,Zj _,f3,fun z=>absurd z (Z7 _)⟩
          . rintro⟨r,n⟩ ay ⟨rfl,e1,e2,e3,e4,e5⟩
            dsimp only at e1 e2 e3 e4 ⊢;subst e1;exact Zm (h _ _ w4 e2 e3 e4)
   . rw[if_neg c2];refine Zk (wpS_lift (ad1 ⟨rfl,?_⟩));have n1:n=1:=by lia
     subst n1;have SN:Dx R (arrOf ay) lo (1+1) 0:=Dx.more (q:=0) ⟨fun i j x y z=>by rw[show i=j by lia];exact ad6 _,by lia,fun i x y=>by rw[show i=lo+1 - 1 by lia]⟩ Ny;refine Zk (ac5 (aa3 (I:=fun i c ay=>Wx κ a₀ ar lo p ay/\c.1=none/\c.2.1=i/\Dx R (arrOf ay) lo c.2.1 c.2.2) (Q:=fun c ay=>Wx κ a₀ ar lo p ay/\c.1=none/\c.2.1<=dU/\Dx R (arrOf ay) lo c.2.1 c.2.2) ?_ ?_ ⟨hW,rfl,rfl,(by dsimp only;exact SN)⟩) ?_)
     . rintro x ⟨r,m,q⟩ ay Ma L9 ⟨w',e1,e2,dx⟩
       dsimp only at e1 e2 dx ⊢;subst e1;subst e2;have q1:=dx.q1;have sz:=w'.size;refine Zk (w'.lt L hD (by lia) (by lia) ?_);cases bw:decide (rk R (arrOf ay) (lo+m) < rk R (arrOf ay) (lo+m - 1)) with
       | true=>
        have bw:=ZL bw;dsimp only;rw[if_pos rfl];by_cases c:q > 0
        . rw[if_pos c];exact Zk (w'.rev (by lia) (by lia) fun gg w2 ea=>Zm ⟨w2,rfl,rfl,by dsimp only;rw[ea];exact(dx.turned (by lia)).more (by rw[dx.turn (by lia),dx.turn (by lia)];exact bw)⟩)
        . rw[if_neg c];exact Zm ⟨w',rfl,rfl,by dsimp only;exact dx.more bw⟩
       | false=>
        have bw:=Z1 bw;dsimp only;rw[if_neg Zp];refine Zk (w'.lt L hD (by lia) (by lia) ?_);cases Tq:decide (rk R (arrOf ay) (lo+m - 1) < rk R (arrOf ay) (lo+m)) with
        | true=>exact Zm ⟨w',rfl,by dsimp only;lia,by dsimp only;exact dx⟩
        | false=>exact Zm ⟨w',rfl,rfl,by dsimp only;exact dx.alike (by have:=Z1 Tq;lia)⟩
     . rintro⟨r,m,q⟩ ay ⟨w',e1,e2,dx⟩
       dsimp only at e2;exact⟨w',e1,by dsimp only;lia,dx⟩
     . rintro⟨r,m,q⟩ ay ⟨w2,e1,e3,dx⟩
       dsimp only at e1 e3 dx ⊢;subst e1;have q1:=dx.q1;have sz:=w2.size;by_cases c:q > 0
       . rw[if_pos c];refine Zk (w2.rev (by lia) (by lia) fun gg w3 ea=>?_);have Oj:=dx.turned (by lia);rw[<-ea] at Oj;have V2:=w3.size;refine Zk (w3.rev (by lia) (by lia) fun fF w4 Lf=>?_);have sg:=Oj.up (by lia);rw[<-Lf] at sg;refine Zk (ac5 (aa3 (I:=fun i c ay=>ay=fF/\c.1=none/\c.2=i/\a9 R (arrOf fF) lo (lo+i)) (Q:=fun c ay=>ay=fF/\c.1=none/\1<=c.2/\c.2<=dU/\a9 R (arrOf fF) lo (lo+c.2)/\(c.2 < dU->rk R (arrOf fF) (lo+c.2) < rk R (arrOf fF) (lo+c.2 - 1))) ?_ ?_ ⟨rfl,rfl,rfl,sg⟩) ?_)
         . rintro x ⟨r,n⟩ ay Ma L9 ⟨rfl,e1,e2,e3⟩
           dsimp only at e1 e2 e3 ⊢;subst e1;subst e2;refine Zk (w4.lt L hD (by lia) (by lia) ?_);cases bw:decide (rk R (arrOf ay) (lo+n) < rk R (arrOf ay) (lo+n - 1)) with
           | true=>exact Zm ⟨rfl,rfl,by dsimp only;lia,by dsimp only;lia,by dsimp only;exact e3,fun _=>by dsimp only;exact ZL bw⟩
           | false=>exact Zm ⟨rfl,rfl,rfl,e3.more (by lia) (al4.mp (Z1 bw))⟩
         . rintro⟨r,n⟩ ay ⟨f0,f1,f2,f3⟩
           dsimp only at f1 f2 f3;rw[<-f2] at f3;have f2:n=dU:=by lia
           subst f2;exact⟨f0,f1,by dsimp only;lia,Zj _,f3,fun z=>absurd z (Z7 _)⟩
         . rintro⟨r,n⟩ ay ⟨rfl,e1,e2,e3,e4,e5⟩
           dsimp only at e1 e2 e3 e4 ⊢;subst e1;exact Zm (h _ _ w4 e2 e3 e4)
       . rw[if_neg c];refine Zk (w2.rev (by lia) (by lia) fun fF w4 Lf=>?_);have sg:=dx.up (by lia);rw[<-Lf] at sg;refine Zk (ac5 (aa3 (I:=fun i c ay=>ay=fF/\c.1=none/\c.2=i/\a9 R (arrOf fF) lo (lo+i)) (Q:=fun c ay=>ay=fF/\c.1=none/\1<=c.2/\c.2<=dU/\a9 R (arrOf fF) lo (lo+c.2)/\(c.2 < dU->rk R (arrOf fF) (lo+c.2) < rk R (arrOf fF) (lo+c.2 - 1))) ?_ ?_ ⟨rfl,rfl,rfl,sg⟩) ?_)
         . rintro x ⟨r,n⟩ ay Ma L9 ⟨rfl,e1,e2,e3⟩
           dsimp only at e1 e2 e3 ⊢;subst e1;subst e2;refine Zk (w4.lt L hD (by lia) (by lia) ?_);cases bw:decide (rk R (arrOf ay) (lo+n) < rk R (arrOf ay) (lo+n - 1)) with
           | true=>exact Zm ⟨rfl,rfl,by dsimp only;lia,by dsimp only;lia,by dsimp only;exact e3,fun _=>by dsimp only;exact ZL bw⟩
           | false=>exact Zm ⟨rfl,rfl,rfl,e3.more (by lia) (al4.mp (Z1 bw))⟩
         . rintro⟨r,n⟩ ay ⟨f0,f1,f2,f3⟩
           dsimp only at f1 f2 f3;rw[<-f2] at f3;have f2:n=dU:=by lia
           subst f2;exact⟨f0,f1,by dsimp only;lia,Zj _,f3,fun z=>absurd z (Z7 _)⟩
         . rintro⟨r,n⟩ ay ⟨rfl,e1,e2,e3,e4,e5⟩
           dsimp only at e1 e2 e3 e4 ⊢;subst e1;exact Zm (h _ _ w4 e2 e3 e4)
theorem Ah(L:n9 prog w A E s κ R D)(hD: ∀x∈a₀.toList,D x){st:SortSt}{n ok:Nat}{Q:Bool->SortSt->Prop}(hn:lo+n<=a₀.size)(o1:1<=ok)(o2:ok<=n)(hW:Wx κ a₀ ar lo p st)(sg:a9 R (arrOf st) lo (lo+ok))
  (h: ∀ay,Wx κ a₀ ar lo p ay->a9 R (arrOf ay) lo (lo+n)->Q true ay):wpS (model prog w) A E s (binarySort' lo n ok) Q st:=by
 rw[binarySort'_eq];refine Zk (ac5 (aa3 (I:=fun k c ay=>c=(none,())/\Wx κ a₀ ar lo p ay/\a9 R (arrOf ay) lo (lo+k)) (Q:=fun c ay=>c=(none,())/\Wx κ a₀ ar lo p ay/\a9 R (arrOf ay) lo (lo+n)) ?step ?fin ⟨rfl,hW,by rw[Nat.max_eq_left o1];exact sg⟩) ?post)
 case fin=>
  rintro c ay ⟨e,w',s'⟩
  exact⟨e,w',by rw[show max (max ok 1) n=n by lia] at s';exact s'⟩
 case post=>
  rintro c ay ⟨rfl,w',s'⟩
  exact Zm (h ay w' s')
 case step=>
  rintro k c ay Yt Ys ⟨rfl,w',s'⟩
  have sz:=w'.size;have k1:1<=k:=by lia
  refine Zk (ac5 (aa3 (I:=fun x c pC=>pC=ay/\c.1=none/\c.2.1<=c.2.2/\c.2.2<=k/\(c.2.2 - c.2.1)+x<=k/\(∀i,i < c.2.1->rk R (arrOf ay) (lo+i)<=rk R (arrOf ay) (lo+k))/\(∀i,c.2.2<=i->i < k->rk R (arrOf ay) (lo+k)<=rk R (arrOf ay) (lo+i)))
   (Q:=fun c pC=>pC=ay/\c.1=none/\c.2.1<=k/\(∀i,i < c.2.1->rk R (arrOf ay) (lo+i)<=rk R (arrOf ay) (lo+k))/\(∀i,c.2.1<=i->i < k->rk R (arrOf ay) (lo+k)<=rk R (arrOf ay) (lo+i))) ?istep ?ifin ⟨rfl,rfl,by dsimp only;lia,by dsimp only;lia,by dsimp only;lia,fun i hi=>by dsimp only at hi;lia,fun i h1 h2=>by dsimp only at h1;lia⟩) ?ipost)
  case ifin=>
   rintro⟨r,l,u⟩ pC ⟨e,e1,e2,e3,e4,e5,e6⟩
   dsimp only at e1 e2 e3 e4 e5 e6;have:l=u:=by lia
   subst this;exact⟨e,e1,e3,e5,e6⟩
  case istep=>
   rintro x ⟨r,l,u⟩ pC _ Yk ⟨rfl,h1,h2,h3,h4,h5,h6⟩
   dsimp only at h1 h2 h3 h4 h5 h6 ⊢;subst h1;by_cases UI:l>=u
   . rw[if_pos UI];have:l=u:=by lia
     subst this;exact Zm ⟨rfl,rfl,h3,h5,h6⟩
   . rw[if_neg UI];refine Zk (w'.lt L hD (by lia) (by lia) ?_);cases bw:decide (rk R (arrOf pC) (lo+k) < rk R (arrOf pC) (lo+(l+u) / 2)) with
     | true=>
      have bw:=ZL bw;exact Zm ⟨rfl,rfl,by dsimp only;lia,by dsimp only;lia,by dsimp only;lia,h5,fun i i1 i2=>by
       dsimp only at i1;have:=s' (lo+(l+u) / 2) (lo+i) (by lia) (by lia) (by lia);lia⟩
     | false=>
      have bw:=Z1 bw;exact Zm ⟨rfl,rfl,by dsimp only;lia,by dsimp only;lia,by dsimp only;lia,fun i i1=>by
       dsimp only at i1;have:=s' (lo+i) (lo+(l+u) / 2) (by lia) (by lia) (by lia);lia,h6⟩
  case ipost=>
   rintro⟨r,l,u⟩ pC ⟨rfl,h1,h2,h5,h6⟩
   dsimp only at h1 h2 h5 h6 ⊢;subst h1;refine Zk (w'.Wn (i:=lo+k) (j:=lo+l) (by lia) (by lia) (by lia) fun gg w2 ea=>Zm ⟨rfl,w2,?_⟩);intro x y x1 x2 x3;have bu:=fun z=>Js (R:=R) (a:=arrOf pC) (i:=lo+k) (d:=lo+k - (lo+l)) (by lia) (by lia) z;rw[ea,bu x,bu y];have e0:lo+k - (lo+k - (lo+l))=lo+l:=by lia
   rw[e0];by_cases a1:x=lo+l
   . rw[if_pos a1];by_cases b1:y=lo+l
     . rw[if_pos b1];exact ad6 _
     . rw[if_neg b1,if_pos ⟨by lia,by lia⟩];have:=h6 (y - 1 - lo) (by lia) (by lia);rw[show lo+(y - 1 - lo)=y - 1 by lia] at this;exact this
   . rw[if_neg a1];by_cases a2:lo+l < x/\x<=lo+k
     . rw[if_pos a2,if_neg (by lia),if_pos ⟨by lia,by lia⟩];exact s' _ _ (by lia) (by lia) (by lia)
     . rw[if_neg a2];by_cases b1:y=lo+l
       . rw[if_pos b1];have:=h5 (x - lo) (by lia);rw[show lo+(x - lo)=x by lia] at this;exact this
       . rw[if_neg b1];by_cases b2:lo+l < y/\y<=lo+k
         . rw[if_pos b2];exact s' _ _ (by lia) (by lia) (by lia)
         . rw[if_neg b2];exact s' _ _ (by lia) (by lia) (by lia)
end
section
variable{R:Keyed->Int}
theorem Bd: ∀{L:List Keyed} {n:Nat} {xs:Array Keyed} (k:Nat),sa+n+L.length<=xs.size->((L.zipIdx n).foldl (fun a (p,j)=>a.setIfInBounds (sa+j) p) xs)[k]?=if sa+n<=k/\k < sa+n+L.length then L[k - sa - n]? else xs[k]?
 | [],n,xs,k,_=>by
  rw[if_neg (by rw[ag7];lia)];rfl
 | x::L,n,xs,k,h=>by
  rw[ZG] at h ⊢;rw[List.zipIdx_cons,List.foldl_cons];rw[Bd (sa:=sa) (L:=L) (n:=n+1) k (by simp;lia)];by_cases c:sa+n<=k/\k < sa+n+(L.length+1)
  . rw[if_pos c];by_cases d:k=sa+n
    . rw[if_neg (by lia),Array.getElem?_setIfInBounds,if_pos d.symm,if_pos (by lia),show k - sa - n=0 by lia];rfl
    . rw[if_pos (by lia),show k - sa - n=(k - sa - (n+1))+1 by lia,List.getElem?_cons_succ]
  . rw[if_neg c,if_neg (by lia),Array.getElem?_setIfInBounds,if_neg (by lia)]
theorem rY: ∀{l:List (Keyed × Nat)} {xs:Array Keyed},(l.foldl (fun a (p,j)=>a.setIfInBounds (sa+j) p) xs).size=xs.size
 | [],xs=>rfl
 | (x,j)::l,xs=>by
  rw[List.foldl_cons,rY];simp
structure P9(a m a':Array Keyed)(sa e:Nat):Prop where
 at_: ∀k,a'[k]?=if sa<=k/\k < e then m[k - sa]? else a[k]?
 sz:a'.size=a.size
theorem JA{a m:Array Keyed}(h:sa+m.size<=a.size):P9 a m (m.toList.zipIdx.foldl (fun a (p,j)=>a.setIfInBounds (sa+j) p) a) sa (sa+m.size):=by
 refine⟨fun k=>?_,rY⟩;have:=Bd (sa:=sa) (L:=m.toList) (n:=0) (xs:=a) k (by rw[Zv];exact h);rw[Zv,an0,am9,aa4] at this;exact this
theorem P9.list(h:P9 a m a' sa e)(he:e=sa+m.size)(hs:e<=a.size):a'.toList=a.toList.take sa++(m.toList++a.toList.drop e):=by
 apply ae3;intro k;rw[aa4,h.at_ k];have l1:(a.toList.take sa).length=sa:=by rw[ae8,Zv];lia
 by_cases c:k < sa
 . rw[if_neg (by lia),ZR (by lia),List.getElem?_take_of_lt c,aa4]
 . rw[ZW (by lia),l1];by_cases d:k < e
   . rw[if_pos (by lia),ZR (by rw[Zv];lia),aa4]
   . rw[if_neg (by lia),ZW (by rw[Zv];lia),Zv,List.getElem?_drop,aa4];congr 1
     lia
def fV(R:Keyed->Int)(a:Array Keyed):Nat->List (Nat × Nat × Nat)->Nat->Prop
 | s,[],e=>s=e
 | s,x::r,e=>x.1=s/\1<=x.2.1/\a9 R a x.1 (x.1+x.2.1)/\fV R a (x.1+x.2.1) r e
theorem fV.ch: ∀{s e:Nat} {l:List (Nat × Nat × Nat)},fV R a s l e->Ch s l e
 | s,e,[],h=>h
 | s,e,x::r,h=>⟨h.1,h.2.1,fV.ch h.2.2.2⟩
theorem fV.same: ∀{s e:Nat} {l:List (Nat × Nat × Nat)},fV R a s l e->(∀j,s<=j->j < e->rk R a' j=rk R a j)->fV R a' s l e
 | s,e,[],h,_=>h
 | s,e,x::r,h,hr=>by
  have le:=h.2.2.2.ch.le;have hs:=h.1;refine⟨h.1,h.2.1,fun y z y1 y2 y3=>?_,fV.same h.2.2.2 fun j j1 j2=>hr j (by lia) j2⟩;rw[hr y (by lia) (by lia),hr z (by lia) (by lia)];exact h.2.2.1 y z y1 y2 y3
theorem fV.lb: ∀{s e i:Nat} {l:List (Nat × Nat × Nat)} {x:Nat × Nat × Nat},fV R a s l e->l[i]?=some x->s<=x.1/\a9 R a x.1 (x.1+x.2.1)
 | s,e,i,[],x,_,h=>by simp at h
 | s,e,0,z::r,x,h,h1=>by
  cases (show z=x by simpa using h1);exact⟨Nat.le_of_eq h.1.symm,h.2.2.1⟩
 | s,e,i+1,z::r,x,h,h1=>by
  have:=fV.lb h.2.2.2 (show r[i]?=some x by simpa using h1);exact⟨by have:=this.1;have:=h.1;lia,this.2⟩
theorem fV.merge: ∀{s e i:Nat} {l:List (Nat × Nat × Nat)} {x y:Nat × Nat × Nat},fV R a s l e->l[i]?=some x->l[i+1]?=some y->a9 R a' x.1 (x.1+(x.2.1+y.2.1))->(∀j,(j < x.1\/x.1+(x.2.1+y.2.1)<=j)->rk R a' j=rk R a j)->fV R a' s ((l.set i (x.1,x.2.1+y.2.1,v)).eraseIdx (i+1)) e
 | s,e,i,[],x,y,h,h1,_,_,_=>by simp at h1
 | s,e,0,[z],x,y,h,h1,h2,_,_=>by simp at h2
 | s,e,0,z::z2::r,x,y,h,h1,h2,sg,hr=>by
  cases (show z=x by simpa using h1);cases (show z2=y by simpa using h2);show z.1=s/\1<=z.2.1+z2.2.1/\a9 R a' z.1 (z.1+(z.2.1+z2.2.1))/\fV R a' (z.1+(z.2.1+z2.2.1)) r e;refine⟨h.1,by have:=h.2.1;lia,sg,?_⟩;have:=h.2.2.2.2.2.2;rw[h.2.2.2.1] at this;rw[<-Nat.add_assoc];exact this.same fun j j1 _=>hr j (.inr (by lia))
 | s,e,i+1,z::r,x,y,h,h1,h2,sg,hr=>by
  have lb:=fV.lb h.2.2.2 (show r[i]?=some x by simpa using h1);refine⟨h.1,h.2.1,fun p q p1 p2 p3=>?_,fV.merge h.2.2.2 (by simpa using h1) (by simpa using h2) sg hr⟩;rw[hr p (.inl (by lia)),hr q (.inl (by lia))];exact h.2.2.1 p q p1 p2 p3
theorem fV.push(hn:1<=n): ∀{s e:Nat} {l:List (Nat × Nat × Nat)},fV R a s l e->a9 R a e (e+n)->fV R a s (l++ [(e,n,q)]) (e+n)
 | s,e,[],h,sg=>⟨h.symm,hn,sg,rfl⟩
 | s,e,x::r,h,sg=>⟨h.1,h.2.1,h.2.2.1,fV.push hn h.2.2.2 sg⟩
theorem fV.mod(hf: ∀x,(f x).1=x.1/\(f x).2.1=x.2.1): ∀{s e k:Nat} {l:List (Nat × Nat × Nat)},fV R a s l e->fV R a s (l.modify k f) e
 | s,e,k,[],h=>by simpa using h
 | s,e,0,x::r,h=>by
  show(f x).1=s/\1<=(f x).2.1/\a9 R a (f x).1 ((f x).1+(f x).2.1)/\fV R a ((f x).1+(f x).2.1) r e;rw[(hf x).1,(hf x).2];exact h
 | s,e,k+1,x::r,h=>⟨h.1,h.2.1,h.2.2.1,fV.mod hf h.2.2.2⟩
theorem fV.len: ∀{s e:Nat} {l:List (Nat × Nat × Nat)},fV R a s l e->s+l.length<=e
 | s,e,[],h=>by rw[ag7];exact Nat.le_of_eq h
 | s,e,x::r,h=>by
  have:=fV.len h.2.2.2;have:=h.1;have:=h.2.1;rw[ZG];lia
theorem a9.L1(h:a9 R a i j)(hj:j<=a.size):dI R (a.extract i j):=by
 unfold dI;rw[ae5];intro x y hx hy Yi;have sz:(a.extract i j).size=j - i:=by rw[af9];lia
 have vd:x < j - i:=by rw[<-sz,<-Zv];exact hx
 have yR:y < j - i:=by rw[<-sz,<-Zv];exact hy
 have:=h (i+x) (i+y) (by lia) (by lia) (by lia);rw[bH (by lia),bH (by lia)] at this;simpa using this
theorem wz{a:Array Keyed}(hj:j<=a.size)(hx:x < j - i):rk R (a.extract i j) x=rk R a (i+x):=by
 have sz:(a.extract i j).size=j - i:=by rw[af9];lia
 rw[bH (by lia),bH (by lia),Array.getElem_extract]
theorem u4{a m a':Array Keyed}(h1:sa<=jE)(h2:jE < sb)(h3:sb < e')(h4:e'<=e)(h5:e<=a.size)(s1:a9 R a sa sb)(s2:a9 R a sb e)(o:Out R (a.extract jE sb) (a.extract sb e') m)(P:P9 a m a' jE e')(k1:sa < jE->rk R a (jE - 1)<=rk R a sb)(k2:e' < e->rk R a (sb - 1)<=rk R a e'):a9 R a' sa e/\a'.toList.Perm a.toList/\ ∀j,(j < jE\/e'<=j)->rk R a' j=rk R a j:=by
 have ms:m.size=e' - jE:=by
  have:=o.1.length_eq;rw[Zy,Zv,Zv,Zv,af9,af9] at this;lia
 have out: ∀j,(j < jE\/e'<=j)->rk R a' j=rk R a j:=fun j hj=>jZ (by rw[P.at_ j,if_neg (by lia)]);have ins: ∀j,jE<=j->j < e'->rk R a' j=rk R m (j - jE):=fun j j1 j2=>jZ (by rw[P.at_ j,if_pos ⟨j1,j2⟩]);have mem: ∀j,jE<=j->j < e'-> ∃k,jE<=k/\k < e'/\rk R a' j=rk R a k:=fun j j1 j2=>by
  rw[ins j j1 j2,bH (by lia)];have hm:=o.1.mem_iff.mp (u5 (a:=m) (i:=j - jE) (by lia));rcases Zz.mp hm with z | z
  . obtain⟨k,p1,p2,p3,e⟩:=cH (R:=R) z;exact⟨k,p1,by lia,e⟩
  . obtain⟨k,p1,p2,p3,e⟩:=cH (R:=R) z;exact⟨k,by lia,p2,e⟩
 have lo: ∀x k,sa<=x->x < jE->jE<=k->k < e'->rk R a x<=rk R a k:=fun x k x1 x2 p1 p2=>by
  have a1:=s1 x (jE - 1) x1 (by lia) (by lia);by_cases c:k < sb
  . exact s1 x k x1 (by lia) c
  . have:=k1 (by lia);have:=s2 sb k (Zj _) (by lia) (by lia);lia
 have hi: ∀y k,e'<=y->y < e->jE<=k->k < e'->rk R a k<=rk R a y:=fun y k y1 y2 p1 p2=>by
  by_cases c:k < sb
  . have b1:=s1 k (sb - 1) (by lia) (by lia) (by lia);have b2:=k2 (by lia);have b3:=s2 e' y (by lia) y1 y2;lia
  . exact s2 k y (by lia) (by lia) y2
 refine⟨fun x y x1 x2 x3=>?_,?_,out⟩
 . by_cases cx:x < jE
   . rw[out x (.inl cx)];by_cases cy:y < jE
     . rw[out y (.inl cy)];exact s1 x y x1 x2 (by lia)
     . by_cases Tf:y < e'
       . obtain⟨k,p1,p2,e⟩:=mem y (by lia) Tf;rw[e];exact lo x k x1 cx p1 p2
       . rw[out y (.inr (by lia))];have q1:=lo x (sb - 1) x1 cx (by lia) (by lia);have q2:=hi y (sb - 1) (by lia) x3 (by lia) (by lia);lia
   . by_cases Vl:x < e'
     . by_cases Tf:y < e'
       . rw[ins x (by lia) Vl,ins y (by lia) Tf];exact o.2.rk (by lia) (by lia)
       . obtain⟨k,p1,p2,e⟩:=mem x (by lia) Vl;rw[e,out y (.inr (by lia))];exact hi y k (by lia) x3 p1 p2
     . rw[out x (.inr (by lia)),out y (.inr (by lia))];exact s2 x y (by lia) x2 x3
 . rw[P.list (by lia) (by lia)];have e1:a.toList.take jE++((a.extract jE sb).toList++(a.extract sb e').toList++a.toList.drop e')=a.toList:=by
    rw[fN,fN];have d1:a.toList.drop sb=(a.toList.drop sb).take (e' - sb)++a.toList.drop e':=by
     conv=>lhs;rw[<-ae7 (e' - sb) (a.toList.drop sb)]
     rw[List.drop_drop,show sb+(e' - sb)=e' by lia]
    have d2:a.toList.drop jE=(a.toList.drop jE).take (sb - jE)++a.toList.drop sb:=by
     conv=>lhs;rw[<-ae7 (sb - jE) (a.toList.drop jE)]
     rw[List.drop_drop,show jE+(sb - jE)=sb by lia]
    rw[Z0,<-d1,<-d2,ae7]
   conv=>rhs;rw[<-e1]
   exact List.Perm.append_left _ (List.Perm.append_right _ o.1)
theorem a9.join(s1:a9 R a sa sb)(s2:a9 R a sb e)(h1:sa < sb)(hl:rk R a (sb - 1)<=rk R a sb):a9 R a sa e:=fun x y x1 x2 x3=>by
 by_cases cx:x < sb
 . by_cases cy:y < sb
   . exact s1 x y x1 x2 cy
   . have q1:=s1 x (sb - 1) x1 (by lia) (by lia);have q2:=s2 sb y (Zj _) (by lia) x3;lia
 . exact s2 x y (by lia) x2 x3
end
structure Px(κ:SortKind)(R:Keyed->Int)(a₀:Array Keyed)(lo:Nat)(p:Array (Nat × Nat × Nat))(st:SortSt):Prop where
 pm:(arrOf st).Perm a₀
 kind:kindOf st=κ
 failed:failedOf st=none
 pend:pendingOf st=p
 ch:fV R (arrOf st) 0 p.toList lo
section
variable{prog:Program}{w:World}{A:Around}{E:Value->Shared->Prop}{s:Shared}{κ:SortKind}{R:Keyed->Int}{D:Keyed->Prop}{a₀:Array Keyed}{p:Array (Nat × Nat × Nat)}{lo:Nat}
theorem iz(L:n9 prog w A E s κ R D)(hD: ∀x∈a₀.toList,D x){st:SortSt}{i:Nat}{Q:Bool->SortSt->Prop}(hW:Px κ R a₀ lo p st)(R4:lo<=a₀.size)(hi:i+1 < p.size)
  (h: ∀p' ay,Px κ R a₀ lo p' ay->p'.size+1=p.size->(∀j,lo<=j->rk R (arrOf ay) j=rk R (arrOf st) j)->Q true ay):wpS (model prog w) A E s (mergeAt' i) Q st:=by
 rw[sJ];refine Zk (ak9 ?_);obtain⟨⟨sa,na,pw⟩,hx⟩: ∃x,p[i]?=some x:=⟨p[i],Z2 (by lia)⟩
 obtain⟨⟨sb,nb,We⟩,hy⟩: ∃x,p[i+1]?=some x:=⟨p[i+1],Z2 (by lia)⟩
 have vd:p.toList[i]?=some (sa,na,pw):=by rw[aa4];exact hx
 have yR:p.toList[i+1]?=some (sb,nb,We):=by rw[aa4];exact hy
 have t2:=hW.ch.ch.two vd yR;have Ji:=(hW.ch.lb vd).2;have MQ:=(hW.ch.lb yR).2;have hM:=fun(a':Array Keyed)=>hW.ch.merge (a':=a') (v:=pw) vd yR;dsimp only at t2 Ji MQ hM;obtain⟨n1,e1,n2,e2⟩:=t2;rw[hW.pend,hx,hy];dsimp only;have Mb:((p.setIfInBounds i (sa,na+nb,pw)).eraseIdxIfInBounds (i+1)).toList=(p.toList.set i (sa,na+nb,pw)).eraseIdx (i+1):=by
  rw[Array.toList_eraseIdxIfInBounds,Array.toList_setIfInBounds]
 have RP:((p.setIfInBounds i (sa,na+nb,pw)).eraseIdxIfInBounds (i+1)).size+1=p.size:=by
  rw[<-Zv,Mb,List.length_eraseIdx_of_lt (by rw[ZQ,Zv];exact hi),ZQ,Zv];lia
 rw[<-Mb] at hM;generalize (p.setIfInBounds i (sa,na+nb,pw)).eraseIdxIfInBounds (i+1)=p1 at hM RP ⊢;clear Mb;have sz:(arrOf st).size=a₀.size:=hW.pm.size_eq;have dk:Dk D (arrOf st):=fun i hi=>hD _ ((ae0.mp hW.pm).mem_iff.mp (u5 hi));have RN:sb < (arrOf st).size:=by lia
 refine Zk (Ed ?_);refine Zk (aC RN ?_);refine Zk (eF L hW.kind dk (dk _ RN) (by lia) (by lia) (fun x y x1 x2=>Ji _ _ (by lia) (by lia) (by lia)) fun k hk kt kf=>?_);rw[<-bH (R:=R) RN] at kt kf;dsimp only;have Hu:0 < k->rk R (arrOf st) (sa+k - 1)<=rk R (arrOf st) sb:=fun z=>by have:=vM (kt (k - 1) (by lia));rw[show sa+(k - 1)=sa+k - 1 by lia] at this;exact this
 have Kc:k < na->rk R (arrOf st) sb<=rk R (arrOf st) (sa+k):=fun z=>af5 (vN (kf k (Zj _) z));clear kt kf;have whole:rk R (arrOf st) (sb - 1)<=rk R (arrOf st) sb->Q true (setPending st p1):=fun z=>by
  refine h p1 _ ⟨hW.pm,hW.kind,hW.failed,rfl,?_⟩ RP fun _ _=>rfl;refine hM (arrOf st) ?_ fun j _=>rfl;rw[show sa+(na+nb)=sb+nb by lia];rw[e1] at Ji;exact Ji.join MQ (by lia) z
 by_cases c1:(na - k==0)=true
 . rw[if_pos c1];have Tp:=Zt.mp c1;refine Zm (whole ?_);have:=Hu (by lia);rw[show sa+k - 1=sb - 1 by lia] at this;exact this
 rw[if_neg c1];have Tp:na - k≠0:=fun z=>c1 (Zt.mpr z);clear c1;have PQ:sa+k+(na - k) - 1 < (arrOf st).size:=by lia
 refine Zk (aC PQ ?_);refine Zk (eF L hW.kind dk (dk _ PQ) (by lia) (by lia) (fun x y x1 x2=>MQ _ _ (by lia) (by lia) (by lia)) fun k2 zR lt lf=>?_);rw[<-bH (R:=R) PQ,show sa+k+(na - k) - 1=sb - 1 by lia] at lt lf;dsimp only;have lt':0 < k2->rk R (arrOf st) (sb+k2 - 1)<=rk R (arrOf st) (sb - 1):=fun z=>by have:=af5 (m6 (lt (k2 - 1) (by lia)));rw[show sb+(k2 - 1)=sb+k2 - 1 by lia] at this;exact this
 have zP:k2 < nb->rk R (arrOf st) (sb - 1)<=rk R (arrOf st) (sb+k2):=fun z=>m7 (lf k2 (Zj _) z);clear lt lf;by_cases c2:(k2==0)=true
 . rw[if_pos c2];have Iq:=Zt.mp c2;refine Zm (whole ?_);have:=zP (by lia);rw[Iq,an0] at this;exact this
 rw[if_neg c2];have Iq:k2≠0:=fun z=>c2 (Zt.mpr z);clear c2;have sx:((arrOf st).extract (sa+k) sb).size=na - k:=by rw[af9];lia
 have sy:((arrOf st).extract sb (sb+k2)).size=k2:=by rw[af9];lia
 have T6:a9 R (arrOf st) (sa+k) sb:=fun x y x1 x2 x3=>Ji x y (by lia) x2 (by lia);have T5:a9 R (arrOf st) sb (sb+k2):=fun x y x1 x2 x3=>MQ x y x1 x2 (by lia);have P6: ∀i j,Dk D ((arrOf st).extract i j):=fun i j l hl=>by
  rw[Array.getElem_extract];exact dk _ _
 have fin: ∀(m:Array Keyed) (g:Nat),Out R ((arrOf st).extract (sa+k) sb) ((arrOf st).extract sb (sb+k2)) m->wpS (model prog w) A E s (do
   modify fun s=>setArr s (m.toList.zipIdx.foldl (fun a (p,j)=>a.setIfInBounds (sa+k+j) p) (arrOf s))
   return(failedOf (<-get)).isNone) Q (setG (setPending st p1) g):=fun m g o=>by
  have ms:m.size=na - k+k2:=by
   have:=o.1.length_eq;rw[Zy,Zv,Zv,Zv,sx,sy] at this;exact this
  have pt:=JA (a:=arrOf st) (m:=m) (sa:=sa+k) (by lia);rw[show sa+k+m.size=sb+k2 by lia] at pt;rw[e1] at Ji;obtain⟨q1,q2,q3⟩:=u4 (sa:=sa) (e:=sb+nb) (by lia) (by lia) (by lia) (by lia) (by lia) Ji MQ o pt (fun z=>Hu (by lia)) (fun z=>zP (by lia));refine Zk (af6 (Zk (ak9 ?_)));have hf:(failedOf st).isNone=true:=by rw[hW.failed];rfl
  show wpS _ _ _ _ (pure (failedOf st).isNone) Q _;rw[hf];refine Zm (h p1 _ ⟨(ae0.mpr q2).trans hW.pm,hW.kind,hW.failed,rfl,?_⟩ RP fun j hj=>q3 j (by lia));refine hM _ ?_ fun j hj=>q3 j (by lia);rw[show sa+(na+nb)=sb+nb by lia];exact q1
 have c0:rk R ((arrOf st).extract sb (sb+k2)) 0<=rk R ((arrOf st).extract (sa+k) sb) 0:=by
  rw[wz (by lia) (by lia),wz (by lia) (by lia),an0,an0];exact Kc (by lia)
 have cl:rk R ((arrOf st).extract sb (sb+k2)) (((arrOf st).extract sb (sb+k2)).size - 1)<=rk R ((arrOf st).extract (sa+k) sb) (((arrOf st).extract (sa+k) sb).size - 1):=by
  rw[sx,sy,wz (by lia) (by lia),wz (by lia) (by lia),show sb+(k2 - 1)=sb+k2 - 1 by lia,show sa+k+(na - k - 1)=sb - 1 by lia];exact lt' (by lia)
 by_cases c3:na - k<=k2
 . rw[if_pos c3];exact Zk (qY L hW.kind (P6 _ _) (P6 _ _) (T6.L1 (by lia)) (T5.L1 (by lia)) (by lia) (by lia) c0 cl fun m g o=>fin m g o)
 . rw[if_neg c3];exact Zk (qZ L hW.kind (P6 _ _) (P6 _ _) (T6.L1 (by lia)) (T5.L1 (by lia)) (by lia) (by lia) c0 cl fun m g o=>fin m g o)
end
theorem Px.wx{p:Array (Nat × Nat × Nat)}{lo:Nat}{st:SortSt}(h:Px κ R a₀ lo p st):Wx κ a₀ (arrOf st) lo p st:=⟨h.pm,h.kind,h.failed,h.pend,fun _ _=>rfl⟩
theorem Px.back{p:Array (Nat × Nat × Nat)}{lo:Nat}{st ay:SortSt}(h:Px κ R a₀ lo p st)(w':Wx κ a₀ (arrOf st) lo p ay):Px κ R a₀ lo p ay:=⟨w'.pm,w'.kind,w'.failed,w'.pend,h.ch.same fun j _ j2=>jZ (w'.keep j j2)⟩
theorem xZ(L:n9 prog w A E s κ R D)(hD: ∀x∈a₀.toList,D x){st:SortSt}(hW:Px κ R a₀ 0 #[] st)(h1:1<=a₀.size)(h: ∀ay,(arrOf ay).Perm a₀->failedOf ay=none->a9 R (arrOf ay) 0 a₀.size->Q () ay):wpS (model prog w) A E s sortRuns' Q st:=by
 rw[sortRuns'_eq];refine Zk (ak9 ?_);dsimp only;rw[hW.pm.size_eq];have mr:1<=minRun' a₀.size a₀.size 0:=l9 h1;generalize minRun' a₀.size a₀.size 0=PH at mr ⊢;refine Zk (ac5 (aa3 (I:=fun x (c:Option Unit × Nat) ay=>c.1=none/\c.2<=a₀.size/\min x a₀.size<=c.2/\ ∃p,Px κ R a₀ c.2 p ay)
  (Q:=fun(c:Option Unit × Nat) ay=>c.1=none/\c.2=a₀.size/\ ∃p,Px κ R a₀ c.2 p ay) ?step ?fin0 ⟨rfl,ZV _,by dsimp only;lia,#[],hW⟩) ?post)
 case fin0=>
  rintro⟨r,lo⟩ ay ⟨e1,e2,e3,p,hp⟩
  dsimp only at e1 e2 e3 hp;exact⟨e1,by dsimp only;lia,p,hp⟩
 case post=>
  rintro⟨r,lo⟩ ay ⟨e1,e2,p,yZ⟩
  dsimp only at e1 e2 yZ ⊢;subst e1;subst e2;dsimp only;have pl:=yZ.ch.len;rw[Zv] at pl;refine Zk (ac5 (aa3 (I:=fun x c ay=>c.1=none/\ ∃p,Px κ R a₀ a₀.size p ay/\p.size+x<=a₀.size)
   (Q:=fun c ay=>c.1=none/\ ∃p,Px κ R a₀ a₀.size p ay/\p.size<=1) ?fstep ?ffin ⟨rfl,p,yZ,by lia⟩) ?fpost)
  case ffin=>
   rintro⟨r,u⟩ ay ⟨e1,p,hp,hs⟩
   exact⟨e1,p,hp,by rw[show max 0 a₀.size=a₀.size by lia] at hs;lia⟩
  case fpost=>
   rintro⟨r,u⟩ ay ⟨e1,p,hp,hs⟩
   dsimp only at e1 ⊢;subst e1;refine Zm (h _ hp.pm hp.failed ?_);have ch:=hp.ch;have hl:p.toList.length<=1:=by rw[Zv];exact hs
   match hq:p.toList,hl,ch with
   | [],_,ch=>have:0=a₀.size:=ch;lia
   | [x],_,ch=>
    obtain⟨a1,a2,a3,a4⟩:=ch;have a4:x.1+x.2.1=a₀.size:=a4;rw[a4,a1] at a3;exact a3
   | _::_::_,hl,_=>simp at hl
  case fstep=>
   clear yZ pl;rintro x ⟨r,u⟩ ay _ hx ⟨e1,p,yZ,hs⟩
   dsimp only at e1 ⊢;subst e1;refine Zk (ak9 ?_);rw[yZ.pend];by_cases c:p.size<=1
   . rw[if_pos c];exact Zm ⟨rfl,p,yZ,c⟩
   rw[if_neg c];have mg: ∀i,i+1 < p.size->wpS (model prog w) A E s (mergeAt' i) (fun b ay=>b=true/\ ∃p',Px κ R a₀ a₀.size p' ay/\p'.size+1=p.size) ay:=fun i hi=>iz L hD yZ (Zj _) hi fun p' gg a b _=>⟨rfl,p',a,b⟩
   have hi: ∀(b:Bool),(if b=true then p.size - 2 - 1 else p.size - 2)+1 < p.size:=fun b=>by cases b <;> simp <;> omega
   refine Zk (ac5 (mg _ (hi _)) ?_);rintro b gg ⟨rfl,p2,w2,k2⟩
   exact Zm ⟨rfl,p2,w2,by lia⟩
 case step=>
  rintro x ⟨r,lo⟩ ay _ hx ⟨e1,e2,e3,p,yZ⟩
  dsimp only at e1 e2 e3 yZ ⊢;subst e1;by_cases c:lo>=a₀.size
  . rw[if_pos c];exact Zm ⟨rfl,by dsimp only;lia,p,yZ⟩
  rw[if_neg c];refine Zk (Ag L hD (by lia) (by lia) yZ.wx fun m rN w1 m1 m2 sg=>?_);have Sr:=yZ.back w1;clear w1;dsimp only;by_cases c2:m < PH
  . rw[if_pos c2];refine Zk (wpS_lift (ad1 ⟨rfl,?_⟩));refine Zk (Ah L hD (by lia) m1 (by lia) Sr.wx sg fun gg w2 L5=>?_);have vf:=Sr.back w2;have n1:1<=min (a₀.size - lo) PH:=by lia
    have n2:lo+min (a₀.size - lo) PH<=a₀.size:=by lia
    simp only [af1,aa1,ad8];generalize min (a₀.size - lo) PH=n at n1 n2 L5 ⊢;refine Zk (ak9 ?_);rw[vf.pend];cases hb:p.back? with
    | none=>
     dsimp only;refine Zk (af6 (Zm ⟨rfl,by dsimp only;lia,by dsimp only;lia,_,vf.pm,vf.kind,vf.failed,rfl,?_⟩));show fV R (arrOf gg) 0 ((pendingOf _).push _).toList _;rw[vf.pend,ai4];exact vf.ch.push n1 L5
    | some t=>
     obtain⟨s1,Wj,q1⟩:=t;dsimp only;refine Zk (ac5 (aa3 (I:=fun x c ay=>c.1=none/\ ∃p,Px κ R a₀ lo p ay/\a9 R (arrOf ay) lo (lo+n)) (Q:=fun c ay=>c.1=none/\ ∃p,Px κ R a₀ lo p ay/\a9 R (arrOf ay) lo (lo+n)) ?_ (fun _ _ h=>h) ⟨rfl,p,vf,L5⟩) ?_)
     . rintro x ⟨r,u⟩ fF _ _ ⟨e1,p2,w2,s2⟩
       dsimp only at e1 ⊢;subst e1;refine Zk (ak9 ?_);rw[w2.pend];by_cases c:p2.size > 1
       . rw[if_pos c,Z2 (show p2.size - 2 < p2.size by lia)];generalize p2[p2.size - 2]=t;obtain⟨t1,t2,Ni⟩:=t;dsimp only;split
         . exact Zm ⟨rfl,p2,w2,s2⟩
         . refine Zk (iz L hD w2 e2 (by lia) fun p3 V3 w3 k3 kr=>?_);exact Zm ⟨rfl,p3,w3,fun a b a1 a2 a3=>by rw[kr a a1,kr b (by lia)];exact s2 a b a1 a2 a3⟩
       . rw[if_neg c];exact Zm ⟨rfl,p2,w2,s2⟩
     . rintro⟨r,u⟩ fF ⟨e1,p2,w2,s2⟩
       dsimp only at e1 ⊢;subst e1;refine Zk (af6 (Zk (af6 (Zm ⟨rfl,by dsimp only;lia,by dsimp only;lia,_,w2.pm,w2.kind,w2.failed,rfl,?_⟩))));show fV R (arrOf fF) 0 (((pendingOf fF).modify ((pendingOf fF).size - 1) _).push _).toList _;rw[w2.pend,ai4,Array.toList_modify];refine fV.push (e:=lo) n1 (fV.mod ?_ w2.ch) s2;exact fun _=>⟨rfl,rfl⟩
  . rw[if_neg c2];have vf:=Sr;have L5:=sg;have n1:=m1;refine Zk (ak9 ?_);rw[vf.pend];cases hb:p.back? with
    | none=>
     dsimp only;refine Zk (af6 (Zm ⟨rfl,by dsimp only;lia,by dsimp only;lia,_,vf.pm,vf.kind,vf.failed,rfl,?_⟩));show fV R (arrOf rN) 0 ((pendingOf _).push _).toList _;rw[vf.pend,ai4];exact vf.ch.push n1 L5
    | some t=>
     obtain⟨s1,Wj,q1⟩:=t;dsimp only;refine Zk (ac5 (aa3 (I:=fun x c ay=>c.1=none/\ ∃p,Px κ R a₀ lo p ay/\a9 R (arrOf ay) lo (lo+m)) (Q:=fun c ay=>c.1=none/\ ∃p,Px κ R a₀ lo p ay/\a9 R (arrOf ay) lo (lo+m)) ?_ (fun _ _ h=>h) ⟨rfl,p,vf,L5⟩) ?_)
     . rintro x ⟨r,u⟩ fF _ _ ⟨e1,p2,w2,s2⟩
       dsimp only at e1 ⊢;subst e1;refine Zk (ak9 ?_);rw[w2.pend];by_cases c:p2.size > 1
       . rw[if_pos c,Z2 (show p2.size - 2 < p2.size by lia)];generalize p2[p2.size - 2]=t;obtain⟨t1,t2,Ni⟩:=t;dsimp only;split
         . exact Zm ⟨rfl,p2,w2,s2⟩
         . refine Zk (iz L hD w2 e2 (by lia) fun p3 V3 w3 k3 kr=>?_);exact Zm ⟨rfl,p3,w3,fun a b a1 a2 a3=>by rw[kr a a1,kr b (by lia)];exact s2 a b a1 a2 a3⟩
       . rw[if_neg c];exact Zm ⟨rfl,p2,w2,s2⟩
     . rintro⟨r,u⟩ fF ⟨e1,p2,w2,s2⟩
       dsimp only at e1 ⊢;subst e1;refine Zk (af6 (Zk (af6 (Zm ⟨rfl,by dsimp only;lia,by dsimp only;lia,_,w2.pm,w2.kind,w2.failed,rfl,?_⟩))));show fV R (arrOf fF) 0 (((pendingOf fF).modify ((pendingOf fF).size - 1) _).push _).toList _;rw[w2.pend,ai4,Array.toList_modify];refine fV.push (e:=lo) n1 (fV.mod ?_ w2.ch) s2;exact fun _=>⟨rfl,rfl⟩
end fD
namespace fS
open PySem PySem.W PyProof.Rows fD
theorem Bq{α β:Type}{f:α->β}{l k:List β}(h:l.Perm k): ∀{m:List α},k=m.map f-> ∃m':List α,m'.Perm m/\l=m'.map f:=by
 induction h with
 | nil=>
  intro m e;cases m with
  | nil=>exact⟨[],List.Perm.refl _,rfl⟩
  | cons a b=>cases e
 | cons x _ ih=>
  intro m e;cases m with
  | nil=>cases e
  | cons a m=>
   obtain⟨e1,e2⟩:=List.cons.inj e;obtain⟨m',p,e3⟩:=ih e2;exact⟨a::m',p.cons a,by rw[Zx,<-e3,e1]⟩
 | swap x y l=>
  intro m e;match m,e with
  | a::b::m,e=>
   obtain⟨e1,e2⟩:=List.cons.inj e;obtain⟨e3,e4⟩:=List.cons.inj e2;exact⟨b::a::m,List.Perm.swap _ _ _,by rw[Zx,Zx,e1,e3,e4]⟩
 | trans _ _ WC WB=>
  intro m e;obtain⟨m',p,e1⟩:=WB e;obtain⟨m2,p2,e2⟩:=WC e1;exact⟨m2,p2.trans p,e2⟩
open Classical in
noncomputable def DY(a:Array Keyed)(x:Keyed):Nat:=if h: ∃i:Nat,a[i]?=some x then choose h else 0
theorem vb(h: ∃i:Nat,a[i]?=some x):a[DY a x]?=some x:=by
 unfold DY;rw[dif_pos h];exact Classical.choose_spec h
section
variable{prog:Program}{w:World}{A:Around}{E:Value->Shared->Prop}{z:Shared}{K:Nat->Int}{vs:List Value}
theorem Rx{a₀:Array Keyed}(hc:Vw vs.length K (kas_ask prog w A κ vs) z)(hs:a₀.size=vs.length)(ha: ∀(i:Nat) x,a₀[i]?=some x->x.1=vs.getD i Value.none):n9 prog w A E z κ (fun x=>K (DY a₀ x)) (fun x=> ∃i:Nat,a₀[i]?=some x):=by
 intro st x y Q hk hx hy q;have ex:=vb hx;have ey:=vb hy;have e1:=ha _ _ ex;have e2:=ha _ _ ey;have l1:DY a₀ x < vs.length:=by rw[<-hs];exact(am5.mp ex).1
 have l2:DY a₀ y < vs.length:=by rw[<-hs];exact(am5.mp ey).1
 obtain⟨x1,x2⟩:=x;obtain⟨y1,y2⟩:=y;rw[lt'_eq];refine Zk (ak9 ?_);rw[hk];dsimp only at e1 e2;have:=hc _ _ l1 l2 (fun b z'=>b=decide (K (DY a₀ (x1,x2)) < K (DY a₀ (y1,y2)))/\z'=z) ⟨rfl,rfl⟩;unfold kas_ask at this;rw[<-e1,<-e2] at this;refine Zk (wpS_lift (ao8 (ZU this (fun b z' hb=>?_) (fun _ _ f=>f.elim))));obtain⟨rfl,rfl⟩:=hb;exact⟨rfl,Zm q⟩
theorem uE(ho:z.heap.get? a=some (seqObj "list" vs.toArray m))(hl:vs.length<=100000)(hK: ∀i j,i < vs.length->j < vs.length->vs.getD i Value.none=vs.getD j Value.none->K i=K j)(hk:2<=vs.length-> ∀h':Heap,(∀b o,b≠a->z.heap.get? b=some o->h'.get? b=some o)-> ∃κ,Ask prog w A vs K {z with heap:=h'} κ)(h: ∀p,Pm vs.length p->TV K p vs.length->P (.done (.ret .none)) {z with heap:=sortedHeap z.heap a vs (outs vs p)}):wpAny (model prog w) A (Builtin.«list.sort» ⟨[.ref a],[]⟩) P E z:=by
 have la:a < z.heap.objs.size:=ZD ho;let h1:Heap:=z.heap.update a (Obj.mapSeq fun _=> #[])
 let h3:Heap:=(h1.push (seqObj "tuple" vs.toArray 0)).push (seqObj "list" #[] 0)
 obtain⟨m1,o1⟩: ∃m1,h1.get? a=some (seqObj "list" #[] m1):=⟨_,get?_update_seq ho (fun _=> #[])⟩
 have s1:h1.objs.size=z.heap.objs.size:=Heap.size_update _ _ _;have o3:h3.get? a=some (seqObj "list" #[] m1):=by
  show((h1.push _).push _).get? a=_;rw[ao5 _ _ _ (by rw[size_push',s1];exact ZY (ag8 la)),ao5 _ _ _ (by rw[s1];exact ZY la)];exact o1
 have k3: ∀b o,b≠a->z.heap.get? b=some o->h3.get? b=some o:=fun b o hb q=>by
  have lb:=ZD q;show((h1.push _).push _).get? b=_;rw[ao5 _ _ _ (by rw[size_push',s1];exact ZY (ag8 lb)),ao5 _ _ _ (by rw[s1];exact ZY lb)];show(z.heap.update a _).get? b=_;rw[Heap.get?_update_ne _ _ _ _ hb];exact q
 have fit: ∀p,Pm vs.length p->(outs vs p).size<=sizeLine+1:=fun p hp=>by rw[BE hp,ak5];lia
 rw[list_sort_plain];refine Zd (listItems_at ho rfl (Zd (listUpdate_at ho rfl (Zd (seqEpoch_at o1 rfl ?_)) (by rw[ZC,ak5];lia) (ZV _))));refine Zd (wpAny_newTuple (Zd (wpAny_newList (aa9 ?_) (ZV _))) (by show vs.length<=_;rw[ak5];lia));show wpAny _ _ _ _ _ {z with heap:=h3};dsimp only;by_cases c2:vs.toArray.size < 2
 . rw[if_pos c2,if_pos c2];refine Zd (Zf ?_);rw[StateT.run_pure];refine Zd (Zf ?_);dsimp only;have pm:Pm vs.length (List.range vs.length).toArray:=⟨Array.Perm.refl _⟩
   have Cm:=Ff (vs:=vs);refine Zd (seqEpoch_at o3 rfl (Zd (listUpdate_at o3 rfl ?_ (ZV _) (by show(Array.map _ (vs.toArray.zip vs.toArray)).size<=_;rw[Cm];exact fit _ pm))));simp only [bne_self_eq_false,aa1,ad8];refine Zf ?_;have:=h _ pm fun i j x y=>by
    have:i=j:=by rw[ZC] at c2;lia
    subst this;exact ad6 _
   rw[<-Cm] at this;exact this
 . rw[if_neg c2,if_neg c2];have l2:2<=vs.length:=by rw[ZC] at c2;lia
   obtain⟨κ,ak⟩:=hk l2 h3 k3;refine Zd (ZU (ak.kind (fun κ' z'=>κ'=κ/\z'={z with heap:=h3}) ⟨rfl,rfl⟩) (fun κ' z' q=>?_) fun _ _ x=>x.elim);obtain⟨e1,e2⟩:=q;subst e1;subst e2;have zs:(vs.toArray.zip vs.toArray).size=vs.length:=by simp
   have zg: ∀(i:Nat) x,(vs.toArray.zip vs.toArray)[i]?=some x->i < vs.length/\x=(vs.getD i Value.none,vs.getD i Value.none):=fun i x e=>by
    obtain⟨hi,e⟩:=am5.mp e;have nD:i < vs.length:=by rw[zs] at hi;exact hi
    refine⟨nD,?_⟩;rw[<-e,Array.getElem_zip];simp [List.getD,nD]
   refine Zd (ZU (xZ (st:=SortSt.mk' κ' (vs.toArray.zip vs.toArray) #[] 7 none) (a₀:=vs.toArray.zip vs.toArray)
    (Q:=fun _ st=>failedOf st=none/\(arrOf st).Perm (vs.toArray.zip vs.toArray)/\a9 (fun x=>K (DY (vs.toArray.zip vs.toArray) x)) (arrOf st) 0 (vs.toArray.zip vs.toArray).size)
    (Rx ak.ask zs fun i x e=>by rw[(zg i x e).2]) (fun x hx=>?_) ⟨Array.Perm.refl _,rfl,rfl,rfl,rfl⟩ (by rw[zs];lia) fun st x y u=>⟨y,x,u⟩) ?_ fun _ _ x=>x)
   . obtain⟨i,hi,e⟩:=aa5 hx;exact⟨i,by rw[<-aa4,Zg hi,e]⟩
   rintro⟨⟨⟩,st⟩ z' ⟨e,hf,hp,hg⟩
   subst e;have dq:(arrOf st).toList.Perm ((List.range vs.length).map fun i=>((vs.getD i Value.none,vs.getD i Value.none):Keyed)):=by
    have:=ae0.mp hp;refine this.trans ?_;have:(vs.toArray.zip vs.toArray).toList=(List.range vs.length).map fun i=>((vs.getD i Value.none,vs.getD i Value.none):Keyed):=by
     apply al9
     . simp
     . intro i g1 g2;have hi:i < vs.length:=by simpa using g1
       simp [hi]
    rw[this]
   obtain⟨m',Rk,em⟩:=Bq dq rfl;have pp:Pm vs.length m'.toArray:=⟨ae0.mpr (by simpa using Rk)⟩
   have lm:m'.length=vs.length:=by have:=Rk.length_eq;rw[ZN] at this;exact this
   have Cm:(arrOf st).map (·.2)=outs vs m'.toArray:=by
    apply am1.mp;unfold outs;rw[Array.toList_map,em,ZP];rfl
   have asc:TV K m'.toArray vs.length:=fun i j ij jl=>by
    have at': ∀i,i < vs.length->kp K m'.toArray i=rk (fun x=>K (DY (vs.toArray.zip vs.toArray) x)) (arrOf st) i:=fun i hi=>by
     have im:i < m'.length:=by rw[lm];exact hi
     have e1:(arrOf st)[i]?=some ((vs.getD m'[i] Value.none,vs.getD m'[i] Value.none):Keyed):=by
      rw[<-aa4,em,Zo,Zg im];rfl
     have ml:m'[i] < vs.length:=by have:=Rk.mem_iff.mp (ae9 im);simpa using this
     unfold kp rk;rw[e1];show K (m'.toArray.getD i 0)=K (DY _ _);have e2:m'.toArray.getD i 0=m'[i]:=by simp [Array.getD,im]
     rw[e2];have e3:=vb (a:=vs.toArray.zip vs.toArray) (x:=(vs.getD m'[i] Value.none,vs.getD m'[i] Value.none)) ⟨m'[i],by
      rw[Z2 (by rw[zs];exact ml),Array.getElem_zip];simp [List.getD,ml]⟩
     obtain⟨g1,g2⟩:=zg _ _ e3;exact hK _ _ ml g1 (aa6 Prod.fst g2)
    rw[at' i (by lia),at' j jl];exact hg i j (ZV _) ij (by rw[zs];exact jl)
   dsimp only;refine Zd (seqEpoch_at o3 rfl (Zd (listUpdate_at o3 rfl ?_ (ZV _) (by rw[Cm];exact fit _ pp))));rw[hf,Cm];simp only [bne_self_eq_false,aa1,ad8];exact Zf (h _ pp asc)
end
end fS
namespace fS
open PySem PySem.Spec L2 LB PyProof.Rows PySem.W Qe
section
variable{prog:Program}{w:World}{A:Around}{E:Value->Shared->Prop}{s:Shared}{d:Addr}{od:Obj}{es:Array DictEntry}{ep:Nat}{K:Nat->Int}
theorem pE(hA:A.handled=none)(hx:od.ExactDict)(lo:(d==sysModules)=false)(hR:DT s.heap d od es ep)(Xi:es.size<=100000)(hK: ∀i j,i < es.size->j < es.size->(es.toList.map (·.key)).getD i Value.none=(es.toList.map (·.key)).getD j Value.none->K i=K j)(hk:2<=es.size-> ∀h' tk,(∀b o,s.heap.get? b=some o->h'.get? b=some o)-> ∃κ,Ask prog w A.in1.in1 (es.toList.map (·.key)) K {s with heap:=h',toks:=tk} κ)(h: ∀h' tk p n q,(∀b o,s.heap.get? b=some o->h'.get? b=some o)->s.heap.objs.size<=p->Pm es.size q->TV K q es.size->h'.get? p=some (seqObj "list" (outs (es.toList.map (·.key)) q) n)->Q (.ref p) {s with heap:=h',toks:=tk}):
  wpAny (model prog w) A (call (.builtin "sorted") [.ref d]) Q E s:=by
 have vl:(es.toList.map (·.key)).length=es.size:=by rw[Ze,Zv]
 refine Calls.call_function_entry kind_sorted plain_sorted entry_sorted (args_sorted1 _) ?_;unfold Builtin.«sorted»;refine Zd (m:=checkCount "sorted" 1 1 _) (Zf (Zd (qx (by simpa using hA) hx lo hR (by rw[ak5];lia) fun h' tk ls kp=>?_)));refine Zd (wpAny_newList ?_ (by rw[ak5];lia));have g1:(h'.push (seqObj "list" (es.toList.map (·.key)).toArray 0)).get? h'.objs.size=some (seqObj "list" (es.toList.map (·.key)).toArray 0):=Zs _ rfl;have k1: ∀b o,s.heap.get? b=some o->(h'.push (seqObj "list" (es.toList.map (·.key)).toArray 0)).get? b=some o:=fun b o e=>Zh _ (kp b o e);refine Zd (aa9 (ab4 slot_list_sort ⟨_,g1,rfl⟩ entry_list_sort (uE (z:={s with heap:=h'.push (seqObj "list" (es.toList.map (·.key)).toArray 0),toks:=tk}) (K:=K) g1 (by rw[vl];exact Xi) (fun i j x y=>hK i j (by rw[vl] at x;exact x) (by rw[vl] at y;exact y)) (fun c h2 kk=>hk (by rw[vl] at c;exact c) h2 tk fun b o e=>kk b o (ZY (ZD (kp b o e))) (k1 b o e)) fun q pm ac=>⟨_,rfl,Zf ⟨_,rfl,?_⟩⟩) (args_list_sort _)));obtain⟨n,hn⟩:=sortedHeap_at (vs:=es.toList.map (·.key)) (out:=outs (es.toList.map (·.key)) q) g1;rw[vl] at pm ac;refine h _ tk _ n q (fun c oo e=>?_) (Nat.le_of_lt ls) pm ac hn;have e1:=kp c oo e;have lc:=ZD e1;rw[sortedHeap_old (ZY lc) (Nat.lt_of_lt_of_eq (ag8 lc) (ab2 _ _).symm)];exact Zh _ e1
end
end fS
namespace IA
open PySem PyProof.Rows PySem.W fS
noncomputable def B0(fin:Bool):List Int->List Int->Bool
 | x::xs,y::ys=>if x==y then B0 fin xs ys else decide (x < y)
 | _,_=>fin
inductive Nu:List Value->List Int->Prop
 | nil:Nu [] []
 | cons {us:List Value} {xs:List Int} (x:Int) (t:Tok):Nu us xs->Nu (.int x t::us) (x::xs)
theorem Nu.len(h:Nu us xs):us.length=xs.length:=by
 induction h with
 | nil=>rfl
 | cons _ _ _ ih=>rw[ZG,ZG,ih]
structure Dy(h:Heap)(v:Value)(xs:List Int):Prop where
 ex: ∃(t:Addr) (o:Obj) (us:List Value) (n:Nat),v= .ref t/\h.get? t=some o/\o.cls= .type "tuple"/\o.data= .seq us.toArray n/\Nu us xs/\xs≠ []
theorem sO: ∀{us vs:List Value} {xs ys:List Int} {i:Nat},Nu us xs->Nu vs ys->Q (B0 fin xs ys) s->KatLex prog w A true fin Q (us.zip vs) i s
 | _,_,_,_,_,.nil,_,q=>kat_nil q
 | _,_,_,_,_,.cons _ _ _,.nil,q=>kat_nil q
 | _,_,_,_,i,.cons (us:=us) (xs:=xs) x t h,.cons (us:=vs) (xs:=ys) y u h',q=>by
  rw[List.zip_cons_cons];refine kat_cons (wpAny_eqBool_int ?_);unfold B0 at q;by_cases c:(x==y)=true
  . rw[c];rw[if_pos c] at q;exact kat_yes (sO h h' q)
  . rw[if_neg c] at q;rw[Bool.eq_false_iff.mpr c];refine kat_no ?_;cases i with
    | zero=>exact oneLt_int q
    | succ j=>exact kat_one _ _ (lt_int q)
theorem xo: ∀{vs:List Value} {ts:List (List Int)},vs.length=ts.length->(∀(i:Nat) v xs,vs[i]?=some v->ts[i]?=some xs->Dy h v xs)-> ∃fs,KatTups h vs fs/\fs.length=vs.length/\ ∀v∈fs,∃x t,v=Value.int x t
 | [],[],_,_=>⟨[],.nil,rfl,fun v hv=>absurd hv Zi⟩
 | [],_::_,l,_=>by simp at l
 | _::_,[],l,_=>by simp at l
 | v::vs,q::ps,l,hp=>by
  obtain⟨fs,t,lf,hi⟩:=xo (vs:=vs) (ts:=ps) (by simpa using l) fun i v q h1 h2=>hp (i+1) v q (by simpa using h1) (by simpa using h2);obtain⟨t0,o,us,n,rfl,g,c,d,nu,ne⟩:=(hp 0 v q rfl rfl).ex;cases nu with
  | nil=>exact absurd rfl ne
  | @cons us xs x tk _=>
   refine⟨.int x tk::fs,.cons g c d rfl t,by rw[ZG,ZG,lf],fun v hv=>?_⟩;rcases ZS.mp hv with e | hv
   . exact⟨_,_,e⟩
   . exact hi v hv
end IA
namespace fS
open PySem PySem.Spec L2 LB PyProof.Rows PySem.W Qe IA
noncomputable def bA(B:Int):List Int->Int
 | []=>0
 | x::xs=>x*B^xs.length+bA B xs
def zH(B:Int)(xs:List Int):Prop:= ∀x∈xs,0<=x/\x < B
theorem fO(b0:0 < B): ∀{xs:List Int},zH B xs->0<=bA B xs/\bA B xs < B^xs.length
 | [],_=>by show(0:Int)<=0/\(0:Int) < B^0;rw[Int.pow_zero];decide
 | x::xs,h=>by
  obtain⟨i1,i2⟩:=fO b0 (xs:=xs) fun y hy=>h y (Zn _ hy);obtain⟨h1,h2⟩:=h x Zu;have p0:(0:Int)<=B^xs.length:=by lia
  have m1:0<=x*B^xs.length:=Int.mul_nonneg h1 p0;have m2:(x+1)*B^xs.length<=B*B^xs.length:=aa2 (by lia) p0;rw[ag4,am7] at m2;show 0<=x*B^xs.length+bA B xs/\x*B^xs.length+bA B xs < B^(xs.length+1);rw[Int.pow_succ,Int.mul_comm (B^xs.length) B];lia
theorem xu(b0:0 < B): ∀{xs ys:List Int},xs.length=ys.length->zH B xs->zH B ys->decide (bA B xs < bA B ys)=B0 false xs ys
 | [],[],_,_,_=>rfl
 | [],_::_,l,_,_=>by cases l
 | _::_,[],l,_,_=>by cases l
 | x::xs,y::ys,l,hx,hy=>by
  have l':xs.length=ys.length:=by simpa using l
  have vd:zH B xs:=fun z hz=>hx z (Zn _ hz);have yR:zH B ys:=fun z hz=>hy z (Zn _ hz);have e:=vw (B:=B^xs.length) (p:=(x,bA B xs)) (q:=(y,bA B ys)) (fO b0 vd) (by rw[l'];exact fO b0 yR);show decide (x*B^xs.length+bA B xs < y*B^ys.length+bA B ys)=if x==y then B0 false xs ys else decide (x < y)
  rw[<-l'];unfold enc at e;rw[e];by_cases c:(x==y)=true
  . rw[if_pos c,if_pos c,<-xu b0 l' vd yR];by_cases d:(bA B xs==bA B ys)=true
    . rw[if_pos d,ZO (by have:=eq_of_beq d;lia)]
    . rw[if_neg d]
  . rw[if_neg c,if_neg c]
theorem tE(b0:0 < B): ∀{xs ys:List Int},xs.length=ys.length->zH B xs->zH B ys->bA B xs=bA B ys->xs=ys
 | [],[],_,_,_,_=>rfl
 | [],_::_,l,_,_,_=>by cases l
 | _::_,[],l,_,_,_=>by cases l
 | x::xs,y::ys,l,hx,hy,e=>by
  have l':xs.length=ys.length:=by simpa using l
  have vd:zH B xs:=fun z hz=>hx z (Zn _ hz);have yR:zH B ys:=fun z hz=>hy z (Zn _ hz);have e1:=vw (B:=B^xs.length) (p:=(x,bA B xs)) (q:=(y,bA B ys)) (fO b0 vd) (by rw[l'];exact fO b0 yR);have e2:=vw (B:=B^xs.length) (p:=(y,bA B ys)) (q:=(x,bA B xs)) (by rw[l'];exact fO b0 yR) (fO b0 vd);have e:x*B^xs.length+bA B xs=y*B^ys.length+bA B ys:=e;rw[<-l'] at e;unfold enc at e1 e2;rw[e,ZO (Int.lt_irrefl _)] at e1 e2;have c:(x==y)=true:=by
   by_cases c:(x==y)=true
   . exact c
   . exfalso;rw[if_neg c] at e1;rw[if_neg (fun z=>c (Zt.mpr (show y=x from eq_of_beq z).symm))] at e2;have a: ¬x < y:=Z1 e1.symm;have b: ¬y < x:=Z1 e2.symm;exact c (Zt.mpr (by lia))
  have c:=eq_of_beq c;subst c;rw[tE b0 l' vd yR (by lia)]
theorem JW(a:Nu us xs):Nu us ys->xs=ys:=by
 intro b;induction a generalizing ys with
 | nil=>cases b;rfl
 | cons x t h ih=>cases b with
  | cons y u h'=>rw[ih h']
theorem IU(a:Dy h v xs)(b:Dy h v ys):xs=ys:=by
 obtain⟨t,o,us,n,e,g,c,d,nu,_⟩:=a.ex;obtain⟨t',o',Yb,n',e',g',c',d',Wi,_⟩:=b.ex;subst e;cases e';rw[g] at g';cases g';rw[d] at d';simp only [Data.seq.injEq,List.toArray_inj,Array.mk.injEq] at d';have d1:=d'.1;subst d1;exact JW nu Wi
section
variable{prog:Program}{w:World}{A:Around}{z:Shared}{vs:List Value}{ts:List (List Int)}{B:Int}{n:Nat}
theorem Dr(b0:0 < B)(hl:vs.length=ts.length)(h2:2<=vs.length)(hp: ∀(i:Nat) v q,vs[i]?=some v->ts[i]?=some q->Dy z.heap v q)(hb: ∀t∈ts,t.length=n/\zH B t): ∃κ,Ask prog w A vs (fun i=>bA B (ts.getD i [])) z κ:=by
 obtain⟨fs,t,lf,hi⟩:=xo hl hp;refine⟨tuples' true,fun Q q=>kat_kind (T:= .type "int") t (by lia) (fun v hv=>?_) (by rfl) q,fun i j nD Me C q=>?_⟩
 . obtain⟨x,tk,rfl⟩:=hi v hv;exact Looks.of_pure rfl
 . have li:i < ts.length:=by lia
   have lj:j < ts.length:=by lia
   have ei:ts.getD i []=ts[i]:=by simp [List.getD,li]
   have ej:ts.getD j []=ts[j]:=by simp [List.getD,lj]
   have fi:vs.getD i Value.none=vs[i]:=by simp [List.getD,nD]
   have fj:vs.getD j Value.none=vs[j]:=by simp [List.getD,Me]
   obtain⟨a1,a2⟩:=hb _ (ae9 li);obtain⟨b1,b2⟩:=hb _ (ae9 lj);rw[ei,ej,xu b0 (a1.trans b1.symm) a2 b2] at q;obtain⟨t1,o1,Ya,n1,e1,g1,c1,d1,Uj,_⟩:=(hp i _ _ (Zg nD) (Zg li)).ex;obtain⟨t2,o2,X9,n2,e2,g2,c2,d2,Ui,_⟩:=(hp j _ _ (Zg Me) (Zg lj)).ex;unfold kas_ask;rw[fi,fj,e1,e2];refine kat_lt g1 d1 g2 d2 ?_;rw[ZC,ZC,Uj.len,Ui.len,a1,b1,ZO (Z7 n)];exact sO Uj Ui q
end
noncomputable def kT(xs:List Int):List Key:=xs.map fun x=> .inl x
theorem NF:(kT xs).map kV=xs.map V.int:=by
 unfold kT;rw[ZP];rfl
theorem wR: ∀{xs:List Int} {us:List Value},Vals (xs.map V.int) us->Nu us xs
 | [],_,.nil=> .nil
 | x::xs,_,.cons r t=>by
  obtain⟨tk,rfl⟩:=r;exact .cons x tk (wR t)
theorem qA{X:Cx}(hA:X.A.handled=none):eB X (.builtin "sorted") (fun xs H Q=> ∃(a:Addr) (aH:List (List Key × V)) (qs:List (List Int)) (B:Int) (n:Nat),xs= [.ref a]/\H a=some (.dT aH)/\aH.map (·.1)=qs.map kT/\qs.length<=100000/\0 < B/\1<=n/\(∀t∈qs,t.length=n/\zH B t)/\
  ∀(p:Addr) (ms:List (V × List Int)),H p=none->(ms.map (·.2)).Perm qs->ms.Pairwise (fun q r=>bA B q.2<=bA B r.2)->(∀m∈ms,∃t,m.1= .ref t/\H t=some (.tup (m.2.map V.int)))->Q (.ref p) (upd H p (.lst (ms.map (·.1))))):=by
 intro pins s σ H xs us Q I r h;obtain⟨a,aH,qs,B,n,rfl,ha,ek,hl,b0,n1,hb,q⟩:=h;obtain⟨u,rfl,ru⟩:=vals1 r;cases ru;obtain⟨zz,lo,xs,rel,od,es,ep,Kx,hex,Mh,KL,UH,UC⟩:=tH I.aT ha;have xl:xs.length=aH.length:=(Paired.length rel).symm;have ql:qs.length=aH.length:=by have:=aa6 List.length ek;rw[Ze,Ze] at this;exact this.symm
 have zT:es.size=qs.length:=by have:=aa6 List.length KL;rw[Ze,Zv,xl,<-ql] at this;exact this
 have TY:es.toList.map (·.key)=xs.map fun x=>Value.ref x.2.1:=by rw[KL,ZP];rfl
 have Sk: ∀(i:Nat) p,qs[i]?=some p-> ∃x,xs[i]?=some x/\H x.2.1=some (.tup (p.map V.int)):=fun i p hp=>by
  have il:i < qs.length:=(Zq.mp hp).1;have kv:aH[i]?=some (aH[i]'(by lia)):=Zg _;have xv:xs[i]?=some (xs[i]'(by lia)):=Zg _;have e1:(aH[i]'(by lia)).1=kT p:=by
   have:=aa6 (·[i]?) ek;simp only [Zo,kv,hp,Option.map_some,Option.some.injEq] at this;exact this
  obtain⟨p1,p2,_⟩:=uR rel kv xv;rw[e1,NF] at p2;exact⟨_,xv,p2⟩
 have RQ: ∀(h':Heap),(∀b o,s.heap.get? b=some o->h'.get? b=some o)-> ∀(i:Nat) v p,(es.toList.map (·.key))[i]?=some v->qs[i]?=some p->Dy h' v p:=fun h' kk i v p h1 h2=>by
  obtain⟨x,hx,ht⟩:=Sk i p h2;rw[TY,Zo,hx] at h1;cases h1;obtain⟨js,rj,pj,_⟩:=I.tuple (eV.of ht);obtain⟨o,ho,hc,m,hd⟩:=(show s.heap.IsTuple x.2.1 js.toArray from pj)
  exact⟨x.2.1,o,js,m,rfl,kk _ _ ho,hc,hd,wR rj,fun z=>by have:=(hb p (ZT h2)).1;rw[z] at this;simp at this;lia⟩
 have vl:(es.toList.map (·.key)).length=qs.length:=by rw[Ze,Zv,zT]
 refine pE (K:=fun i=>bA B (qs.getD i [])) hA hex lo ⟨Kx,Mh⟩ (by rw[zT];exact hl) (fun i j x y e=>by
  have ix:i < qs.length:=by rw[<-zT];exact x
  have jx:j < qs.length:=by rw[<-zT];exact y
  have gi:(es.toList.map (·.key))[i]?=some ((es.toList.map (·.key)).getD i Value.none):=by
   rw[List.getD,Zg (by rw[vl];exact ix)];rfl
  have gj:(es.toList.map (·.key))[j]?=some ((es.toList.map (·.key)).getD j Value.none):=by
   rw[List.getD,Zg (by rw[vl];exact jx)];rfl
  have pi:=RQ s.heap (fun _ _ e=>e) i _ _ gi (Zg ix);have pj:=RQ s.heap (fun _ _ e=>e) j _ _ gj (Zg jx);rw[e] at pi;have:=IU pi pj;show bA B (qs.getD i [])=bA B (qs.getD j []);rw[show qs.getD i []=qs[i] by simp [List.getD,ix],show qs.getD j []=qs[j] by simp [List.getD,jx],this]) (fun h2 h' tk kk=>Dr b0 vl (by rw[vl,<-zT];exact h2) (RQ h' kk) hb) fun h' tk p m pq kk lp pm ac hg=>?_
 have hf:H p=none:=I.aT.fresh lp;rw[zT] at pm ac;have dq:pq.toList.Perm (List.range qs.length):=by have:=ae0.mp pm.pm;simpa using this
 have lt: ∀i∈pq.toList,i < qs.length:=fun i hi=>by have:=dq.mem_iff.mp hi;simpa using this
 let f:Nat->V × List Int:=fun i=>(.ref (((xs[i]?).map fun x=>x.2.1).getD 0),qs.getD i [])
 have Py:((pq.toList.map f).map (·.2)).Perm qs:=by
  rw[ZP];have:=dq.map fun i=>qs.getD i [];rw[map_getD] at this;exact this
 have so:(pq.toList.map f).Pairwise (fun q r=>bA B q.2<=bA B r.2):=by
  rw[ae5];intro i j hi hj bW;rw[Ze,Zv,pm.sz] at hi hj;have:=ac i j (by lia) (by lia);have gi:pq.getD i 0=pq[i]'(by rw[pm.sz];lia):=by simp [Array.getD,pm.sz,hi]
  have gj:pq.getD j 0=pq[j]'(by rw[pm.sz];lia):=by simp [Array.getD,pm.sz,hj]
  unfold kp at this;rw[gi,gj] at this;simpa [f] using this
 have nH: ∀m∈pq.toList.map f,∃t,m.1= .ref t/\H t=some (.tup (m.2.map V.int)):=fun m hm=>by
  obtain⟨i,hi,rfl⟩:=ZF.mp hm;have il:=lt i hi;obtain⟨x,hx,ht⟩:=Sk i qs[i] (Zg il);refine⟨x.2.1,?_,?_⟩
  . show V.ref (((xs[i]?).map fun x=>x.2.1).getD 0)=_;rw[hx];rfl
  . show H x.2.1=some (.tup ((qs.getD i []).map V.int));rw[show qs.getD i []=qs[i] by simp [List.getD,il]];exact ht
 refine⟨.ref p,_,I.laid (t':=tk) (o:= .lst ((pq.toList.map f).map (·.1))) (fun b o e=>kk b o e) lp ?_,rfl,q p _ hf Py so nH⟩;refine⟨?_,pq.toList.map (fun i=>(es.toList.map fun x:DictEntry=>x.key).getD i Value.none),m,?_,hg⟩
 . rw[Ze,Ze,Zv,pm.sz,ak5];lia
 . rw[ZP];refine rq fun i hi=>?_;have il:=lt i hi;obtain⟨x,hx,ht⟩:=Sk i qs[i] (Zg il);show RelV (V.ref (((xs[i]?).map fun x=>x.2.1).getD 0)) ((es.toList.map (·.key)).getD i Value.none);rw[TY,List.getD,Zo,hx];rfl
end fS
namespace LD
open PySem PySem.Spec L2 LB PyProof.Rows fS
noncomputable def PM(t:List Int):Dt:= .tup (t.map .int)
theorem wA: ∀{ws:List (V × List Int)},(∀w∈ws,Rep M H w.1 (PM w.2))->az M H (ws.map (·.1)) ((ws.map (·.2)).map PM)
 | [],_=> .nil
 | w::ws,h=> .cons (h w Zu) (wA fun x hx=>h x (Zn _ hx))
section
variable{X:Cx}{e:Expr}{tA:gf}{pos p:Pos}
inductive zI(ds:List Dt)(Q:Dt->Prop):Prop
 | mk (qs:List (List Int)) (es:List Dt) (B:Int) (n:Nat) (h1:ds= [.kC (qs.map kT) es]) (h2:qs.length<=100000) (b0:0 < B) (n1:1<=n) (h3: ∀t∈qs,t.length=n/\zH B t) (h4: ∀ms:List (List Int),ms.Perm qs->ms.Pairwise (fun q r=>bA B q<=bA B r)->Q (.lst (ms.map PM)))
theorem zi(hA:X.A.handled=none)(hm:X.mg "sorted"=none)(ha:Av X [e] tA)(hg:Gl X "sorted":=by rfl)(he:starEach [e] X.env=(false,eval e X.env)::starEach [] X.env:=by rfl)(dq:(backTo pos (starEach [] X.env)).any (·.1)=false:=by rfl):
  Ev X (.Call (.Name "sorted" p) [e] [] pos) (vE zI tA):=jq (qA hA) (fun M H xs ds Qd Q al r cw k=>(by
 obtain⟨qs,es,B,n,e,l,b0,n1,hb,q⟩:=cw;subst e;obtain⟨x,rfl,r1⟩:=dE r;obtain⟨a,vs,rfl,ha,nn,e2,rr⟩:=r1.Hq;refine⟨a,vs,qs,B,n,rfl,ha,e2,l,b0,n1,hb,fun p ms hp WM WL ht=>?_⟩;have s:aD H (upd H p (.lst (ms.map (·.1)))):=aD.new hp;have pw:(ms.map (·.2)).Pairwise (fun q r=>bA B q<=bA B r):=ao4.mpr WL;refine k _ _ _ (q (ms.map (·.2)) WM pw) s (Rep.rJ ag (al.fresh hp) (wA fun m hm=>?_));obtain⟨t,e1,h1⟩:=ht m hm;rw[e1];exact Rep.ik (s _ _ h1) (al.tup h1) rV)) hg hm qC ha (by decide) (by decide) he dq
end
end LD
namespace aX
open PySem PySem.Spec L2 LB LD PyProof.Rows og fS
noncomputable def ez:List Nat->Nat
 | []=>0
 | x::xs=>x*6^xs.length+ez xs
noncomputable def EI:List Nat->Bool
 | a::b::L=>decide (a < b) && EI (b::L)
 | _=>true
theorem A6: ∀{L:List Nat},EI L=true->L.Pairwise (· < ·)
 | [],_=> .nil
 | [a],_=>ao1 _ _
 | a::b::L,h=>by
  have h:(decide (a < b) && EI (b::L))=true:=h;rw[aa8] at h;have ih:=A6 h.2;have ab:=ZL h.1;refine ah5.mpr ⟨fun c hc=>?_,ih⟩;rcases ZS.mp hc with z | z
  . rw[z];exact ab
  . exact Nat.lt_trans ab ((ah5.mp ih).1 c z)
theorem Th:zr 5=true:=by decide+kernel
theorem Rb:EI ((en 1).map ez)=true:=by decide+kernel
theorem Ra:EI ((en 2).map ez)=true:=by decide+kernel
theorem Q9:EI ((en 3).map ez)=true:=by decide+kernel
theorem Q8:EI ((en 4).map ez)=true:=by decide+kernel
theorem Q7:EI ((en 5).map ez)=true:=by decide+kernel
theorem Ao:(zK 1).length<=1000/\(zK 2).length<=1000/\(zK 3).length<=1000/\(zK 4).length<=1000/\(zK 5).length<=1000:=by decide+kernel
theorem qz(n1:1<=n)(n5:n<=5):zr n=true/\EI ((en n).map ez)=true/\(zK n).length<=1000:=by
 match n,n1,n5 with
 | 1,_,_=>exact⟨To,Rb,Ao.1⟩
 | 2,_,_=>exact⟨Tn,Ra,Ao.2.1⟩
 | 3,_,_=>exact⟨Tj,Q9,Ao.2.2.1⟩
 | 4,_,_=>exact⟨Ti,Q8,Ao.2.2.2.1⟩
 | 5,_,_=>exact⟨Th,Q7,Ao.2.2.2.2⟩
noncomputable def cf(n:Nat)(s:St):List (List Nat):=(en n).filter fun h=>fits h (rows s)
theorem LA(n1:1<=n)(n5:n<=5)(r:Rc n m s):(∀h,h∈tx (2*n - 1 - m) s↔h∈cf n s)/\ ∀i,i < n->Cc (cf n s) i ((rows s).getD i [])=true:=by
 have c:=(qz n1 n5).1;have c:=Z4.mp c m (ad3.mpr (by have:=r.le n1;lia));have c:=Z4.mp c s (A9 r);have c:((tx (2*n - 1 - m) s).all (fun h=>decide (h∈cf n s)) && ((cf n s).all (fun h=>decide (h∈tx (2*n - 1 - m) s)) && (List.range n).all fun i=>Cc (cf n s) i ((rows s).getD i [])))=true:=c;rw[aa8,aa8] at c;obtain⟨c1,c2,c3⟩:=c;exact⟨fun h=>⟨fun z=>ZL (Z4.mp c1 h z),fun z=>ZL (Z4.mp c2 h z)⟩,fun i hi=>Z4.mp c3 i (ad3.mpr hi)⟩
theorem mW(n1:1<=n)(n5:n<=5)(r:Rc n m s):h∈cf n s↔ ∃t,Fr s t/\cg t=true/\jk t=h:=by
 rw[<-(LA n1 n5 r).1 h];exact mK n1 _ m s h r (by have:=r.le n1;lia)
theorem fQ(hh:h∈cf n s):h.length=n/\ ∀x∈h,x<=n:=Bj n h (ag6.mp (ag6.mp (ag6.mp hh).1).1).1
theorem xt{h:List Nat}:bA 6 (h.map Int.ofNat)=((ez h:Nat):Int):=by
 induction h with
 | nil=>rfl
 | cons x h ih=>
  show Int.ofNat x*6^(h.map Int.ofNat).length+bA 6 (h.map Int.ofNat)=((x*6^h.length+ez h:Nat):Int)
  rw[ih,Ze,Int.natCast_add,Int.natCast_mul,Int.natCast_pow];rfl
theorem qw(n1:1<=n)(n5:n<=5):(cf n s).Pairwise fun a b=>ez a < ez b:=by
 have c:=A6 (qz n1 n5).2.1;exact(ao4.mp c).sublist List.filter_sublist
theorem GC(n1:1<=n)(n5:n<=5)(r:Rc n m s){Fs:List (List Nat)}(nd:Fs.Nodup)(mem: ∀h,h∈Fs↔ ∃t,Fr s t/\cg t=true/\jk t=h){ms:List (List Int)}(pm:ms.Perm (Fs.map fun h=>h.map Int.ofNat))(pw:ms.Pairwise fun a b=>bA 6 a<=bA 6 b):ms=(cf n s).map fun h=>h.map Int.ofNat:=by
 have cu:=qw (s:=s) n1 n5;have cn:(cf n s).Nodup:=cu.imp fun{a b} h z=>by rw[z] at h;exact Z7 _ h
 have pc:Fs.Perm (cf n s):=(List.perm_ext_iff_of_nodup nd cn).mpr fun h=>by rw[mem h,mW n1 n5 r]
 have Py:=pm.trans (pc.map fun h=>h.map Int.ofNat);have at': ∀a∈(cf n s).map (fun h=>h.map Int.ofNat),a.length=n/\zH 6 a:=fun a ha=>by
  obtain⟨h,hh,rfl⟩:=ZF.mp ha;obtain⟨l,b⟩:=fQ hh;refine⟨by rw[Ze];exact l,fun x hx=>?_⟩;obtain⟨y,hy,rfl⟩:=ZF.mp hx;have:=b y hy;show(0:Int)<=(y:Int)/\(y:Int) < 6;lia
 refine List.Perm.eq_of_pairwise (le:=fun a b=>bA 6 a<=bA 6 b) (fun a b ha hb h1 h2=>?_) pw ?_ Py
 . obtain⟨a1,a2⟩:=at' a (Py.mem_iff.mp ha);obtain⟨b1,b2⟩:=at' b hb;exact tE (by decide) (a1.trans b1.symm) a2 b2 (by lia)
 . refine ao4.mpr (cu.imp fun{a b} h=>?_);rw[xt,xt];lia
noncomputable def kN(hs:List Nat):List Key:=hs.map fun(x:Nat)=>(.inl (x:Int):Key)
theorem w6: ∀(hs:List Nat),mq (hs.map nI)=some (kN hs)
 | []=>rfl
 | x::hs=>by
  have ih:=w6 hs;show mq (.int (x:Int)::hs.map nI)=_;unfold mq;rw[ih];rfl
theorem B6(hs:List Nat):yM (rH hs)=some (kN hs):=w6 hs
theorem NG:kN hs=kT (hs.map Int.ofNat):=by
 unfold kN kT;rw[ZP];rfl
theorem B7: ∀{a b:List Nat},kN a=kN b->a=b
 | [],[],_=>rfl
 | [],_::_,h=>by cases h
 | _::_,[],h=>by cases h
 | x::a,y::b,h=>by
  obtain⟨h1,h2⟩:=List.cons.inj h;have h1:(x:Int)=(y:Int):=Sum.inl.inj h1;rw[B7 h2,show x=y by lia]
theorem sY{α β:Type} [DecidableEq α] [DecidableEq β]{f:α->β}(hf: ∀a b,f a=f b->a=b){ks:List α}{k:α}:jc (ks.map f) (f k)=jc ks k:=by
 unfold jc;rw[List.any_map];congr 1
 funext z
 show decide (f z=f k)=decide (z=k);exact aj1.mpr ⟨hf _ _,fun e=>by rw[e]⟩
theorem sT{α β:Type} [DecidableEq α] [DecidableEq β]{f:α->β}(hf: ∀a b,f a=f b->a=b){ks:List α}{k:α}:fZ (ks.map f) (f k)=(fZ ks k).map f:=by
 unfold fZ;rw[sY hf];split
 . rfl
 . rw[ZA];rfl
theorem Hr{α:Type} [DecidableEq α]{U:List α}: ∀{l:List α},l.Nodup->(∀k∈l,k∈U)->l.length<=U.length:=fun{l} h m=>by
 induction l generalizing U with
 | nil=>exact ZV _
 | cons x l ih=>
  obtain⟨h1,h2⟩:=af4.mp h;have hx:=m x Zu;have:=ih (U:=U.erase x) h2 fun k hk=>(List.mem_erase_of_ne (show k≠x from fun z=>h1 (by rw[<-z];exact hk))).mpr (m k (Zn _ hk));rw[List.length_erase_of_mem hx] at this;have:=List.length_pos_of_mem hx;rw[ZG];lia
structure Go(s:St)(Ks Ws:List St)(Fs:List (List Nat))(Pr:St->Prop):Prop where
 nd:Ks.Nodup
 fr: ∀t∈Ks,Fr s t
 s0:s∈Ks
 wk: ∀t∈Ws,t∈Ks
 dn: ∀t∈Ks,t∈Ws\/Pr t\/((∀w,sr t w=true->fX t w∈Ks)/\(cg t=true->jk t∈Fs))
 fs: ∀h∈Fs,∃t,Fr s t/\cg t=true/\jk t=h
 fd:Fs.Nodup
theorem Go.fin(g:Go s Ks [] Fs fun _=>False)(h:List Nat):h∈Fs↔ ∃t,Fr s t/\cg t=true/\jk t=h:=by
 refine⟨g.fs h,fun⟨t,f,it,e⟩=>?_⟩;have all: ∀t,Fr s t->t∈Ks:=fun t f=>by
  induction f with
  | rf=>exact g.s0
  | step f o ih=>
   rcases g.dn _ ih with z | z | z
   . exact absurd z Zi
   . exact z.elim
   . exact z.1 _ o
 rcases g.dn t (all t f) with z | z | z
 . exact absurd z Zi
 . exact z.elim
 . rw[<-e];exact z.2 it
def HN:DN:=fun ds Q=> ∃(n m:Nat) (s:St),ds= [s.dt]/\Rc n m s/\1<=n/\n<=5/\Q (.lst ((cf n s).map rH))
theorem PN(hr:bT k A):A.units+1 < cLine:=af8 (Nat.add_le_add_left (by decide:1<=64) _) hr.units
inductive X3(P:Program)(w:World)(n:Nat)(s:St)(k:Nat)(δ:List Sl):Prop
 | mk (Ks Ws:List St) (Fs:List (List Nat)) (s4 s5 s6:Sl) (e:δ= [.im s.dt,Ey P w (Ks.map sk),.ow (Ws.map St.dt),IW (Fs.map kN),s4,s5,s6]) (g:Go s Ks Ws Fs fun _=>False) (h:2*((zK n).length - Ks.length)+Ws.length=k) (kb:k<=2001) (b4:s4.bK=false) (b5:s5.bK=false) (b6:s6.bK=false)
inductive X2(P:Program)(w:World)(n:Nat)(s t:St)(Fs:List (List Nat))(k i:Nat)(δ:List Sl):Prop
 | mk (Ks Ws:List St) (s5 s6:Sl) (e:δ= [.im s.dt,Ey P w (Ks.map sk),.ow (Ws.map St.dt),IW (Fs.map kN),.im t.dt,s5,s6]) (g:Go s Ks Ws Fs fun u=>u=t) (tk:t∈Ks) (hd: ∀w∈(kq t).take i,fX t w∈Ks) (h:2*((zK n).length - Ks.length)+Ws.length < k) (b5:s5.bK=false) (b6:s6.bK=false)
section
variable{P:Program}{w:World}{K:PySem.W.Frag}{mg:Str->Option Value}{base:Heap}
theorem Fn(F:gb K "_law_ends" "_law_ends" uN f fd)(T:Txt mg)(DE:gk P w K mg base "_law_may" 1 ["_law_stand"] (cM FE))(fC:gk P w K mg base "_law_behind" 1 ["_law_stand","_law_word"] (cM hV))(Iz:gk P w K mg base "_law_end" 1 ["_law_stand"] (cM Og)):aY P w K mg base eC 2 f fd ["_law_stand"] (cM HN):=by
 refine nP F iR (fun ds Qd h=>?_) (fun bP A outer s H E hr=>⟨_,(@aq _ _ _ _ _ (@Jk _ _ _ _ _ _ 1 2 3 _ _ _ _ _ _ _ _ _ _ rfl iR.nd (@F0 _ _ _ _ _ _ _ _ (Kt hr) (dv 0) zo (@N6 _ _ _ _ _ (j6 (@aa _ _ _ _ _ (dv 0) ae rfl)) (Sq xn rfl) rfl) rfl) rfl rfl rfl rfl rfl rfl rfl rfl) (@aq _ _ _ _ _ (EB (Ax hr.ph 2 (pv 2)) (@aq _ _ _ _ _ (@cA _ _ _ _ 4 _ _ iR.nd (Oq 2 (pv 2)) rfl (by first | exact Or.inl rfl | exact Or.inr rfl) rfl (by first | exact .inl rfl | exact .inr rfl | assumption)) (@aq _ _ _ _ _ (eD (pB (bE Iz (hr.mono (by decide)) (@aa _ _ _ _ _ (dv 4) ae rfl))) (aG (EC 3 (pU (PN hr) (pv 3) (bE Iz (hr.mono (by decide)) (@aa _ _ _ _ _ (dv 4) ae rfl)) BC rfl))) bU) (aG (gA rfl (mz (bE DE (hr.mono (by decide)) (@aa _ _ _ _ _ (dv 4) ae rfl))) (eS 5 iR.nd) (@aq _ _ _ _ _ (@cA _ _ _ _ 6 _ _ iR.nd (bE fC (hr.mono (by decide)) (@aa _ _ _ _ _ (dv 4) (@aa _ _ _ _ _ (dv 5) ae rfl) rfl)) rfl (by first | exact Or.inl rfl | exact Or.inr rfl) rfl (by first | exact .inl rfl | exact .inr rfl | assumption)) (aG (eD (Aw 1 6 (Kt hr) (pv 1) (pv 6)) (@aq _ _ _ _ _ (ED 1 6 (ER (Kt hr) (pv 1) (pv 6) BC rfl)) (aG (gB (fA 2 (pv 2) (@aa _ _ _ _ _ (dv 6) ae rfl))))) bU))) ac8)))) ac8) (aG (lJ 3 (aM (zi hr.hd T.L1 (@aa _ _ _ _ _ (dv 3) ae rfl))))))),fun ds Qd h=>?_⟩)
 . obtain⟨n,m,s,rfl,_⟩:=h;rfl
 . obtain⟨n,m,s,rfl,rc,n1,n5,q⟩:=h;have ul:=(qz n1 n5).2.2;refine⟨_,rfl,sk s,by rw[AN],rfl,_,rfl,by show 1<=sizeLine;decide,_,_,_,rfl,⟨_,rfl,rfl⟩,⟨_,rfl,rfl⟩,⟨_,rfl,rfl⟩,?_⟩;refine x5 (X3 P w n s) ⟨_,[s],[s],[], .no, .no, .no,rfl,⟨ao1 _ _,fun t ht=>by rw[Zl.mp ht];exact .rf,Zl.mpr rfl,fun t ht=>ht,fun t ht=> .inl ht,fun h hh=>absurd hh Zi,ac7⟩,rfl,by show 2*((zK n).length - 1)+1<=2001;lia,rfl,rfl,rfl⟩ fun k δ hI Δ' ub HC=>?_;obtain⟨Ks,Ws,Fs,s4,s5,s6,rfl,g,hk,kb,b4,b5,b6⟩:=hI;refine⟨_,rfl,_,rfl,?_⟩;have Wz: ∀t,Fr s t->t∈zK n:=fun t f=>by
    obtain⟨m',r⟩:=f.rc rc;exact Jx n1 r
   have kl: ∀{L:List St},L.Nodup->(∀t∈L,Fr s t)->L.length<=(zK n).length:=fun nd h=>Hr nd fun t ht=>Wz t (h t ht);have fl: ∀{L:List (List Nat)},L.Nodup->(∀h∈L,∃t,Fr s t/\cg t=true/\jk t=h)->L.length<=7776:=fun{L} nd h=>by
    have l1:=Hr (U:=cf n s) nd fun x hx=>(mW n1 n5 rc).mpr (h x hx);have l2:(cf n s).length<=(L7 n n).length:=ZE (ag0 _ _) (ZE (ag0 _ _) (ag0 _ _));exact ZE l1 (ZE l2 (ZE (wK n) (SH n5 n5)))
   rcases List.eq_nil_or_concat Ws with z | ⟨Wr,t,z⟩
   . subst z;refine bD ⟨_,_,rfl,_,rfl,Fs.map (fun h=>h.map Int.ofNat),zL (Fs.map kN),6,n,?_,?_,by decide,n1,fun a ha=>?_,fun ms pm pw=>?_⟩
     . rw[ZP];congr 2
       exact ZK fun h _=>NG
     . rw[Ze];have:=fl g.fd g.fs;lia
     . obtain⟨h,hh,rfl⟩:=ZF.mp ha;obtain⟨l,b⟩:=fQ ((mW n1 n5 rc).mpr (g.fs h hh));refine⟨by rw[Ze];exact l,fun x hx=>?_⟩;obtain⟨y,hy,rfl⟩:=ZF.mp hx;have:=b y hy;show(0:Int)<=(y:Int)/\(y:Int) < 6;lia
     . have e:=GC n1 n5 rc g.fd g.fin pm pw;rw[e,ZP];have:(cf n s).map (PM ∘ fun h=>h.map Int.ofNat)=(cf n s).map rH:=ZK fun h _=>by
        show Dt.tup ((h.map Int.ofNat).map .int)=rH h;rw[ZP];rfl
       rw[this];exact q
   . rw[List.concat_eq_append] at z;subst z;have ne:(!((Wr++ [t]).map St.dt).isEmpty)=true:=by rw[ZA];cases Wr.map St.dt <;> rfl
     have tk:t∈Ks:=g.wk t (by simp);have ft:Fr s t:=g.fr t tk;obtain⟨m',rt⟩:=ft.rc rc;have lv:=rt.lv;have fi:vV t:=lv.k.g.Oe (by lia) (by have:=rt.le n1;lia);have dl:((Wr++ [t]).map St.dt).dropLast=Wr.map St.dt:=by rw[ZA];simp
     have la:((Wr++ [t]).map St.dt)[((Wr++ [t]).map St.dt).length - 1]?=some t.dt:=by rw[ZA];simp
     refine ky ne ⟨_,t.dt,rfl,la,⟨_,rfl,b4⟩,?_⟩;rw[dl];have wl:(Wr++ [t]).length=Wr.length+1:=by simp
     have g1: ∀{DJ:List (List Nat)},(∀h,h∈Fs->h∈DJ)->DJ.Nodup->(∀h∈DJ,∃t,Fr s t/\cg t=true/\jk t=h)->Go s Ks Wr DJ fun u=>u=t:=fun h1 h2 h3=>⟨g.nd,g.fr,g.s0,fun u hu=>g.wk u (ZX _ hu),fun u hu=>by
      rcases g.dn u hu with z | z | z
      . rcases Zz.mp z with y | y
        . exact .inl y
        . exact .inr (.inl (Zl.mp y))
      . exact z.elim
      . exact .inr (.inr ⟨z.1,fun ie=>h1 _ (z.2 ie)⟩),h3,h2⟩
     have tl: ∀(DJ:List (List Nat)),Go s Ks Wr DJ (fun u=>u=t)->(cg t=true->jk t∈DJ)->OM (OI (vE FE (mR (zp 4) vD))) (vz 5) (Gk (Oz 6 (vE hV (mR (zp 4) (mR (zp 5) vD)))) (OK (tO P w 1 6) (Gk (C7 P w 1 6) (Ii (OO 2 (mR (zp 6) vD)))) Ig)) Δ' [.im s.dt,Ey P w (Ks.map sk),.ow (Wr.map St.dt),IW (DJ.map kN),.im t.dt,s5,s6]:=fun DJ g2 he=>by
      have Xn:(fY t).length=(kq t).length:=by rw[BX,Ze]
      refine⟨_,rfl,t,rfl,fi,_,rfl,cG (X2 P w n s t DJ k) ⟨Ks,Wr,s5,s6,rfl,g2,tk,fun w hw=>absurd hw Zi,by lia,b5,b6⟩ (fun i d δ3 hi hJ Δ2 HE _=>?_) (fun δ3 hJ=>?_)⟩
      . obtain⟨Ks,Ws,s5,s6,rfl,g,tk,hd,hm,b5,b6⟩:=hJ;rw[BX,Zo] at hi;obtain⟨wd,hw,rfl⟩:=ae1.mp hi;have Ud:=wW (ZT hw);have zS: ∀{K2:List St},(∀u∈Ks,u∈K2)->fX t wd∈K2-> ∀w∈(kq t).take (i+1),fX t w∈K2:=fun h1 h2 w Uz=>by
         rw[List.take_succ,hw] at Uz;rcases Zz.mp Uz with y | y
         . exact h1 _ (hd w y)
         . have:w=wd:=by simpa using y
           rw[this];exact h2
        have k1:=kl g.nd g.fr;refine⟨⟨_,rfl,b5⟩,_,rfl,_,rfl,?_⟩;dsimp only [vD];refine jY fi Ud ⟨⟨_,rfl,b6⟩,?_⟩;refine⟨_,sk (fX t wd),rfl,by rw[AN];rfl,?_⟩;rw[sY fun a b=>AM];cases zR:jc Ks (fX t wd) with
        | true=>exact bD (HE _ ⟨Ks,Ws,.im (.str wd),.im (fX t wd).dt,rfl,g,tk,zS (fun _ z=>z) (gW.mp zR),hm,rfl,rfl⟩)
        | false=>
         have nu:fX t wd∉Ks:=fun z=>by rw[gW.mpr z] at zR;cases zR
         have fu:Fr s (fX t wd):=(g.fr t tk).step Ud;have Uq:(Ks++ [fX t wd]).Nodup:=by rw[<-sS zR];exact xc g.nd
         have UR: ∀u∈Ks++ [fX t wd],Fr s u:=fun u hu=>by
          rcases Zz.mp hu with y | y
          . exact g.fr u y
          . rw[Zl.mp y];exact fu
         have k2:=kl Uq UR;rw[Zy,List.length_singleton] at k2;have w2:(Ws++ [fX t wd]).length=Ws.length+1:=by simp
         have k3:(Ks++ [fX t wd]).length=Ks.length+1:=by simp
         have s1:100000 < sizeLine:=by decide
         refine cF ⟨_,sk (fX t wd),rfl,by rw[AN];rfl,by rw[Ze];lia,?_⟩;rw[sT fun a b=>AM,sS zR];refine⟨⟨_,rfl⟩,_,rfl,_,_,rfl,rfl,by rw[Ze];lia,?_⟩;refine HE _ ⟨Ks++ [fX t wd],Ws++ [fX t wd],.im (.str wd),.im (fX t wd).dt,by rw[ZA (f:=St.dt)];rfl,⟨Uq,UR,ZX _ g.s0,fun u hu=>?_,fun u hu=>?_,g.fs,g.fd⟩,ZX _ tk,zS (fun u z=>ZX _ z) (Zw _ (Zl.mpr rfl)),by lia,rfl,rfl⟩
         . rcases Zz.mp hu with y | y
           . exact ZX _ (g.wk u y)
           . exact Zw _ y
         . rcases Zz.mp hu with y | y
           . rcases g.dn u y with z | z | z
             . exact .inl (ZX _ z)
             . exact .inr (.inl z)
             . exact .inr (.inr ⟨fun w o=>ZX _ (z.1 w o),z.2⟩)
           . exact .inl (Zw _ y)
      . obtain⟨Ks,Ws,s5,s6,rfl,g,tk,hd,hm,b5,b6⟩:=hJ;rw[Xn,ad9] at hd;refine ub _ _ hm ⟨Ks,Ws,DJ, .im t.dt,s5,s6,rfl,⟨g.nd,g.fr,g.s0,g.wk,fun u hu=>?_,g.fs,g.fd⟩,rfl,by lia,rfl,b5,b6⟩;rcases g.dn u hu with z | z | z
        . exact .inl z
        . rw[z];exact .inr (.inr ⟨fun w o=>hd w (i6.mpr o),he⟩)
        . exact .inr (.inr z)
     cases ie:cg t with
     | false=>
      refine⟨_,rfl,t,rfl,fi,false,?_,?_⟩
      . rw[Le ie];rfl
      . exact bD (tl Fs (g1 (fun _ z=>z) g.fd g.fs) fun z=>by rw[ie] at z;cases z)
     | true=>
      refine⟨_,rfl,t,rfl,fi,true,?_,?_⟩
      . rw[xr lv ie];rfl
      . have f1:=fl g.fd g.fs;have s1:100000 < sizeLine:=by decide
        refine cF ⟨⟨_,rfl⟩,_,rfl,t,rfl,fi,kN (jk t),_,?_,rfl,by rw[Ze];lia,?_⟩
        . rw[xr lv ie];exact B6 _
        . rw[sT fun a b=>B7];refine tl _ (g1 (fun h z=>my.mpr (.inl z)) (xc g.fd) fun h hh=>?_) fun _=>my.mpr (.inr rfl);rcases my.mp hh with y | y
          . exact g.fs h y
          . exact⟨t,ft,ie,y.symm⟩
end
end aX
namespace aX
open PySem PySem.Spec L2 LB LD PyProof.Rows t5
noncomputable def gO(R:List (List Nat))(w:Nat->Nat->Wo):Nat->Nat->Wo:=fun i o=>if o∈R.getD (i - 1) [] then w i o else none
def Hw:DN:=fun ds Q=> ∃(n:Nat) (w:Nat->Nat->Wo) (R:List (List Nat)),ds= [eX n w,.lst (R.map lsN)]/\R.length=n/\n<=12/\Q (eX n (gO R w))
noncomputable def kE(es:List Dt):Dt->Dt
 | .tup [.int i,d]=>if inD (.int i) es then d else .aN
 | d=>d
noncomputable def kF:Dt->Dt
 | .tup [.tup ds,.lst es]=> .tup ((br 0 ds).map (kE es))
 | d=>d
theorem Kj{R:List (List Nat)}(h:R.getD (i - 1) []=r):kF (.tup [dD n w i,lsN r])=dD n (gO R w) i:=by
 show Dt.tup ((br 0 ((List.range (n+1)).map fun o=>di (w i o))).map (kE (r.map nI)))=Dt.tup ((List.range (n+1)).map fun o=>di (gO R w i o));congr 1
 apply ae3;intro j;unfold br;rw[Zo,ai7,Zo,Zo];by_cases jl:j < n+1
 . rw[ad0 jl];show some (if inD (.int ((j+0:Nat):Int)) (r.map nI)=true then di (w i j) else .aN)=some (di (if j∈R.getD (i - 1) [] then w i j else none));rw[h,show inD (.int ((j+0:Nat):Int)) (r.map nI)=decide (j∈r) from Ux];by_cases c:j∈r
   . rw[if_pos c,if_pos (ZZ c)]
   . rw[if_neg c,if_neg (by rw[ZO c];decide)];rfl
 . rw[ac2 (by rw[ZN];lia)];rfl
theorem Ki{R:List (List Nat)}(l:R.length=n):(cS ((List.range' 1 n).map (dD n w)) (R.map lsN)).map kF=(List.range' 1 n).map (dD n (gO R w)):=by
 subst l;unfold cS;apply ae3;intro j;rw[Zo,List.getElem?_zipWith,Zo,Zo,Zo];by_cases jl:j < R.length
 . rw[af2 jl,Zg jl];show some (kF (.tup [dD R.length w (1+1*j),lsN R[j]]))=some (dD R.length (gO R w) (1+1*j));rw[Kj (R:=R)];rw[List.getD_eq_getElem?_getD,show 1+1*j - 1=j by lia,Zg jl];rfl
 . rw[ac2 (l:=List.range' 1 R.length) (by rw[ZM];lia)];rfl
theorem D7{R:List (List Nat)}(h:d∈cS ((List.range' 1 n).map (dD n w)) (R.map lsN)): ∃i r,d= .tup [dD n w i,lsN r]:=by
 unfold cS at h;rw[List.zipWith_map] at h;obtain⟨j,hj⟩:=List.getElem?_of_mem h;rw[List.getElem?_zipWith] at hj;split at hj
 . cases hj;exact⟨_,_,rfl⟩
 . cases hj
section
variable{P:Program}{w:World}{K:PySem.W.Frag}{mg:Str->Option Value}{base:Heap}
theorem yx(F:gb K "kept_to" "kept_to" iV f fd)(T:Txt mg):aY P w K mg base eC 1 f fd ["w","lists"] (cM Hw):=by
 refine nP F AU (fun ds Qd h=>?_) (fun bP A outer s H E hr=>⟨_,(aG (aM (jm T.tup (aa (Ov.ev (cD (N:= ["row","ons"]) (nt:=2) (js:= []) ⟨rfl,by decide+kernel,by decide,rfl,by decide+kernel,(by show∀x∈(_:List (Str × NameKind)),x.2=NameKind.free->(af iV).names.lookup x.1=some .cell\/(af iV).names.lookup x.1=some .free;decide+kernel)⟩ rfl (sU (aa (dv 0) (aa (dv 1) ae)) fun z=>lR (by rfl) T.zip z) (fun _ _ _ _ _=>cT rfl (aI (aE (i:=0) (show(["row","ons"]:List Str).Nodup by decide+kernel) rfl (by first | exact Or.inl rfl | exact Or.inr rfl)) (aI (aE (i:=1) (show(["row","ons"]:List Str).Nodup by decide+kernel) rfl (by first | exact Or.inl rfl | exact Or.inr rfl)) bR))) bS bj (fun _ _ _ _ _=>dZ) (fun _ _ _ _ _=>(jm T.tup (aa (Ov.ev (cD (N:= ["on","worth","ons"]) (nt:=2) (js:= [1]) ⟨rfl,by decide+kernel,by decide,rfl,by decide+kernel,(by repeat (first | exact AL | refine wj (by first | exact Or.inl rfl | exact Or.inr rfl) ?_ | refine wm (fun z=>nomatch z) ?_))⟩ rfl (xi T.P5 (aa (dv 0) ae)) (fun _ _ _ _ _=>cT rfl (aI (aE (i:=0) (show(["on","worth","ons"]:List Str).Nodup by decide+kernel) rfl (by first | exact Or.inl rfl | exact Or.inr rfl)) (aI (aE (i:=1) (show(["on","worth","ons"]:List Str).Nodup by decide+kernel) rfl (by first | exact Or.inl rfl | exact Or.inr rfl)) bR))) bS bj (fun _ _ _ _ _=>dZ) (fun _ _ _ _ _=>(fP (Eo (dv 0) (dv 2)) (dv 1) fw)))) ae))))) ae)))),fun ds Qd h=>?_⟩)
 . obtain⟨n,w,R,rfl,_⟩:=h;rfl
 . obtain⟨n,w,R,rfl,l,nB,q⟩:=h;refine⟨_,rfl,_,rfl,true,false,_,_,rfl,?_⟩;have zl:(cS ((List.range' 1 n).map (dD n w)) (R.map lsN)).length<=60:=by
    unfold cS;rw[ah1,Ze,Ze,ZM];lia
   refine⟨ZE zl (by decide),fun _=>true,kF,fun d hd=>?_,?_⟩
   . obtain⟨i,r,rfl⟩:=D7 hd;have rl:(br 0 ((List.range (n+1)).map fun o=>di (w i o))).length=n+1:=by unfold br;rw[ak3,Ze,ZN]
     refine⟨_,_,rfl,⟨_,rfl,rfl⟩,⟨_,rfl,rfl⟩,rfl,fun _=>?_⟩;refine⟨_,rfl,_,rfl,by rw[rl];exact ZE (show n+1<=61 by lia) (by decide),fun _=>true,kE (r.map nI),fun d hd=>?_,?_⟩
     . obtain⟨j,e,he,rfl⟩:=kU hd;refine⟨_,_,rfl,⟨_,rfl,rfl⟩,⟨_,rfl,rfl⟩,rfl,fun _=>?_⟩;have ea:kE (r.map nI) (.tup [.int ((j+0:Nat):Int),e])=if inD (.int ((j+0:Nat):Int)) (r.map nI)=true then e else .aN:=rfl
       refine⟨_,rfl,_,rfl,_,.inl rfl,rfl,?_,_,rfl,?_⟩
       . exact Z4.mpr fun x hx=>by obtain⟨y,_,rfl⟩:=ZF.mp hx;rfl
       . rw[ea];by_cases c:inD (.int ((j+0:Nat):Int)) (r.map nI)=true
         . rw[if_pos c];exact ky c ⟨_,rfl,rfl⟩
         . rw[if_neg c];exact mv c rfl
     . rw[ab1.mpr fun _ _=>rfl];exact⟨_,.inl rfl,rfl⟩
   . rw[ab1.mpr fun _ _=>rfl,Ki l];exact⟨_,.inl rfl,q⟩
end
end aX
namespace aX
open t5
noncomputable def IM(n:Nat):Bool:=(jW n).all (fun g=>decide (g∈en n)) && (en n).all fun g=>decide (g∈jW n)
theorem VP:IM 1=true:=by decide+kernel
theorem VO:IM 2=true:=by decide+kernel
theorem VN:IM 3=true:=by decide+kernel
theorem VM:IM 4=true:=by decide+kernel
theorem VL:IM 5=true:=by decide+kernel
theorem uq(n1:1<=n)(n5:n<=5):g∈jW n↔g∈en n:=by
 have c:IM n=true:=by
  match n,n1,n5 with
  | 1,_,_=>exact VP
  | 2,_,_=>exact VO
  | 3,_,_=>exact VN
  | 4,_,_=>exact VM
  | 5,_,_=>exact VL
 unfold IM at c;rw[aa8] at c;exact⟨fun z=>ZL (Z4.mp c.1 g z),fun z=>ZL (Z4.mp c.2 g z)⟩
theorem sN{R:List (List Nat)}: ∀(h:List Nat) (k:Nat),k+h.length<=R.length->gq (gO R w) (k+1) h=if fits h (R.drop k)=true then gq w (k+1) h else none
 | [],k,_=>by rw[if_pos (by unfold fits;rfl)];rfl
 | x::h,k,l=>by
  have l':k+1+h.length<=R.length:=by rw[ZG] at l;lia
  have kl:k < R.length:=by lia
  have e:R.drop k=R[k]::R.drop (k+1):=(am8 kl)
  have ih:=sN (w:=w) h (k+1) l';rw[gq,gq,ih,e];show ad (if x∈R.getD (k+1 - 1) [] then w (k+1) x else none) _=if (decide (x∈R[k]) && fits h (R.drop (k+1)))=true then _ else _
  rw[show R.getD (k+1 - 1) []=R[k] by rw[List.getD_eq_getElem?_getD,show k+1 - 1=k by lia,Zg kl];rfl];by_cases c:x∈R[k]
  . rw[if_pos c,ZZ c,Bool.true_and];by_cases d:fits h (R.drop (k+1))=true
    . rw[if_pos d,if_pos d]
    . rw[if_neg d,if_neg d];cases w (k+1) x <;> rfl
  . rw[if_neg c,ZO c,Bool.false_and,if_neg (show¬(false=true) by decide)];rfl
noncomputable def cq(w:Nat->Nat->Wo)(a:Option Rs)(h:List Nat):Option Rs:=match jG w h with
 | none=>a
 | some v=>match a with
  | none=>some (v,h)
  | some (u,g)=>if v > u then some (v,h) else a
noncomputable def dA(w:Nat->Nat->Wo)(L:List (List Nat)):Option Rs:=L.foldl (cq w) none
inductive FB(w:Nat->Nat->Wo)(L:List (List Nat)):Option Rs->Prop
 | no (h: ∀g∈L,jG w g=none):FB w L none
 | yes (v:Int) (h:List Nat) (m:h∈L) (e:jG w h=some v) (b: ∀g∈L,∀u,jG w g=some u->u < v\/(u=v/\ez h<=ez g)):FB w L (some (v,h))
theorem F5(i:FB w L a)(r: ∀g∈L,ez g < ez x):FB w (L++ [x]) (cq w a x):=by
 cases e:jG w x with
 | none=>
  rw[show cq w a x=a by unfold cq;rw[e]];cases i with
  | no h=>exact .no fun g m=>(Zz.mp m).elim (h g) fun z=>by rw[Zl.mp z];exact e
  | yes v h m eh b=>exact .yes v h (ZX _ m) eh fun g m u eu=>(Zz.mp m).elim (fun z=>b g z u eu) fun z=>by rw[Zl.mp z,e] at eu;cases eu
 | some v=>
  cases i with
  | no h=>
   rw[show cq w none x=some (v,x) by unfold cq;rw[e]];exact .yes v x (Zw _ Zu) e fun g m u eu=>(Zz.mp m).elim (fun z=>by rw[h g z] at eu;cases eu) fun z=>by
    rw[Zl.mp z] at eu ⊢;rw[e] at eu;cases eu;exact .inr ⟨rfl,Zj _⟩
  | yes u h m eh b=>
   by_cases c:v > u
   . rw[show cq w (some (u,h)) x=some (v,x) by unfold cq;rw[e];exact if_pos c];exact .yes v x (Zw _ Zu) e fun g m y ey=>(Zz.mp m).elim (fun z=>by rcases b g z y ey with q | q <;> exact .inl (by lia)) fun z=>by
      rw[Zl.mp z] at ey ⊢;rw[e] at ey;cases ey;exact .inr ⟨rfl,Zj _⟩
   . rw[show cq w (some (u,h)) x=some (u,h) by unfold cq;rw[e];exact if_neg c];exact .yes u h (ZX _ m) eh fun g mg y ey=>(Zz.mp mg).elim (fun z=>b g z y ey) fun z=>by
      rw[Zl.mp z] at ey ⊢;rw[e] at ey;cases ey;have:=r h m;by_cases d:v < u
      . exact .inl d
      . exact .inr ⟨by lia,by lia⟩
theorem xq: ∀(L P:List (List Nat)) (a:Option Rs),FB w P a->(P++L).Pairwise (fun g h=>ez g < ez h)->FB w (P++L) (L.foldl (cq w) a)
 | [],P,a,i,_=>by rw[ab8];exact i
 | x::L,P,a,i,pw=>by
  have e:P++x::L=(P++ [x])++L:=by rw[Z0];rfl
  rw[e] at pw ⊢;exact xq L (P++ [x]) _ (F5 i fun g m=>(am3.mp (am3.mp pw).1).2.2 g m x Zu) pw
theorem xM{L:List (List Nat)}(pw:L.Pairwise fun g h=>ez g < ez h):FB w L (dA w L):=xq L [] none (.no fun g m=>absurd m Zi) pw
theorem mY: ∀(h:List Nat),code 6 h=((ez h:Nat):Int)
 | []=>rfl
 | x::h=>by
  rw[code,ez,mY h,Int.natCast_add,Int.natCast_mul,Int.natCast_pow]
theorem GD(n5:n<=5){g h:List Nat}(lg:g.length=n)(lh:h.length=n)(bg: ∀x∈g,x<=n)(bh: ∀x∈h,x<=n)(e:ez g<=ez h):code (n+1) g<=code (n+1) h:=by
 refine al4.mp fun z=>?_;have z2:=(mX (lh.trans lg.symm) (fun x hx=>by have:=bh x hx;lia) fun x hx=>by have:=bg x hx;lia).mp z;have z3:=(mX (B:=6) (lh.trans lg.symm) (fun x hx=>by have:=bh x hx;lia) fun x hx=>by have:=bg x hx;lia).mpr z2;rw[mY,mY] at z3;lia
theorem zE(n1:1<=n)(n5:n<=5)(r:Rc n m s)(w:Nat->Nat->Wo):qP n (gO (rows s) w) (dA w (cf n s)):=by
 have rl:(rows s).length=n:=by unfold rows;rw[Ze,ZM];exact r.lv.k.g.l
 have B:=xM (w:=w) (qw (s:=s) n1 n5);have mem: ∀g,g∈cf n s↔g∈jW n/\fits g (rows s)=true:=fun g=>by unfold cf;rw[ag6,uq n1 n5]
 have kw: ∀g,g.length=n->jG (gO (rows s) w) g=if fits g (rows s)=true then jG w g else none:=fun g lg=>by
  have:=sN (w:=w) (R:=rows s) g 0 (by rw[rl,lg];lia);rw[an8] at this;exact this
 generalize dA w (cf n s)=b at B ⊢;cases B with
 | no h=>
  refine .no fun g mg=>?_;rw[kw g (bX mg)];by_cases c:fits g (rows s)=true
  . rw[if_pos c];exact h g ((mem g).mpr ⟨mg,c⟩)
  . rw[if_neg c]
 | yes v h mh e b=>
  obtain⟨mw,fh⟩:=(mem h).mp mh;refine .yes v h mw (by rw[kw h (bX mw),if_pos fh];exact e) fun g mg u eu=>?_;rw[kw g (bX mg)] at eu;by_cases c:fits g (rows s)=true
  . rw[if_pos c] at eu;have mc:=(mem g).mpr ⟨mg,c⟩;rcases b g mc u eu with z | ⟨z1,z2⟩
    . exact .inl z
    . exact .inr ⟨z1,GD n5 (fQ mh).1 (fQ mc).1 (fQ mh).2 (fQ mc).2 z2⟩
  . rw[if_neg c] at eu;cases eu
end aX
namespace aX
open PySem PySem.Spec L2 LB LD PyProof.Rows t5
def Tr:DN:=fun ds Q=> ∃(n m:Nat) (w:Nat->Nat->Wo) (s:St),ds= [eX n w,s.dt]/\Rc n m s/\1<=n/\n<=5/\Sm w/\Q (Hl (dA w (cf n s)))
def T4:DN:=fun ds Q=> ∃(n m:Nat) (w:Nat->Nat->Wo) (s:St),ds= [eX n w,s.dt]/\Rc n m s/\1<=n/\n<=5/\Sm w/\Q (di ((dA w (cf n s)).map (·.1)))
def Ur:DN:=fun ds Q=> ∃(n:Nat) (w:Nat->Nat->Wo) (h:List Nat),ds= [eX n w,mE h]/\h.length=n/\(∀x∈h,x<=n)/\n<=60/\Q (di (jG w h))
def Us:DN:=fun ds Q=> ∃(n:Nat) (w:Nat->Nat->Wo) (L:List (List Nat)),ds= [eX n w,.lst (L.map mE)]/\(∀h∈L,h.length=n/\ ∀x∈h,x<=n)/\n<=12/\Q (Hl (dA w L))
theorem Et(s:Sm w):Sm (gO R w):=fun i o v e=>by
 unfold gO at e;split at e
 . exact s i o v e
 . cases e
section
variable{P:Program}{w:World}{K:PySem.W.Frag}{mg:Str->Option Value}{base:Heap}
theorem pZ(F:gb K "best_still" "best_still" iC f fd)(T:Txt mg)(vS:gk P w K mg base "best_plain" 4 ["w"] (cM Iu))(GU:gk P w K mg base "kept_to" 1 ["w","lists"] (cM Hw))(ny:gk P w K mg base "allowed" 2 ["stand"] (cM Ha)):aY P w K mg base eC 5 f fd ["w","stand"] (cM Tr):=by
 refine nP F rS (fun ds Qd h=>?_) (fun bP A outer s H E hr=>⟨_,(aG (aM (bE vS (hr.mono (by decide)) (aa (bE GU (hr.mono (by decide)) (aa (dv 0) (aa (bE ny (hr.mono (by decide)) (aa (dv 1) ae)) ae))) ae)))),fun ds Qd h=>?_⟩)
 . obtain⟨n,m,w,s,rfl,_⟩:=h;rfl
 . obtain⟨n,m,w,s,rfl,r,n1,n5,sm,q⟩:=h;have rl:(rows s).length=n:=by unfold rows;rw[Ze,ZM];exact r.lv.k.g.l
   refine⟨_,rfl,_,rfl,n,m,s,rfl,r,by lia,n,w,rows s,rfl,rl,by lia,n,gO (rows s) w,rfl,n1,by lia,Et sm,fun z B=>?_⟩;rw[zB B (zE n1 n5 r w)];exact q
theorem BL(F:gb K "still" "still" uM f fd)(T:Txt mg)(iL:gk P w K mg base "best_still" 5 ["w","stand"] (cM Tr)):aY P w K mg base eC 6 f fd ["w","stand"] (cM T4):=by
 refine nP F wq (fun ds Qd h=>?_) (fun bP A outer s H E hr=>⟨_,(aq (cA 2 wq.nd (bE iL (hr.mono (by decide)) (aa (dv 0) (aa (dv 1) ae))))
 (aG (aM (fP (lC (dv 2)) fw (dF (dv 2) aA))))),fun ds Qd h=>?_⟩)
 . obtain⟨n,m,w,s,rfl,_⟩:=h;rfl
 . obtain⟨n,m,w,s,rfl,r,n1,n5,sm,q⟩:=h;refine⟨_,rfl,_,rfl,n,m,w,s,rfl,r,n1,n5,sm,⟨_,rfl,rfl⟩,?_⟩;generalize dA w (cf n s)=b at q ⊢;cases b with
   | none=>exact⟨_,rfl,true,rfl,cF q⟩
   | some b=>exact⟨_,rfl,false,rfl,bD ⟨_,rfl,_,_,_,.inr rfl,rfl,a0 (j:=0) rfl,q⟩⟩
theorem yw(F:gb K "_law_worth" "_law_worth" iU f fd)(T:Txt mg):aY P w K mg base eC 1 f fd ["_law_w","_law_h"] (cM Ur):=by
 refine nP F rR (fun ds Qd h=>?_) (fun bP A outer s H E hr=>⟨_,(aq (Jl 2 rR.nd (N:= ["_law_row","_law_on"]) (nt:=2) (js:= []) ⟨rfl,by decide+kernel,by decide,rfl,by decide+kernel,(by show∀x∈(_:List (Str × NameKind)),x.2=NameKind.free->(af iU).names.lookup x.1=some .cell\/(af iU).names.lookup x.1=some .free;decide+kernel)⟩ rfl (sU (aa (dv 0) (aa (dv 1) ae)) fun z=>lR (by rfl) T.zip z) (fun _ _ _ _ _=>cT rfl (aI (aE (i:=0) (show(["_law_row","_law_on"]:List Str).Nodup by decide+kernel) rfl (by first | exact Or.inl rfl | exact Or.inr rfl)) (aI (aE (i:=1) (show(["_law_row","_law_on"]:List Str).Nodup by decide+kernel) rfl (by first | exact Or.inl rfl | exact Or.inr rfl)) bR))) bS bj (fun _ _ _ _ _=>dZ) (fun _ _ _ _ _=>(dF (dv 0) (dv 1))))
 (aG (oy 2 (aM (fP (Eo fw (dv 2)) fw (HS rfl T.sum (aa (dv 2) ae))))))),fun ds Qd h=>?_⟩)
 . obtain⟨n,w,h,rfl,_⟩:=h;rfl
 . obtain⟨n,w,h,rfl,l,hx,n1,q⟩:=h;subst l;refine⟨_,rfl,_,rfl,true,true,_,_,rfl,?_⟩;have zl:(cS ((List.range' 1 h.length).map (dD h.length w)) (h.map xI)).length<=60:=by
    unfold cS;rw[ah1,Ze,Ze,ZM];lia
   refine⟨ZE zl (by decide),fun _=>true,Ld,fun d hd=>?_,?_⟩
   . obtain⟨j,x,hm,rfl⟩:=uk hd;refine⟨_,_,rfl,⟨_,rfl,rfl⟩,⟨_,rfl,rfl⟩,rfl,fun _=>?_⟩;exact⟨_,rfl,_,rfl,_,_,_,.inr rfl,rfl,lM (hx x hm),by show di (w j x)=(iK _ _).getD _;rw[lM (hx x hm)];rfl⟩
   . rw[ab1.mpr fun _ _=>rfl,pf hx];have tz:=pA (w:=w) (h:=h) (i:=1);rw[show jG w h=gq w 1 h from rfl,<-tz] at q;generalize List.zipWith w (List.range' 1 h.length) h=L at q ⊢;refine⟨⟨_,rfl,rfl⟩,_,rfl,_,rfl,_, .inl rfl,rfl,v8 L,_,rfl,?_⟩;show if inD .aN (L.map di)=true then _ else _
     rw[GZ];by_cases c:none∈L
     . rw[ly c] at q;exact ky (ZZ c) q
     . obtain⟨ns,e1,e2⟩:=lz L c;rw[e2] at q;refine mv (by rw[ZO c];decide) ⟨_,rfl,ns,?_,q⟩;rw[e1,v7]
theorem BN(F:gb K "_law_best" "_law_best" uO f fd)(T:Txt mg)(GQ:gk P w K mg base "_law_worth" 1 ["_law_w","_law_h"] (cM Ur)):aY P w K mg base eC 2 f fd ["_law_w","_law_some"] (cM Us):=by
 refine nP F iS (fun ds Qd h=>?_) (fun bP A outer s H E hr=>⟨_,(aq (cA 2 iS.nd fw)
 (aq (gA rfl (mz (dv 1)) (eS 3 iS.nd)
 (aq (cA 4 iS.nd (bE GQ (hr.mono (by decide)) (aa (dv 0) (aa (dv 3) ae))))
 (aG (eD (PW.pt (w_and (pB (dv 4)) (IQ (PW.pt (w_or (lC (dv 2)) (rp (QQ (dv 4) (dF (dv 2) aA))))))))
 (aG (cA 2 iS.nd (bt (aa (dv 4) (aa (dv 3) ae)))))
 bU))) ac8)
 (aG (aM (dv 2))))),fun ds Qd h=>?_⟩)
 . obtain⟨n,w,L,rfl,_⟩:=h;rfl
 . obtain⟨n,w,L,rfl,ok,nB,q⟩:=h;refine⟨⟨_,rfl,rfl⟩,?_⟩;refine⟨_,rfl,_,rfl,cG (fun i δ=> ∃s3 s4:Sl,δ= [.im (eX n w), .im (.lst (L.map mE)), .im (Hl (dA w (L.take i))),s3,s4]/\s3.bK=false/\s4.bK=false) ⟨.no, .no,rfl,rfl,rfl⟩ (fun i d δ hi hP Δ' ub _=>?_) (fun δ hP=>?_)⟩
   . obtain⟨s3,s4,rfl,b3,b4⟩:=hP;rw[Zo] at hi;obtain⟨h,hh,rfl⟩:=ae1.mp hi;obtain⟨lh,bh⟩:=ok h (ZT hh);have et:dA w (L.take (i+1))=cq w (dA w (L.take i)) h:=by
      unfold dA;rw[ai3,hh,List.foldl_append];rfl
     refine⟨⟨_,rfl,b3⟩,_,rfl,_,rfl,n,w,h,rfl,lh,bh,by lia,⟨_,rfl,b4⟩,?_⟩;generalize dA w (L.take i)=a at et ⊢;have fin: ∀b,dA w (L.take (i+1))=b-> ∀s4:Sl,s4.bK=false->Δ'.nx [.im (eX n w),.im (.lst (L.map mE)),.im (Hl b),.im (mE h),s4]:=fun b e s4 z=>ub _ ⟨_,s4,by rw[e],rfl,z⟩;cases e:jG w h with
     | none=>
      rw[show cq w a h=a by unfold cq;rw[e]] at et;exact⟨_,rfl,false,rfl,bD (bD (fin a et _ rfl))⟩
     | some v=>
      cases a with
      | none=>
       rw[show cq w none h=some (v,h) by unfold cq;rw[e]] at et;exact⟨_,rfl,true,rfl,cF ⟨_,rfl,true,rfl,cF (cF ⟨_,rfl,_,rfl,by show 2<=sizeLine;decide,⟨_,rfl,rfl⟩,fin _ et _ rfl⟩)⟩⟩
      | some a=>
       obtain⟨u,g⟩:=a;refine⟨_,rfl,true,rfl,cF ⟨_,rfl,false,rfl,bD ⟨_,rfl,_,rfl,_,_,_,.inr rfl,rfl,a0 (j:=0) rfl,_,_,rfl,rfl,_,rfl,?_⟩⟩⟩;by_cases c:v > u
       . rw[show cq w (some (u,g)) h=some (v,h) by unfold cq;rw[e];exact if_pos c] at et;exact ky (ZZ c) ⟨_,rfl,_,rfl,by show 2<=sizeLine;decide,⟨_,rfl,rfl⟩,fin _ et _ rfl⟩
       . rw[show cq w (some (u,g)) h=some (u,g) by unfold cq;rw[e];exact if_neg c] at et;exact mv (by rw[ZO c];decide) (fin _ et _ rfl)
   . obtain⟨s3,s4,rfl,b3,b4⟩:=hP;rw[Ze,ad9];exact⟨_,rfl,q⟩
end
end aX
namespace aX
open PySem PySem.Spec L2 LB LD PyProof.Rows
theorem FD{j:Nat}(h:(fY s)[j]?=some d): ∃w,d= .str w/\sr s w=true:=by
 have m:=ZT h;have: ∃w,d= .str w:=by
  unfold fY at m;rcases Zz.mp m with m | m
  . rcases Zz.mp m with m | m
    . cases c:bF s <;> rw[c] at m <;> simp at m;exact⟨_,m⟩
    . cases c:aZ s <;> rw[c] at m <;> simp at m;exact⟨_,m⟩
  . cases c:bb s <;> rw[c] at m <;> simp at m;exact⟨_,m⟩
 obtain⟨w,rfl⟩:=this;refine⟨w,rfl,?_⟩;rw[<-Ce];exact am0.mpr ⟨_,m,beq_self_eq_true _⟩
theorem B5{l:List Dt}(h:0 < l.length):iK l (-1)=some (l[l.length - 1]'(by lia)):=by
 unfold iK w9;rw[if_neg (by decide),if_pos (by lia)];show l[_]?=_;rw[show(-1+(l.length:Int)).toNat=l.length - 1 by lia];exact Zg _
theorem va{l:List Dt}:iK (l++ [x]) (-1)=some x:=by
 rw[B5 (by rw[Zy];show 0 < l.length+1;lia)];congr 1
 have:(l++ [x]).length - 1=l.length:=by rw[Zy];rfl
 simp [this]
def XG(n m:Nat)(t:Int)(i:Nat)(δ:List Sl):Prop:= ∃(s:St) (ws:List Str) (t':Int) (s5 s6:Sl),δ= [.bx t',.im (nI n),.im (nI m),.im s.dt,.ow (ws.map .str),s5,s6]/\s5.bK=false/\s6.bK=false/\(∃k,Rc n k s)/\ws.length<=i/\t'<=t+1+(i:Int)
def As:DB:=fun t ds Q=> ∃n m:Nat,ds= [nI n,nI m]/\1<=n/\n<=12/\m<=40/\t < 900000/\ ∀(s:St) (k:Nat) (ws:List Str) (t':Int),Rc n k s->t'<=t+45->Q (.tup [s.dt,.lst (ws.map .str)]) t'
section
variable{P:Program}{w:World}{K:PySem.W.Frag}{mg:Str->Option Value}{base:Heap}
theorem BI(F:gb K "_law_taken" "_law_taken" pL f fd)(T:Txt mg)(eA:gk P w K mg base "_law_take" 1 ["_law_state","_law_many"] (zM rL))(DE:gk P w K mg base "_law_may" 1 ["_law_stand"] (cM FE))(fC:gk P w K mg base "_law_behind" 1 ["_law_stand","_law_word"] (cM hV)):aY P w K mg base eC 2 f fd ["_law_state","_law_many","_law_most"] (zM As):=by
 refine UT F gx (fun t ds Qd h=>?_) (fun bP A outer s H E hr=>⟨_,(aq (uK 3 4 rfl gx.nd (Cq (bt (aa (bt ae) (aa aA (aa (Li (bt (aa fw ae)) (dv 1)) ae)))) (N6 (j6 ae) xn)))
 (aq (gA rfl (iH T.ig (aa (g0 0 eA (hr.mono (by decide)) (pv 0) (aa (dy (dv 2) aA) ae)) ae)) (eS 5 gx.nd)
 (aq (cA 6 gx.nd (bE DE (hr.mono (by decide)) (aa (dv 3) ae)))
 (aG (eD (Ay hr.ph (dv 6))
 (aq (gB (fA 4 (pv 4) (aa (dF (dv 6) (g0 0 eA (hr.mono (by decide)) (pv 0) (aa (cN T.len (aa (dv 6) ae)) ae))) ae)))
 (aG (cA 3 gx.nd (bE fC (hr.mono (by decide)) (aa (dv 3) (aa (C1 4 (pv 4) (mP aA)) ae))))))
 bU))) ac8)
 (aG (oy 4 (aM (bt (aa (dv 3) (aa (dv 4) ae)))))))),fun t ds Qd h=>?_⟩)
 . obtain⟨n,m,rfl,_⟩:=h;rfl
 . obtain⟨n,m,rfl,n1,nB,Ye,ht,q⟩:=h;refine⟨by show 0<=sizeLine;decide,by show 1<=sizeLine;decide,_,rfl,[.aN],_,rfl,rfl,(by intro z;cases z),by lia,by lia,?_,by show 3<=sizeLine;decide,by show 0<=sizeLine;decide,_,_,rfl,⟨_,rfl,rfl⟩,⟨_,rfl,rfl⟩,?_⟩
   . show 1*((n:Int)).toNat<=sizeLine;exact ZE (show 1*((n:Int)).toNat<=100 by lia) (by decide)
   rw[zd];dsimp only;refine⟨⟨_,rfl⟩,_,rfl,_,_,rfl,rfl,_,rfl,_,rfl,by lia,by lia,by lia,fun v v0 v1=>⟨_,rfl,by lia,by lia,?_⟩⟩;refine cG (XG n m t) ⟨first n,[],t+1,.no,.no,rfl,rfl,rfl,⟨0,.zero⟩,Zj _,by lia⟩ (fun i d δ hi hP Δ' ub HC=>?_) (fun δ hP=>?_)
   . obtain⟨s,ws,t',s5,s6,rfl,b5,b6,⟨k,rc⟩,wl,NR⟩:=hP;have il:i < 41:=by
      have:=(Zq.mp hi).1;rw[Ze,ZN] at this;lia
     have fi:vV s:=rc.lv.k.g.Oe nB (by have:=rc.le n1;lia);refine⟨⟨_,rfl,b5⟩,_,rfl,s,rfl,fi,⟨_,rfl,b6⟩,_,rfl,_,rfl,_,rfl,?_⟩;by_cases c:fY s= []
     . rw[c];exact bD (ub _ ⟨s,ws,t',.im d,.im (.lst []),rfl,rfl,rfl,⟨k,rc⟩,Nat.le_succ_of_le wl,by lia⟩)
     . have l0:0 < (fY s).length:=List.length_pos_iff.mpr c;have l3:=FC (s:=s);refine ky (by show(!(fY s).isEmpty)=true;cases e:fY s with | nil=>exact absurd e c | cons a b=>rfl) ?_;refine⟨⟨_,rfl⟩,_,rfl,⟨_,rfl⟩,_,rfl,_, .inl rfl,_,rfl,_,rfl,by lia,by lia,by lia,fun v v0 v1=>?_⟩;obtain⟨v,rfl⟩: ∃z:Nat,v=(z:Int):=⟨v.toNat,by lia⟩
       have vl:v < (fY s).length:=by lia
       obtain⟨wd,e,ok⟩:=FD (Zg vl);refine⟨_,_,_,.inl rfl,rfl,a0 ((Zg vl).trans (aa6 some e)),_,_,rfl,rfl,?_,?_⟩
       . rw[Ze];exact ZJ (show ws.length < 100 by lia) (by decide)
       refine⟨_,rfl,⟨_,rfl⟩,_,rfl,_,_,_,rfl,rfl,va,?_⟩;show hV [s.dt,.str wd] fun d'=>bC [.bx (t'+1),.im (nI n),.im (nI m),.im s.dt,.ow (ws.map .str++ [.str wd]),.im d,.im (.lst (fY s))] 3/\Δ'.nx [.bx (t'+1),.im (nI n),.im (nI m),.im d',.ow (ws.map .str++ [.str wd]),.im d,.im (.lst (fY s))];refine jY fi ok ⟨⟨_,rfl,rfl⟩,ub _ ⟨fX s wd,ws++ [wd],t'+1,.im d,.im (.lst (fY s)),?_,rfl,rfl,⟨_,rc.step ok⟩,by rw[Zy];show ws.length+1<=_;lia,by lia⟩⟩;rw[ZA];rfl
   . obtain⟨s,ws,t',s5,s6,rfl,b5,b6,⟨k,rc⟩,wl,NR⟩:=hP;rw[Ze,ZN] at wl NR;exact⟨_,rfl,_,rfl,_,rfl,by show 2<=sizeLine;decide,_,rfl,q s k ws t' rc (by lia)⟩
end
end aX
namespace aX
open PySem PySem.Spec L2 LB LD PyProof.Rows t5
noncomputable def G9(r:List Wo):Dt:= .tup (r.map di)
def Vq(n:Nat)(r:List Wo):Prop:=r.length=n+1/\ ∀v,some v∈r->v.natAbs<=2000000000
def Mk(n:Nat)(T:List (List Wo)):Prop:= ∀j r,T[j]?=some r->Vq n r/\r[j+1]?=some none
def Dz(n:Nat)(w:Nat->Nat->Wo):Prop:=(∀i o v,w i o=some v->v.natAbs<=2000000000)/\ ∀i,w i i=none
def Au:DB:=fun t ds Q=> ∃n:Nat,ds= [xI n]/\1<=n/\n<=12/\t+700<=1000000/\ ∀(w:Nat->Nat->Wo) (t':Int),t'<=t+700->Dz n w->Q (eX n w) t'
noncomputable def ye(T:List (List Wo))(i o:Nat):Wo:=match i with
 | 0=>none
 | k+1=>(((T[k]?).getD [])[o]?).join
theorem Jb{T:List (List Wo)}(l:T.length=n)(h:Mk n T): .tup (T.map G9)=eX n (ye T):=by
 unfold eX;congr 1
 refine ae3 fun j=>?_;rw[Zo,Zo];by_cases c:j < n
 . have c':j < T.length:=by lia
   rw[af2 c,Zg c'];show some (G9 T[j])=some (dD n (ye T) (1+1*j));congr 1
   unfold G9 dD;congr 1
   have hr:=(h j _ (Zg c')).1;refine ae3 fun o=>?_;rw[Zo,Zo];by_cases d:o < n+1
   . have d':o < T[j].length:=by rw[hr.1];exact d
     rw[ad0 d,Zg d'];show some (di (T[j])[o])=some (di (ye T (1+1*j) o));rw[show 1+1*j=j+1 by lia];show _=some (di (((T[j]?).getD [])[o]?).join);rw[Zg c'];show _=some (di ((T[j])[o]?).join);rw[Zg d'];rfl
   . rw[ac2 (by rw[hr.1];lia),ac2 (by rw[ZN];lia)];rfl
 . rw[ac2 (by lia),ac2 (by rw[ZM];lia)];rfl
theorem wc(h:ye T i o=some v): ∃k r,i=k+1/\T[k]?=some r/\r[o]?=some (some v):=by
 cases i with
 | zero=>cases h
 | succ k=>
  have h:(((T[k]?).getD [])[o]?).join=some v:=h;cases e:T[k]? with
  | none=>rw[e] at h;cases h
  | some r=>
   rw[e] at h;exact⟨k,r,rfl,e,by
    cases e2:r[o]? with
    | none=>rw[show(some r).getD []=r from rfl,e2] at h;cases h
    | some x=>rw[show(some r).getD []=r from rfl,e2] at h;exact aa6 some h⟩
theorem En(h:Mk n T):Dz n (ye T):=by
 refine⟨fun i o v e=>?_,fun i=>?_⟩
 . obtain⟨k,r,rfl,e1,e2⟩:=wc e;exact(h k r e1).1.2 v (ZT e2)
 . cases e:ye T i i with
   | none=>rfl
   | some v=>
    obtain⟨k,r,rfl,e1,e2⟩:=wc e;rw[(h k r e1).2] at e2;cases e2
theorem Mk.snoc(h:Mk n T)(hr:Vq n r)(he:r[T.length+1]?=some none):Mk n (T++ [r]):=fun j r' e=>by
 by_cases c:j < T.length
 . rw[ZR c] at e;exact h j r' e
 . rw[ZW (by lia)] at e;have:j - T.length=0:=by
    cases z:j - T.length with
    | zero=>rfl
    | succ m=>rw[z] at e;simp at e
   rw[this] at e;cases e;have:j=T.length:=by lia
   subst this;exact⟨hr,he⟩
theorem getNat{r:Int}{m:Nat}(h:0<=r)(h2:r < (m:Int)): ∃k:Nat,r=(k:Int)/\k < m:=⟨r.toNat,by lia,by lia⟩
theorem Q6:((List.range m).map fun k=>Dt.int (0+(k:Nat)))=(List.range m).map xI:=by
 refine ZK fun k _=>?_;show Dt.int _=Dt.int _;congr 1
 lia
def XH(n y b:Nat)(t:Int)(i:Nat)(δ:List Sl):Prop:= ∃(T:List (List Wo)) (t':Int) (s5 s6 s7 s8:Sl),δ= [.bx t',.im (xI n),.im (xI y),.im (xI b),.ow (T.map G9),s5,s6,s7,s8]/\s5.bK=false/\s6.bK=false/\s7.bK=false/\s8.bK=false/\T.length=i/\Mk n T/\t'<=t+2+52*i
def XI(n y b:Nat)(T:List (List Wo))(wd:Nat)(t:Int)(k:Nat)(δ:List Sl):Prop:= ∃(r:List Wo) (t':Int) (s7 s8:Sl),δ= [.bx t',.im (xI n),.im (xI y),.im (xI b),.ow (T.map G9),.im (xI wd),.ow (r.map di),s7,s8]/\s7.bK=false/\s8.bK=false/\r.length=k/\(∀v,some v∈r->v.natAbs<=2000000000)/\(wd < k->r[wd]?=some none)/\t'<=t+4*k
section
variable{P:Program}{w:World}{K:PySem.W.Frag}{mg:Str->Option Value}{base:Heap}
theorem BK(F:gb K "_law_table" "_law_table" pN f fd)(T:Txt mg)(eA:gk P w K mg base "_law_take" 1 ["_law_state","_law_many"] (zM rL)):aY P w K mg base eC 2 f fd ["_law_state","_law_many"] (zM Au):=by
 refine UT F dQ (fun t ds Qd h=>?_) (fun bP A outer s H E hr=>⟨_,(aq (uK 2 3 rfl dQ.nd (Cq (g0 0 eA (hr.mono (by decide)) (pv 0) (aa aA ae)) (Cq (dF (df (aa aA (aa aA (aa aA (aa aA ae))))) (g0 0 eA (hr.mono (by decide)) (pv 0) (aa aA ae))) xn)))
 (aq (jJ 4 dQ.nd (j6 ae))
 (aq (gA rfl (gP T.ig (aa aA (aa (dy (dv 1) aA) ae))) (eS 5 dQ.nd)
 (aq (jJ 6 dQ.nd (j6 ae))
 (aq (gA rfl (iH T.ig (aa (dy (dv 1) aA) ae)) (eS 7 dQ.nd)
 (aq (jJ 8 dQ.nd (j6 (aa (g0 0 eA (hr.mono (by decide)) (pv 0) (aa aA ae)) (aa (iu (g0 0 eA (hr.mono (by decide)) (pv 0) (aa aA ae)) aA) (aa (iu (g0 0 eA (hr.mono (by decide)) (pv 0) (aa (dy (xF aA (HU aA aA)) aA) ae)) (HU aA aA)) (aa aA ae))))))
 (aG (gB (fA 6 (pv 6) (aa (fP (PW.pt (w_or (Ep (dv 7) (dv 5)) (rp (Ep (g0 0 eA (hr.mono (by decide)) (pv 0) (aa (dv 3) ae)) aA)))) fw (C1 8 (pv 8) (dv 2))) ae))))) ac8)
 (aG (gB (fA 4 (pv 4) (aa (CY 6 T.tup (pv 6)) ae)))))) ac8)
 (aG (aM (CY 4 T.tup (pv 4))))))),fun t ds Qd h=>?_⟩)
 . obtain⟨n,rfl,_⟩:=h;rfl
 . obtain⟨n,rfl,n1,nB,ht,q⟩:=h;refine⟨⟨_,rfl⟩,_,rfl,_,rfl,by lia,by decide,by decide,fun y y0 y1=>?_⟩;obtain⟨y,rfl,hy⟩:=getNat (m:=4) y0 y1;refine⟨by show 4<=sizeLine;decide,⟨_,rfl⟩,_,rfl,_,rfl,by lia,by decide,by decide,fun r h0 h1=>?_⟩;obtain⟨z,rfl,hz⟩:=getNat (m:=4) h0 h1;obtain⟨b,em,b1,b9⟩: ∃m:Nat,[Dt.int 9,Dt.int 9,Dt.int 4,Dt.int 2][z]?=some (xI m)/\1<=m/\m<=9:=by
    match z,hz with
    | 0,_=>exact⟨9,rfl,by decide,by decide⟩
    | 1,_=>exact⟨9,rfl,by decide,by decide⟩
    | 2,_=>exact⟨4,rfl,by decide,by decide⟩
    | 3,_=>exact⟨2,rfl,by decide,by decide⟩
   refine⟨_,_,xI b,.inl rfl,rfl,a0 em,_,_,rfl,⟨_,rfl,rfl⟩,⟨_,rfl,rfl⟩,?_⟩;dsimp only;refine⟨by show 0<=sizeLine;decide,⟨_,rfl,rfl⟩,?_⟩;refine⟨_,rfl,_,_,rfl,rfl,1,(n:Int)+1,rfl,⟨by decide,by decide,by lia,by lia⟩,?_⟩;rw[show((n:Int)+1 - 1).toNat=n by lia,MU];refine cG (XH n y b t) ⟨[],_,.no,.no,.no,.no,rfl,rfl,rfl,rfl,rfl,rfl,fun j r hr=>by simp at hr,by lia⟩ (fun i d δ hi hP Δ' ub HC=>?_) (fun δ hP=>?_)
   . obtain⟨t0,t',s5,s6,s7,s8,rfl,b5,b6,b7,b8,tl,tk,NR⟩:=hP;rw[Zo] at hi;obtain⟨wd,RJ,rfl⟩:=ae1.mp hi;have il:i < n:=by have:=(Zq.mp RJ).1;simpa using this
     have ew:wd=i+1:=by
      rw[af2 il] at RJ;have:=Option.some.inj RJ;lia
     subst ew;refine⟨⟨_,rfl,b5⟩,?_⟩;refine⟨by show 0<=sizeLine;decide,⟨_,rfl,b6⟩,?_⟩;refine⟨_,rfl,_,_,rfl,rfl,_,rfl,by lia,by lia,?_⟩;rw[show((n:Int)+1).toNat=n+1 by lia,Q6];refine cG (XI n y b t0 (i+1) t') ⟨[],_,s7,s8,rfl,b7,b8,rfl,fun v hv=>absurd hv Zi,fun z=>absurd z (Nat.not_lt_zero _),by lia⟩ (fun j d δ hj hP Δ2 HE yS=>?_) (fun δ hP=>?_)
     . obtain⟨r,L0,s7,s8,rfl,b7,b8,rl,rb,rn,NQ⟩:=hP;rw[Zo] at hj;obtain⟨on,RU,rfl⟩:=ae1.mp hj;have jl:j < n+1:=by have:=(Zq.mp RU).1;rw[ZN] at this;exact this
       have eo:on=j:=by
        rw[ad0 jl] at RU;exact(Option.some.inj RU).symm
       subst eo;refine⟨⟨_,rfl,b7⟩,?_⟩;dsimp only;refine wo (fun δ=> ∃(u1 u2 u3 t3:Int),u1.natAbs<=2000000000/\u2.natAbs<=2000000000/\u3.natAbs<=2000000000/\t3<=L0+3/\δ= [.bx t3,.im (xI n),.im (xI y),.im (xI b),.ow (t0.map G9),.im (xI (i+1)),.ow (r.map di),.im (xI on),.ow [.int u1,.int u2,.int u3,.int 0]]) (fun Δ3 RY _=>?_) ?_
       . refine⟨⟨_,rfl⟩,_,rfl,_,rfl,by lia,by decide,by decide,fun r1 a1 a2=>⟨⟨_,rfl⟩,_,rfl,_,rfl,by lia,by decide,by decide,fun r2 c1 c2=>⟨_,_,rfl,rfl,?_⟩⟩⟩;have c9:zJ 10 9:=by unfold zJ;decide
         refine⟨⟨_,rfl⟩,_,_,rfl,rfl,c9,_,_,rfl,rfl,(by unfold vW;decide),_,_,rfl,rfl,_,rfl,_,rfl,by lia,by decide,by decide,fun r3 d1 d2=>⟨_,_,rfl,rfl,c9,_,_,rfl,rfl,by show 4<=sizeLine;decide,⟨_,rfl,b8⟩,RY _ ⟨r1,r2 - 9,r3 - 10^9,L0+3,by lia,by lia,?_,ad6 _,?_⟩⟩⟩
         . have e:(2*10^Int.toNat 9+1:Int)=2000000001:=by decide
           rw[e] at d2;have e2:(10^9:Int)=1000000000:=by decide
           rw[e2];lia
         . rw[show L0+1+1+1=L0+3 by lia];rfl
       rintro δ ⟨u1,u2,u3,t3,l1,l2,l3,l4,rfl⟩
       have put: ∀(x:Wo) (t4:Int),t4<=t3+1->(∀v,x=some v->v.natAbs<=2000000000)->(on=i+1->x=none)->Δ2.nx [.bx t4, .im (xI n), .im (xI y), .im (xI b), .ow (t0.map G9), .im (xI (i+1)), .ow (r.map di++ [di x]), .im (xI on), .ow [.int u1, .int u2, .int u3, .int 0]]:=fun x t4 h4 hx hn=>HE _ ⟨r++ [x],t4,_,_,by rw[ZA];rfl,rfl,rfl,by rw[Zy,rl];rfl,fun v hv=>(Zz.mp hv).elim (rb v) fun z=>hx v (Zl.mp z).symm,fun z=>by
         by_cases c:i+1 < on
         . rw[ZR (by rw[rl];exact c)];exact rn c
         . have e:on=i+1:=by lia
           rw[ZW (by lia),rl,e,Nat.sub_self,hn e];rfl,by lia⟩
       have rs:(r.map di).length < sizeLine:=by rw[Ze];exact ZJ (show r.length < 100 by lia) (by decide)
       refine⟨⟨_,rfl⟩,_,rfl,_,rfl,_,Lc,_,rfl,?_⟩;by_cases c:on=i+1
       . exact ky (ZZ c) (cF ⟨_,_,rfl,rfl,rs,put none t3 (by lia) (fun _ z=>nomatch z) fun _=>rfl⟩)
       . refine mv (fun z=>c (ZL z)) ⟨⟨_,rfl⟩,_,rfl,_,rfl,_,rfl,by lia,by lia,by lia,fun v v0 v1=>⟨_,rfl,_,rfl,?_⟩⟩;by_cases g:v=0
         . exact ky (ZZ g) ⟨_,_,rfl,rfl,rs,put none (t3+1) (by lia) (fun _ z=>nomatch z) fun _=>rfl⟩
         . refine mv (fun z=>g (ZL z)) ⟨⟨_,rfl⟩,_,rfl,?_⟩;match y,hy with
           | 0,_=>exact⟨_,_,_,rfl,rfl,a0 (j:=0) rfl,_,_,rfl,rfl,rs,put (some u1) (t3+1) (by lia) (fun _ z=>by cases z;exact l1) fun z=>absurd z c⟩
           | 1,_=>exact⟨_,_,_,rfl,rfl,a0 (j:=1) rfl,_,_,rfl,rfl,rs,put (some u2) (t3+1) (by lia) (fun _ z=>by cases z;exact l2) fun z=>absurd z c⟩
           | 2,_=>exact⟨_,_,_,rfl,rfl,a0 (j:=2) rfl,_,_,rfl,rfl,rs,put (some u3) (t3+1) (by lia) (fun _ z=>by cases z;exact l3) fun z=>absurd z c⟩
           | 3,_=>exact⟨_,_,_,rfl,rfl,a0 (j:=3) rfl,_,_,rfl,rfl,rs,put (some 0) (t3+1) (by lia) (fun _ z=>by cases z;decide) fun z=>absurd z c⟩
     . obtain⟨r,L0,s7,s8,rfl,b7,b8,rl,rb,rn,NQ⟩:=hP;rw[Ze,ZN] at rn NQ rl;refine⟨⟨_,rfl⟩,_,rfl,_,_,rfl,rfl,?_,ub _ ⟨t0++ [r],L0, .im (xI (i+1)), .ow (r.map di),s7,s8,?_,rfl,rfl,b7,b8,by rw[Zy,tl];rfl,tk.snoc ⟨rl,rb⟩ (by rw[tl];exact rn (by lia)),by lia⟩⟩
       . rw[Ze,tl];exact ZJ (show i < 100 by lia) (by decide)
       . rw[ZA];rfl
   . obtain⟨t0,t',s5,s6,s7,s8,rfl,b5,b6,b7,b8,tl,tk,NR⟩:=hP;rw[Ze,ZM] at tl NR;refine⟨_,rfl,_,rfl,?_⟩;show Qd (.tup (t0.map G9)) t';rw[Jb tl tk];exact q _ t' (by lia) (En tk)
end
end aX
namespace aX
open PySem PySem.Spec L2 LB LD PyProof.Rows
def P0(d:Dt):Prop:=d= .aN\/ ∃i:Int,d= .int i
def wy(p:Dt->Prop):DN:=fun ds Q=> ∃d,ds= [d,d]/\p d/\Q (.bl true)
section
variable{P:Program}{w:World}{K:PySem.W.Frag}{mg:Str->Option Value}{base:Heap}
theorem BM(F:gb K "_law_same" "_law_same" gG f fd)(T:Txt mg):aY P w K mg base eC 1 f fd ["_law_found","_law_due"] (cM (wy P0)):=by
 refine nP F wu (fun ds Qd h=>?_) (fun bP A outer s H E hr=>⟨_,(aq (eD (lC (dv 1))
 (aG (aM (HW (dv 0))))
 bU)
 (aq (eD (mN (cm (T:="bool") (by decide) T.nC (au (dv 1) (au (aU (v:= .ty "bool") (by rfl) T.bool cU rfl) aL))))
 (aG (aM (g6 (cm (T:="bool") (by decide) T.nC (au (dv 0) (au (aU (v:= .ty "bool") (by rfl) T.bool cU rfl) aL))) (jo (tN (dv 0) (dv 1))))))
 bU)
 (aq (eD (mN (C2 (dv 1) T.nC T.lst T.tup))
 (aq (eD (PW.pt (w_or (uw (cm (T:="list") (by decide) T.nC (au (dv 0) (au (aU (v:= .ty "list") (by rfl) T.lst bN rfl) aL))) (cm (T:="list") (by decide) T.nC (au (dv 1) (au (aU (v:= .ty "list") (by rfl) T.lst bN rfl) aL)))) (rp (uw (cm (T:="tuple") (by decide) T.nC (au (dv 0) (au (aU (v:= .ty "tuple") (by rfl) T.tup bM rfl) aL))) (cm (T:="tuple") (by decide) T.nC (au (dv 1) (au (aU (v:= .ty "tuple") (by rfl) T.tup bM rfl) aL)))))))
 (aG (aM zo))
 bU)
 (aG (aM (g6 (tN (cN T.len (aa (dv 0) ae)) (cN T.len (aa (dv 1) ae))) (jo (HY rfl T.all (aa (Ov.ev (cD (N:= ["_law_one","_law_other"]) (nt:=2) (js:= []) ⟨rfl,by decide+kernel,by decide,rfl,by decide+kernel,(by show∀x∈(_:List (Str × NameKind)),x.2=NameKind.free->(af gG).names.lookup x.1=some .cell\/(af gG).names.lookup x.1=some .free;decide+kernel)⟩ rfl (sU (aa (dv 0) (aa (dv 1) ae)) fun z=>lR (by rfl) T.zip z) (fun _ _ _ _ _=>cT rfl (aI (aE (i:=0) (show(["_law_one","_law_other"]:List Str).Nodup by decide+kernel) rfl (by first | exact Or.inl rfl | exact Or.inr rfl)) (aI (aE (i:=1) (show(["_law_one","_law_other"]:List Str).Nodup by decide+kernel) rfl (by first | exact Or.inl rfl | exact Or.inr rfl)) bR))) bS bj (fun _ _ _ _ _=>dZ) (fun _ _ _ _ _=>Gh))) ae)))))))
 bU)
 (aq (eD (mN (cm (T:="str") (by decide) T.nC (au (dv 1) (au (aU (v:= .ty "str") (by rfl) T.str fB rfl) aL))))
 (aG (aM (g6 (cm (T:="str") (by decide) T.nC (au (dv 0) (au (aU (v:= .ty "str") (by rfl) T.str fB rfl) aL))) (jo (tN (dv 0) (dv 1))))))
 bU)
 (aG (aM (g6 (cm (T:="int") (by decide) T.nC (au (dv 0) (au (aU (v:= .ty "int") (by rfl) T.int jT rfl) aL))) (g6 (HV (cm (T:="bool") (by decide) T.nC (au (dv 0) (au (aU (v:= .ty "bool") (by rfl) T.bool cU rfl) aL)))) (jo (tN (dv 0) (dv 1))))))))))),fun ds Qd h=>?_⟩)
 . obtain⟨d,rfl,_⟩:=h;rfl
 . obtain⟨d,rfl,a,q⟩:=h;rcases a with rfl | ⟨i,rfl⟩
   . exact⟨_,rfl,_,rfl,cF ⟨_,rfl,q⟩⟩
   . refine⟨_,rfl,_,rfl,bD ⟨_,rfl,_,rfl,_,rfl,bD ⟨_,rfl,_,rfl,_,rfl,bD ⟨_,rfl,_,rfl,_,rfl,bD ?_⟩⟩⟩⟩;exact⟨_,rfl,_,rfl,_,rfl,cF ⟨_,rfl,_,rfl,_,rfl,_,rfl,cF ⟨_,rfl,_,rfl,true,(show some (decide _)=some true from aa6 some (ZZ rfl)),q⟩⟩⟩
end
end aX
namespace aX
open PySem PySem.Spec L2 LB LD PyProof.Rows t5
def GO(p:Dt->Prop)(d:Dt):Prop:=P0 d\/ ∃es:List Dt,(d= .lst es\/d= .tup es)/\es.length<=60/\ ∀e∈es,p e
theorem Rc.on(n1:1<=n)(h:Rc n m s): ∀x,some x∈s.cc->x<=n:=by
 induction h with
 | zero=>intro x hx;have:=an5 hx;cases this
 | step h o ih=>
  rename_i m s w;have g:=h.lv.k.g;have uv: ∀on,on<=n-> ∀x,some x∈(s.uv on).cc->x<=n:=fun on ho x hx=>by
   rcases List.mem_or_eq_of_mem_set hx with z | z
   . exact ih x z
   . cases z;exact ho
  rcases cZ o with ⟨rfl,c',e⟩ | ⟨rfl,c',e⟩ | ⟨rfl,c',e⟩ <;> rw[e]
  . exact ih
  . refine uv _ ?_;unfold aZ at c';rw[aa8] at c';have:=ZL c'.1;rw[g.l] at this;exact this
  . refine uv _ ?_;rw[ag2];cases e2:s.aF.dropLast.getLast? with
    | none=>exact n1
    | some x=>exact(g.ig x ((al2 _).subset (List.mem_of_getLast? e2))).2
theorem SI:eq2 (.str x) (.str x)=some true:=by
 show some (decide (x=x))=some true;rw[ZZ rfl]
theorem u9(h:x<=20):LD.Lv 0 200 (nI x):=⟨af8 (show((x:Int)).natAbs<=20 by lia) (by decide),Zj _⟩
theorem Nw{w:Nat->Nat->Wo}(h: ∀i o v,w i o=some v->v.natAbs<=2000000000)(i o:Nat):LD.Lv 0 200 (di (w i o)):=by
 refine⟨?_,Zj _⟩;cases c:w i o with
 | none=>exact trivial
 | some v=>exact af8 (h i o v c) (by decide)
theorem J5(n5:n<=5)(h: ∀i o v,w i o=some v->v.natAbs<=2000000000):LD.Lv 2 6088 (eX n w):= .inr ⟨_,5,1215,.inr rfl,by rw[Ze,ZM];exact n5,by decide,fun e he=>by
 obtain⟨i,_,rfl⟩:=ZF.mp he;refine .inr ⟨_,6,200,.inr rfl,by rw[Ze,ZN];lia,by decide,fun e he=>?_⟩;obtain⟨o,_,rfl⟩:=ZF.mp he;exact Nw h i o⟩
theorem Nx(n1:1<=n)(n5:n<=5)(r:Rc n m s):LD.Lv 2 6088 s.dt:=by
 have g:=r.lv.k.g;have pl:s.aF.length<=9:=by have:=r.le n1;have:=g.p;lia
 refine .inr ⟨_,3,1821,.inr rfl,Zj 3,by decide,?_⟩;refine ac9.mpr ⟨.inr ⟨_,9,200,.inr rfl,by rw[Ze];exact pl,by decide,fun e he=>?_⟩,ac9.mpr ⟨.inl (LD.Lv.w (u9 (by have:=r.lv.k.bl;lia)) (by decide)),ac9.mpr ⟨.inr ⟨_,9,200,.inr rfl,by rw[Ze,g.l];lia,by decide,fun e he=>?_⟩,fun e he=>absurd he Zi⟩⟩⟩
 . obtain⟨x,hx,rfl⟩:=ZF.mp he;exact u9 (by have:=(g.ig x hx).2;lia)
 . obtain⟨x,hx,rfl⟩:=ZF.mp he;cases x with
   | none=>exact⟨trivial,Zj _⟩
   | some x=>exact u9 (by have:=r.on n1 x hx;lia)
theorem J6(n1:1<=n)(n5:n<=5)(r:Rc n m s)(h: ∀i o v,w i o=some v->v.natAbs<=2000000000):LD.Lv 9 12183 (.lst [eX n w,s.dt]):=by
 have:LD.Lv 3 12183 (.lst [eX n w,s.dt]):= .inr ⟨_,2,6088,.inl rfl,Zj 2,by decide,ac9.mpr ⟨J5 n5 h,ac9.mpr ⟨Nx n1 n5 r,fun e he=>absurd he Zi⟩⟩⟩;exact this.le (by decide)
theorem AI(h:Dz n w):Sm w:=fun i o v e=>by have:=h.1 i o v e;lia
theorem Nd(x:Wo):P0 (di x):=by
 cases x with
 | none=>exact .inl rfl
 | some v=>exact .inr ⟨v,rfl⟩
theorem Mv(h: ∀v g,b=some (v,g)->g.length<=60):GO (GO P0) (Hl b):=by
 cases b with
 | none=>exact .inl (.inl rfl)
 | some b=>
  obtain⟨v,g⟩:=b;exact .inr ⟨_,.inr rfl,by show 2<=60;decide,ac9.mpr ⟨.inl (.inr ⟨v,rfl⟩),ac9.mpr ⟨.inr ⟨_,.inr rfl,by rw[Ze];exact h v g rfl,fun e he=>by obtain⟨x,_,rfl⟩:=ZF.mp he;exact .inr ⟨_,rfl⟩⟩,fun e he=>absurd he Zi⟩⟩⟩
inductive qM:Sl->Prop
 | no:qM .no
 | im (d:Dt):qM (.im d)
theorem qM.nb(h:qM s):s.bK=false:=by cases h <;> rfl
inductive TM(i:Nat)(δ:List Sl):Prop
 | mk (t:Int) (s2 s3 s4 s5 s6 s7 s8 s9 fb:Sl) (e:δ= [.no,.bx t,s2,s3,s4,s5,s6,s7,s8,s9,fb]) (ht:t<=1500*(i:Int)) (b2:qM s2) (b3:qM s3) (b4:qM s4) (b5:qM s5) (b6:qM s6) (b7:qM s7) (b8:qM s8) (b9:qM s9) (tV:qM fb)
inductive X7(t:Int)(d2 d3 d4 d5:Dt)(j:Nat)(δ:List Sl):Prop
 | mk (u:Int) (s6 s7 s8 s9 fb:Sl) (e:δ= [.no,.bx u,.im d2,.im d3,.im d4,.im d5,s6,s7,s8,s9,fb]) (ht:u<=t+700*(j:Int)) (b6:qM s6) (b7:qM s7) (b8:qM s8) (b9:qM s9) (tV:qM fb)
section
variable{P:Program}{w:World}{K:PySem.W.Frag}{mg:Str->Option Value}{base:Heap}
theorem lZ(F:gb K "_law_same" "_law_same" gG f fd)(T:Txt mg)(vR:gk P w K mg base "_law_same" (k+1) ["_law_found","_law_due"] (cM (wy p))):aY P w K mg base eC (k+2) f fd ["_law_found","_law_due"] (cM (wy (GO p))):=by
 refine nP F wu (fun ds Qd h=>?_) (fun bP A outer s H E hr=>⟨_,(aq (eD (lC (dv 1))
 (aG (aM (HW (dv 0))))
 bU)
 (aq (eD (mN (cm (T:="bool") (by decide) T.nC (au (dv 1) (au (aU (v:= .ty "bool") (by rfl) T.bool cU rfl) aL))))
 (aG (aM (g6 (cm (T:="bool") (by decide) T.nC (au (dv 0) (au (aU (v:= .ty "bool") (by rfl) T.bool cU rfl) aL))) (jo (tN (dv 0) (dv 1))))))
 bU)
 (aq (eD (mN (C2 (dv 1) T.nC T.lst T.tup))
 (aq (eD (PW.pt (w_or (uw (cm (T:="list") (by decide) T.nC (au (dv 0) (au (aU (v:= .ty "list") (by rfl) T.lst bN rfl) aL))) (cm (T:="list") (by decide) T.nC (au (dv 1) (au (aU (v:= .ty "list") (by rfl) T.lst bN rfl) aL)))) (rp (uw (cm (T:="tuple") (by decide) T.nC (au (dv 0) (au (aU (v:= .ty "tuple") (by rfl) T.tup bM rfl) aL))) (cm (T:="tuple") (by decide) T.nC (au (dv 1) (au (aU (v:= .ty "tuple") (by rfl) T.tup bM rfl) aL)))))))
 (aG (aM zo))
 bU)
 (aG (aM (g6 (tN (cN T.len (aa (dv 0) ae)) (cN T.len (aa (dv 1) ae))) (jo (HY rfl T.all (aa (Ov.ev (cD (N:= ["_law_one","_law_other"]) (nt:=2) (js:= []) ⟨rfl,by decide+kernel,by decide,rfl,by decide+kernel,(by show∀x∈(_:List (Str × NameKind)),x.2=NameKind.free->(af gG).names.lookup x.1=some .cell\/(af gG).names.lookup x.1=some .free;decide+kernel)⟩ rfl (sU (aa (dv 0) (aa (dv 1) ae)) fun z=>lR (by rfl) T.zip z) (fun _ _ _ _ _=>cT rfl (aI (aE (i:=0) (show(["_law_one","_law_other"]:List Str).Nodup by decide+kernel) rfl (by first | exact Or.inl rfl | exact Or.inr rfl)) (aI (aE (i:=1) (show(["_law_one","_law_other"]:List Str).Nodup by decide+kernel) rfl (by first | exact Or.inl rfl | exact Or.inr rfl)) bR))) bS bj (fun _ _ _ _ _=>dZ) (fun _ _ _ _ _=>(bE vR (hr.mono (Zj _)) (aa (dv 0) (aa (dv 1) ae)))))) ae)))))))
 bU)
 (aq (eD (mN (cm (T:="str") (by decide) T.nC (au (dv 1) (au (aU (v:= .ty "str") (by rfl) T.str fB rfl) aL))))
 (aG (aM (g6 (cm (T:="str") (by decide) T.nC (au (dv 0) (au (aU (v:= .ty "str") (by rfl) T.str fB rfl) aL))) (jo (tN (dv 0) (dv 1))))))
 bU)
 (aG (aM (g6 (cm (T:="int") (by decide) T.nC (au (dv 0) (au (aU (v:= .ty "int") (by rfl) T.int jT rfl) aL))) (g6 (HV (cm (T:="bool") (by decide) T.nC (au (dv 0) (au (aU (v:= .ty "bool") (by rfl) T.bool cU rfl) aL)))) (jo (tN (dv 0) (dv 1))))))))))),fun ds Qd h=>?_⟩)
 . obtain⟨d,rfl,_⟩:=h;rfl
 . obtain⟨d,rfl,a,q⟩:=h;rcases a with a | ⟨es,hd,el,pe⟩
   . rcases a with rfl | ⟨i,rfl⟩
     . exact⟨_,rfl,_,rfl,cF ⟨_,rfl,q⟩⟩
     . refine⟨_,rfl,_,rfl,bD ⟨_,rfl,_,rfl,_,rfl,bD ⟨_,rfl,_,rfl,_,rfl,bD ⟨_,rfl,_,rfl,_,rfl,bD ?_⟩⟩⟩⟩;exact⟨_,rfl,_,rfl,_,rfl,cF ⟨_,rfl,_,rfl,_,rfl,_,rfl,cF ⟨_,rfl,_,rfl,true,(show some (decide _)=some true from aa6 some (ZZ rfl)),q⟩⟩⟩
   rcases hd with rfl | rfl
   . refine⟨_,rfl,_,rfl,bD ⟨_,rfl,_,rfl,_,rfl,bD ⟨_,rfl,_,rfl,_,rfl,cF ?_⟩⟩⟩;refine⟨_,rfl,_,rfl,_,rfl,_,rfl,true,rfl,_,rfl,bD ⟨_,rfl,_,rfl,_,rfl,_,rfl,true,rfl,_,rfl,bD ?_⟩⟩;refine⟨_,rfl,_, .inl rfl,_,rfl,_, .inl rfl,true,Lc.trans (by simp),_,rfl,cF ?_⟩;refine⟨_,rfl,_,rfl,false,false,_,_,rfl,?_,fun _=>true,fun _=> .bl true,fun e he=>?_,?_⟩
     . unfold cS;rw[ah1,Nat.min_self];exact ZE el (by decide)
     . obtain⟨i,hi,ei⟩:=aa5 he;unfold cS at hi ei;rw[List.getElem_zipWith] at ei;subst ei;exact⟨_,_,rfl,⟨_,rfl,rfl⟩,⟨_,rfl,rfl⟩,rfl,fun _=>⟨_,rfl,_,rfl,_,rfl,pe _ (ae9 _),rfl⟩⟩
     . refine⟨List.replicate (cS es es).length true,?_,?_⟩
       . rw[ab1.mpr (fun _ _=>rfl),List.map_replicate];congr 2
         exact List.eq_replicate_iff.mpr ⟨by rw[Ze],fun b hb=>by obtain⟨_,_,rfl⟩:=ZF.mp hb;rfl⟩
       rw[show(List.replicate (cS es es).length true).all id=true from Z4.mpr fun b hb=>(an5 hb)];exact q
   . refine⟨_,rfl,_,rfl,bD ⟨_,rfl,_,rfl,_,rfl,bD ⟨_,rfl,_,rfl,_,rfl,cF ?_⟩⟩⟩;refine⟨_,rfl,_,rfl,_,rfl,_,rfl,true,rfl,_,rfl,bD ⟨_,rfl,_,rfl,_,rfl,_,rfl,true,rfl,_,rfl,bD ?_⟩⟩;refine⟨_,rfl,_, .inr rfl,_,rfl,_, .inr rfl,true,Lc.trans (by simp),_,rfl,cF ?_⟩;refine⟨_,rfl,_,rfl,true,true,_,_,rfl,?_,fun _=>true,fun _=> .bl true,fun e he=>?_,?_⟩
     . unfold cS;rw[ah1,Nat.min_self];exact ZE el (by decide)
     . obtain⟨i,hi,ei⟩:=aa5 he;unfold cS at hi ei;rw[List.getElem_zipWith] at ei;subst ei;exact⟨_,_,rfl,⟨_,rfl,rfl⟩,⟨_,rfl,rfl⟩,rfl,fun _=>⟨_,rfl,_,rfl,_,rfl,pe _ (ae9 _),rfl⟩⟩
     . refine⟨List.replicate (cS es es).length true,?_,?_⟩
       . rw[ab1.mpr (fun _ _=>rfl),List.map_replicate];congr 2
         exact List.eq_replicate_iff.mpr ⟨by rw[Ze],fun b hb=>by obtain⟨_,_,rfl⟩:=ZF.mp hb;rfl⟩
       rw[show(List.replicate (cS es es).length true).all id=true from Z4.mpr fun b hb=>(an5 hb)];exact q
theorem JU(F:gb K "law" "law" Jm f fd)(T:Txt mg)(NB:gk P w K mg base "_law_begin" 1 ["_law_script"] (pD K))(eA:gk P w K mg base "_law_take" 1 ["_law_state","_law_many"] (zM rL))(GR:gk P w K mg base "_law_taken" 2 ["_law_state","_law_many","_law_most"] (zM As))(LQ:gk P w K mg base "_law_ends" 2 ["_law_stand"] (cM HN))(GS:gk P w K mg base "_law_table" 2 ["_law_state","_law_many"] (zM Au))(LR:gk P w K mg base "_law_best" 2 ["_law_w","_law_some"] (cM Us))(iL:gk P w K mg base "best_still" 5 ["w","stand"] (cM Tr))(LP:gk P w K mg base "still" 6 ["w","stand"] (cM T4))(vR:gk P w K mg base "_law_same" 4 ["_law_found","_law_due"] (cM (wy (GO (GO (GO P0)))))):
  aY P w K mg base eC 7 f fd ["_law_script"] (rO K):=by
 refine NA F ip (by decide) (fun bP A outer s H E hr=>⟨_,_,_,rfl,dj (i:=1) ip.nd rfl (Or.inl rfl) (pW NB (hr.mono (by decide)) rfl (au (pv 0) aL)),(aq (gA rfl (iH T.ig (aa aA ae)) (eS 2 ip.nd)
 (aq (cA 3 ip.nd (dy aA (g0 1 eA (hr.mono (by decide)) (pv 1) (aa aA ae))))
 (aq (cA 4 ip.nd (dF (g0 1 GR (hr.mono (by decide)) (pv 1) (aa (dv 3) (aa aA ae))) aA))
 (aq (cA 5 ip.nd (bE LQ (hr.mono (by decide)) (aa (dv 4) ae)))
 (aG (gA rfl (iH T.ig (aa aA ae)) (eS 6 ip.nd)
 (aq (cA 7 ip.nd (g0 1 GS (hr.mono (by decide)) (pv 1) (aa (dv 3) ae)))
 (aq (uK 8 9 rfl ip.nd (Cq (bE LR (hr.mono (by decide)) (aa (dv 7) (aa (dv 5) ae))) (Cq (CZ hr T.str (aa (df (aa (dv 7) (aa (dv 4) ae))) ae)) xn)))
 (aq (gA rfl (iH T.ig (aa aA ae)) (eS 10 ip.nd)
 (aG (eD (Mw (mN (bE vR (hr.mono (by decide)) (aa (df (aa (bE iL (hr.mono (by decide)) (aa (dv 7) (aa (dv 4) ae))) (aa (bE LP (hr.mono (by decide)) (aa (dv 7) (aa (dv 4) ae))) ae))) (aa (df (aa (dv 8) (aa (fP (lC (dv 8)) fw (dF (dv 8) aA)) ae))) ae)))))
 (aG (aM zo))
 bU)) ac8)
 (aG (eD (uw (CZ hr T.str (aa (df (aa (dv 7) (aa (dv 4) ae))) ae)) (dv 9))
 (aG (aM zo))
 bU))))) ac8))))) ac8)
 (aG (aM zo))),?_⟩)
 refine⟨_,rfl,by decide,by decide,cG TM ⟨0,.no,.no,.no,.no,.no,.no,.no,.no,.no,rfl,by decide,.no,.no,.no,.no,.no,.no,.no,.no,.no⟩ (fun i d δ hi hP Δ' ub _=>?_) (fun δ hP=>?_)⟩
 . obtain⟨tt,s2,s3,s4,s5,s6,s7,s8,s9,fb,rfl,ht,b2,b3,b4,b5,b6,b7,b8,b9,tV⟩:=hP;have il:i < 6:=by have:=(Zq.mp hi).1;simpa using this
   refine⟨⟨_,rfl,b2.nb⟩,?_⟩;dsimp only;refine wo (fun δ'=> ∃n:Nat,1<=n/\n<=5/\δ'= [.no,.bx (tt+1),.im d,.im (xI n),s4,s5,s6,s7,s8,s9,fb]) (fun Δ0 PU _=>?_) ?_
   . refine⟨⟨_,rfl⟩,_,rfl,_,rfl,by lia,by decide,by decide,fun r r0 r1=>⟨_,_,rfl,rfl,⟨_,rfl,b3.nb⟩,?_⟩⟩;obtain⟨r,rfl,yS⟩:=getNat (m:=5) r0 r1;refine PU _ ⟨1+r,by lia,by lia,?_⟩;rw[show(xI (1+r):Dt)= .int (1+(r:Int)) by show Dt.int _=Dt.int _;congr 1];rfl
   rintro δ ⟨n,n1,n5,rfl⟩
   refine⟨⟨_,rfl⟩,_,rfl,_,rfl,n,9,rfl,n1,by lia,by decide,by lia,fun s k ws t1 rc Yn=>⟨_,_,_,.inr rfl,rfl,a0 (j:=0) rfl,⟨_,rfl,b4.nb⟩,?_⟩⟩;refine⟨_,rfl,n,k,s,rfl,rc,n1,n5,⟨_,rfl,b5.nb⟩,?_⟩;refine⟨_,rfl,by decide,by decide,cG (X7 t1 d (xI n) s.dt (.lst ((cf n s).map rH))) ⟨t1,s6,s7,s8,s9,fb,rfl,by lia,b6,b7,b8,b9,tV⟩ (fun j e δ hj hP Δ2 HE _=>?_) (fun δ hP=>?_)⟩
   . obtain⟨u,s6,s7,s8,s9,fb,rfl,hu,b6,b7,b8,b9,tV⟩:=hP;have jl:j < 2:=by have:=(Zq.mp hj).1;simpa using this
     refine⟨⟨_,rfl,b6.nb⟩,?_⟩;refine⟨⟨_,rfl⟩,_,rfl,_,rfl,n,rfl,n1,by lia,by lia,fun w t2 Ym ok=>⟨⟨_,rfl,b7.nb⟩,?_⟩⟩;have lv:=J6 n1 n5 rc ok.1;have hc: ∀h∈cf n s,h.length=n/\ ∀x∈h,x<=n:=fun h hh=>fQ hh;refine⟨_,rfl,_,rfl,n,w,cf n s,rfl,hc,by lia,?_⟩;refine⟨_,rfl,_,rfl,by show 2<=sizeLine;decide,_,_,rfl,lv,by decide,_,_,rfl,⟨_,rfl,b8.nb⟩,⟨_,rfl,b9.nb⟩,?_⟩;have hb: ∀v g,dA w (cf n s)=some (v,g)->g.length<=60:=fun v g e=>by
      have B:=xM (w:=w) (qw (s:=s) n1 n5);rw[e] at B;cases B with
      | yes _ _ m _ _=>rw[(hc g m).1];lia
     have up:=Mv hb;refine⟨_,rfl,by decide,by decide,cG (fun _ δ=> ∃fb,δ= [.no,.bx t2,.im d,.im (xI n),.im s.dt,.im (.lst ((cf n s).map rH)),.im e,.im (eX n w),.im (Hl (dA w (cf n s))),.im (.str (Jh (.lst [eX n w,s.dt]))),fb]/\qM fb) ⟨fb,rfl,tV⟩ (fun l e2 δ hl hP Δ3 RY _=>?_) (fun δ hP=>?_)⟩
     . obtain⟨fb,rfl,tV⟩:=hP;refine⟨⟨_,rfl,tV.nb⟩,?_⟩;refine⟨_,rfl,_,rfl,n,k,w,s,rfl,rc,n1,n5,AI ok,_,rfl,_,rfl,n,k,w,s,rfl,rc,n1,n5,AI ok,by show 2<=sizeLine;decide,?_⟩;have fin:=RY _ ⟨.im e2,rfl, .im e2⟩;generalize dA w (cf n s)=b at up fin ⊢;have sm:GO (GO (GO P0)) (.lst [Hl b,di (b.map (·.1))]):= .inr ⟨_, .inl rfl,by show 2<=60;decide,ac9.mpr ⟨up,ac9.mpr ⟨.inl (Nd _),fun e he=>absurd he Zi⟩⟩⟩;cases b with
       | none=>exact⟨_,rfl,_,rfl,true,rfl,cF ⟨by show 2<=sizeLine;decide,_,rfl,sm,_,rfl,bD fin⟩⟩
       | some b=>exact⟨_,rfl,_,rfl,false,rfl,bD ⟨_,rfl,_,_,_,.inr rfl,rfl,a0 (j:=0) rfl,by show 2<=sizeLine;decide,_,rfl,sm,_,rfl,bD fin⟩⟩
     . obtain⟨fb,rfl,tV⟩:=hP;refine⟨_,rfl,_,rfl,by show 2<=sizeLine;decide,_,_,rfl,lv,by decide,_,rfl,true,SI,_,rfl,bD (HE _ ⟨t2,_,_,_,_,_,rfl,by lia,.im _,.im _,.im _,.im _,tV⟩)⟩
   . obtain⟨u,s6,s7,s8,s9,fb,rfl,hu,b6,b7,b8,b9,tV⟩:=hP;exact ub _ ⟨u,_,_,_,_,s6,s7,s8,s9,fb,rfl,by rw[Ze,ZN] at hu;lia,.im _,.im _,.im _,.im _,b6,b7,b8,b9,tV⟩
 . obtain⟨tt,s2,s3,s4,s5,s6,s7,s8,s9,fb,rfl,ht,bs⟩:=hP;exact rfl
end
end aX
section
namespace aX
open PySem L2 LB LD PyProof.Rows
structure a8(K:PySem.W.Frag)(x:Str)(st:Stmt)(ps:List Str)(f:Addr)(fd:FuncData):Prop where
 a:PySem.W.nsIn K mainGlobals x=some (some (.ref f))
 F:gb K x x st f fd
 b:Binds K fd ps []
theorem aR{K:PySem.W.Frag}{x:Str}{st:Stmt}{ps:List Str}{f:Addr}{oc:Value}{od an:Option Addr}{sl:Array (Option Value)}{kV dc pm cd ct:Value}(a:PySem.W.nsIn K mainGlobals x=some (some (.ref f)))(l:K.lookup f=some ⟨oc,od, .func (PySem.W.fnOf x x (hG st) (cI st) (af st) .none kV dc pm an cd ct),sl⟩)(c:PySem.W.codeIn K cd x=true)(k:PySem.W.keepIn K (.ref f)=true)
  (h: ∀us:List Value,us.length=ps.length->bindArgs (PySem.W.fnOf x x (hG st) (cI st) (af st) .none kV dc pm an cd ct) ⟨us,[]⟩=pure (ps.zip us)):a8 K x st ps f (PySem.W.fnOf x x (hG st) (cI st) (af st) .none kV dc pm an cd ct):=⟨a,K3 l c k,.all h⟩
section
variable{P:Program}{w:World}{K:PySem.W.Frag}{mg:Str->Option Value}{base h:Heap}{x:Str}{st:Stmt}{ps:List Str}{f:Addr}{fd:FuncData}
theorem a8.has(D:a8 K x st ps f fd)(X:K.In h)(G:h.Ns mainGlobals mg)(o:aY P w K mg base eC k f fd ps sp):gk P w K mg base x k ps sp:=⟨f,fd,PySem.W.mg_of X G D.a,D.F.kp,D.b,o⟩
end
theorem all_mk{l:PySem.W.OpenLaw}{K:PySem.W.Frag}(X:K.In h)(G:h.Ns mainGlobals mg)(W3:mg "law"=some (.ref fa))(d1:a8 K "together" jK ["worths"] f1 e1)(d2:a8 K "greatest" eZ ["worths"] f2 e2)(d3:a8 K "worth_of" gE ["w","h"] f3 e3)(d4:a8 K "ranked" iT ["w"] f4 e4)(d5:a8 K "units" uL ["base","many"] f5 e5)(d6:a8 K "figures" lL ["number","base","many"] f6 e6)(d7:a8 K "best_plain" iD ["w"] f7 e7)(d8:a8 K "fill" gH ["w","joined","chosen"] f8 e8)(d9:a8 K "by_width" gI ["n"] f9 e9)(Vj:a8 K "over_all" gF ["w","joined","chosen"] YR Y8)(Vi:a8 K "allowed" gK ["stand"] YQ UY)(Vh:a8 K "allowed_of" dR ["stand","word"] YO Y7)(Vg:a8 K "kept_to" iV ["w","lists"] YN Y6)(Vf:a8 K "best_still" iC ["w","stand"] YM Y5)(Ve:a8 K "still" uM ["w","stand"] YL Y4)(Vd:a8 K "_law_begin" pO ["_law_script"] YJ Y3)(Vc:a8 K "_law_take" pM ["_law_state","_law_many"] YI Y2)(Ij:a8 K "_law_same" gG ["_law_found","_law_due"] YH Y1)(Vb:a8 K "_law_may" AX ["_law_stand"] YG Y0)(Va:a8 K "_law_behind" lK ["_law_stand","_law_word"] YF YZ)(U9:a8 K "_law_end" AY ["_law_stand"] YE YY)(U8:a8 K "_law_ends" uN ["_law_stand"] YD YX)(U7:a8 K "_law_taken" pL ["_law_state","_law_many","_law_most"] YC YW)(U6:a8 K "_law_table" pN ["_law_state","_law_many"] YB YV)(U5:a8 K "_law_worth" iU ["_law_w","_law_h"] Yz YU)(U4:a8 K "_law_best" uO ["_law_w","_law_some"] Yy YT)(Te:a8 K "law" Jm ["_law_script"] Yx Xp)(z1:PySem.W.nsIn K mainGlobals "isinstance"=some none)(z2:PySem.W.nsIn K mainGlobals "len"=some none)(z3:PySem.W.nsIn K mainGlobals "enumerate"=some none)(z4:PySem.W.nsIn K mainGlobals "tuple"=some none)(z5:PySem.W.nsIn K mainGlobals "int"=some none)(z6:PySem.W.nsIn K mainGlobals "bool"=some none)(z7:PySem.W.nsIn K mainGlobals "range"=some none)(z8:PySem.W.nsIn K mainGlobals "list"=some none)(z9:PySem.W.nsIn K mainGlobals "divmod"=some none)(VH:PySem.W.nsIn K mainGlobals "all"=some none)(VG:PySem.W.nsIn K mainGlobals "str"=some none)(VF:PySem.W.nsIn K mainGlobals "sum"=some none)(VE:PySem.W.nsIn K mainGlobals "zip"=some none)(VD:PySem.W.nsIn K mainGlobals "sorted"=some none)(VC:PySem.W.nsIn K mainGlobals "max"=some none)(VB:PySem.W.nsIn K mainGlobals "dict"=some none):
  ∃fd:FuncData,(∀(s:Shared) (v:Value),BindsTo s fd ⟨[v],[]⟩ [("_law_script",v)])/\ ∀base:Heap,K.In base->base.Ns mainGlobals mg->aY l.prog w K mg base eC 7 fa fd ["_law_script"] (rO K):=by
 have e:=W3.symm.trans (PySem.W.mg_of X G Te.a);cases e;have T:Txt mg:=⟨Z6 X G z1,Z6 X G z2,Z6 X G z3,Z6 X G z4,Z6 X G z5,Z6 X G z6,Z6 X G z7,Z6 X G z8,Z6 X G z9,Z6 X G VH,Z6 X G VG,Z6 X G VF,Z6 X G VE,Z6 X G VD,Z6 X G VC,Z6 X G VB⟩
 refine⟨Xp,?_,fun base XB GB=>?_⟩
 . obtain⟨oc,od,kV,doc,pm,an,bP,ct,JN,rfl,lk,yW⟩:=Te.F.ex;exact fun s v=> .of_eq rfl
 have TF:=d1.has X G (P:=l.prog) (w:=w) (base:=base) (j5 d1.F T);have hJ:t8 l.prog w K mg base f1 1 ["worths"] (cM Uv):=⟨_,d1.F.kp,d1.b,(j5 d1.F T).imp (wg NH)⟩
 have hC:t8 l.prog w K mg base f2 1 ["worths"] (cM Vm):=⟨_,d2.F.kp,d2.b,(sj d2.F T).imp (wg OQ)⟩
 have XW:=d9.has X G (P:=l.prog) (w:=w) (base:=base) (uW d9.F T);have DF:=d8.has X G (P:=l.prog) (w:=w) (base:=base) (Fm Aj hJ hC d8.F T XW);have O1:=Vj.has X G (P:=l.prog) (w:=w) (base:=base) (uT Aj hJ hC Vj.F T DF);have vQ:=d5.has X G (P:=l.prog) (w:=w) (base:=base) (BH d5.F T);have qN:=d4.has X G (P:=l.prog) (w:=w) (base:=base) (yv d4.F T vQ);have TH:=d6.has X G (P:=l.prog) (w:=w) (base:=base) (uV d6.F T);have nv:=d3.has X G (P:=l.prog) (w:=w) (base:=base) (uS d3.F T TF);have O5:=d7.has X G (P:=l.prog) (w:=w) (base:=base) (Fo (PySem.W.mg_of X G d1.a) (PySem.W.mg_of X G d2.a) d7.F T O1 qN TH nv);have XT:=Vh.has X G (P:=l.prog) (w:=w) (base:=base) (Nj Vh.F T);have ny:=Vi.has X G (P:=l.prog) (w:=w) (base:=base) (uX Vi.F T XT);have O3:=Vg.has X G (P:=l.prog) (w:=w) (base:=base) (yx Vg.F T);have Vr:=Vf.has X G (P:=l.prog) (w:=w) (base:=base) (pZ Vf.F T O5 O3 ny);have XN:=Ve.has X G (P:=l.prog) (w:=w) (base:=base) (BL Ve.F T Vr);have NB:=Vd.has X G (P:=l.prog) (w:=w) (base:=base) (BO Vd.F T);have DC:=Vc.has X G (P:=l.prog) (w:=w) (base:=base) (BJ Vc.F T);have XS:=Ij.has X G (P:=l.prog) (w:=w) (base:=base) (BM Ij.F T);have XR:=Ij.has X G (P:=l.prog) (w:=w) (base:=base) (lZ (k:=0) Ij.F T XS);have XQ:=Ij.has X G (P:=l.prog) (w:=w) (base:=base) (lZ (k:=1) Ij.F T XR);have XO:=Ij.has X G (P:=l.prog) (w:=w) (base:=base) (lZ (k:=2) Ij.F T XQ);have O2:=Vb.has X G (P:=l.prog) (w:=w) (base:=base) (JT Vb.F T);have fC:=Va.has X G (P:=l.prog) (w:=w) (base:=base) (uU Va.F T);have TJ:=U9.has X G (P:=l.prog) (w:=w) (base:=base) (Fl U9.F T);have O4:=U8.has X G (P:=l.prog) (w:=w) (base:=base) (Fn U8.F T O2 fC TJ);have LN:=U7.has X G (P:=l.prog) (w:=w) (base:=base) (BI U7.F T DC O2 fC);have LO:=U6.has X G (P:=l.prog) (w:=w) (base:=base) (BK U6.F T DC);have LM:=U5.has X G (P:=l.prog) (w:=w) (base:=base) (yw U5.F T);have XU:=U4.has X G (P:=l.prog) (w:=w) (base:=base) (BN U4.F T LM);exact JU Te.F T NB DC LN O4 LO XU Vr XN XO
theorem walk{l:PySem.W.OpenLaw}{q:Program}{loose:List Str}{XP:(Str->Option Value)->Heap->Prop}{YP:World->Heap->Prop}{d:DefRec}{K:Params->PySem.W.Frag}(hn:l.most=some 63)(N1:d.params.defaults= [])
  (hY: ∀(w:World) (h:Heap),YP w h->(K w.params).In h)
  (F: ∀(w:World) (mg:Str->Option Value) (fa:Addr) (h:Heap),(K w.params).In h->h.Ns mainGlobals mg->mg d.name=some (.ref fa)->
   ∃fd:FuncData,(∀(s:Shared) (u:Value),BindsTo s fd ⟨[u],[]⟩ [("_law_script",u)])/\ ∀base:Heap,(K w.params).In base->base.Ns mainGlobals mg->aY l.prog w (K w.params) mg base eC 7 fa fd ["_law_script"] (rO (K w.params))):
  PySem.W.WalkO q loose XP YP l.row.toRowW d [] (fun f vs=>PySem.call f vs):=
 L2.Eg (n:=63) (k:=7) (x:="_law_script") (CX:=fun _=>eC) (sp:=fun w=>rO (K w.params)) hn (by decide) N1 ⟨rfl,by decide,by decide,rfl⟩ hY F (fun _ _ a ns hl _ hS=>⟨a,ns,rfl,hS,hl,fun _=>rfl⟩) fun _ _ _ _ _ z=>z
end aX
def aX.vw:PySem.Program:={PySem.Challenge.rw_hungwords_k35_the_best_still_to_be_had.row.prog with main:={PySem.Challenge.rw_hungwords_k35_the_best_still_to_be_had.row.prog.main with body:=([1,2,3,4,5,6,8,9,10,11,13,14,15,16,17,19,20,21,22,23,24,25,26,27,28,29,30]:List Nat).filterMap fun i=>PySem.Challenge.rw_hungwords_k35_the_best_still_to_be_had.row.prog.main.body[i]?}}
open PySem PySem.W PyProof.Rows
local macro_rules
|`(tactic|o_law)=>`(tactic|refine holds_law (by kernel_rfl) fun said=>?_)
local macro_rules
|`(tactic|o_head $H)=>`(tactic|refine holds_open (q:=aX.vw) (loose:=[]) (Xt:=fun s=>xlAt aX.vw [] s && recOk (RowW.records (OpenRow.toRowW (OpenLaw.row PySem.Challenge.rw_hungwords_k35_the_best_still_to_be_had))) s) (XP:=XL aX.vw []) (Yf:=Hook.obs $H) (Ya:=Hook.val $H) (YP:=Hook.says $H) (N:=1830) (by intro w;kernel_rfl) (Hook.of $H) (Hook.keeps $H) (fun s e=>xl_of s (Bool.and_eq_true_iff.mp e).1) XL.keeps (by rfl) (by rfl) (by rfl) (fun s e=>recFacts_of (Bool.and_eq_true_iff.mp e).2) (by rfl) (by first | assumption | decide+kernel) (by decide+kernel) ⟨rfl,rfl,rfl,rfl,rfl,by decide+kernel⟩ ?hw ?hc)
set_option maxRecDepth 100000 in
set_option maxHeartbeats 0 in
theorem PySem.Challenge.cw_hungwords_k35_the_best_still_to_be_had_holds : PySem.Challenge.rw_hungwords_k35_the_best_still_to_be_had.Holds := by
 w_on;o_law;k_head;(case hw=>w_witness2)
 k_fill
 refine aX.walk (l:=PySem.Challenge.rw_hungwords_k35_the_best_still_to_be_had) rfl rfl (fun w h Y=>PySem.W.kIn_of Y) ?F
 case F=>
  intro w mg fa h KX G NS;refine' aX.all_mk KX G NS (aX.aR ?_ ?_ ?_ ?_ ?_) (aX.aR ?_ ?_ ?_ ?_ ?_) (aX.aR ?_ ?_ ?_ ?_ ?_) (aX.aR ?_ ?_ ?_ ?_ ?_) (aX.aR ?_ ?_ ?_ ?_ ?_) (aX.aR ?_ ?_ ?_ ?_ ?_) (aX.aR ?_ ?_ ?_ ?_ ?_) (aX.aR ?_ ?_ ?_ ?_ ?_) (aX.aR ?_ ?_ ?_ ?_ ?_) (aX.aR ?_ ?_ ?_ ?_ ?_) (aX.aR ?_ ?_ ?_ ?_ ?_) (aX.aR ?_ ?_ ?_ ?_ ?_) (aX.aR ?_ ?_ ?_ ?_ ?_) (aX.aR ?_ ?_ ?_ ?_ ?_) (aX.aR ?_ ?_ ?_ ?_ ?_) (aX.aR ?_ ?_ ?_ ?_ ?_) (aX.aR ?_ ?_ ?_ ?_ ?_) (aX.aR ?_ ?_ ?_ ?_ ?_) (aX.aR ?_ ?_ ?_ ?_ ?_) (aX.aR ?_ ?_ ?_ ?_ ?_) (aX.aR ?_ ?_ ?_ ?_ ?_) (aX.aR ?_ ?_ ?_ ?_ ?_) (aX.aR ?_ ?_ ?_ ?_ ?_) (aX.aR ?_ ?_ ?_ ?_ ?_) (aX.aR ?_ ?_ ?_ ?_ ?_) (aX.aR ?_ ?_ ?_ ?_ ?_) (aX.aR ?_ ?_ ?_ ?_ ?_) ?_ ?_ ?_ ?_ ?_ ?_ ?_ ?_ ?_ ?_ ?_ ?_ ?_ ?_ ?_ ?_;all_goals try (first | k_is | exact rfl | kernel_rfl | (intro us hl;first | (obtain⟨a,rfl⟩:=List.length_eq_one_iff.mp hl;rfl) | (match us,hl with | [_,_],_=>rfl) | (match us,hl with | [_,_,_],_=>rfl) | (match us,hl with | [_,_,_,_],_=>rfl)))
end
