import PyProof.Rows.All
import Wide.All
import OpenK.AllK
import Wide.FinOn
import Lean
import PyProof.EqAt
import PyProof.EqKinds
import PyProof.TupleCall
import PyProof.ListRange
import PyProof.NeKinds
import PyProof.ZipIter
import PyProof.FactsAll.tuple_2
import PyProof.FactsAll.tuple_3
import PyProof.Rows.SortShell
import PyProof.Rows.SortWalk
import PyProof.Rows.MinMaxN
import PyProof.AttrMissHeap
import PyProof.ListNew
import PyProof.FactsAll.dict_1
import KE.KDictSum
import PyProof.SetKind
import PyProof.Rows.SetFrom
import PyProof.CollectIter
import PyProof.Rows.TopTwo
import KE.KIsAll
import KE.KTryMore
import PyProof.ExcArgsOwn
import PyProof.NsDelKeeps
import KE.KSortTup
import KE.KRevIter
import KE.KRevSl
import PyProof.Rows.IntBool
import PyProof.TupleOfSeq
import KE.KIntText
import PyProof.StrWalks
import PyProof.StrCalls2
import PyProof.StrBlock2
import PyProof.FString5
import PyProof.StrLawsTight
import PyProof.StrLawsChain
import PyProof.Rows.SortStr
import PyProof.StationsW
import PyProof.Rows.Catch
import PyProof.ExcClass3
import PyProof.ExcInit
import PyProof.Ns1
import PyProof.DictCompW
import PyProof.ListMulRoad
import PyProof.PureStr
import PySem.Challenge.RW_hungwords_k37_slips_of_many_steps
set_option Elab.async false
set_option linter.all false
set_option maxRecDepth 100000
set_option maxHeartbeats 8000000
section
open PySem PySem.W PyProof.Rows
def aW.q'v:PySem.Program:={PySem.Challenge.rw_hungwords_k37_slips_of_many_steps.row.prog with main:={PySem.Challenge.rw_hungwords_k37_slips_of_many_steps.row.prog.main with body:=([1,2,3,4,5,6,7,8,9,11,12,13,15,16,17,18,19,20,22,23,24,25,27,29,30,31,32,33,34,35,36,38,39,40,41,42,43,44,45,46,47,48,49,50,51]:List Nat).filterMap fun i=>PySem.Challenge.rw_hungwords_k37_slips_of_many_steps.row.prog.main.body[i]?}}
set_option maxRecDepth 100000 in
theorem aW.q'w:OpenLaw.wellSaid PySem.Challenge.rw_hungwords_k37_slips_of_many_steps=true:=by kernel_rfl
section
local macro_rules
|`(tactic|o_law)=>`(tactic|refine holds_law aW.q'w fun said=>?_)
local macro_rules
|`(tactic|o_head $H)=>`(tactic|(have hh:=$H;assumption))
set_option maxRecDepth 100000 in
set_option maxHeartbeats 0 in
theorem aW.q'0(q'h:PySem.Challenge.rw_hungwords_k37_slips_of_many_steps.row.Holds):PySem.Challenge.rw_hungwords_k37_slips_of_many_steps.Holds:=by
 w_on;o_law;k_head
end
noncomputable abbrev aW.q'H:Hook:=kHook aW.q'0.heap_1 [2,3,15,22,23,24,25,28,35,36,37,40,47,48,49,52,59,60,61,64,71,72,73,76,83,84,85,88,95,96,97,100,107,109,110,112,113,114,115,116,119,126,128,129,131,132,133,134,135,138,140,141,143,144,145,147,148,150,151,152,154,155,157,158,159,161,162,164,165,166,169,170,171,174,175,176,179,180,181,183,184,186,187,188,190,191,193,194,195,197,198,200,201,202,205,206,207,210,211,212,215,216,217,219,220,222,223,224,227,228,229,232,233,234,237,238,239,241,242,244,245,246,248,249,251,252,253,255,256,258,259,260,262,263,265,266,267,270,271,272,274,275,277,278,279,281,282,284,285,286,289,290,291,293,294,296,297,298,300,301,303,304,305,307,308,310,311,312,314,315,317,318,319,321,322,324,325,326,329,330,338,340,341,343,344,345,348,349,350,352,353,355,356,357,359,360,362,363] (fun _=>rfl)
set_option maxRecDepth 100000 in
theorem aW.q't:∀w,(openEnds treeTable PySem.Challenge.rw_hungwords_k37_slips_of_many_steps.row.prog w 6346).map (Hook.obs aW.q'H)=some (Hook.val aW.q'H w):=by intro w;kernel_rfl
set_option maxRecDepth 100000 in
theorem aW.q's:∀w,(openEnds treeTable PySem.Challenge.rw_hungwords_k37_slips_of_many_steps.row.prog w 6346).map (fun s=>openSeen aW.q'v [] (importedModules PySem.Challenge.rw_hungwords_k37_slips_of_many_steps.row.prog.main.body) (fun s=>xlAt aW.q'v [] s && recOk (RowW.records (OpenRow.toRowW (OpenLaw.row PySem.Challenge.rw_hungwords_k37_slips_of_many_steps))) s) true s)=some (openGood aW.q'v []):=by intro w;kernel_rfl
theorem aW.q'l{p q:Program}{loose:List Str}{Xt:Shared->Bool}{α:Type}{Yf:Shared->α}{Ya:World->α}{N:Nat}(h1:∀w,(openEnds treeTable p w N).map (fun s=>openSeen q loose (importedModules p.main.body) Xt true s)=some (openGood q loose))(h2:∀w,(openEnds treeTable p w N).map Yf=some (Ya w)):LeftO p q loose Xt Yf Ya N:=fun w=>by
 obtain⟨s,a,b⟩:=Option.map_eq_some_iff.mp (h1 w)
 obtain⟨s2,a2,b2⟩:=Option.map_eq_some_iff.mp (h2 w)
 cases a.symm.trans a2
 rw[a,Option.map_some,b,b2]
end
abbrev aa0:=@PySem.wpAny_bind
abbrev aa1:=@List.length_map
abbrev aa2:=@List.getElem?_eq_getElem
abbrev aa3:=@PySem.Heap.get?_push_of_some
abbrev aa4:=@List.not_mem_nil
abbrev aa5:=@List.getElem?_eq_some_iff
abbrev aa6:=@List.mem_singleton
abbrev aa7:=@PySem.wpAny_pure
abbrev aa8:=@List.getElem?_map
abbrev aa9:=@List.length_append
abbrev ab0:=@List.size_toArray
abbrev ab1:=@List.getElem?_set_ne
abbrev ab2:=@Nat.le_refl
abbrev ab3:=@List.mem_cons_self
abbrev ab4:=@List.mem_append_right
abbrev ab5:=@List.mem_cons_of_mem
abbrev ab6:=@PySem.Heap.get?_push_size
abbrev ab7:=@List.mem_map
abbrev ab8:=@List.map_append
abbrev ab9:=@List.getElem?_set_self
abbrev ac0:=@Bool.false_ne_true
abbrev ac1:=@List.getElem?_replicate
abbrev ac2:=@PySem.Heap.lt_size
abbrev ac3:=@List.mem_cons
abbrev ac4:=@Nat.lt_of_lt_of_le
abbrev ac5:=@List.length_range'
abbrev ac6:=@Nat.le_trans
abbrev ac7:=@List.length_cons
abbrev ac8:=@List.map_congr_left
abbrev ac9:=@List.map_cons
abbrev ad0:=@List.length_set
abbrev ad1:=@PySem.wpAny_mono
abbrev ad2:=@List.mem_of_getElem?
abbrev ad3:=@List.mem_range'_1
abbrev ad4:=@List.length_range
abbrev ad5:=@List.getElem?_append_left
abbrev ad6:=@decide_eq_true
abbrev ad7:=@of_decide_eq_true
abbrev ad8:=@List.map_map
abbrev ad9:=@List.getD_eq_getElem?_getD
abbrev ae0:=@List.mem_flatMap
abbrev ae1:=@List.mem_append
abbrev ae2:=@List.mem_append_left
abbrev ae3:=@PySem.wpAny_loadPart'
abbrev ae4:=@List.getElem?_append_right
abbrev ae5:=@decide_eq_false
abbrev ae6:=@List.lookup_cons
abbrev ae7:=@List.filter_eq_self
abbrev ae8:=@Nat.lt_irrefl
abbrev ae9:=@List.flatten_cons
abbrev af0:=@List.append_nil
abbrev af1:=@PySem.W.mg_none_of
abbrev af2:=@List.mem_range
abbrev af3:=@List.append_assoc
abbrev af4:=@Nat.ne_of_lt
abbrev af5:=@PySem.Heap.get?_update_other
abbrev af6:=@PySem.mem_of_lookup
abbrev af7:=@PySem.Heap.size_push
abbrev af8:=@Bool.and_eq_true
abbrev af9:=@PySem.wpAny_standAt
abbrev ag0:=@Nat.zero_le
abbrev ag1:=@congrArg
abbrev ag2:=@Option.isSome_iff_exists
abbrev ag3:=@PyProof.Rows.callWith_type1
abbrev ag4:=@PySem.wpAny_field
abbrev ag5:=@List.replicate_succ
abbrev ag6:=@PySem.wpAny_newObj_type
abbrev ag7:=@PySem.wpAny_loadPart_at
abbrev ag8:=@Option.map_eq_some_iff
abbrev ag9:=@PySem.wpAny_holding
abbrev ah0:=@PySem.W.mg_of
abbrev ah1:=@PySem.W.kia_one
abbrev ah2:=@List.all_eq_true
abbrev ah3:=@List.length_replicate
abbrev ah4:=@List.getElem?_eq_none
abbrev ah5:=@Int.toNat_natCast
abbrev ah6:=@List.length_mapIdx
abbrev ah7:=@List.range'_append_1
abbrev ah8:=@List.getElem_of_mem
abbrev ah9:=@List.getElem?_range
abbrev ai0:=@List.nodup_append
abbrev ai1:=@PySem.Heap.get?_update_self
abbrev ai2:=@List.dropLast_concat_getLast
abbrev ai3:=@PySem.PassesOwn.never
abbrev ai4:=@List.getElem?_range'
abbrev ai5:=@List.getElem?_mapIdx
abbrev ai6:=@List.nodup_nil
abbrev ai7:=@beq_eq_false_iff_ne
abbrev ai8:=@Array.length_toList
abbrev ai9:=@List.eq_nil_iff_forall_not_mem
abbrev aj0:=@beq_self_eq_true
abbrev aj1:=@List.length_take
abbrev aj2:=@PySem.wpAny_pyIter_tuple
abbrev aj3:=@PySem.wpAny_Call_Name_kw
abbrev aj4:=@List.mem_filterMap
abbrev aj5:=@PySem.wpAny_seqItems
abbrev aj6:=@PySem.wpAny_callSpecial?_slot
abbrev aj7:=@PySem.wpAny_truthy_bool
abbrev aj8:=@PySem.wpAny_pyIter_list
abbrev aj9:=@List.mem_filter
abbrev ak0:=@List.length_nil
abbrev ak1:=@List.length_drop
abbrev ak2:=@List.getLastD_eq_getLast?
abbrev ak3:=@PyProof.Rows.slot_tuple_getitem
abbrev ak4:=@PySem.pushCells_keeps
abbrev ak5:=@List.nodup_cons
abbrev ak6:=@Bool.eq_iff_iff
abbrev ak7:=@PySem.codeAny_call_builtin
abbrev ak8:=@Int.mul_le_mul_of_nonneg_right
abbrev ak9:=@List.ext_getElem?
abbrev al0:=@decide_eq_false_iff_not
abbrev al1:=@List.length_zipWith
abbrev al2:=@List.length_pos_iff
abbrev al3:=@Option.getD_some
abbrev al4:=@PySem.wpAny_setField_rec
abbrev al5:=@List.filter_append
abbrev al6:=@PySem.Calls.spliced_cons
abbrev al7:=@PySem.wpAny_passesOwn
abbrev al8:=@List.any_cons
abbrev al9:=@PySem.F.slot_tuple_iterator_next
abbrev am0:=@Array.getElem?_eq_some_iff
abbrev am1:=@List.drop_eq_getElem_cons
abbrev am2:=@List.drop_zero
abbrev am3:=@PySem.codeAny_mono
abbrev am4:=@Nat.sub_self
abbrev am5:=@Nat.ne_of_gt
abbrev am6:=@PySem.wpAny_call_entry
abbrev am7:=@List.take_length
abbrev am8:=@PySem.F.plain_max_loop
abbrev am9:=@PySem.wpAny_comprehension_free
abbrev an0:=@List.range'_eq_map_range
abbrev an1:=@List.filterMap_cons
abbrev an2:=@PySem.wpAny_execs_nil
abbrev an3:=@List.find?_cons
abbrev an4:=@PySem.IsiPair.tupleOf
abbrev an5:=@PySem.Obj.data_mapFields
abbrev an6:=@Nat.lt_of_le_of_lt
abbrev an7:=@List.zipWith_cons_cons
abbrev an8:=@List.take_of_length_le
abbrev an9:=@List.getLast?_eq_some_getLast
abbrev ao0:=@Nat.le_of_succ_le
abbrev ao1:=@List.take_add_one
abbrev ao2:=@PySem.W.looks_findIn
abbrev ao3:=@List.getElem?_zipWith
abbrev ao4:=@PySem.call_meets
abbrev ao5:=@List.range'_succ
abbrev ao6:=@List.mem_flatten
abbrev ao7:=@List.cons_append
abbrev ao8:=@List.length_dropLast
abbrev ao9:=@List.dropLast_concat
abbrev ap0:=@Bool.or_eq_false_iff
abbrev ap1:=@PySem.wpAny_letGo
abbrev ap2:=@PySem.codeAny_builtin
abbrev ap3:=@List.pairwise_iff_getElem
abbrev ap4:=@decide_eq_true_iff
abbrev ap5:=@List.pairwise_cons
abbrev ap6:=@Int.emod_lt_of_pos
abbrev ap7:=@PySem.Code.quiet_builtin
abbrev ap8:=@PySem.F.args_tuple_add_2
abbrev ap9:=@PySem.wpAny_rule
abbrev aq0:=@beq_iff_eq
abbrev aq1:=@PySem.wpAny_setField
abbrev aq2:=@PySem.F.entry_tuple_add
abbrev aq3:=@PySem.wpAny_pyIter_enum
abbrev aq4:=@Nat.lt_succ_of_lt
abbrev aq5:=@Nat.lt_succ_of_le
abbrev aq6:=@List.reverse_cons
abbrev aq7:=@List.nodup_range'
abbrev aq8:=@List.map_dropLast
abbrev aq9:=@List.flatMap_cons
abbrev ar0:=@PySem.Calls.spliced_nil
abbrev ar1:=@Bool.not_eq_true'
abbrev ar2:=@Nat.le_succ
abbrev ar3:=@Int.le_refl
abbrev ar4:=@Int.add_mul
abbrev ar5:=@PySem.plainId_quiet
abbrev ar6:=@List.all_cons
abbrev ar7:=@Bool.and_true
namespace L2
open PySem PySem.Spec PyProof.Rows
abbrev Key:=Sum Int Str
noncomputable def o7:Key->Value->Bool
 | .inl k,v=>Value.isInt k v
 | .inr x,v=>Value.isStrOf x v
noncomputable def Sx(w:World):Key->Int
 | .inl k=>hashInt k
 | .inr x=>hashStr w x
theorem bj: ∀{k:Key} {v:Value},o7 k v=true->(∃i t,k=Sum.inl i/\v=Value.int i t)\/(∃x t,k=Sum.inr x/\v=Value.str x t)
 | .inl i,v,h=>by
  obtain⟨t,e⟩:=Value.isInt_shape (k:=i) (v:=v) h;exact .inl ⟨i,t,rfl,e⟩
 | .inr x,v,h=>by
  obtain⟨t,e⟩:=Value.isStrOf_shape (x:=x) (v:=v) h;exact .inr ⟨x,t,rfl,e⟩
theorem zB(i:Int)(t:Tok):o7 (.inl i) (.int i t)=true:=by simp [o7,Value.isInt]
theorem zA(x:Str)(t:Tok):o7 (.inr x) (.str x t)=true:=by simp [o7,Value.isStrOf]
theorem KA(a b:Int):decide ((Sum.inl a:Key)=Sum.inl b)=(a==b):=by
 by_cases e:a=b
 . subst e;simp
 . have h: ¬(Sum.inl a:Key)=Sum.inl b:=fun q=>e (Sum.inl.inj q);rw[ae5 h];exact(ai7.mpr e).symm
theorem Kx(a b:Str):decide ((Sum.inr a:Key)=Sum.inr b)=decide (a=b):=by
 by_cases e:a=b
 . subst e;simp
 . have h: ¬(Sum.inr a:Key)=Sum.inr b:=fun q=>e (Sum.inr.inj q);rw[ae5 h,ae5 e]
theorem Kz(a:Int)(b:Str):decide ((Sum.inl a:Key)=Sum.inr b)=false:=ae5 (fun q=>nomatch q)
theorem Ky(a:Str)(b:Int):decide ((Sum.inr a:Key)=Sum.inl b)=false:=ae5 (fun q=>nomatch q)
noncomputable def aS(prog:Program)(w:World):PySem.KeyKind prog w Key where
 is:=o7
 hash:=Sx w
 inj:=fun v a b ha hb=>by
  rcases bj ha with ⟨i,t,rfl,rfl⟩ | ⟨x,t,rfl,rfl⟩
  . rcases bj hb with ⟨j,u,rfl,e⟩ | ⟨y,u,rfl,e⟩
    . injection e with e1 _;rw[e1]
    . exact nomatch e
  . rcases bj hb with ⟨j,u,rfl,e⟩ | ⟨y,u,rfl,e⟩
    . exact nomatch e
    . injection e with e1 _;rw[e1]
 byValue:=fun k v h=>by
  rcases bj h with ⟨i,t,rfl,rfl⟩ | ⟨x,t,rfl,rfl⟩ <;> rfl
 pyHash:=fun hv h=>by
  rcases bj hv with ⟨i,t,rfl,rfl⟩ | ⟨x,t,rfl,rfl⟩
  . exact wpAny_pyHash_int h
  . exact wpAny_pyHash_str h
 eqBool:=fun hu hv h=>by
  rcases bj hu with ⟨i,t,rfl,rfl⟩ | ⟨x,t,rfl,rfl⟩
  . rcases bj hv with ⟨j,u,rfl,rfl⟩ | ⟨y,u,rfl,rfl⟩
    . rw[KA] at h;exact wpAny_eqBool_int h
    . rw[Kz] at h;exact SeqAt.EqAt.int_str i t y u _ _ _ _ h
  . rcases bj hv with ⟨j,u,rfl,rfl⟩ | ⟨y,u,rfl,rfl⟩
    . rw[Ky] at h;exact SeqAt.EqAt.str_int x t j u _ _ _ _ h
    . rw[Kx] at h;exact wpAny_eqBool_str h
 «strs» :=fun k x t v h=>by
  rcases bj h with ⟨i,u,rfl,e⟩ | ⟨y,u,rfl,e⟩
  . exact nomatch e
  . injection e with e1 _
    subst e1;cases v <;> rfl
theorem sV(prog:Program)(w:World)(i:Int)(t:Tok):(aS prog w).is (.inl i) (.int i t)=true:=zB i t
theorem sU(prog:Program)(w:World)(x:Str)(t:Tok):(aS prog w).is (.inr x) (.str x t)=true:=zA x t
inductive V where
 | aF | bl (b:Bool) | int (i:Int) | str (x:Str) | x4 (b:Array UInt8) | Au (b:UInt64) | ref (a:Addr) | ty (n:String)
 deriving DecidableEq
def RelV:V->Value->Prop
 | .aF,u=>u=Value.none
 | .bl b,u=>u=Value.bool b
 | .int i,u=> ∃t,u=Value.int i t
 | .str x,u=> ∃t,u=Value.str x t
 | .x4 b,u=> ∃t,u=Value.bytes b t
 | .Au b,u=> ∃t,u=Value.float b t
 | .ref a,u=>u=Value.ref a
 | .ty n,u=>u=Value.type n
abbrev Vals:List V->List Value->Prop:=Paired RelV
theorem Vals.length(r:Vals xs us):xs.length=us.length:=Paired.length r
theorem Vals.get: ∀{xs:List V} {us:List Value} {i:Nat} {x:V},Vals xs us->xs[i]?=some x-> ∃u,us[i]?=some u/\RelV x u
 | _,_,_,_,.nil,e=>by simp at e
 | _,_,0,_,.cons r _,e=>by simp at e;subst e;exact⟨_,rfl,r⟩
 | _,_,i+1,x,.cons _ t,e=>by
  obtain⟨u,h1,h2⟩:=Vals.get (i:=i) (x:=x) t (by simpa using e);exact⟨u,by simpa using h1,h2⟩
theorem Vals.set(r:RelV x u): ∀{xs:List V} {us:List Value} (i:Nat),Vals xs us->Vals (xs.set i x) (us.set i u)
 | _,_,_,.nil=> .nil
 | _,_,0,.cons _ t=> .cons r t
 | _,_,i+1,.cons q t=> .cons q (Vals.set r i t)
theorem Vals.append: ∀{xs ys:List V} {us ws:List Value},Vals xs us->Vals ys ws->Vals (xs++ys) (us++ws)
 | _,_,_,_,.nil,s=>s
 | _,_,_,_,.cons r t,s=> .cons r (Vals.append t s)
theorem Vals.take: ∀{xs:List V} {us:List Value} (n:Nat),Vals xs us->Vals (xs.take n) (us.take n)
 | _,_,0,_=> .nil
 | _,_,_+1,.nil=> .nil
 | _,_,n+1,.cons r t=> .cons r (Vals.take n t)
theorem Vals.drop: ∀{xs:List V} {us:List Value} (n:Nat),Vals xs us->Vals (xs.drop n) (us.drop n)
 | _,_,0,r=>r
 | _,_,_+1,.nil=> .nil
 | _,_,n+1,.cons _ t=>Vals.drop n t
def kd:Option V->Option Value->Prop
 | some v,some u=>RelV v u
 | none,none=>True
 | _,_=>False
def KV{κ:Type}:List (κ × V)->List (κ × Value)->Prop:=Paired fun(p:κ × V) (q:κ × Value)=>p.1=q.1/\RelV p.2 q.2
noncomputable def kV:Key->V
 | .inl i=> .int i
 | .inr x=> .str x
def n4(h:Heap)(a:Addr)(items:Array Value):Prop:= ∃o,h.get? a=some o/\o.cls= .type "tuple"/\o.dict=none/\ ∃n,o.data= .seq items n
theorem n4.tup{h:Heap}{a:Addr}{items:Array Value}(x:n4 h a items):IsTup h a items:=let ⟨o,e,c,_,d⟩:=x;⟨o,e,c,d⟩
theorem n4.lt(x:n4 h a items):a < h.objs.size:=let ⟨_,e,_⟩:=x;ac2 e
theorem n4.new(h:Heap)(items:Array Value):n4 (h.push {cls:= .type "tuple",data:= .seq items}) h.objs.size items:=⟨_,ab6 _ rfl,rfl,rfl,_,rfl⟩
inductive HO where
  | lst (xs:List V)
  | tup (xs:List V)
  | dK (aC:List (Key × V)) | dT (aC:List (List Key × V))
  | set (S:Int->Bool) (n:Nat)
  | ins (C dx:Addr) (fs:List (Str × V))
  | own (x:Addr)
  | xd (fs:List (Str × V))
  | met (f x:Addr)
  | gu (lo hi:Int)
  | tF (o:Obj) (u:HO)
  | HB (ps:Array Value)
  | ext (φ:Heap->Prop)
abbrev Hp:=Addr->Option HO
noncomputable def upd(H:Hp)(a:Addr)(o:HO):Hp:=fun b=>if b=a then some o else H b
theorem ag:upd H a o a=some o:=by unfold upd;rw[if_pos rfl]
theorem ah(h:b≠a):upd H a o b=H b:=by unfold upd;rw[if_neg h]
theorem xt{H:Hp}(h:H a=some o)(h':H b=some u)(d:o≠u):a≠b:=by
 intro e;subst e;rw[h] at h';exact d (Option.some.inj h')
theorem aq{H:Hp}(h:H a=some o)(h':H b=none):a≠b:=by
 intro e;subst e;rw[h] at h';cases h'
section
variable (P:Program) (w:World)
def aV(H:Hp)(h:Heap)(a:Addr):HO->Prop
 | .lst xs=>xs.length<=sizeLine/\ ∃(ao:List Value) (n:Nat),Vals xs ao/\h.get? a=some {cls:= .type "list",data:= .seq ao.toArray n}
 | .tup xs=>xs.length<=sizeLine/\ ∃ao:List Value,Vals xs ao/\n4 h a ao.toArray
 | .dK aC=>aC.length<=sizeLine/\(a==sysModules)=false/\ ∃vs,KV aC vs/\h.DictOf (aS P w) a vs
 | .dT aC=>aC.length<=sizeLine/\(a==sysModules)=false/\ ∃xs:List (List Key × Addr × Value),
   Paired (fun(p:List Key × V) (q:List Key × Addr × Value)=>p.1=q.1/\H q.2.1=some (.tup (p.1.map kV))/\RelV p.2 q.2.2) aC xs/\
   ∃o es ep,h.get? a=some o/\o.ExactDict/\o.data= .dict es ep/\es.toList=xs.map (entryOfKey (tupleKind (aS P w)))/\(xs.map (·.1)).Nodup
 | .set S n=>h.SetOf (intKind P w) a S n
 | .ins C dx fs=>H dx=some (.own a)/\fs.length<=1000/\dx≠a/\h.get? a=some (PySem.W.instObj C dx)/\
   ∃mA,h.Ns1 dx mA/\(∀f,kd (fs.lookup f) (mA f))/\PySem.Within mA (fs.map (·.1))
 | .own _=> ∃o,h.get? a=some o
 | .xd fs=> ∃mA,h.Ns1 a mA/\ ∀f,kd (fs.lookup f) (mA f)
 | .gu lo hi=> ∃t u v,h.get? a=some {cls:= .type "range",data:= .fields #[.int lo t,.int hi u,.int 1 v]}
 | .tF o u=>h.get? a=some o/\aV H h a u
 | .HB ps=>h.get? a=some {cls:= .none,data:= .fields ps}
 | .met f x=>h.get? a=some (PySem.W.methodObj (.ref f) (.ref x))
 | .ext φ=>φ h/\(∃o,h.get? a=some o)/\ ∀h1 h2:Heap,φ h1->(∀o,h1.get? a=some o->h2.get? a=some o)->φ h2
def gq(H:Hp)(h:Heap):Prop:= ∀a o,H a=some o->aV P w H h a o
end
theorem aV.lt(x:aV P w H h a o):a < h.objs.size:=by
 cases o with
 | lst xs=>obtain⟨_,_,_,_,e⟩:=x;exact ac2 e
 | tup xs=>obtain⟨_,_,_,p⟩:=x;exact p.lt
 | dK aC=>obtain⟨_,_,_,_,o,_,_,e,_⟩:=x;exact ac2 e
 | dT aC=>obtain⟨_,_,_,_,o,_,_,e,_⟩:=x;exact ac2 e
 | set S n=>obtain⟨o,_,_,_,e,_⟩:=x;exact ac2 e
 | ins C dx fs=>obtain⟨_,_,_,e,_⟩:=x;exact ac2 e
 | own y=>obtain⟨_,e⟩:=x;exact ac2 e
 | xd fs=>obtain⟨_,⟨_,_,_,e,_⟩,_⟩:=x;exact ac2 e
 | gu lo hi=>obtain⟨_,_,_,e⟩:=x;exact ac2 e
 | tF ob u=>obtain⟨e,_⟩:=x;exact ac2 e
 | HB ps=>exact ac2 (show h.get? a=some _ from x)
 | met f y=>exact ac2 (show h.get? a=some _ from x)
 | ext φ=>obtain⟨_,⟨_,e⟩,_⟩:=x;exact ac2 e
theorem Paired.Ks: ∀{l₁:List α} {l₂:List β},Paired F l₁ l₂->(∀a b,F a b->G a b)->Paired G l₁ l₂
 | _,_,.nil,_=> .nil
 | _,_,.cons r t,f=> .cons (f _ _ r) (Paired.Ks t f)
theorem aV.fN(x:aV P w H h a o)(k: ∀b u,(b=a\/H b=some (.own a))->h.get? b=some u->h'.get? b=some u)
  (ho: ∀b,H b=some (.own a)->H' b=some (.own a)) (ht: ∀b xs,H b=some (.tup xs)->H' b=some (.tup xs)):aV P w H' h' a o:=by
 induction o with
 | lst xs=>obtain⟨z,ao,n,r,e⟩:=x;exact⟨z,ao,n,r,k _ _ (.inl rfl) e⟩
 | tup xs=>obtain⟨z,ao,r,ob,e,c⟩:=x;exact⟨z,ao,r,ob,k _ _ (.inl rfl) e,c⟩
 | dK aC=>obtain⟨z,y,vs,r,ob,es,ep,e,c⟩:=x;exact⟨z,y,vs,r,ob,es,ep,k _ _ (.inl rfl) e,c⟩
 | dT aC=>
  obtain⟨z,y,xs,r,ob,es,ep,e,c⟩:=x;exact⟨z,y,xs,Paired.Ks r fun p q z=>⟨z.1,ht _ _ z.2.1,z.2.2⟩,ob,es,ep,k _ _ (.inl rfl) e,c⟩
 | set S n=>obtain⟨ob,es,ep,t,e,c⟩:=x;exact⟨ob,es,ep,t,k _ _ (.inl rfl) e,c⟩
 | ins C dx fs=>
  obtain⟨d,z,ne,e,mA,⟨od,es,ep,e2,c⟩,r⟩:=x;exact⟨ho _ d,z,ne,k _ _ (.inl rfl) e,mA,⟨od,es,ep,k _ _ (.inr d) e2,c⟩,r⟩
 | own y=>obtain⟨ob,e⟩:=x;exact⟨ob,k _ _ (.inl rfl) e⟩
 | xd fs=>obtain⟨mA,⟨od,es,ep,e,c⟩,r⟩:=x;exact⟨mA,⟨od,es,ep,k _ _ (.inl rfl) e,c⟩,r⟩
 | gu lo hi=>obtain⟨t,u,v,e⟩:=x;exact⟨t,u,v,k _ _ (.inl rfl) e⟩
 | tF ob u ih=>obtain⟨e,q⟩:=x;exact⟨k _ _ (.inl rfl) e,ih q⟩
 | HB ps=>
  have e:h.get? a=some {cls:= .none,data:= .fields ps}:=x;show h'.get? a=some {cls:= .none,data:= .fields ps};exact k a _ (.inl rfl) e
 | met f y=>
  have e:h.get? a=some (PySem.W.methodObj (.ref f) (.ref y)):=x;show h'.get? a=some (PySem.W.methodObj (.ref f) (.ref y));exact k a _ (.inl rfl) e
 | ext φ=>obtain⟨p,⟨o,e⟩,st⟩:=x;exact⟨st _ _ p fun o q=>k _ _ (.inl rfl) q,⟨o,k _ _ (.inl rfl) e⟩,st⟩
theorem gq.lt(x:gq P w H h)(e:H a=some o):a < h.objs.size:=(x a o e).lt
theorem gq.fresh(x:gq P w H h)(e:h.objs.size<=a):H a=none:=by
 cases q:H a with
 | none=>rfl
 | some u=>exact absurd (ac4 (x.lt q) e) (ae8 _)
theorem gq.kept(x:gq P w H h)(k: ∀b u,h.get? b=some u->h'.get? b=some u):gq P w H h':=fun a o e=>
 (x a o e).fN (fun b u _ q=>k b u q) (fun _ q=>q) fun _ _ q=>q
theorem gq.laid(x:gq P w H h)(k: ∀b u,h.get? b=some u->h'.get? b=some u)(hp:h.objs.size<=a)(new:aV P w (upd H a o) h' a o):gq P w (upd H a o) h':=fun b u e=>by
 have hn:=x.fresh hp;by_cases hb:b=a
 . subst hb;rw[ag] at e;cases e;exact new
 . rw[ah hb] at e;exact(x b u e).fN (fun c v _ q=>k c v q) (fun c q=>by rw[ah (aq q hn)];exact q) fun c xs q=>by rw[ah (aq q hn)];exact q
def Rd(H:Hp)(a:Addr)(u:HO):Prop:=H a=some u\/ ∃o,H a=some (.tF o u)
theorem Rd.ok(r:Rd H a u)(x:gq P w H h):aV P w H h a u:=by
 rcases r with r | ⟨o,r⟩
 . exact x a u r
 . obtain⟨_,q⟩:=x a _ r;exact q
def Qf:Option HO->Prop
 | some (.lst _)=>True
 | some (.dK _)=>True
 | some (.dT _)=>True
 | some (.set _ _)=>True
 | some (.ins _ _ _)=>True
 | some (.ext _)=>True
 | _=>False
theorem gq.write(ok:gq P w H h)(mu:Qf (H x))(he:e=x\/H e=some (.own x))(k: ∀b u,b≠e->h.get? b=some u->h'.get? b=some u)(ME: ∃u,h'.get? e=some u)
  (new:aV P w (upd H x o') h' x o'):gq P w (upd H x o') h':=fun b u q=>by
 have N4: ∀c y,H c=some (.own y)->c≠x:=fun c y r z=>by subst z;rw[r] at mu;exact mu
 have Si: ∀c xs,H c=some (.tup xs)->c≠x:=fun c xs r z=>by subst z;rw[r] at mu;exact mu
 by_cases hb:b=x
 . subst hb;rw[ag] at q;cases q;exact new
 . rw[ah hb] at q;by_cases Gx:b=e
   . have q' : H b = some (.own x) := by
       rcases he with z | z
       . exact absurd (Gx.trans z) hb
       . rw[Gx];exact z
     rw[q] at q';cases q';obtain⟨v,hv⟩:=ME;exact⟨v,by rw[Gx];exact hv⟩
   . refine(ok b u q).fN (fun c v hc r=>k c v ?_ r) (fun c r=>by rw[ah (N4 c b r)];exact r) fun c xs r=>by rw[ah (Si c xs r)];exact r
     rcases hc with rfl | hc
     . exact Gx
     . rintro rfl
       rcases he with z | z
       . exact N4 c b hc z
       . rw[hc] at z;cases z;exact hb rfl
structure Un(fs ex:List Addr)(H H':Hp)(h h':Heap):Prop where
 keep: ∀b o,h.get? b=some o->H b=none->b∉fs->b∉ex->h'.get? b=some o
 slot: ∀b o,h.get? b=some o->H b=none->b∈fs->b∉ex-> ∃sl,h'.get? b=some {o with slots:=sl}
 free: ∀b o,h.get? b=some o->H b=none->b∉ex->H' b=none
 there: ∀b o,h.get? b=some o->b∉ex-> ∃o',h'.get? b=some o'
 kn: ∀b xs,H b=some (.tup xs)->H' b=some (.tup xs)
 jP: ∀b o u,H b=some (.tF o u)->H' b=some (.tF o u)
 kq: ∀b ps,H b=some (.HB ps)-> ∃more,H' b=some (.HB (ps++more))
section
variable{fs fs' ex ex':List Addr}{H H1 H2:Hp}{h h1 h2 h':Heap}{a x e:Addr}{o:HO}
theorem Un.any(u:Un fs ex H H1 h h1)(q:h.get? b=some ob)(n:H b=none)(hx:b∉ex): ∃sl,h1.get? b=some {ob with slots:=sl}:=by
 by_cases hb:b∈fs
 . exact u.slot b ob q n hb hx
 . exact⟨ob.slots,u.keep b ob q n hb hx⟩
theorem Un.kept(k: ∀b u,h.get? b=some u->h'.get? b=some u):Un fs ex H H h h':=
 ⟨fun b ob q _ _ _=>k b ob q,fun b ob q _ _ _=>⟨ob.slots,k b ob q⟩,fun _ _ _ n _=>n,fun b ob q _=>⟨ob,k b ob q⟩,fun _ _ q=>q,fun _ _ _ q=>q,fun _ ps q=>⟨#[],by rw[q];simp⟩⟩
theorem Un.refl:Un fs ex H H h h:=Un.kept fun _ _ q=>q
theorem Un.laid(k: ∀b u,h.get? b=some u->h'.get? b=some u)(hp:h.objs.size<=a)(hn:H a=none):Un fs ex H (upd H a o) h h' where
 keep:=fun b u q _ _ _=>k b u q
 slot:=fun b u q _ _ _=>⟨u.slots,k b u q⟩
 free:=fun b u q n _=>by rw[ah (af4 (ac4 (ac2 q) hp))];exact n
 there:=fun b u q _=>⟨u,k b u q⟩
 kn:=fun b xs q=>by rw[ah (aq q hn)];exact q
 jP:=fun b u xs q=>by rw[ah (aq q hn)];exact q
 kq:=fun b ps q=>⟨#[],by rw[ah (aq q hn),q];simp⟩
theorem Un.write(mu:Qf (H x))(he:e=x\/H e=some (.own x))(k: ∀b u,b≠e->h.get? b=some u->h'.get? b=some u)(ME: ∃u,h'.get? e=some u):Un fs ex H (upd H x o) h h':=by
 have hx: ∀b,H b=none->b≠x:=fun b n z=>by subst z;rw[n] at mu;exact mu
 have hb: ∀b,H b=none->b≠e:=fun b n z=>by
  subst z;rcases he with r | r
  . exact hx b n r
  . rw[n] at r;cases r
 have hm: ∀b u,H b=some u-> ¬Qf (some u)->b≠x:=fun b u q nm z=>by subst z;rw[q] at mu;exact nm mu
 refine⟨fun b u q n _ _=>k b u (hb b n) q,fun b u q n _ _=>⟨u.slots,k b u (hb b n) q⟩,fun b u q n _=>by rw[ah (hx b n)];exact n,fun b u q _=>?_,
  fun b xs q=>by rw[ah (hm b _ q fun z=>z)];exact q,fun b u xs q=>by rw[ah (hm b _ q fun z=>z)];exact q,fun b ps q=>⟨#[],by rw[ah (hm b _ q fun z=>z),q];simp⟩⟩
 by_cases Gx:b=e
 . subst Gx;exact ME
 . exact⟨u,k b u Gx q⟩
end
noncomputable def En(h:Heap)(H:Hp):List Addr:=(List.range h.objs.size).filter fun a=>(H a).isSome
noncomputable def qP(h:Heap)(H:Hp):Heap:=PySem.W.hideAll h (En h H)
theorem zH(h:Heap)(H:Hp):(qP h H).objs.size=h.objs.size:=PySem.W.hideAll_size _ _
theorem CD{h:Heap}(e:h.get? b=some o)(n:H b=none):(qP h H).get? b=some o:=
 PySem.W.hideAll_get _ e fun hm=>by
  have q:(H b).isSome=true:=(aj9.mp hm).2;rw[n] at q;simp at q
theorem FV(e:(qP h H).get? b=some o):h.get? b=some o/\H b=none:=by
 have e':h.get? b=some o:=PySem.W.of_hideAll (En h H) e;refine⟨e',?_⟩;cases q:H b with
 | none=>rfl
 | some x=>
  have hm:b∈En h H:=aj9.mpr ⟨af2.mpr (ac2 e'),by simp [q]⟩;have z:(qP h H).get? b=none:=PySem.W.hideAll_none (En h H) hm;rw[z] at e;cases e
structure Mod(K:PySem.W.Frag)(mg:Str->Option Value)(base:Heap):Prop where
 Oo:K.In base
 glob:base.Ns mainGlobals mg
 blt: ∃mb,base.Ns builtinsNs mb/\ ∀x:Str,x≠"__name__"->mb x=bootBuiltins x
 nolimit:base.NoLimit
structure Cx where
 prog:Program
 w:World
 K:PySem.W.Frag
 mg:Str->Option Value
 base:Heap
 A:Around
 N:List Str
 s₀:Shared
 H₀:Hp
 env:Env
 outer:List Env
 stack:List Env
 ex:List Addr
 fn:Str->Bool
 calm:Bool
 pn:List (Addr × Obj)
 xe:Value->Shared->Prop
noncomputable def fb(l:List Env):List Addr:=l.filterMap (·.frame)
noncomputable abbrev Cx.fs (X:Cx):List Addr:=fb X.outer
def Q1(sc:Scope)(x:Str):Prop:=sc.names.lookup x=some .local\/sc.names.lookup x=some .cell\/sc.names.lookup x=some .free
def Loc(sc:Scope)(x:Str):Prop:=sc.names.lookup x=some .local\/sc.names.lookup x=some .cell
def Look(env:Env)(h:Heap)(m:Str->Option Value)(x:Str)(u:Value):Prop:=
 (env.kindOf x=some .local/\m x=some u)\/((env.kindOf x=some .cell\/env.kindOf x=some .free)/\ ∃c,env.cells.lookup x=some c/\h.IsCell c (some u))
structure Cx.Ok(X:Cx):Prop where
 mod:Mod X.K X.mg X.base
 kind:X.env.scope.kind= .function
 glob:X.env.globals=mainGlobals
 blt:X.env.builtins=builtinsNs
 above:X.s₀.heap.objs.size<=X.env.locals
 inj: ∀x y c,X.env.cells.lookup x=some c->X.env.cells.lookup y=some c->x=y
 has: ∀x,(X.env.kindOf x=some .cell\/X.env.kindOf x=some .free)-> ∃c,X.env.cells.lookup x=some c
 MJ: ∀x c,X.fn x=true->X.env.cells.lookup x=some c->X.s₀.heap.objs.size<=c
 hd:X.calm=true->X.A.handled=none
 frames:X.A.frames=some X.stack
 Nq:X.stack=X.outer\/(X.stack=X.env::X.outer/\X.env.frame=some X.env.locals)
 GG: ∀b∈X.ex,b≠X.env.locals/\ ∀x c,X.env.cells.lookup x=some c->c≠b
 bs: ∀b o,X.base.get? b=some o->X.s₀.heap.get? b=some o/\X.H₀ b=none
 EA:X.base.objs.size<=X.s₀.heap.objs.size
 zk: ∀b o,X.base.get? b=some o->b∉X.ex
 tK: ∀b∈X.ex,b∉X.fs
 i7:X.s₀.heap.FunFrames X.base X.outer
 IC: ∀b∈X.fs,X.H₀ b=none
structure Inv(X:Cx)(pins:List (Addr × Obj))(σ:List (Option V))(H:Hp)(s:Shared):Prop where
 ok:X.Ok
 os:s.os=X.s₀.os
 bare:AllBare s.gens
 base:Un X.fs X.ex X.H₀ H X.s₀.heap s.heap
 loc: ∃m,s.heap.Ns X.env.locals m/\ ∀(i:Nat) (x:Str) (v:V),X.N[i]?=some x->σ[i]?=some (some v)->Q1 X.env.scope x-> ∃u,RelV v u/\Look X.env s.heap m x u
 cell: ∀x c,X.env.cells.lookup x=some c-> ∃v,s.heap.IsCell c v
 free:H X.env.locals=none
 eF: ∀x c,X.env.cells.lookup x=some c->H c=none
 pin: ∀p∈X.pn++pins,s.heap.get? p.1=some p.2/\H p.1=none/\p.1≠X.env.locals/\p.1∉X.fs/\ ∀v,p.2.data≠ .cell v
 aI:gq X.prog X.w H s.heap
 len:σ.length=X.N.length
section
variable{X:Cx}{pins:List (Addr × Obj)}{σ:List (Option V)}{H H':Hp}{s:Shared}{h':Heap}
theorem Cx.Ok.Sn(ok:X.Ok)(e:X.base.get? b=some o):b∉X.fs:=fun hb=>by
 have:=(ok.i7.mem hb).1;rw[e] at this;cases this
theorem Inv.bs(I:Inv X pins σ H s): ∀b o,X.base.get? b=some o->s.heap.get? b=some o/\H b=none:=fun b o e=>
 ⟨I.base.keep b o (I.ok.bs b o e).1 (I.ok.bs b o e).2 (I.ok.Sn e) (I.ok.zk b o e),I.base.free b o (I.ok.bs b o e).1 (I.ok.bs b o e).2 (I.ok.zk b o e)⟩
theorem Inv.bk(I:Inv X pins σ H s): ∀b o,X.base.get? b=some o->s.heap.get? b=some o:=fun b o e=>(I.bs b o e).1
theorem Inv.mod(I:Inv X pins σ H s):Mod X.K X.mg X.base:=I.ok.mod
theorem Inv.kJ(I:Inv X pins σ H s):X.K.In s.heap:=I.ok.mod.Oo.keeps I.bk
theorem Inv.lt(I:Inv X pins σ H s):X.env.locals < s.heap.objs.size:=let ⟨_,hn,_⟩:=I.loc;hn.lt
theorem Inv.sz(I:Inv X pins σ H s):X.s₀.heap.objs.size<=s.heap.objs.size:=ac6 I.ok.above (Nat.le_of_lt I.lt)
theorem Inv.Sk(I:Inv X pins σ H s)(h:s.heap.objs.size<=a):a∉X.fs:=fun hb=>by
 obtain⟨_,o,ho,_⟩:=I.ok.i7.mem hb;exact absurd (ac4 (ac2 ho) (ac6 I.sz h)) (ae8 _)
theorem Inv.G9(I:Inv X pins σ H s): ∀x c,X.env.cells.lookup x=some c->c≠X.env.locals:=fun x c e z=>by
 obtain⟨v,o,ho,hd⟩:=I.cell x c e;obtain⟨m,⟨o',es,ep,vB,Yt,_⟩,_⟩:=I.loc;rw[z,vB] at ho;cases ho;rw[Yt] at hd;cases hd
theorem Inv.i7(I:Inv X pins σ H s):s.heap.FunFrames X.base X.outer:=by
 have all: ∀(l:List Env),(∀b∈fb l,b∈X.fs)->X.s₀.heap.FunFrames X.base l->s.heap.FunFrames X.base l:=by
  intro l;induction l with
  | nil=>intro _ _;trivial
  | cons env r ih=>
   intro hs hl;obtain⟨hk,⟨L,o,hf,hn,ho,hd⟩,hr⟩:=hl;have hL:L∈X.fs:=hs L (by unfold fb;rw[an1,hf];exact ab3);obtain⟨sl,e⟩:=I.base.slot L o ho (I.ok.IC L hL) hL fun z=>I.ok.tK L z hL;exact⟨hk,⟨L,_,hf,hn,e,hd⟩,ih (fun b hb=>hs b (by unfold fb;rw[an1,hf];exact ab5 _ hb)) hr⟩
 exact all X.outer (fun _ hb=>hb) I.ok.i7
theorem Inv.stack(I:Inv X pins σ H s):s.heap.FunFrames X.base X.stack:=by
 rcases I.ok.Nq with e | ⟨e,hf⟩
 . rw[e];exact I.i7
 . rw[e];obtain⟨m,hn,_⟩:=I.loc;refine .cons (by rw[I.ok.kind];decide) hf hn ?_ I.i7;exact Heap.get?_none_of_le (ac6 I.ok.EA I.ok.above)
theorem Inv.uK(I:Inv X pins σ H s): ∀b∈fb X.stack,b∈X.env.locals::X.fs:=fun b hb=>by
 rcases I.ok.Nq with e | ⟨e,hf⟩
 . rw[e] at hb;exact ab5 _ hb
 . rw[e] at hb;unfold fb at hb;rw[an1,hf] at hb;exact hb
theorem Inv.ju(I:Inv X pins σ H s): ∀b∈fb X.stack,H b=none:=fun b hb=>by
 rcases ac3.mp (I.uK b hb) with e | hb
 . rw[e];exact I.free
 . obtain⟨_,o,ho,_⟩:=I.ok.i7.mem hb;exact I.base.free b o ho (I.ok.IC b hb) fun z=>I.ok.tK b z hb
theorem Inv.step{g':Array GenState}{t':Nat}{d':Drawn}{ch:List Addr}(I:Inv X pins σ H s)
  (Ey: ∀b∈ch,(b∈X.ex\/X.s₀.heap.objs.size<=b)/\b≠X.env.locals/\(∀x c,X.env.cells.lookup x=some c->c≠b)/\ ∀p∈X.pn++pins,p.1≠b)
  (keep: ∀b o,b≠X.env.locals->b∉X.fs->b∉ch->s.heap.get? b=some o->H b=none->h'.get? b=some o)
  (slot: ∀b o,b≠X.env.locals->b∈X.fs->b∉ch->s.heap.get? b=some o->H b=none-> ∃sl,h'.get? b=some {o with slots:=sl}) (free: ∀b o,b∉ch->s.heap.get? b=some o->H b=none->H' b=none)
  (there: ∀b o,b∉ch->s.heap.get? b=some o-> ∃o',h'.get? b=some o')
  (kn: ∀b xs,H b=some (.tup xs)->H' b=some (.tup xs)) (jP: ∀b o u,H b=some (.tF o u)->H' b=some (.tF o u)) (kq: ∀b ps,H b=some (.HB ps)-> ∃more,H' b=some (.HB (ps++more)))
  (ns: ∀m,s.heap.Ns X.env.locals m->h'.Ns X.env.locals m) (aI:gq X.prog X.w H' h') (hg:AllBare g'):
  Inv X pins σ H' {s with heap:=h',gens:=g',drawn:=d',toks:=t'}:=by
 have U1: ∀b o,X.s₀.heap.get? b=some o->b≠X.env.locals:=fun b o e=>af4 (ac4 (ac2 e) I.ok.above);have QB: ∀b o,X.s₀.heap.get? b=some o->b∉X.ex->b∉ch:=fun b o e hx hb=>by
  rcases(Ey b hb).1 with z | z
  . exact hx z
  . exact absurd (ac4 (ac2 e) z) (ae8 _)
 have cellK: ∀x c,X.env.cells.lookup x=some c-> ∀v,s.heap.IsCell c v->h'.IsCell c v:=fun x c e v bZ=>(by obtain⟨o,ho,hd⟩:=bZ;exact(by
  have N8:c∉ch:=fun z=>(Ey c z).2.2.1 x c e rfl;by_cases hc:c∈X.fs
  . obtain⟨sl,q⟩:=slot c o (I.G9 x c e) hc N8 ho (I.eF x c e);exact⟨_,q,hd⟩
  . exact⟨o,keep c o (I.G9 x c e) hc N8 ho (I.eF x c e),hd⟩))
 refine⟨I.ok,I.os,hg,⟨fun b o e n hb hx=>?_,fun b o e n hb hx=>?_,fun b o e n hx=>?_,fun b o e hx=>?_,fun b xs e=>kn b xs (I.base.kn b xs e),fun b o xs e=>jP b o xs (I.base.jP b o xs e),fun b ps e=>?_⟩,?_,fun x c e=>?_,?_,fun x c e=>?_,fun p hp=>?_,aI,I.len⟩
 . exact keep b o (U1 b o e) hb (QB b o e hx) (I.base.keep b o e n hb hx) (I.base.free b o e n hx)
 . obtain⟨sl,e1⟩:=I.base.slot b o e n hb hx;obtain⟨Nw,e2⟩:=slot b _ (U1 b o e) hb (QB b o e hx) e1 (I.base.free b o e n hx);exact⟨Nw,e2⟩
 . obtain⟨o',e1⟩:=I.base.there b o e hx;exact free b o' (QB b o e hx) e1 (I.base.free b o e n hx)
 . obtain⟨o',e1⟩:=I.base.there b o e hx;exact there b o' (QB b o e hx) e1
 . obtain⟨m1,e1⟩:=I.base.kq b ps e;obtain⟨m2,e2⟩:=kq b _ e1;exact⟨m1++m2,by rw[e2,Array.append_assoc]⟩
 . obtain⟨m,hn,hl⟩:=I.loc;refine⟨m,ns m hn,fun i x v e1 e2 e3=>?_⟩;obtain⟨u,r,l⟩:=hl i x v e1 e2 e3;refine⟨u,r,?_⟩;rcases l with l | ⟨k,c,e,z⟩
   . exact .inl l
   . exact .inr ⟨k,c,e,cellK x c e _ z⟩
 . obtain⟨v,z⟩:=I.cell x c e;exact⟨v,cellK x c e v z⟩
 . obtain⟨m,⟨o,_,_,ho,_⟩,_⟩:=I.loc;exact free _ o (fun z=>(Ey _ z).2.1 rfl) ho I.free
 . obtain⟨v,o,ho,hd⟩:=I.cell x c e;exact free c o (fun z=>(Ey c z).2.2.1 x c e rfl) ho (I.eF x c e)
 . obtain⟨e,n,ne,nf,d⟩:=I.pin p hp;have N8:p.1∉ch:=fun z=>(Ey p.1 z).2.2.2 p hp rfl;exact⟨keep p.1 p.2 ne nf N8 e n,free p.1 p.2 N8 e n,ne,nf,d⟩
theorem Inv.un(I:Inv X pins σ H s)(u:Un X.fs [] H H' s.heap h')(aI:gq X.prog X.w H' h'):Inv X pins σ H' {s with heap:=h',toks:=t'}:=by
 obtain⟨m,⟨o,es,ep,ho,r⟩,_⟩:=id I.loc;obtain⟨sl,hL⟩:=u.any ho I.free (by simp);exact I.step (g':=s.gens) (d':=s.drawn) (ch:= []) (fun _ z=>nomatch z) (fun b o _ hb _ e n=>u.keep b o e n hb (by simp)) (fun b o _ hb _ e n=>u.slot b o e n hb (by simp)) (fun b o _ e n=>u.free b o e n (by simp)) (fun b o _ e=>u.there b o e (by simp)) u.kn u.jP u.kq (fun m' hm=>by
  obtain⟨o',QQ,TU,vB,r'⟩:=hm;rw[ho] at vB;cases vB;exact⟨_,QQ,TU,hL,r'⟩) aI I.bare
theorem Inv.call(I:Inv X pins σ H s)(u:Un (fb X.stack) ch H H' s.heap h')(aI:gq X.prog X.w H' h')(hg:AllBare g')(Ey: ∀b∈ch,(b∈X.ex\/X.s₀.heap.objs.size<=b)/\b≠X.env.locals/\(∀x c,X.env.cells.lookup x=some c->c≠b)/\ ∀p∈X.pn++pins,p.1≠b):
  Inv X pins σ H' {s with heap:=h',gens:=g',drawn:=d',toks:=t'}:=by
 obtain⟨m,⟨o,es,ep,ho,r⟩,_⟩:=id I.loc;obtain⟨sl,hL⟩:=u.any ho I.free fun z=>(Ey _ z).2.1 rfl;exact I.step (ch:=ch) Ey (fun b o hL hb hc e n=>u.keep b o e n (fun z=>(ac3.mp (I.uK b z)).elim hL hb) hc) (fun b o _ _ hc e n=>u.any e n hc) (fun b o hc e n=>u.free b o e n hc) (fun b o hc e=>u.there b o e hc) u.kn u.jP u.kq (fun m' hm=>by
  obtain⟨o',QQ,TU,vB,r'⟩:=hm;rw[ho] at vB;cases vB;exact⟨_,QQ,TU,hL,r'⟩) aI hg
theorem Inv.turned(I:Inv X pins σ H s)(k: ∀b o,b≠it->s.heap.get? b=some o->h'.get? b=some o)(hn:H it=none)(hL:it≠X.env.locals)(h1:it∈X.ex\/X.s₀.heap.objs.size<=it)(h2: ∀x c,X.env.cells.lookup x=some c->c≠it)(h3: ∀p∈X.pn++pins,p.1≠it):Inv X pins σ H {s with heap:=h',toks:=t'}:=by
 have U0: ∀b u,H b=some u->b≠it:=fun b u e z=>by rw[z,hn] at e;cases e
 refine I.step (g':=s.gens) (d':=s.drawn) (ch:= [it]) (fun b hb=>?_) (fun b o _ _ hc e _=>k b o (fun z=>hc (by simp [z])) e) (fun b o _ _ hc e _=>⟨o.slots,k b o (fun z=>hc (by simp [z])) e⟩) (fun _ _ _ _ n=>n)
  (fun b o hc e=>⟨o,k b o (fun z=>hc (by simp [z])) e⟩) (fun _ _ e=>e) (fun _ _ _ e=>e) (fun b ps e=>⟨#[],by rw[e];simp⟩) (fun m hm=>?_) (fun b u e=>?_) I.bare
 . have e:b=it:=by simpa using hb
   subst e;exact⟨h1,hL,h2,h3⟩
 . obtain⟨o,es,ep,ho,r⟩:=hm;exact⟨o,es,ep,k _ o (Ne.symm hL) ho,r⟩
 . refine(I.aI b u e).fN (fun c v hc q=>k c v ?_ q) (fun _ q=>q) fun _ _ q=>q;rcases hc with z | z
   . rw[z];exact U0 b u e
   . exact U0 c _ z
theorem Inv.tok(I:Inv X pins σ H s)(t:Nat):Inv X pins σ H {s with toks:=t}:=I.un (h':=s.heap) (t':=t) Un.refl I.aI
theorem Inv.kept(I:Inv X pins σ H s)(k: ∀b u,s.heap.get? b=some u->h'.get? b=some u):Inv X pins σ H {s with heap:=h',toks:=t'}:=I.un (Un.kept k) (I.aI.kept k)
theorem Inv.laid(I:Inv X pins σ H s)(k: ∀b u,s.heap.get? b=some u->h'.get? b=some u)(hp:s.heap.objs.size<=a)(new:aV X.prog X.w (upd H a o) h' a o):
  Inv X pins σ (upd H a o) {s with heap:=h',toks:=t'}:=I.un (Un.laid k hp (I.aI.fresh hp)) (I.aI.laid k hp new)
theorem Inv.write(I:Inv X pins σ H s)(mu:Qf (H x))(he:e=x\/H e=some (.own x))(k: ∀b u,b≠e->s.heap.get? b=some u->h'.get? b=some u)(ME: ∃u,h'.get? e=some u)(new:aV X.prog X.w (upd H x o) h' x o):Inv X pins σ (upd H x o) {s with heap:=h',toks:=t'}:=I.un (Un.write mu he k ME) (I.aI.write mu he k ME new)
theorem Inv.weak{σ':List (Option V)}(I:Inv X pins σ H s)(hl:σ'.length=σ.length)(w: ∀(i:Nat) v,σ'[i]?=some (some v)->σ[i]?=some (some v)):Inv X pins σ' H s:=
 ⟨I.ok,I.os,I.bare,I.base,let ⟨m,hn,OR⟩:=I.loc;⟨m,hn,fun i x v e1 e2 e3=>OR i x v e1 (w i v e2) e3⟩,I.cell,I.free,I.eF,I.pin,I.aI,hl.trans I.len⟩
theorem Inv.xh(I:Inv X pins σ H s)(h: ∀p∈NP,s.heap.get? p.1=some p.2/\H p.1=none/\p.1≠X.env.locals/\p.1∉X.fs/\ ∀v,p.2.data≠ .cell v):Inv X NP σ H s:=
 ⟨I.ok,I.os,I.bare,I.base,I.loc,I.cell,I.free,I.eF,fun p hp=>(ae1.mp hp).elim (fun z=>I.pin p (ae2 _ z)) (h p),I.aI,I.len⟩
theorem nh{N:List Str}(hN:N.Nodup){i j:Nat}(a:N[i]?=some x)(b:N[j]?=some x):i=j:=by
 obtain⟨h1,e1⟩:=aa5.mp a;obtain⟨h2,e2⟩:=aa5.mp b;exact(List.getElem_inj hN).mp (e1.trans e2.symm)
theorem oZ(I:Inv X pins σ H s)(hN:X.N.Nodup)(hi:X.N[i]?=some x)(hx:Loc X.env.scope x)(r:RelV v u)(h: ∀s',Inv X pins (σ.set i (some v)) H s'->(∃a,Heap.SameBut a s.heap s'.heap/\(a=X.env.locals\/X.env.cells.lookup x=some a))->Q () s')(hf:X.fn x=true\/X.env.scope.names.lookup x=some .local:=by first | exact .inl rfl | exact .inr rfl | assumption):wpAny M A (storeName X.env x u) Q E s:=by
 obtain⟨m,hn,hl⟩:=id I.loc;have vH:(X.env.scope.kind== .class || (X.env.scope.kind== .module && X.env.locals !=X.env.globals))=false:=by rw[I.ok.kind];rfl
 have Gq:i < σ.length:=by rw[I.len];exact(aa5.mp hi).1
 have G9:=I.G9;have tracked: ∀{a:Addr} {h':Heap},(∃o,s.heap.get? a=some o/\H a=none)->Heap.SameBut a s.heap h'->gq X.prog X.w H h':=fun{a h'} ha hs b ob e=>by
  obtain⟨_,_,lb⟩:=ha;refine(I.aI b ob e).fN (fun c w' hc q=>(hs.2 c ?_).trans q) (fun _ q=>q) fun _ _ q=>q;rintro rfl
  rcases hc with rfl | hc
  . rw[lb] at e;cases e
  . rw[lb] at hc;cases hc
 rcases hx with hk | hk
 . refine wpAny_storeName_local hk hn (fun h' MC hs=>?_) vH;obtain⟨oL,_,_,Vi,_⟩:=id hn;refine h _ ⟨I.ok,I.os,I.bare,⟨fun b o e n hb hx=>?_,fun b o e n hb hx=>?_,I.base.free,fun b o e hx=>?_,I.base.kn,I.base.jP,I.base.kq⟩,⟨_,MC,fun j y v' e1 e2 e3=>?_⟩,fun y c e=>?_,I.free,I.eF,fun p hp=>?_,tracked ⟨oL,Vi,I.free⟩ hs,by simpa using I.len⟩ ⟨_,hs, .inl rfl⟩
   . exact(hs.2 b (af4 (ac4 (ac2 e) I.ok.above))).trans (I.base.keep b o e n hb hx)
   . obtain⟨sl,e1⟩:=I.base.slot b o e n hb hx;exact⟨sl,(hs.2 b (af4 (ac4 (ac2 e) I.ok.above))).trans e1⟩
   . obtain⟨o',e1⟩:=I.base.there b o e hx;exact⟨o',(hs.2 b (af4 (ac4 (ac2 e) I.ok.above))).trans e1⟩
   . by_cases hj:j=i
     . subst hj;rw[hi] at e1;cases e1;rw[ab9 Gq] at e2;cases e2;exact⟨u,r,.inl ⟨hk,by simp⟩⟩
     . rw[ab1 (Ne.symm hj)] at e2;obtain⟨u',r',q⟩:=hl j y v' e1 e2 e3;refine⟨u',r',?_⟩;rcases q with ⟨k,e⟩ | ⟨k,c,e,z⟩
       . refine .inl ⟨k,?_⟩;have:y≠x:=fun e=>hj (nh hN e1 (e▸hi));simp [this,e]
       . exact .inr ⟨k,c,e,z.sameBut hs (G9 y c e)⟩
   . obtain⟨w',z⟩:=I.cell y c e;exact⟨w',z.sameBut hs (G9 y c e)⟩
   . obtain⟨e,n,ne,nf,d⟩:=I.pin p hp;exact⟨(hs.2 p.1 ne).trans e,n,ne,nf,d⟩
 . have Gr : X.fn x = true := by
     rcases hf with z | z
     . exact z
     . rw[z] at hk;cases hk
   obtain⟨c,hc⟩:=I.ok.has x (.inl hk);obtain⟨w',z⟩:=I.cell x c hc;refine wpAny_storeName_cell I.ok.kind hk hc z (fun h' Iy hs=>?_);obtain⟨oc,QD,SV⟩:=id z;refine h {s with heap:=h'} ⟨I.ok,I.os,I.bare,⟨fun b o e n hb hx=>?_,fun b o e n hb hx=>?_,I.base.free,fun b o e hx=>?_,I.base.kn,I.base.jP,I.base.kq⟩,⟨m,hn.sameBut hs (Ne.symm (G9 x c hc)),fun j y v' e1 e2 e3=>?_⟩,fun y c' e=>?_,I.free,I.eF,fun p hp=>?_,tracked ⟨oc,QD,I.eF x c hc⟩ hs,by simpa using I.len⟩ ⟨c,hs,.inr hc⟩
   . exact(hs.2 b (af4 (ac4 (ac2 e) (I.ok.MJ x c Gr hc)))).trans (I.base.keep b o e n hb hx)
   . obtain⟨sl,e1⟩:=I.base.slot b o e n hb hx;exact⟨sl,(hs.2 b (af4 (ac4 (ac2 e) (I.ok.MJ x c Gr hc)))).trans e1⟩
   . obtain⟨o',e1⟩:=I.base.there b o e hx;exact⟨o',(hs.2 b (af4 (ac4 (ac2 e) (I.ok.MJ x c Gr hc)))).trans e1⟩
   . by_cases hj:j=i
     . subst hj;rw[hi] at e1;cases e1;rw[ab9 Gq] at e2;cases e2;exact⟨u,r,.inr ⟨.inl hk,c,hc,Iy⟩⟩
     . rw[ab1 (Ne.symm hj)] at e2;obtain⟨u',r',q⟩:=hl j y v' e1 e2 e3;refine⟨u',r',?_⟩;rcases q with q | ⟨k,c',e,z'⟩
       . exact .inl q
       . refine .inr ⟨k,c',e,z'.sameBut hs ?_⟩;rintro rfl
         exact hj (nh hN e1 (I.ok.inj _ _ _ e hc▸hi))
   . by_cases Vo:c'=c
     . subst Vo;exact⟨_,Iy⟩
     . obtain⟨w2,z2⟩:=I.cell y c' e;exact⟨w2,z2.sameBut hs Vo⟩
   . obtain⟨e,n,ne,nf,d⟩:=I.pin p hp;refine⟨(hs.2 p.1 ?_).trans e,n,ne,nf,d⟩;intro q;rw[q,QD] at e;have q':oc=p.2:=Option.some.inj e;exact d w' (by rw[<-q'];exact SV)
theorem fm(I:Inv X pins σ H s)(hN:X.N.Nodup)(hi:X.N[i]?=some x)(hx:Loc X.env.scope x)(r:RelV v u)(h: ∀s',Inv X pins (σ.set i (some v)) H s'->Q () s')(hf:X.fn x=true\/X.env.scope.names.lookup x=some .local:=by first | exact .inl rfl | exact .inr rfl | assumption):wpAny M A (storeName X.env x u) Q E s:=
 oZ I hN hi hx r (fun s' I' _=>h s' I') hf
theorem Inv.t7{s':Shared}(I:Inv X pins σ H s)(ho:s'.os=s.os)(u:Un (fb X.stack) ch H H' s.heap s'.heap)(aI:gq X.prog X.w H' s'.heap)(hg:AllBare s'.gens)(Ey: ∀b∈ch,(b∈X.ex\/X.s₀.heap.objs.size<=b)/\b≠X.env.locals/\(∀x c,X.env.cells.lookup x=some c->c≠b)/\ ∀p∈X.pn++pins,p.1≠b):Inv X pins σ H' s':=by
 obtain⟨h',g',d',t',o'⟩:=s';have e:o'=s.os:=ho;subst e;exact I.call (g':=g') (t':=t') (d':=d') u aI hg Ey
end
abbrev XK:=Value->Option Addr->Hp->Prop
abbrev St:=List (Option V)
abbrev VK:=V->Hp->Prop
abbrev TE:=St->Hp->VK->Prop
abbrev TT:=St->Hp->(Bool->Hp->Prop)->Prop
abbrev TA:=St->Hp->(List V->Hp->Prop)->Prop
structure Ends where
 nx:St->Hp->Prop
 rt:VK
 bk:St->Hp->Prop:=fun _ _=>False
 ct:St->Hp->Prop:=fun _ _=>False
abbrev TS:=Ends->St->Hp->Prop
inductive EP(X:Cx)(pins:List (Addr × Obj))(σ:St)(Q:VK)(u:Value)(s':Shared):Prop
 | mk (v:V) (H':Hp) (h1:Inv X pins σ H' s') (h2:RelV v u) (h3:Q v H')
inductive TP(X:Cx)(pins:List (Addr × Obj))(σ:St)(Q:Bool->Hp->Prop)(b:Bool)(s':Shared):Prop
 | mk (H':Hp) (h1:Inv X pins σ H' s') (h2:Q b H')
inductive AP(X:Cx)(pins:List (Addr × Obj))(σ:St)(Q:List V->Hp->Prop)(us:List Value)(s':Shared):Prop
 | mk (vs:List V) (H':Hp) (h1:Inv X pins σ H' s') (h2:Vals vs us) (h3:Q vs H')
inductive P6(X:Cx)(pins:List (Addr × Obj))(P:St->Hp->Prop)(s':Shared):Prop
 | mk (σ':St) (H':Hp) (h1:Inv X pins σ' H' s') (h2:P σ' H')
inductive ZY(X:Cx)(pins:List (Addr × Obj))(P:VK)(u:Value)(s':Shared):Prop
 | mk (v:V) (σ':St) (H':Hp) (h1:Inv X pins σ' H' s') (h2:RelV v u) (h3:P v H')
def SP(X:Cx)(pins:List (Addr × Obj))(D:Ends)(f:Flow)(s':Shared):Prop:=
 match f with
 | .next=>P6 X pins D.nx s'
 | .brk=>P6 X pins D.bk s'
 | .cont=>P6 X pins D.ct s'
 | .ret u=>ZY X pins D.rt u s'
def PE(X:Cx)(e:Expr)(t:TE):Prop:=
 ∀(pins:List (Addr × Obj)) (s:Shared) (σ:St) (H:Hp) (Q:VK),Inv X pins σ H s->t σ H Q->wpAny (model X.prog X.w) X.A (eval e X.env) (EP X pins σ Q) X.xe s
def PT(X:Cx)(e:Expr)(t:TT):Prop:=
 ∀(pins:List (Addr × Obj)) (s:Shared) (σ:St) (H:Hp) (Q:Bool->Hp->Prop),Inv X pins σ H s->t σ H Q->wpAny (model X.prog X.w) X.A (isTrue e X.env (eval e X.env)) (TP X pins σ Q) X.xe s
def PW(X:Cx)(e:Expr)(t:TT):Prop:=
 ∀(whole:Sem Value) (pins:List (Addr × Obj)) (s:Shared) (σ:St) (H:Hp) (Q:Bool->Hp->Prop),Inv X pins σ H s->t σ H Q->wpAny (model X.prog X.w) X.A (isTrue e X.env whole) (TP X pins σ Q) X.xe s
theorem PW.pt(h:PW X e t):PT X e t:=h _
def PA(X:Cx)(es:List Expr)(t:TA):Prop:=
 ∀(pos:Pos) (pins:List (Addr × Obj)) (s:Shared) (σ:St) (H:Hp) (Q:List V->Hp->Prop),Inv X pins σ H s->t σ H Q->wpAny (model X.prog X.w) X.A (spliced (backTo pos (starEach es X.env))) (AP X pins σ Q) X.xe s
def PS(X:Cx)(st:Stmt)(t:TS):Prop:=
 ∀(pins:List (Addr × Obj)) (s:Shared) (σ:St) (H:Hp) (D:Ends),Inv X pins σ H s->t D σ H->wpAny (model X.prog X.w) X.A (exec st X.env) (SP X pins D) X.xe s
def iH(X:Cx)(st:List Stmt)(t:TS):Prop:=
 ∀(pins:List (Addr × Obj)) (s:Shared) (σ:St) (H:Hp) (D:Ends),Inv X pins σ H s->t D σ H->wpAny (model X.prog X.w) X.A (execs st X.env) (SP X pins D) X.xe s
theorem aN(h:wpAny M A t Q E s)(hQ: ∀a s,Q a s->Q' a s):wpAny M A t Q' E s:=ad1 h hQ fun _ _ x=>x
section
variable{X:Cx}
def iF(i:Nat):TE:=fun σ H Q=> ∃v,σ[i]?=some (some v)/\Q v H
def tC(v:V):TE:=fun _ H Q=>Q v H
theorem BJ(hN:X.N[i]?=some x)(hv:Q1 X.env.scope x)(hd:(x==("__debug__":Str))=false:=by decide)(jo:(x==("__classdict__":Str))=false:=by decide):PE X (.Name x pos) (iF i):=by
 intro pins s σ H Q I h;obtain⟨v,e,h⟩:=h;obtain⟨m,hn,hl⟩:=I.loc;obtain⟨u,r,l⟩:=hl i x v hN e hv;have fin:EP X pins σ Q u s:=⟨v,H,I,r,h⟩
 rcases l with ⟨hk,hm⟩ | ⟨hk,c,hc,ph⟩
 . exact wpAny_Name (wpAny_loadName_local I.ok.kind hk hn hm fin) hd
 . rcases hk with hk | hk
   . exact wpAny_Name (wpAny_loadName_cell I.ok.kind hk hc ph fin) hd
   . exact wpAny_Name (wpAny_loadName_free I.ok.kind hk hc ph fin jo) hd
theorem bU{i j pos}:PE X (.Constant (.int i) j pos) (tC (.int i)):=fun _ _ _ H _ I h=>wpAny_Constant_int ⟨.int i,H,I.tok _,⟨_,rfl⟩,h⟩
theorem NR{b j pos}:PE X (.Constant (.bool b) j pos) (tC (.bl b)):=fun _ _ _ H _ I h=>Constant_bool ⟨.bl b,H,I,rfl,h⟩
theorem qA{j pos}:PE X (.Constant .none j pos) (tC .aF):=fun _ _ _ H _ I h=>Constant_none ⟨.aF,H,I,rfl,h⟩
theorem eW{x j pos}:PE X (.Constant (.str x) j pos) (tC (.str x)):=fun _ _ _ H _ I h=>Calls.Constant_str ⟨.str x,H,I.tok _,⟨_,rfl⟩,h⟩
def Gl(X:Cx)(x:Str):Prop:=X.env.kindOf x=some .globalImplicit
theorem jH(I:Inv X pins σ H s)(hg:Gl X x)(hm:X.mg x=some u)(h:Q u s)(hd:(x==("__debug__":Str))=false:=by decide):wpAny (model X.prog X.w) X.A (eval (.Name x pos) X.env) Q E s:=
 Calls.Name_function_global I.ok.kind hg (Calls.loadGlobal_global (by rw[I.ok.glob];exact I.mod.glob.keeps I.bk) hm h) hd
theorem cA(I:Inv X pins σ H s)(hg:Gl X x)(hm:X.mg x=none)(hv:bootBuiltins x=some u)(h:Q u s)(hn:x≠"__name__":=by decide)(hd:(x==("__debug__":Str))=false:=by decide):wpAny (model X.prog X.w) X.A (eval (.Name x pos) X.env) Q E s:=by
 obtain⟨mb,h1,h2⟩:=I.mod.blt;exact Calls.Name_function_global I.ok.kind hg (Calls.loadGlobal_builtin (by rw[I.ok.glob];exact I.mod.glob.keeps I.bk) hm (by rw[I.ok.blt];exact h1.keeps I.bk) ((h2 x hn).trans hv) h) hd
theorem dS(hg:Gl X x)(hm:X.mg x=some u)(r:RelV v u)(hd:(x==("__debug__":Str))=false:=by decide):PE X (.Name x pos) (tC v):=
 fun _ _ _ H _ I h=>jH I hg hm ⟨v,H,I,r,h⟩ hd
theorem aU(hg:Gl X x)(hm:X.mg x=none)(hv:bootBuiltins x=some u)(r:RelV v u)(hn:x≠"__name__":=by decide)(hd:(x==("__debug__":Str))=false:=by decide):PE X (.Name x pos) (tC v):=
 fun _ _ _ H _ I h=>cA I hg hm hv ⟨v,H,I,r,h⟩ hn hd
variable{a b:Expr}{ta tb:TE}{pos:Pos}
def PC(X:Cx)(op:CmpOp)(a b:Expr)(t:TE):Prop:=
 ∀(pins:List (Addr × Obj)) (s:Shared) (σ:St) (H:Hp) (Q:VK),Inv X pins σ H s->t σ H Q->
  wpAny (model X.prog X.w) X.A (eval a X.env) (fun v s₁=>wpAny (model X.prog X.w) X.A (eval b X.env) (fun u s₂=>wpAny (model X.prog X.w) X.A (compareOp op v u) (EP X pins σ Q) X.xe s₂) X.xe s₁) X.xe s
theorem sT(b:Expr)(h:op≠ .In)(h2:op≠ .NotIn):behindInMarks op b=false:=by
 have e1:(op==CmpOp.In)=false:=by cases op <;> first | rfl | exact absurd rfl h
 have e2:(op==CmpOp.NotIn)=false:=by cases op <;> first | rfl | exact absurd rfl h2
 cases b <;> simp [behindInMarks,e1,e2]
def Nl(ta:TE):TE:=fun σ H Q=>ta σ H fun x H1=>Q (.bl (decide (x= .aF))) H1
def HE(ta:TE):TE:=fun σ H Q=>ta σ H fun x H1=>Q (.bl (!decide (x= .aF))) H1
theorem RelV.sS(r:RelV x v):(v==Value.none)=decide (x= .aF):=by
 cases x with
 | aF=>cases r;rfl
 | bl _=>cases r;rfl
 | int _=>obtain⟨t,rfl⟩:=r;rfl
 | str _=>obtain⟨t,rfl⟩:=r;rfl
 | x4 _=>obtain⟨t,rfl⟩:=r;rfl
 | Au _=>obtain⟨t,rfl⟩:=r;rfl
 | ref _=>cases r;rfl
 | ty _=>cases r;rfl
theorem u9{j pos'}(ha:PE X a ta):PC X .Is a (.Constant .none j pos') (Nl ta):=by
 intro pins s σ H Q I h;refine aN (ha pins s σ H _ I h) fun v s1 iC=>?_;obtain⟨x,H1,I1,r1,q1⟩:=iC;exact Constant_none (is_none_gen ⟨.bl _,H1,I1,by rw[r1.sS];rfl,q1⟩)
theorem FA{j pos'}(ha:PE X a ta):PC X .IsNot a (.Constant .none j pos') (HE ta):=by
 intro pins s σ H Q I h;refine aN (ha pins s σ H _ I h) fun v s1 iS=>?_;obtain⟨x,H1,I1,r1,q1⟩:=iS;exact Constant_none (isnot_none_gen ⟨.bl _,H1,I1,by rw[r1.sS];rfl,q1⟩)
def tB(t:TE):TT:=fun σ H Q=>t σ H fun x H1=> ∃c,x= .bl c/\Q c H1
theorem J7(h:PC X op a b t)(h1:behindInMarks op b=false:=by first | exact sT _ (by decide) (by decide) | rfl):PE X (.Compare a [op] [b] pos) t:=fun pins s σ H Q I hw=>wpAny_Compare1 (h pins s σ H Q I hw) h1
theorem uZ(h:PC X op a b t)(h1:behindInMarks op b=false:=by first | exact sT _ (by decide) (by decide) | rfl):PT X (.Compare a [op] [b] pos) (tB t):=by
 intro pins s σ H Q I hw;refine wpAny_isTrue_Compare1 (aN (h pins s σ H _ I hw) fun v s1 h1=>aN h1 fun u s2 h2=>aN h2 fun c s3 jq=>?_) h1;obtain⟨x,H1,I1,r1,q1⟩:=jq;obtain⟨d,rfl,q⟩:=q1;cases r1;exact aj7 ⟨H1,I1,q⟩
theorem uY(h:PE X e t)(he: ∀whole,isTrue e X.env whole=(do let v<-whole;standAt e.pos;holding [v] (truthy v)):=by intro _;rfl):PT X e (tB t):=by
 intro pins s σ H Q I hw;refine isTrue_plain (aN (h pins s σ H _ I hw) fun v s1 mE=>?_) (he _);obtain⟨x,H1,I1,r1,q1⟩:=mE;obtain⟨d,rfl,q⟩:=q1;cases r1;exact aj7 ⟨H1,I1,q⟩
variable{tA Qt:TT}{rest:List Expr}
def R3(t u:TT):TT:=fun σ H Q=>t σ H fun c H1=>if c=true then u σ H1 Q else Q false H1
def Xa(t u:TT):TT:=fun σ H Q=>t σ H fun c H1=>if c=true then Q true H1 else u σ H1 Q
def RX(t:TT):TT:=fun σ H Q=>t σ H fun c H1=>Q (!c) H1
theorem pw_and1(ha:PT X a tA):PW X (.BoolOp .And [a] pos) tA:=by
 intro wh pins s σ H Q I h;refine isTrue_and (aN (ha pins s σ H Q I h) fun c s1 e=>?_);cases c with
 | true=>exact isTrue_and_nil e
 | false=>exact e
theorem pw_or1(ha:PT X a tA):PW X (.BoolOp .Or [a] pos) tA:=by
 intro wh pins s σ H Q I h;refine isTrue_or (aN (ha pins s σ H Q I h) fun c s1 e=>?_);cases c with
 | false=>exact isTrue_or_nil e
 | true=>exact e
theorem pw_and(ha:PT X a tA)(hb:PW X (.BoolOp .And (b::rest) pos) Qt):PW X (.BoolOp .And (a::b::rest) pos) (R3 tA Qt):=by
 intro wh pins s σ H Q I h;refine isTrue_and (aN (ha pins s σ H _ I h) fun c s1 rP=>?_);obtain⟨H1,I1,q1⟩:=rP;cases c with
 | true=>exact hb wh pins s1 σ H1 Q I1 q1
 | false=>exact⟨H1,I1,q1⟩
theorem pw_or(ha:PT X a tA)(hb:PW X (.BoolOp .Or (b::rest) pos) Qt):PW X (.BoolOp .Or (a::b::rest) pos) (Xa tA Qt):=by
 intro wh pins s σ H Q I h;refine isTrue_or (aN (ha pins s σ H _ I h) fun c s1 mD=>?_);obtain⟨H1,I1,q1⟩:=mD;cases c with
 | true=>exact⟨H1,I1,q1⟩
 | false=>exact hb wh pins s1 σ H1 Q I1 q1
theorem By(ha:PT X a tA):PT X (.UnaryOp .Not a pos) (RX tA):=by
 intro pins s σ H Q I h;refine isTrue_not (ad1 (ha pins s σ H (fun c H1=>Q (!c) H1) I h) (fun c s' z=>?_) fun _ _ z=>z);obtain⟨H',I',q⟩:=z;exact⟨H',I',q⟩
def Np(ta tb:TE):TE:=fun σ H Q=>ta σ H fun x H1=> ∃c,x= .bl c/\if c=true then tb σ H1 Q else Q (.bl false) H1
def Ng(ta:TE):TE:=fun σ H Q=>ta σ H fun x H1=> ∃c,x= .bl c/\Q (.bl (!c)) H1
theorem J5{op}(h:PE X a t):PE X (.BoolOp op [a] pos) t:=fun pins s σ H Q I hw=>BoolOp_one (h pins s σ H Q I hw)
theorem J9(ha:PE X a ta)(hb:PE X (.BoolOp .And (b::rest) pos) tb):PE X (.BoolOp .And (a::b::rest) pos) (Np ta tb):=by
 intro pins s σ H Q I h;refine BoolOp_and (aN (ha pins s σ H _ I h) fun v s1 gv=>?_);obtain⟨x,H1,I1,r1,q1⟩:=gv;obtain⟨c,rfl,q1⟩:=q1;cases r1;refine aj7 ?_;cases c with
 | true=>exact hb pins s1 σ H1 Q I1 q1
 | false=>exact⟨.bl false,H1,I1,rfl,q1⟩
theorem J6(ha:PE X a ta):PE X (.UnaryOp .Not a pos) (Ng ta):=by
 intro pins s σ H Q I h;refine UnaryOp_ (aN (ha pins s σ H _ I h) fun v s1 mF=>?_);obtain⟨x,H1,I1,r1,q1⟩:=mF;obtain⟨c,rfl,q1⟩:=q1;cases r1;exact not_of (aj7 ⟨.bl (!c),H1,I1,rfl,q1⟩)
def Xc(t:TT)(ta tb:TE):TE:=fun σ H Q=>t σ H fun c H1=>if c=true then ta σ H1 Q else tb σ H1 Q
theorem sO(hc:PT X c tA)(ha:PE X a ta)(hb:PE X b tb):PE X (.IfExp c a b pos) (Xc tA ta tb):=by
 intro pins s σ H Q I h;refine wpAny_IfExp (aN (hc pins s σ H _ I h) fun d s1 iT=>?_);obtain⟨H1,I1,q1⟩:=iT;cases d with
 | true=>exact ha pins s1 σ H1 Q I1 q1
 | false=>exact hb pins s1 σ H1 Q I1 q1
end
def bS(K:PySem.W.Frag)(H:Hp)(a:Addr)(xs:List V):Prop:=
 Rd H a (.lst xs)\/
  ∃(o:Obj) (ao:Array Value) (n:Nat),K.lookup a=some o/\o.cls= .type "list"/\o.dict=none/\o.data= .seq ao n/\ao.size<=sizeLine/\Vals xs ao.toList
def dB(K:PySem.W.Frag)(H:Hp)(a:Addr)(xs:List V):Prop:=
 Rd H a (.tup xs)\/
  ∃(o:Obj) (ao:Array Value) (n:Nat),K.lookup a=some o/\o.cls= .type "tuple"/\o.data= .seq ao n/\ao.size<=sizeLine/\Vals xs ao.toList
noncomputable def Hh:Value->Option V
 | .none=>some .aF
 | .bool b=>some (.bl b)
 | .int i _=>some (.int i)
 | .str x _=>some (.str x)
 | .bytes b _=>some (.x4 b)
 | .float b _=>some (.Au b)
 | .ref a=>some (.ref a)
 | .type n=>some (.ty n)
 | _=>none
theorem RelV.abs(r:RelV x u):Hh u=some x:=by
 cases x with
 | aF=>cases r;rfl
 | bl _=>cases r;rfl
 | int _=>obtain⟨t,rfl⟩:=r;rfl
 | str _=>obtain⟨t,rfl⟩:=r;rfl
 | x4 _=>obtain⟨t,rfl⟩:=r;rfl
 | Au _=>obtain⟨t,rfl⟩:=r;rfl
 | ref _=>cases r;rfl
 | ty _=>cases r;rfl
theorem RelV.inj(r:RelV x u)(q:RelV y u):x=y:=Option.some.inj (r.abs.symm.trans q.abs)
theorem Vals.inj: ∀{xs ys:List V} {us:List Value},Vals xs us->Vals ys us->xs=ys
 | _,_,_,.nil,.nil=>rfl
 | _,_,_,.cons r t,.cons r' t'=>by rw[r.inj r',Vals.inj t t']
theorem bS.of{K:PySem.W.Frag}(h:H a=some (.lst xs)):bS K H a xs:= .inl (.inl h)
theorem dB.of{K:PySem.W.Frag}(h:H a=some (.tup xs)):dB K H a xs:= .inl (.inl h)
theorem Inv.list(I:Inv X pins σ H s)(h:bS X.K H a xs): ∃ao:List Value,Vals xs ao/\PlainL s.heap a ao.toArray/\xs.length<=sizeLine:=by
 rcases h with h | ⟨o,ao,n,hk,hc,hd,hs,hz,r⟩
 . obtain⟨z,ao,n,r,e⟩:=h.ok I.aI;exact⟨ao,r,⟨_,n,e,rfl,rfl,rfl⟩,z⟩
 . refine⟨ao.toList,r,⟨o,n,I.kJ a o hk,hc,hd,by simpa using hs⟩,?_⟩;have e:=r.length;simp only [ai8] at e;lia
theorem Inv.tuple(I:Inv X pins σ H s)(h:dB X.K H a xs): ∃ao:List Value,Vals xs ao/\IsTup s.heap a ao.toArray/\xs.length<=sizeLine:=by
 rcases h with h | ⟨o,ao,n,hk,hc,hs,hz,r⟩
 . obtain⟨z,ao,r,p⟩:=h.ok I.aI;exact⟨ao,r,p.tup,z⟩
 . refine⟨ao.toList,r,⟨o,I.kJ a o hk,hc,n,by simpa using hs⟩,?_⟩;have e:=r.length;simp only [ai8] at e;lia
theorem Inv.sX(I:Inv X pins σ H s)(h:bS X.K H a xs)(h':bS X.K H a ys):xs=ys:=by
 obtain⟨ao,r,⟨o,n,e,_,_,d⟩,_⟩:=I.list h;obtain⟨its',r',⟨o',n',e',_,_,d'⟩,_⟩:=I.list h';rw[e] at e';cases e';rw[d] at d';injection d' with d1 _
 have:ao=its':=by simpa using ag1 Array.toList d1
 subst this;exact r.inj r'
theorem Inv.yD(I:Inv X pins σ H s)(h:dB X.K H a xs)(h':dB X.K H a ys):xs=ys:=by
 obtain⟨ao,r,⟨o,e,_,n,d⟩,_⟩:=I.tuple h;obtain⟨its',r',⟨o',e',_,n',d'⟩,_⟩:=I.tuple h';rw[e] at e';cases e';rw[d] at d';injection d' with d1 _
 have:ao=its':=by simpa using ag1 Array.toList d1
 subst this;exact r.inj r'
noncomputable abbrev Cx.mI (X:Cx) (E:Value->Shared->Prop):Cx:={X with xe:=E}
noncomputable abbrev Cx.Cd (X:Cx):Cx:=X.mI fun _ _=>False
theorem Cx.Ok.mI{X:Cx}(ok:X.Ok)(E:Value->Shared->Prop):(X.mI E).Ok:=
 ⟨ok.mod,ok.kind,ok.glob,ok.blt,ok.above,ok.inj,ok.has,ok.MJ,ok.hd,ok.frames,ok.Nq,ok.GG,ok.bs,ok.EA,ok.zk,ok.tK,ok.i7,ok.IC⟩
theorem Cx.Ok.fM{X:Cx}(ok:(X.mI E).Ok):X.Ok:=
 ⟨ok.mod,ok.kind,ok.glob,ok.blt,ok.above,ok.inj,ok.has,ok.MJ,ok.hd,ok.frames,ok.Nq,ok.GG,ok.bs,ok.EA,ok.zk,ok.tK,ok.i7,ok.IC⟩
theorem Inv.mI(I:Inv X pins σ H s)(E:Value->Shared->Prop):Inv (X.mI E) pins σ H s:=⟨I.ok.mI E,I.os,I.bare,I.base,I.loc,I.cell,I.free,I.eF,I.pin,I.aI,I.len⟩
theorem Inv.fM(I:Inv (X.mI E) pins σ H s):Inv X pins σ H s:=⟨I.ok.fM,I.os,I.bare,I.base,I.loc,I.cell,I.free,I.eF,I.pin,I.aI,I.len⟩
theorem SP.fM(h:SP (X.mI E) pins D f s'):SP X pins D f s':=by
 cases f with
 | next=>obtain⟨σ',H',I,q⟩:=h;exact⟨σ',H',I.fM,q⟩
 | brk=>obtain⟨σ',H',I,q⟩:=h;exact⟨σ',H',I.fM,q⟩
 | cont=>obtain⟨σ',H',I,q⟩:=h;exact⟨σ',H',I.fM,q⟩
 | ret u=>obtain⟨v,σ',H',I,r,q⟩:=h;exact⟨v,σ',H',I.fM,r,q⟩
theorem iH.Cd{st:List Stmt}(h:iH X.Cd st t):iH X st t:=fun pins s σ H D I hw=>
 ad1 (h pins s σ H D (I.mI _) hw) (fun _ _ q=>q.fM) fun _ _ z=>False.elim z
section
variable{X:Cx}{st:Stmt}{rest:List Stmt}{t u:TS}{e:Expr}{te:TE}{pos:Pos}
def Nh:TS:=fun D σ H=>D.nx σ H
def RU(t u:TS):TS:=fun D σ H=>t {D with nx:=u D} σ H
theorem jD:iH X [] Nh:=fun _ _ σ H _ I h=>an2 ⟨σ,H,I,h⟩
theorem aT(h1:PS X st t)(h2:iH X rest u):iH X (st::rest) (RU t u):=by
 intro pins s σ H D I h;refine wpAny_execs_cons (aN (h1 pins s σ H {D with nx:=u D} I h) fun f s1 q=>?_);cases f with
 | next=>
  obtain⟨σ',H',I',q⟩:=q;exact h2 pins s1 σ' H' D I' q
 | ret v=>exact q
 | brk=>exact q
 | cont=>exact q
theorem cK(h1:PS X st t):iH X [st] t:=by
 intro pins s σ H D I h;refine wpAny_execs_cons (aN (h1 pins s σ H D I h) fun f s1 q=>?_);cases f with
 | next=>exact an2 q
 | ret v=>exact q
 | brk=>exact q
 | cont=>exact q
theorem Inv.quiet(I:Inv X pins σ H s):interactive X.env=false:=by simp [interactive,I.ok.kind]
def Nm(te:TE):TS:=fun D σ H=>te σ H fun _ H1=>D.nx σ H1
theorem Fs(he:PE X e te)(hs:swapsWith e none pos.line X.env=pure false:=by rfl):PS X (.Expr e pos) (Nm te):=by
 intro pins s σ H D I h;exact wpAny_Expr_any (aN (he pins s σ H _ I h) fun v s1 AH=>(by obtain⟨x,H1,I1,r1,q1⟩:=AH;exact(⟨σ,H1,I1,q1⟩))) I.quiet hs
def RV(te:TE):TS:=fun D σ H=>te σ H D.rt
theorem iZ(he:PE X e te):PS X (.Return (some e) pos) (RV te):=by
 intro pins s σ H D I h;exact wpAny_Return_some (aN (he pins s σ H _ I h) fun v s1 AG=>(by obtain⟨x,H1,I1,r1,q1⟩:=AG;exact(⟨x,σ,H1,I1,r1,q1⟩)))
def RY(c:TT)(t u:TS):TS:=fun D σ H=>c σ H fun b H1=>if b=true then t D σ H1 else u D σ H1
theorem sJ(hc:PT X c tc)(ha:iH X a t)(hb:iH X b u):PS X (.If c a b pos) (RY tc t u):=by
 intro pins s σ H D I h;refine wpAny_If (aN (hc pins s σ H _ I h) fun d s1 AF=>?_);obtain⟨H1,I1,q1⟩:=AF;cases d with
 | true=>exact ha pins s1 σ H1 D I1 q1
 | false=>exact hb pins s1 σ H1 D I1 q1
end
abbrev TG:=V->St->Hp->(St->Hp->Prop)->Prop
abbrev L4:=List V->St->Hp->(St->Hp->Prop)->Prop
def PG(X:Cx)(target:Expr)(t:TG):Prop:=
 ∀(pins:List (Addr × Obj)) (s:Shared) (σ:St) (H:Hp) (v:V) (u:Value) (Q:St->Hp->Prop),Inv X pins σ H s->RelV v u->t v σ H Q->
  wpAny (model X.prog X.w) X.A (assign target X.env u) (fun _ s'=>P6 X pins Q s') X.xe s
def Q4(X:Cx)(ts:List Expr)(t:L4):Prop:=
 ∀(pins:List (Addr × Obj)) (s:Shared) (σ:St) (H:Hp) (vs:List V) (us:List Value) (Q:St->Hp->Prop),Inv X pins σ H s->Vals vs us->t vs σ H Q->
  wpAny (model X.prog X.w) X.A (assignInOrder ((assignEach ts X.env).map (·.2)) us) (fun _ s'=>P6 X pins Q s') X.xe s
abbrev P5:=V->V->V->Hp->(Hp->Prop)->Prop
def P7(X:Cx)(t:P5):Prop:=
 ∀(pins:List (Addr × Obj)) (s:Shared) (σ:St) (H:Hp) (o i v:V) (ov iv u:Value) (Q:Hp->Prop),Inv X pins σ H s->RelV o ov->RelV i iv->RelV v u->t o i v H Q->
  wpAny (model X.prog X.w) X.A (setItem ov iv u) (fun _ s'=> ∃H',Inv X pins σ H' s'/\Q H') X.xe s
section
variable{X:Cx}{pos:Pos}
def cm(i:Nat):TG:=fun v σ H Q=>Q (σ.set i (some v)) H
theorem av(hN:X.N.Nodup)(hi:X.N[i]?=some x)(hx:Loc X.env.scope x)(hf:X.fn x=true\/X.env.scope.names.lookup x=some .local:=by first | exact .inl rfl | exact .inr rfl | assumption):PG X (.Name x pos) (cm i):=by
 intro pins s σ H v u Q I r h;exact wpAny_assign_Name (fm I hN hi hx r (fun s' I'=>⟨_,H,I',h⟩) hf)
def vN:L4:=fun vs σ H Q=>vs= []/\Q σ H
def eM(t:TG)(u:L4):L4:=fun vs σ H Q=> ∃v r,vs=v::r/\t v σ H fun σ' H'=>u r σ' H' Q
theorem bw:Q4 X [] vN:=by
 intro pins s σ H vs us Q I r h;obtain⟨e,h⟩:=h;subst e;cases r;exact assignInOrder_nil ⟨σ,H,I,h⟩
theorem aA(h1:PG X e t)(h2:Q4 X es u)(hs:(assignEach (e::es) X.env).map (·.2)=assign e X.env::(assignEach es X.env).map (·.2):=by rfl):Q4 X (e::es) (eM t u):=by
 intro pins s σ H vs us Q I r h;obtain⟨v,vr,e1,h⟩:=h;subst e1;cases r with
 | cons r rr=>
  rw[hs];refine assignInOrder_cons (aN (h1 pins s σ H _ _ _ I r h) fun _ s1 AE=>?_);obtain⟨σ1,H1,I1,q1⟩:=AE;exact h2 pins s1 σ1 H1 _ _ Q I1 rr q1
def zO(K:PySem.W.Frag)(n:Nat)(t:L4):TG:=fun v σ H Q=> ∃a xs,v= .ref a/\dB K H a xs/\xs.length=n/\t xs σ H Q
theorem cn(hc:X.calm=true)(h:Q4 X es t)(hn:(assignEach es X.env).length=n:=by rfl)(kh:(assignEach es X.env).findIdx? (·.1)=none:=by rfl):PG X (.Tuple es k pos) (zO X.K n t):=by
 intro pins s σ H v u Q I r hw;obtain⟨a,xs,e1,hq,hl,hw⟩:=hw;subst e1;cases r;obtain⟨ao,rv,ht,hz⟩:=I.tuple hq;refine assign_Tuple_tuple (I.ok.hd hc) ht (by simp [hn,<-hl,rv.length]) kh fun h' hx=>?_;have I1:Inv X pins σ H {s with heap:=h'}:=I.kept (t':=s.toks) fun b o e=>hx b o (af4 (ac2 e)) e;exact h pins _ σ H xs _ Q I1 (by simpa using rv) hw
def TH(to ti:TE)(t:P5):TG:=fun v σ H Q=>to σ H fun o H1=>ti σ H1 fun i H2=>t o i v H2 fun H3=>Q σ H3
theorem J1 (ho : PE X o to) (hi : PE X i ti) (hs : P7 X t) (ha : ∀ v, assign (.Subscript o i pos) X.env v = (do
   let ov<-holding [v] (eval o X.env)
   let iv<-holding [v,ov] (eval i X.env)
   standAt pos
   holding [v,ov,iv] (setItem ov iv v)
   release [v,ov,iv] []):=by intro _;rfl):PG X (.Subscript o i pos) (TH to ti t):=by
 intro pins s σ H v u Q I r h;rw[ha];refine aa0 (ag9 (aN (ho pins s σ H _ I h) fun ov s1 uw=>?_));obtain⟨x,H1,I1,r1,q1⟩:=uw;refine aa0 (ag9 (aN (hi pins s1 σ H1 _ I1 q1) fun iv s2 uv=>?_));obtain⟨y,H2,I2,r2,q2⟩:=uv;refine aa0 (af9 (aa0 (ag9 (aN (hs pins s2 σ H2 x y v ov iv u _ I2 r1 r2 r q2) fun _ s3 AD=>?_))));obtain⟨H3,I3,q3⟩:=AD;exact wpAny_release ⟨σ,H3,I3,q3⟩
def A8(te:TE)(g:TG):TS:=fun D σ H=>te σ H fun x H1=>g x σ H1 D.nx
theorem qz(he:PE X e te)(hg:PG X tg g)(hs:swapsWithSole [tg] e pos.line X.env=pure false:=by rfl)(hw:swappedStores [tg] e X.env=pure none:=by rfl)(h1:(assignEach [tg] X.env).map (·.2)= [assign tg X.env]:=by rfl):PS X (.Assign [tg] e pos) (A8 te g):=by
 intro pins s σ H D I h;refine wpAny_Assign_stores (aN (he pins s σ H _ I h) fun v s1 Jk=>?_) hs hw;obtain⟨x,H1,I1,r1,q1⟩:=Jk;rw[h1];exact aN (hg pins s1 σ H1 x v _ I1 r1 q1) fun _ s2 q=>q
theorem cM(hN:X.N.Nodup)(hi:X.N[i]?=some x)(hx:Loc X.env.scope x)(he:PE X e te)(hs:swapsWith e (some (.Name x pos')) pos.line X.env=pure false:=by rfl)(hf:X.fn x=true\/X.env.scope.names.lookup x=some .local:=by first | exact .inl rfl | exact .inr rfl | assumption):
  PS X (.Assign [.Name x pos'] e pos) (A8 te (cm i)):=by
 intro pins s σ H D I h;refine wpAny_Assign_Name (aN (he pins s σ H _ I h) fun v s1 Jj=>?_) hs;obtain⟨y,H1,I1,r1,q1⟩:=Jj;exact fm I1 hN hi hx r1 (fun s2 I2=>⟨_,H1,I2,q1⟩) hf
def RW(i j:Nat)(ta:TA):TS:=fun D σ H=>ta σ H fun vs H1=> ∃v w,vs= [v,w]/\D.nx ((σ.set i (some v)).set j (some w)) H1
theorem JY{kt k2 JX}(hc:X.calm=true)(hN:X.N.Nodup)(hi:X.N[i]?=some x)(hj:X.N[j]?=some y)(ck:i≠j)(hx:X.env.scope.names.lookup x=some .local)(hy:X.env.scope.names.lookup y=some .local)(ha:PA X [a,b] ta)(hw:swappedStores [.Tuple [.Name x px, .Name y py] kt pt] (.Tuple [a,b] k2 JX) X.env=pure (some [x,y]))(hs:swapsWithSole [.Tuple [.Name x px, .Name y py] kt pt] (.Tuple [a,b] k2 JX) pos.line X.env=pure false:=by rfl):
  PS X (.Assign [.Tuple [.Name x px,.Name y py] kt pt] (.Tuple [a,b] k2 JX) pos) (RW i j ta):=by
 intro pins s σ H D I h;rw[exec_Assign_arm];refine aa0 (af9 ?_);rw[hs];refine aa0 (aa7 ?_);rw[if_neg (by decide)];refine aa0 (Tuple_ (aN (ha _ pins s σ H _ I h) fun us s1 AB=>?_));obtain⟨vs,H1,I1,r1,q1⟩:=AB;obtain⟨v,w,e1,q1⟩:=q1;subst e1;obtain⟨u1,u2,rfl,rv,rM⟩: ∃u1 u2,us= [u1,u2]/\RelV v u1/\RelV w u2:=by
  cases r1 with
  | cons p q=>
   cases q with
   | cons p' q'=>
    cases q';exact⟨_,_,rfl,p,p'⟩
 refine ag6 ?_ (by show 2<=sizeLine;decide);have I2:Inv X pins σ H1 {s1 with heap:=s1.heap.push {cls:= .type "tuple",data:= .seq [u1,u2].toArray}}:=I1.kept (t':=s1.toks) fun b o e=>aa3 _ e;rw[hw];refine aa0 (aa7 ?_);show wpAny (model X.prog X.w) X.A (do rule "assign.swapped-stores";let items<-unpackItems (.ref s1.heap.objs.size) 2 none;assignInOrder [fun v=>bindName X.env y v,fun v=>bindName X.env x v] items.reverse;pure Flow.next) _ _ _;refine aa0 (ap9 (aa0 (unpackItems_tuple (items:= #[u1,u2]) (I.ok.hd hc) (IsTup.new s1.heap _) fun h' XQ=>?_)));have I3:=I2.kept (h':=h') (t':=s1.toks) fun b o e=>XQ b o (af4 (ac2 e)) e;show wpAny _ _ (assignInOrder [fun v=>bindName X.env y v,fun v=>bindName X.env x v] [u2,u1] >>=fun _=>pure Flow.next) _ _ _;refine aa0 (assignInOrder_cons (wpAny_bindName (fm I3 hN hj (.inl hy) rM (fun s2 I4=>?_) (.inr hy))));refine assignInOrder_cons (wpAny_bindName (fm I4 hN hi (.inl hx) rv (fun s3 I5=>assignInOrder_nil (aa7 ?_)) (.inr hx)));rw[List.set_comm _ _ (Ne.symm ck)] at I5;exact⟨_,H1,I5,q1⟩
end
section
variable{X:Cx}{pos:Pos}
def JB(c:TT)(tb:TS):TS:=fun D σ H=> ∃W:Nat->St->Hp->Prop,(∃m,W m σ H)/\ ∀m σ H,W m σ H->
 c σ H fun b H1=>if b=true then∃N:St->Hp->Prop,(∀σ' H',N σ' H'-> ∃m',m' < m/\W m' σ' H')/\tb {D with nx:=N,ct:=N,bk:=D.nx} σ H1 else D.nx σ H1
theorem Bz(hp:PassesOwn (model X.prog X.w) X.A X.env X.xe)(hc:PT X c tc)(hb:iH X body tb):PS X (.While c body [] pos) (JB tc tb):=by
 intro pins s σ H D I h;obtain⟨W,⟨m0,w0⟩,turn⟩:=h;refine wpAny_While (codeAny_whileLoop (fun n s'=> ∃σ' H',Inv X pins σ' H' s'/\W n σ' H') ?_ m0 ⟨σ,H,I,w0⟩);rintro n s1 ⟨σ1,H1,I1,w1⟩
 refine al7 hp (aN (hc pins s1 σ1 H1 _ I1 (turn n σ1 H1 w1)) fun b s2 RA=>?_);obtain⟨H2,I2,q2⟩:=RA;cases b with
 | true=>
  obtain⟨N,hN,q2⟩:=q2;rw[if_pos rfl];refine al7 hp (aN (hb pins s2 σ1 H2 _ I2 q2) fun f s3 q3=>?_);cases f with
  | next=>
   obtain⟨σ3,H3,I3,n3⟩:=q3;obtain⟨m',hm,w3⟩:=hN σ3 H3 n3;exact⟨m',hm,σ3,H3,I3,w3⟩
  | cont=>
   obtain⟨σ3,H3,I3,n3⟩:=q3;obtain⟨m',hm,w3⟩:=hN σ3 H3 n3;exact⟨m',hm,σ3,H3,I3,w3⟩
  | brk=>exact q3
  | ret v=>exact q3
 | false=>
  rw[if_neg ac0];exact an2 ⟨σ1,H2,I2,q2⟩
end
structure It where
 go:Nat->Hp->Prop
 rR:Nat->Hp->V->Hp->Prop
 stop:Nat->Hp->Prop
def dD(X:Cx)(pins:List (Addr × Obj))(H:Hp)(b:Addr):Prop:=
 H b=none/\b≠X.env.locals/\b∉X.fs/\(b∈X.ex\/X.s₀.heap.objs.size<=b)/\(∀x c,X.env.cells.lookup x=some c->c≠b)/\ ∀p∈X.pn++pins,p.1≠b
theorem Inv.tG(I:Inv X pins σ H s)(hb:s.heap.objs.size<=b)(hn:H' b=none):dD X pins H' b:=by
 refine⟨hn,am5 (ac4 I.lt hb),I.Sk hb,.inr (ac6 I.sz hb),fun x c e z=>?_,fun p hp z=>?_⟩
 . obtain⟨v,q⟩:=I.cell x c e;exact absurd (ac4 q.lt (by rw[z];exact hb)) (ae8 _)
 . exact absurd (ac4 (ac2 (I.pin p hp).1) (by rw[z];exact hb)) (ae8 _)
structure Turn(P:Program)(w:World)(K:PySem.W.Frag)(tg:Expr)(J:It)(fp:List Addr)(it:Addr)(tn:Nat->Heap->Prop):Prop where
 mem:it∈fp
 obj: ∀i h,tn i h-> ∀b∈fp,∃o,h.get? b=some o/\ ∀v,o.data≠ .cell v
 keep: ∀i h h',tn i h->(∀b∈fp,∀o,h.get? b=some o->h'.get? b=some o)->tn i h'
 item: ∀(X:Cx),X.prog=P->X.w=w->X.K=K->X.calm=true-> ∀(i:Nat) (pins:List (Addr × Obj)) (s:Shared) (σ:St) (H:Hp) (E:Value->Shared->Prop),Inv X pins σ H s->(∀b∈fp,dD X pins H b)->tn i s.heap->J.go i H->
  wpAny (model P w) X.A (pyNext (.ref it)) (fun r s1=> ∃u,r=some u/\
   wpAny (model P w) X.A (letOwnedTupleGo tg (.ref it) u) (fun _ s2=> ∃x H',Inv X pins σ H' s2/\RelV x u/\J.rR i H x H'/\tn (i+1) s2.heap/\ ∀b∈fp,H' b=none) E s1) E s
 done: ∀(X:Cx),X.prog=P->X.w=w->X.K=K->X.calm=true-> ∀(i:Nat) (pins:List (Addr × Obj)) (s:Shared) (σ:St) (H:Hp) (E:Value->Shared->Prop),Inv X pins σ H s->(∀b∈fp,dD X pins H b)->tn i s.heap->J.stop i H->
  wpAny (model P w) X.A (pyNext (.ref it)) (fun r s1=>r=none/\Inv X pins σ H s1) E s
 self: ∀(A:Around) (i:Nat) (s:Shared) (Q:Value->Shared->Prop) (E:Value->Shared->Prop),tn i s.heap->Q (.ref it) s->wpAny (model P w) A (pyIter (.ref it)) Q E s
abbrev TI:=St->Hp->(It->Hp->Prop)->Prop
def P8(X:Cx)(pins:List (Addr × Obj))(σ:St)(tg:Expr)(R:It->Hp->Prop)(MA:Value)(s2:Shared):Prop:=
 ∃(it:Addr) (fp:List Addr) (tn:Nat->Heap->Prop) (J:It) (H':Hp),MA= .ref it/\Inv X pins σ H' s2/\Turn X.prog X.w X.K tg J fp it tn/\tn 0 s2.heap/\(∀b∈fp,dD X pins H' b)/\R J H'
def PI(X:Cx)(tg iter:Expr)(wi:TI):Prop:=
 ∀(pins:List (Addr × Obj)) (s:Shared) (σ:St) (H:Hp) (R:It->Hp->Prop),Inv X pins σ H s->wi σ H R->
  wpAny (model X.prog X.w) X.A (eval iter X.env) (fun v s1=>wpAny (model X.prog X.w) X.A (pyIter v) (P8 X pins σ tg R) X.xe s1) X.xe s
theorem IB{s:Shared}(ho:s.heap.get? it=some o)(hc:o.cls= .type n)(hd:o.data= .fields vs)(hn: ["enumerate","zip","dict_itemiterator","dict_reverseitemiterator","odict_iterator","itertools.zip_longest","itertools.pairwise"].contains n=false)(hQ:Q () s):wpAny M A (letOwnedTupleGo tg (.ref it) u) Q E s:=by
 unfold letOwnedTupleGo;cases tg <;> first
  | exact aa7 hQ
  | (cases u <;> first
    | exact aa7 hQ
    | (refine aa0 (wpAny_load ho ?_)
       rw[hc,hd];show wpAny M A (if (["enumerate","zip","dict_itemiterator","dict_reverseitemiterator","odict_iterator","itertools.zip_longest","itertools.pairwise"].contains n && vs[0]?==some (rawInt _))=true then _ else _) Q E s;rw[if_neg (by intro h;rw[hn,Bool.false_and] at h;cases h)];exact aa7 hQ))
noncomputable def UG(K:PySem.W.Frag)(a:Addr):It:=
 ⟨fun i H=> ∃xs x,bS K H a xs/\xs[i]?=some x,fun i H x H'=>H'=H/\ ∀xs,bS K H a xs->xs[i]?=some x,fun i H=> ∃xs,bS K H a xs/\xs.length<=i⟩
noncomputable def Qh(lo:Int)(n:Nat):It:=⟨fun i _=>i < n,fun i H x H'=>H'=H/\x= .int (lo+i),fun i _=>n<=i⟩
theorem yB{P:Program}{w:World}{K:PySem.W.Frag}{tg:Expr}(a it:Addr):Turn P w K tg (UG K a) [it] it (fun i h=>h.IsListIter it a i) where
 mem:=by simp
 obj:=fun i h st b hb=>by
  have e:b=it:=by simpa using hb
  subst e;obtain⟨o,e,c,d⟩:=st;exact⟨o,e,fun v z=>by rw[d] at z;cases z⟩
 keep:=fun i h h' st k=>st.at fun o e=>k it (by simp) o e
 item:=by
  intro X hP hw hK hc i pins s σ H E I hf st hg;subst hP hw hK;obtain⟨xs,x,hq,hx⟩:=hg;obtain⟨ao,rv,p,hz⟩:=I.list hq;obtain⟨u,hu,ru⟩:=rv.get hx;obtain⟨f0,f1,f2,f3,f4,f5⟩:=hf it (by simp);refine wpAny_pyNext_list_item st p.isList (x:=u) (by simpa using hu) fun h' Ba sb=>?_;have I1:Inv X pins σ H {s with heap:=h'}:=I.turned (t':=s.toks) (fun b o hb e=>(sb.2 b hb).trans e) f0 f1 f3 f4 f5;obtain⟨o,e,c,d⟩:=id Ba;exact⟨u,rfl,IB (s:={s with heap:=h'}) e c d (by decide) ⟨x,H,I1,ru,⟨rfl,fun ys hy=>by rw[I.sX hy hq];exact hx⟩,Ba,fun b hb=>(hf b hb).1⟩⟩
 done:=by
  intro X hP hw hK hc i pins s σ H E I hf st hg;subst hP hw hK;obtain⟨xs,hq,hx⟩:=hg;obtain⟨ao,rv,p,hz⟩:=I.list hq;obtain⟨f0,f1,f2,f3,f4,f5⟩:=hf it (by simp);have hl:=rv.length;exact wpAny_pyNext_list_end (I.ok.hd hc) st p.isList (by simp;lia) fun h' eb=>⟨rfl,I.turned (t':=s.toks) (fun b o hb e=>eb b o hb e) f0 f1 f3 f4 f5⟩
 self:=fun _ _ _ _ _ st h=>wpAny_pyIter_listiter st h
theorem uG{P:Program}{w:World}{K:PySem.W.Frag}{tg:Expr}(it:Addr)(lo:Int)(n:Nat):Turn P w K tg (Qh lo n) [it] it (fun i h=>IsRangeIter h it (lo+(i:Nat)*1) ((n:Int) - (i:Nat)) 1) where
 mem:=by simp
 obj:=fun i h st b hb=>by
  have e:b=it:=by simpa using hb
  subst e;exact⟨_,st,fun v z=>by
   have z':Data.fields _=Data.cell v:=z;cases z'⟩
 keep:=fun i h h' st k=>k it (by simp) _ st
 item:=by
  intro X hP hw hK hc i pins s σ H E I hf st hg;subst hP hw hK;obtain⟨f0,f1,f2,f3,f4,f5⟩:=hf it (by simp);have W:=Walks.range (prog:=X.prog) (w:=X.w) (I.ok.hd hc) it lo 1 n;refine W.item i s _ _ hg st fun v h' tk hv Ba kk=>?_;obtain⟨t,rfl⟩:=hv;have I1:Inv X pins σ H {s with heap:=h',toks:=tk}:=I.turned (fun b o hb e=>kk b o (by simpa using hb) e) f0 f1 f3 f4 f5;refine⟨_,rfl,IB (s:={s with heap:=h',toks:=tk}) (n:="range_iterator") Ba rfl rfl (by decide) ⟨.int (lo+i),H,I1,⟨t,?_⟩,⟨rfl,rfl⟩,Ba,fun b hb=>(hf b hb).1⟩⟩;rw[Int.mul_one]
 done:=by
  intro X hP hw hK hc i pins s σ H E I hf st hg;subst hP hw hK;obtain⟨f0,f1,f2,f3,f4,f5⟩:=hf it (by simp);exact wpAny_pyNext_range_end (I.ok.hd hc) st (by have:n<=i:=hg;lia) fun h' eb=>⟨rfl,I.turned (t':=s.toks) (fun b o hb e=>eb b o hb e) f0 f1 f3 f4 f5⟩
 self:=fun _ _ _ _ _ st h=>wpAny_pyIter_rangeiter st h
section
variable{X:Cx}{tg:Expr}
def Oz(K:PySem.W.Frag)(tl:TE):TI:=fun σ H R=>tl σ H fun x H1=> ∃a,x= .ref a/\(∃xs,bS K H1 a xs)/\R (UG K a) H1
theorem xi(hl:PE X l tl):PI X tg l (Oz X.K tl):=by
 intro pins s σ H R I h;refine aN (hl pins s σ H _ I h) fun v s1 Rz=>?_;obtain⟨x,H1,I1,r1,q1⟩:=Rz;obtain⟨a,e,⟨xs,hq⟩,q⟩:=q1;subst e;cases r1;obtain⟨ao,rv,p,hz⟩:=I1.list hq;refine aj8 p.isList ?_;refine⟨s1.heap.objs.size,[s1.heap.objs.size],_,_,H1,rfl,I1.kept (t':=s1.toks) fun b o e=>aa3 _ e,yB a _,⟨_,ab6 _ rfl,rfl,rfl⟩,fun b hb=>?_,q⟩;have e:b=s1.heap.objs.size:=by simpa using hb
 subst e;exact I1.tG (ab2 _) (I1.aI.fresh (ab2 _))
theorem sD{lo hi:Int}(I:Inv X pins σ H s)(h1: -(2^62)<=lo)(h2:lo < 2^62)(h3: -(2^62)<=hi)(h4:hi < 2^62)(q:R (Qh lo (hi - lo).toNat) H):wpAny (model X.prog X.w) X.A (pyIter (.ref s.heap.objs.size)) (P8 X pins σ tg R) E {s with heap:=s.heap.push {cls:= .type "range",data:= .fields #[.int lo t,.int hi u,.int 1 v]},toks:=tk}:=by
 refine wpAny_pyIter_range (IsRange.new ..) (small_one h1 h2 h3 h4) ?_;have I1:Inv X pins σ H {s with heap:=s.heap.push {cls:= .type "range",data:= .fields #[.int lo t,.int hi u,.int 1 v]},toks:=tk}:=I.kept fun b o e=>aa3 _ e;refine⟨(s.heap.push {cls:= .type "range",data:= .fields #[.int lo t,.int hi u,.int 1 v]}).objs.size,[(s.heap.push {cls:= .type "range",data:= .fields #[.int lo t,.int hi u,.int 1 v]}).objs.size],_,_,H,rfl,
  I1.kept (t':=tk) fun b o e=>aa3 _ e,uG _ lo (hi - lo).toNat,?_,fun b hb=>?_,q⟩
 . have e1:lo+((0:Nat):Int)*1=lo:=by simp
   have e2:(((hi - lo).toNat:Nat):Int) - ((0:Nat):Int)=Builtin.Range.rangeSize lo hi 1:=by rw[rangeSize_one];split <;> lia
   show IsRangeIter _ _ (lo+((0:Nat):Int)*1) ((((hi - lo).toNat:Nat):Int) - ((0:Nat):Int)) 1;rw[e1,e2];exact ab6 _ rfl
 . have e:b=(s.heap.push {cls:= .type "range",data:= .fields #[.int lo t, .int hi u, .int 1 v]}).objs.size:=by simpa using hb
   subst e;exact I1.tG (ab2 _) (I1.aI.fresh (ab2 _))
def Oy(ta:TA):TI:=fun σ H R=>ta σ H fun vs H1=> ∃j:Int,vs= [.int j]/\ -(2^62)<=j/\j < 2^62/\R (Qh 0 j.toNat) H1
def Ox(ta:TA):TI:=fun σ H R=>ta σ H fun vs H1=> ∃i j:Int,vs= [.int i,.int j]/\(-(2^62)<=i/\i < 2^62/\ -(2^62)<=j/\j < 2^62)/\R (Qh i (j - i).toNat) H1
theorem yV(hg:Gl X "range")(hm:X.mg "range"=none)(ha:PA X [a] ta)(hs:starEach [a] X.env= [(false,eval a X.env)]:=by rfl):PI X tg (.Call (.Name "range" p) [a] [] pos) (Oy ta):=by
 intro pins s σ H R I h;refine Call_ (cA I hg hm boot_range (ag3 (aN (ha pos pins s σ H _ I h) fun us s1 Ry=>?_) hs rfl));obtain⟨vs,H1,I1,r1,q1⟩:=Ry;obtain⟨j,e,q1,q2,q⟩:=q1;subst e;cases r1 with
 | cons r rr=>
  cases rr;obtain⟨t,rfl⟩:=r;exact call_range_1 (sD I1 (by lia) (by lia) q1 q2 (by simpa using q))
theorem yU(hg:Gl X "range")(hm:X.mg "range"=none)(ha:PA X [a,b] ta)(hs:starEach [a,b] X.env= [(false,eval a X.env),(false,eval b X.env)]:=by rfl)(nE:starEach [b] X.env= [(false,eval b X.env)]:=by rfl):
  PI X tg (.Call (.Name "range" p) [a,b] [] pos) (Ox ta):=by
 intro pins s σ H R I h;refine Call_ (cA I hg hm boot_range (ag3 (aN (ha pos pins s σ H _ I h) fun us s1 Rx=>?_) (by rw[hs,nE]) (by rw[nE];rfl)));obtain⟨vs,H1,I1,r1,q1⟩:=Rx;obtain⟨i,j,e,⟨q1,q2,q3,q4⟩,q⟩:=q1;subst e;cases r1 with
 | cons r rr=>
  cases rr with
  | cons r' rr=>
   cases rr;obtain⟨t,rfl⟩:=r;obtain⟨t',rfl⟩:=r';exact call_range_2 (sD I1 q1 q2 q3 q4 q)
def RZ(wi:TI)(g:TG)(tb:TS):TS:=fun D σ H=>wi σ H fun J H1=> ∃W:Nat->Nat->St->Hp->Prop,(∃m,W 0 m σ H1)/\ ∀i m σ H,W i m σ H->
 (J.stop i H/\D.nx σ H)\/(J.go i H/\ ∃N:St->Hp->Prop,(∀σ' H',N σ' H'-> ∃m',m' < m/\W (i+1) m' σ' H')/\ ∀x H',J.rR i H x H'->g x σ H' fun σ2 H2=>tb {D with nx:=N,ct:=N,bk:=D.nx} σ2 H2)
noncomputable def i0(fp:List Addr)(h:Heap):List (Addr × Obj):=fp.filterMap fun b=>(h.get? b).map fun o=>(b,o)
theorem bp{h:Heap}(hb:b∈fp)(e:h.get? b=some o):(b,o)∈i0 fp h:=aj4.mpr ⟨b,hb,by rw[e];rfl⟩
theorem zh(hp:p∈i0 fp h):p.1∈fp/\h.get? p.1=some p.2:=by
 obtain⟨b,hb,e⟩:=aj4.mp hp;cases q:h.get? b with
 | none=>rw[q] at e;cases e
 | some o=>
  rw[q] at e;have e':(b,o)=p:=Option.some.inj e;subst e';exact⟨hb,q⟩
theorem Inv.pinned(I:Inv X pins σ H s)(hf: ∀b∈fp,dD X pins H b)(ho: ∀b∈fp,∃o,s.heap.get? b=some o/\ ∀v,o.data≠ .cell v):Inv X (pins++i0 fp s.heap) σ H s:=
 I.xh fun p hp=>(ae1.mp hp).elim (fun z=>I.pin p (ab4 _ z)) fun z=>by
  obtain⟨hb,e⟩:=zh z;obtain⟨f0,f1,f2,_⟩:=hf p.1 hb;obtain⟨o,e',d⟩:=ho p.1 hb;rw[e] at e';cases e';exact⟨e,f0,f1,f2,d⟩
theorem Inv.dX(I:Inv X (pins++pl) σ H s):Inv X pins σ H s:=I.xh fun p hp=>I.pin p (ab4 _ (ae2 _ hp))
theorem BA(hp:PassesOwn (model X.prog X.w) X.A X.env X.xe)(hc:X.calm=true)(hi:PI X tg iter wi)(hg:PG X tg g)(hb:iH X body tb)(hs: ∀x,foldedSetIterable iter X.env x=pure x:=by intro _;rfl):PS X (.For tg iter body [] pos) (RZ wi g tb):=by
 intro pins s σ H D I h;refine wpAny_For (aN (hi pins s σ H _ I h) fun v s1 h1=>aN h1 fun MA s2 h2=>?_) hs;obtain⟨it,fp,tn,J,H2,e,I2,T,gk,f2,W,⟨m0,w0⟩,turn⟩:=h2;subst e;have uL: ∀{H':Hp},(∀b∈fp,H' b=none)-> ∀b∈fp,dD X pins H' b:=fun hn b hb=>⟨hn b hb,(f2 b hb).2⟩
 refine codeAny_forLoop_any (fun n s'=> ∃i σ' H',Inv X pins σ' H' s'/\tn i s'.heap/\(∀b∈fp,H' b=none)/\W i n σ' H') ?_ m0 ⟨0,σ,H2,I2,gk,fun b hb=>(f2 b hb).1,w0⟩;rintro n s3 ⟨i,σ3,H3,I3,UO,QO,w3⟩
 rcases turn i n σ3 H3 w3 with ⟨stop,qn⟩ | ⟨go,N,hN,step⟩
 . refine al7 hp (aN (T.done X rfl rfl rfl hc i pins s3 σ3 H3 X.xe I3 (uL QO) UO stop) fun r s4 Rw=>?_);obtain⟨hr,I4⟩:=Rw;subst hr;exact an2 ⟨σ3,H3,I4,qn⟩
 . refine al7 hp (aN (T.item X rfl rfl rfl hc i pins s3 σ3 H3 X.xe I3 (uL QO) UO go) fun r s4 Rv=>?_);obtain⟨u,hr,h4⟩:=Rv;subst hr;refine al7 hp (aN h4 fun _ s5 Ru=>?_);obtain⟨x,H5,I5,r5,y5,uN,zQ⟩:=Ru;have Z8:=I5.pinned (uL zQ) (T.obj _ _ uN);refine al7 hp (aN (hg _ s5 σ3 H5 x u _ Z8 r5 (step x H5 y5)) fun _ s6 Rt=>?_);obtain⟨σ6,H6,I6,q6⟩:=Rt;refine al7 hp (aN (hb _ s6 σ6 H6 _ I6 q6) fun f s7 q7=>?_);have again: ∀{σ7:St} {H7:Hp},Inv X (pins++i0 fp s5.heap) σ7 H7 s7->N σ7 H7-> ∃m,m < n/\ ∃i σ' H',Inv X pins σ' H' s7/\tn i s7.heap/\(∀b∈fp,H' b=none)/\W i m σ' H':=fun{σ7 H7} I7 n7=>by
    obtain⟨m',hm,w7⟩:=hN σ7 H7 n7;refine⟨m',hm,i+1,σ7,H7,I7.dX,T.keep _ _ _ uN fun b hb o e=>(I7.pin (b,o) (ab4 _ (ab4 _ (bp hb e)))).1,fun b hb=>?_,w7⟩;obtain⟨o,e,d⟩:=T.obj _ _ uN b hb;exact(I7.pin (b,o) (ab4 _ (ab4 _ (bp hb e)))).2.1
   cases f with
   | next=>obtain⟨σ7,H7,I7,n7⟩:=q7;exact again I7 n7
   | cont=>obtain⟨σ7,H7,I7,n7⟩:=q7;exact again I7 n7
   | brk=>obtain⟨σ7,H7,I7,q7⟩:=q7;exact⟨σ7,H7,I7.dX,q7⟩
   | ret v=>obtain⟨x7,σ7,H7,I7,r7,q7⟩:=q7;exact⟨x7,σ7,H7,I7.dX,r7,q7⟩
end
abbrev R2:=V->V->Hp->VK->Prop
def iR(X:Cx)(f:Value->Value->Sem Value)(r:R2):Prop:=
 ∀(pins:List (Addr × Obj)) (s:Shared) (σ:St) (H:Hp) (x y:V) (v u:Value) (Q:VK),Inv X pins σ H s->RelV x v->RelV y u->r x y H Q->
  wpAny (model X.prog X.w) X.A (f v u) (EP X pins σ Q) X.xe s
def Ux(X:Cx)(f:Value->Sem Value)(r:V->Hp->VK->Prop):Prop:=
 ∀(pins:List (Addr × Obj)) (s:Shared) (σ:St) (H:Hp) (x:V) (v:Value) (Q:VK),Inv X pins σ H s->RelV x v->r x H Q->
  wpAny (model X.prog X.w) X.A (f v) (EP X pins σ Q) X.xe s
def eQ(X:Cx)(f:Value)(r:List V->Hp->VK->Prop):Prop:=
 ∀(pins:List (Addr × Obj)) (s:Shared) (σ:St) (H:Hp) (xs:List V) (us:List Value) (Q:VK),Inv X pins σ H s->Vals xs us->r xs H Q->
  wpAny (model X.prog X.w) X.A (call f us) (EP X pins σ Q) X.xe s
def Uy(X:Cx)(r:V->Hp->(Bool->Hp->Prop)->Prop):Prop:=
 ∀(pins:List (Addr × Obj)) (s:Shared) (σ:St) (H:Hp) (x:V) (v:Value) (Q:Bool->Hp->Prop),Inv X pins σ H s->RelV x v->r x H Q->
  wpAny (model X.prog X.w) X.A (truthy v) (TP X pins σ Q) X.xe s
def JD(r:R2)(ta tb:TE):TE:=fun σ H Q=>ta σ H fun x H1=>tb σ H1 fun y H2=>r x y H2 Q
def W8(r:V->Hp->VK->Prop)(ta:TE):TE:=fun σ H Q=>ta σ H fun x H1=>r x H1 Q
def rI(C:Int->Int->Prop)(g:Int->Int->V):R2:=fun x y H Q=> ∃i j,x= .int i/\y= .int j/\C i j/\Q (g i j) H
def Fj(g:Int->Int->V):R2:=fun x y H Q=> ∃i j,x= .int i/\y= .int j/\Q (g i j) H
def rU(g:Int->V):V->Hp->VK->Prop:=fun x H Q=> ∃i,x= .int i/\Q (g i) H
section
variable{X:Cx}{a b c:Expr}{ta tb tc:TE}{pos:Pos}
theorem LU(ha:PE X a ta)(hb:PE X b tb){pins:List (Addr × Obj)}{s:Shared}{σ:St}{H:Hp}{R:V->V->Hp->Prop}(I:Inv X pins σ H s)
  (h:ta σ H fun x H1=>tb σ H1 fun y H2=>R x y H2) {Q:Value->Shared->Prop} {f:Value->Value->Sem Value}
  (hf: ∀v u s2 x y H2,Inv X pins σ H2 s2->RelV x v->RelV y u->R x y H2->wpAny (model X.prog X.w) X.A (f v u) Q X.xe s2):
  wpAny (model X.prog X.w) X.A (eval a X.env) (fun v s₁=>wpAny (model X.prog X.w) X.A (eval b X.env) (fun u s₂=>wpAny (model X.prog X.w) X.A (f v u) Q X.xe s₂) X.xe s₁) X.xe s:=by
 refine aN (ha pins s σ H _ I h) fun v s1 Rr=>?_;obtain⟨x,H1,I1,r1,q1⟩:=Rr;refine aN (hb pins s1 σ H1 _ I1 q1) fun u s2 Rq=>?_;obtain⟨y,H2,I2,r2,q2⟩:=Rq;exact hf v u s2 x y H2 I2 r1 r2 q2
theorem cN(ho:iR X (binaryOp op) r)(ha:PE X a ta)(hb:PE X b tb):PE X (.BinOp a op b pos) (JD r ta tb):=by
 intro pins s σ H Q I h;exact wpAny_BinOp (LU ha hb I h fun v u s2 x y H2 I2 rx ry q=>ho pins s2 σ H2 x y v u Q I2 rx ry q)
theorem NQ(ho:Ux X (unaryOp op) r)(ha:PE X a ta):PE X (.UnaryOp op a pos) (W8 r ta):=by
 intro pins s σ H Q I h;exact UnaryOp_ (aN (ha pins s σ H _ I h) fun v s1 Rp=>(by obtain⟨x,H1,I1,r1,q1⟩:=Rp;exact(ho pins s1 σ H1 x v Q I1 r1 q1)))
theorem Qy{C:Int->Int->Prop}{g:Int->Int->Int}(rule: ∀(i j:Int) (t u:Tok) (s:Shared) (Q:Value->Shared->Prop) (E:Value->Shared->Prop),C i j->Q (.int (g i j) s.toks) {s with toks:=s.toks+1}->wpAny (model X.prog X.w) X.A (f (.int i t) (.int j u)) Q E s):
  iR X f (rI C fun i j=> .int (g i j)):=by
 intro pins s σ H x y v u Q I rx ry h;obtain⟨i,j,rfl,rfl,hc,q⟩:=h;obtain⟨t,rfl⟩:=rx;obtain⟨t',rfl⟩:=ry;exact rule i j t t' s _ _ hc ⟨.int (g i j),H,I.tok _,⟨_,rfl⟩,q⟩
theorem NX{g:Int->Int->Int}(rule: ∀(i j:Int) (t u:Tok) (s:Shared) (Q:Value->Shared->Prop) (E:Value->Shared->Prop),Q (.int (g i j) s.toks) {s with toks:=s.toks+1}->wpAny (model X.prog X.w) X.A (f (.int i t) (.int j u)) Q E s):
  iR X f (Fj fun i j=> .int (g i j)):=by
 intro pins s σ H x y v u Q I rx ry h;obtain⟨i,j,rfl,rfl,q⟩:=h;obtain⟨t,rfl⟩:=rx;obtain⟨t',rfl⟩:=ry;exact rule i j t t' s _ _ ⟨.int (g i j),H,I.tok _,⟨_,rfl⟩,q⟩
theorem FF{g:Int->Int->Bool}(rule: ∀(i j:Int) (t u:Tok) (s:Shared) (Q:Value->Shared->Prop) (E:Value->Shared->Prop),Q (.bool (g i j)) s->wpAny (model X.prog X.w) X.A (f (.int i t) (.int j u)) Q E s):
  iR X f (Fj fun i j=> .bl (g i j)):=by
 intro pins s σ H x y v u Q I rx ry h;obtain⟨i,j,rfl,rfl,q⟩:=h;obtain⟨t,rfl⟩:=rx;obtain⟨t',rfl⟩:=ry;exact rule i j t t' s _ _ ⟨.bl (g i j),H,I,rfl,q⟩
def UJ(i j:Int):Prop:=0 < j/\j < 1073741824
def Aq(i j:Int):Prop:=0<=j/\j<=1000000/\i.natAbs < 2^64
def wG(i j:Int):Prop:=(-(2^64) < i/\i < 2^64)\/(-(2^64) < j/\j < 2^64)
theorem wG.ok(h:wG i j):IntMulOk i j:=by
 rcases h with ⟨h1,h2⟩ | ⟨h1,h2⟩
 . exact .of_left (intBits_le_64 h1 h2)
 . exact .of_right (intBits_le_64 h1 h2)
theorem ng:iR X (binaryOp .Add) (Fj fun i j=> .int (i+j)):=NX fun _ _ _ _ _ _ _ q=>add_int q
theorem Ka:iR X (binaryOp .Sub) (Fj fun i j=> .int (i - j)):=NX fun _ _ _ _ _ _ _ q=>sub_int q
theorem i3:iR X (binaryOp .Mult) (rI wG fun i j=> .int (i*j)):=Qy fun _ _ _ _ _ _ _ hc q=>mul_int q hc.ok
theorem FD:iR X (binaryOp .FloorDiv) (rI UJ fun i j=> .int (i / j)):=Qy fun i j _ _ _ _ _ hc q=>by
 have h1:(0:Int) < j:=hc.1;have h2:j < 1073741824:=hc.2;exact floordiv_int (by lia) (by rw[Int.fdiv_eq_ediv_of_nonneg i (by lia)];exact q) (.inl (PyProof.noPylong_small (by lia)))
theorem kB:iR X (binaryOp .Mod) (rI (fun _ j=>0 < j) fun i j=> .int (i % j)):=Qy fun i j _ _ _ _ _ hc q=>by
 have h1:(0:Int) < j:=hc;exact mod_int' (by lia) (by rw[Int.fmod_eq_emod_of_nonneg i (by lia)];exact q)
theorem BS:iR X (binaryOp .Pow) (rI Aq fun i j=> .int (i^j.toNat)):=Qy fun _ _ _ _ _ _ _ hc q=>pow_int_small hc.1 hc.2.1 hc.2.2 q
theorem WV{g:Int->Int}(rule: ∀(i:Int) (t:Tok) (s:Shared) (Q:Value->Shared->Prop) (E:Value->Shared->Prop),Q (.int (g i) s.toks) {s with toks:=s.toks+1}->wpAny (model X.prog X.w) X.A (f (.int i t)) Q E s):
  Ux X f (rU fun i=> .int (g i)):=by
 intro pins s σ H x v Q I rx h;obtain⟨i,rfl,q⟩:=h;obtain⟨t,rfl⟩:=rx;exact rule i t s _ _ ⟨.int (g i),H,I.tok _,⟨_,rfl⟩,q⟩
theorem Jt:Ux X (unaryOp .USub) (rU fun i=> .int (-i)):=WV fun _ _ _ _ _ q=>neg_int q
end
noncomputable def EZ:V->V->Bool
 | .aF,.aF=>true | .aF,.int _=>true | .int _,.aF=>true | .aF,.bl _=>true | .bl _,.aF=>true | .aF,.str _=>true | .str _,.aF=>true
 | .int _,.int _=>true | .bl _,.bl _=>true | .str _,.str _=>true | .x4 _,.x4 _=>true
 | .int _,.str _=>true | .str _,.int _=>true | .bl _,.str _=>true | .str _,.bl _=>true
 | _,_=>false
def UT:R2:=fun x y H Q=>EZ x y=true/\Q (.bl (decide (x=y))) H
def UR:R2:=fun x y H Q=>EZ x y=true/\Q (.bl (!decide (x=y))) H
theorem xS:decide (V.int i=V.int j)=(i==j):=by
 rw[ak6];simp
theorem Dr:decide (V.bl i=V.bl j)=(i==j):=by
 rw[ak6];simp
theorem xR:decide (V.str i=V.str j)=(i==j):=by
 rw[ak6];simp
theorem xT:decide (V.x4 i=V.x4 j)=(i.toList==j.toList):=by
 rw[ak6];cases i;cases j;simp
section
variable{X:Cx}{a b c:Expr}{ta tb tc:TE}{pos:Pos}
theorem aK(I:Inv X pins σ H s)(q:Q (.bl k) H)(e:k=k'):EP X pins σ Q (.bool k') s:=by
 subst e;exact⟨.bl k,H,I,rfl,q⟩
theorem HU:iR X (compareOp .Eq) UT:=by
 intro pins s σ H x y v u Q I rx ry h;obtain⟨hs,q⟩:=h;cases x with
 | aF=>
  cases rx;cases y with
  | aF=>cases ry;exact PySem.EqNone.eq_none_none (aK I q rfl)
  | bl j=>cases ry;exact PySem.EqNone.eq_none_bool (aK I q rfl)
  | int j=>obtain⟨t',rfl⟩:=ry;exact PySem.EqNone.eq_none_int (aK I q rfl)
  | str j=>obtain⟨t',rfl⟩:=ry;exact PySem.EqNone.eq_none_str (aK I q rfl)
  | _=>exact absurd (show false=true from hs) ac0
 | bl i=>
  cases rx;cases y with
  | aF=>cases ry;exact PySem.EqNone.eq_bool_none (aK I q rfl)
  | bl j=>cases ry;exact eq_bool (aK I q Dr)
  | str j=>obtain⟨t',rfl⟩:=ry;exact PySem.EqMixed.eq_bool_str (aK I q rfl)
  | _=>exact absurd (show false=true from hs) ac0
 | int i=>
  obtain⟨t,rfl⟩:=rx;cases y with
  | aF=>cases ry;exact PySem.EqNone.eq_int_none (aK I q rfl)
  | int j=>obtain⟨t',rfl⟩:=ry;exact eq_int (aK I q xS)
  | str j=>obtain⟨t',rfl⟩:=ry;exact PySem.EqMixed.eq_int_str (aK I q rfl)
  | _=>exact absurd (show false=true from hs) ac0
 | str i=>
  obtain⟨t,rfl⟩:=rx;cases y with
  | aF=>cases ry;exact PySem.EqNone.eq_str_none (aK I q rfl)
  | bl j=>cases ry;exact PySem.EqMixed.eq_str_bool (aK I q rfl)
  | int j=>obtain⟨t',rfl⟩:=ry;exact PySem.EqMixed.eq_str_int (aK I q rfl)
  | str j=>obtain⟨t',rfl⟩:=ry;exact eq_str (aK I q xR)
  | _=>exact absurd (show false=true from hs) ac0
 | x4 i=>
  obtain⟨t,rfl⟩:=rx;cases y with
  | x4 j=>obtain⟨t',rfl⟩:=ry;exact PySem.W.eq_bytes (aK I q xT)
  | _=>exact absurd (show false=true from hs) ac0
 | _=>exact absurd (show false=true from hs) ac0
theorem NU:iR X (compareOp .NotEq) UR:=by
 intro pins s σ H x y v u Q I rx ry h;obtain⟨hs,q⟩:=h;cases x with
 | aF=>
  cases rx;cases y with
  | aF=>cases ry;exact PySem.EqNone.ne_none_none (aK I q rfl)
  | bl j=>cases ry;exact PySem.EqNone.ne_none_bool (aK I q rfl)
  | int j=>obtain⟨t',rfl⟩:=ry;exact PySem.EqNone.ne_none_int (aK I q rfl)
  | str j=>obtain⟨t',rfl⟩:=ry;exact PySem.EqNone.ne_none_str (aK I q rfl)
  | _=>exact absurd (show false=true from hs) ac0
 | bl i=>
  cases rx;cases y with
  | aF=>cases ry;exact PySem.EqNone.ne_bool_none (aK I q rfl)
  | bl j=>cases ry;exact ne_bool (aK I q (ag1 not Dr))
  | str j=>obtain⟨t',rfl⟩:=ry;exact PySem.EqMixed.ne_bool_str (aK I q rfl)
  | _=>exact absurd (show false=true from hs) ac0
 | int i=>
  obtain⟨t,rfl⟩:=rx;cases y with
  | aF=>cases ry;exact PySem.EqNone.ne_int_none (aK I q rfl)
  | int j=>obtain⟨t',rfl⟩:=ry;exact ne_int (aK I q (ag1 not xS))
  | str j=>obtain⟨t',rfl⟩:=ry;exact PySem.EqMixed.ne_int_str (aK I q rfl)
  | _=>exact absurd (show false=true from hs) ac0
 | str i=>
  obtain⟨t,rfl⟩:=rx;cases y with
  | aF=>cases ry;exact PySem.EqNone.ne_str_none (aK I q rfl)
  | bl j=>cases ry;exact PySem.EqMixed.ne_str_bool (aK I q rfl)
  | int j=>obtain⟨t',rfl⟩:=ry;exact PySem.EqMixed.ne_str_int (aK I q rfl)
  | str j=>obtain⟨t',rfl⟩:=ry;exact ne_str (aK I q (ag1 not xR))
  | _=>exact absurd (show false=true from hs) ac0
 | x4 i=>
  obtain⟨t,rfl⟩:=rx;cases y with
  | x4 j=>obtain⟨t',rfl⟩:=ry;exact PySem.W.ne_bytes (aK I q (ag1 not xT))
  | _=>exact absurd (show false=true from hs) ac0
 | _=>exact absurd (show false=true from hs) ac0
theorem NV:iR X (compareOp .Lt) (Fj fun i j=> .bl (decide (i < j))):=FF fun _ _ _ _ _ _ _ q=>lt_int q
theorem HR:iR X (compareOp .LtE) (Fj fun i j=> .bl (decide (i<=j))):=FF fun _ _ _ _ _ _ _ q=>le_int q
theorem HS:iR X (compareOp .Gt) (Fj fun i j=> .bl (decide (j < i))):=FF fun _ _ _ _ _ _ _ q=>gt_int q
theorem NW:iR X (compareOp .GtE) (Fj fun i j=> .bl (decide (j<=i))):=FF fun _ _ _ _ _ _ _ q=>ge_int q
theorem cQ(b:Expr)(h:op≠ .In:=by decide)(h2:op≠ .NotIn:=by decide):behindInMarks op b=false:=by
 have e1:(op==CmpOp.In)=false:=by cases op <;> first | rfl | exact absurd rfl h
 have e2:(op==CmpOp.NotIn)=false:=by cases op <;> first | rfl | exact absurd rfl h2
 cases b <;> simp [behindInMarks,e1,e2]
theorem xj(ho:iR X (compareOp op) r)(ha:PE X a ta)(hb:PE X b tb)(hm:behindInMarks op b=false):PE X (.Compare a [op] [b] pos) (JD r ta tb):=by
 intro pins s σ H Q I h;exact wpAny_Compare1 (LU ha hb I h fun v u s2 x y H2 I2 rx ry q=>ho pins s2 σ H2 x y v u Q I2 rx ry q) hm
def Nd(t:TE):TT:=fun σ H Q=>t σ H fun x H'=> ∃k,x= .bl k/\Q k H'
theorem l7(ho:iR X (compareOp op) r)(ha:PE X a ta)(hb:PE X b tb)(hm:behindInMarks op b=false):PT X (.Compare a [op] [b] pos) (Nd (JD r ta tb)):=by
 intro pins s σ H Q I h;refine wpAny_isTrue_Compare1 (aN (ha pins s σ H _ I h) fun v s1 ⟨x,H1,I1,r1,q1⟩=>aN (hb pins s1 σ H1 _ I1 q1) fun u s2 ⟨y,H2,I2,r2,q2⟩=>
  aN (ho pins s2 σ H2 x y v u _ I2 r1 r2 q2) fun c s3 ⟨z,H3,I3,r3,k,e,q3⟩=>?_) hm
 subst e;cases r3;exact aj7 ⟨H3,I3,q3⟩
def P4(K:PySem.W.Frag)(x:V)(H:Hp)(k:Bool):Prop:=
 match x with
 | .aF=>k=false
 | .bl b=>k=b
 | .int i=>k=(i !=0)
 | .str y=>y.length<=sizeLine/\k=((y.length:Int) !=0)
 | .x4 y=>y.size<=sizeLine/\k=((y.size:Int) !=0)
 | .ref p=>(∃xs,bS K H p xs/\k=!xs.isEmpty)\/(∃xs,dB K H p xs/\k=!xs.isEmpty)\/ ∃aC,H p=some (.dK aC)/\k=!aC.isEmpty
 | _=>False
theorem vz(r:KV aC vs):(!vs.isEmpty)=!aC.isEmpty:=by
 cases r <;> rfl
theorem nB(r:Vals xs ao):(!ao.toArray.isEmpty)=!xs.isEmpty:=by
 cases r <;> simp
theorem kG:(sizeLine:Nat) < 2^63:=by rw[sizeLine_eq];decide
theorem Jv:Uy X (fun x H Q=> ∃k,P4 X.K x H k/\Q k H):=by
 intro pins s σ H x v Q I rx h;obtain⟨k,e,q⟩:=h;have hl:=kG;have hs:sizeLine=16777216:=sizeLine_eq;cases x with
 | aF=>
  cases rx;have e':k=false:=e;subst e';exact truthy_none ⟨H,I,q⟩
 | bl b=>
  cases rx;have e':k=b:=e;subst e';exact aj7 ⟨H,I,q⟩
 | int i=>
  obtain⟨t,rfl⟩:=rx;have e':k=(i !=0):=e;subst e';exact PySem.P.truthy_int ⟨H,I,q⟩
 | str y=>
  obtain⟨t,rfl⟩:=rx;obtain⟨hy,e'⟩:y.length<=sizeLine/\k=((y.length:Int) !=0):=e;subst e';exact PySem.P.truthy_str (by lia) ⟨H,I.tok _,q⟩
 | x4 y=>
  obtain⟨t,rfl⟩:=rx;obtain⟨hy,e'⟩:y.size<=sizeLine/\k=((y.size:Int) !=0):=e;subst e';exact PySem.W.truthy_bytes (by lia) ⟨H,I.tok _,q⟩
 | ref p=>
  cases rx;have e':(∃xs,bS X.K H p xs/\k=!xs.isEmpty)\/(∃xs,dB X.K H p xs/\k=!xs.isEmpty)\/ ∃aC,H p=some (.dK aC)/\k=!aC.isEmpty:=e;rcases e' with ⟨xs,hx,e'⟩ | ⟨xs,hx,e'⟩ | ⟨aC,hx,e'⟩
  . subst e';obtain⟨ao,r,pl,hz⟩:=I.list hx;have hlen:=r.length;exact wpAny_truthy_list pl.isList (by simp only [ab0];lia) ⟨H,I.tok _,by rw[nB r];exact q⟩
  . subst e';obtain⟨ao,r,pl,hz⟩:=I.tuple hx;have hlen:=r.length;exact truthy_tuple pl (by simp only [ab0];lia) ⟨H,I.tok _,by rw[nB r];exact q⟩
  . subst e';obtain⟨hz,hS,vs,r,m⟩:aC.length<=sizeLine/\(p==sysModules)=false/\ ∃vs,KV aC vs/\s.heap.DictOf (aS X.prog X.w) p vs:=I.aI p _ hx;have hlen:aC.length=vs.length:=Paired.length r;exact wpAny_truthy_dict hS m (by lia) ⟨H,I.tok _,by rw[vz r];exact q⟩
 | _=>exact(show False from e).elim
theorem Bx(ha:PE X a ta)(he: ∀whole,isTrue a X.env whole=(do let v<-whole;standAt a.pos;holding [v] (truthy v))):
  PT X a (fun σ H Q=>ta σ H fun x H'=> ∃k,P4 X.K x H' k/\Q k H'):=by
 intro pins s σ H Q I h;exact isTrue_plain (aN (ha pins s σ H _ I h) fun v s1 Ro=>(by obtain⟨x,H1,I1,r1,q1⟩:=Ro;exact(Jv pins s1 σ H1 x v Q I1 r1 q1))) (he _)
theorem vals1(r:Vals [x] us): ∃u,us= [u]/\RelV x u:=by
 cases r with
 | cons r1 r2=>cases r2;exact⟨_,rfl,r1⟩
theorem vals2(r:Vals [x,y] us): ∃u w',us= [u,w']/\RelV x u/\RelV y w':=by
 cases r with
 | cons r1 r2=>
  cases r2 with
  | cons r3 r4=>cases r4;exact⟨_,_,rfl,r1,r3⟩
theorem Ae:eQ X (.type "int") (fun xs H Q=>(∃i,xs= [.int i]/\Q (.int i) H)\/ ∃k,xs= [.bl k]/\Q (.int (if k then 1 else 0)) H):=by
 intro pins s σ H xs us Q I r h;rcases h with ⟨i,rfl,q⟩ | ⟨k,rfl,q⟩
 . obtain⟨u,rfl,t,rfl⟩:=vals1 r;exact call_int_int ⟨.int i,H,I,⟨_,rfl⟩,q⟩
 . obtain⟨u,rfl,r1⟩:=vals1 r;cases r1;exact call_int_bool ⟨.int (if k then 1 else 0),H,I.tok _,⟨_,rfl⟩,q⟩
end
structure L6(h:Heap)(x dx C:Addr)(mA:Str->Option Value):Prop where
 obj:h.get? x=some (PySem.W.instObj C dx)
 ns:h.Ns1 dx mA
 ne:dx≠x
theorem zx{h:Heap}(n:h.Ns1 dx mA): ∃od,h.get? dx=some od/\ ∀name,PySem.W.lookIn name od=some (mA name):=by
 obtain⟨o,es,ep,ho,hd,hk,_,hm⟩:=n;refine⟨o,ho,fun name=>?_⟩;have e:=hm name;unfold nsFind findBy at e;rw[<-Array.find?_toList] at e;unfold PySem.W.lookIn;rw[hd];dsimp only;split
 . rename_i y q;rw[q] at e;exact ag1 some e
 . rename_i q;rw[q] at e;have a:es.toList.any (·.refKey)=false:=by
    rw[List.any_eq_false];intro y hy;obtain⟨z,t,Gp⟩:=hk y (Array.mem_toList_iff.mp hy);simp [DictEntry.refKey,Gp]
   have a': ¬es.toList.any (·.refKey)=true:=by rw[a];exact ac0
   rw[if_neg a'];exact ag1 some e
theorem L6.look(I:L6 h x dx C mA): ∃od,PySem.W.InstAt h x (PySem.W.instObj C dx) C (some od)/\ ∀name,PySem.W.lookIn name od=some (mA name):=
 let ⟨od,ho,hl⟩:=zx I.ns
 ⟨od,⟨I.obj,rfl,rfl,ho⟩,hl⟩
theorem kd.some_of(r:kd (some v) o): ∃u,o=some u/\RelV v u:=by
 cases o with
 | none=>exact(show False from r).elim
 | some u=>exact⟨u,rfl,r⟩
theorem Ge(aI:gq P w H h)(e:H a=some (.ins C dx fs)): ∃mA,L6 h a dx C mA/\(∀f,kd (fs.lookup f) (mA f))/\PySem.Within mA (fs.map (·.1))/\fs.length<=1000/\H dx=some (.own a):=by
 obtain⟨d,z,ne,ob,mA,n,r,q⟩:=(show aV P w H h a (.ins C dx fs) from aI a _ e)
 exact⟨mA,⟨ob,n,ne⟩,r,q,z,d⟩
structure UI(K:PySem.W.Frag)(C:Addr):Prop where
 pg:PySem.W.plainGet K C Str.empty=true
 hd:PySem.W.hasDictIn K C=true
 po:PySem.W.plainOver K C=true
 sa:PySem.W.findIn K (.ref C) "__setattr__"=some (some (.builtin "object.__setattr__"))
theorem UI.get{K:PySem.W.Frag}(c:UI K C)(f:Str):PySem.W.plainGet K C f=true:=c.pg
theorem Hd(hb:attributeBase e f env (eval e env)=eval e env)(h:wpAny (model prog w) A (eval e env) (fun o s₁=>wpAny (model prog w) A (getAttr o f true) Q E s₁) E s):wpAny (model prog w) A (eval (.Attribute e f pos) env) Q E s:=
 Attribute_any_ h (by rw[arm_eval_Attribute,hb])
section
variable{X:Cx}{pins:List (Addr × Obj)}{σ:St}{H:Hp}{s:Shared}{A:Around}{E:Value->Shared->Prop}{Q:Value->Shared->Prop}{c:Value}{b:Bool}
inductive lU(K:PySem.W.Frag)(H:Hp):V->Value->Prop where
 | aF:lU K H .aF (.type "NoneType")
 | bl (x:Bool):lU K H (.bl x) (.type "bool")
 | int (i:Int):lU K H (.int i) (.type "int")
 | str (x:Str):lU K H (.str x) (.type "str")
 | Au (x:UInt64):lU K H (.Au x) (.type "float")
 | lst {a:Addr} {xs:List V} (e:H a=some (.lst xs)):lU K H (.ref a) (.type "list")
 | tF {a:Addr} {o:Obj} {xs:List V} (e:H a=some (.tF o (.lst xs))):lU K H (.ref a) (.type "list")
 | tup {a:Addr} {xs:List V} (e:H a=some (.tup xs)):lU K H (.ref a) (.type "tuple")
 | dK {a:Addr} {aC:List (Key × V)} (e:H a=some (.dK aC)):lU K H (.ref a) (.type "dict")
 | dT {a:Addr} {aC:List (List Key × V)} (e:H a=some (.dT aC)):lU K H (.ref a) (.type "dict")
 | ins {a C dx:Addr} {fs:List (Str × V)} (e:H a=some (.ins C dx fs)) (cl:UI K C) (ha:PySem.W.findIn K (.ref C) "__class__"=some (some (.builtin "object.__class__")))
   (hn:PySem.W.specialIn K (.builtin "object.__class__") "__get__"=some (some (.builtin "getset_descriptor.__get__"))) (Vf:PySem.W.takesIn K (.builtin "object.__class__")=some true)
   (hm:PySem.W.mroIn K C (.type "object")=some true):lU K H (.ref a) (.ref C)
theorem dU(I:Inv X pins σ H s)(rx:RelV x u)(ty:lU X.K H x t)(e:PySem.W.kitOne X.K t c=some b)(h: ∀tk,Q (.bool b) {s with toks:=tk}):
  wpAny (model X.prog X.w) A (call (.builtin "isinstance") [u,c]) Q E s:=by
 cases ty with
 | aF=>cases (show u=Value.none from rx);exact ah1 PySem.W.kitx_none I.kJ True.intro e (fun z=>nomatch z) h
 | bl y=>cases (show u=Value.bool y from rx);exact ah1 PySem.W.kitx_bool I.kJ True.intro e (fun z=>nomatch z) h
 | int i=>obtain⟨t,q⟩:=(show∃t,u=Value.int i t from rx);cases q;exact ah1 PySem.W.kitx_int I.kJ True.intro e (fun z=>nomatch z) h
 | str y=>obtain⟨t,q⟩:=(show∃t,u=Value.str y t from rx);cases q;exact ah1 PySem.W.kitx_str I.kJ True.intro e (fun z=>nomatch z) h
 | Au y=>obtain⟨t,q⟩:=(show∃t,u=Value.float y t from rx);cases q;exact ah1 PySem.W.kitx_float I.kJ True.intro e (fun z=>nomatch z) h
 | @lst a xs ea=>
  cases (show u=Value.ref a from rx);obtain⟨_,_,n,_,h1⟩:=(show aV X.prog X.w H s.heap a (.lst xs) from I.aI a _ ea)
  exact ah1 PySem.W.kitx_list I.kJ ⟨_,h1,rfl⟩ e (fun z=>nomatch z) h
 | @tF a ob xs ea=>
  cases (show u=Value.ref a from rx);obtain⟨_,_,_,n,_,h1⟩:=(show aV X.prog X.w H s.heap a (.tF ob (.lst xs)) from I.aI a _ ea)
  exact ah1 PySem.W.kitx_list I.kJ ⟨_,h1,rfl⟩ e (fun z=>nomatch z) h
 | @tup a xs ea=>
  cases (show u=Value.ref a from rx);obtain⟨_,_,_,p⟩:=(show aV X.prog X.w H s.heap a (.tup xs) from I.aI a _ ea)
  obtain⟨o,h1,h2,_⟩:=p;exact ah1 PySem.W.kitx_tuple I.kJ ⟨o,h1,h2⟩ e (fun z=>nomatch z) h
 | @dK a aC ea=>
  cases (show u=Value.ref a from rx);obtain⟨_,_,vs,_,p⟩:=(show aV X.prog X.w H s.heap a (.dK aC) from I.aI a _ ea)
  obtain⟨o,es,ep,h1,h2,_⟩:=p;exact ah1 PySem.W.kitx_dict I.kJ ⟨o,h1,h2.1⟩ e (fun z=>nomatch z) h
 | @dT a aC ea=>
  cases (show u=Value.ref a from rx);obtain⟨_,_,xs,_,o,es,ep,h1,h2,_⟩:=(show aV X.prog X.w H s.heap a (.dT aC) from I.aI a _ ea)
  exact ah1 PySem.W.kitx_dict I.kJ ⟨o,h1,h2.1⟩ e (fun z=>nomatch z) h
 | @ins a C dx fs ea cl ha hn Vf hm=>
  cases (show u=Value.ref a from rx);obtain⟨mA,O,_⟩:=Ge I.aI ea;obtain⟨od,J,_⟩:=O.look;exact ah1 (PySem.W.kitx_own (cl.get _) cl.hd ha hn Vf hm) I.kJ J e (fun z=>nomatch z) h
end
structure bg(k:Nat)(A:Around):Prop where
 hd:A.handled=none
 dp:A.depth+3*k+5 < recursionLimit
 un:A.units+16*k+200 < cLine
 gd:A.guards=some []
theorem bg.mono(r:bg k A)(h:j<=k):bg j A:=⟨r.hd,by have:=r.dp;lia,by have:=r.un;lia,r.gd⟩
theorem bg.deeper(r:bg (k+1) A)(env:Env):bg k (A.deeper env):=
 ⟨r.hd,by have:=r.dp;show A.depth+1+3*k+5 < _;lia,by have:=r.un;show A.units+3+16*k+200 < _;lia,r.gd⟩
theorem vt{A:Around}:(A.under (.builtin "type.__call__" ⟨.ref C::us,kw⟩)).depth=A.depth+1:=by
 first | rfl | simp [Around.under,Code.weight,Code.isCreation,Code.isGuard,Code.isCaller,Code.frames,Code.isFrame,guardIds]
theorem vq{A:Around}:(A.under (.builtin "type.__call__" ⟨.ref C::us,kw⟩)).units=A.units+1:=by
 first | rfl | simp [Around.under,Code.cUnits,Code.frames,Code.isFrame]
theorem sW{A:Around}:(A.under (.builtin "type.__call__" ⟨.ref C::us,kw⟩)).guards=A.guards:=by
 first | rfl | simp [Around.under,Code.weight,Code.isCreation,Code.isGuard,Code.isCaller,Code.frames,Code.isFrame,guardIds]
theorem bg.make(r:bg (k+1) A)(C:Addr)(us:List Value)(kw:List (Str × Value)):bg k (A.under (.builtin "type.__call__" ⟨.ref C::us,kw⟩)):=
 ⟨r.hd,by have:=r.dp;rw[vt];lia,by have:=r.un;rw[vq];lia,by rw[sW];exact r.gd⟩
theorem bg.depth(r:bg k A):A.depth < recursionLimit:=by have:=r.dp;lia
theorem bg.units(r:bg k A):A.units+64 < cLine:=by have:=r.un;lia
theorem bg.p7(r:bg k A):A.units < cLine:=by have:=r.un;lia
def uJ:TA:=fun _ H Q=>Q [] H
def oX(ta:TE)(tr:TA):TA:=fun σ H Q=>ta σ H fun x H1=>tr σ H1 fun xs H2=>Q (x::xs) H2
section
variable{X:Cx}{e:Expr}{es:List Expr}{te:TE}{t:TA}{pos:Pos}
theorem aE:PA X [] uJ:=fun _ _ _ _ H Q I h=>ar0 ⟨[],H,I,.nil,h⟩
theorem aj(ha:PE X e te)(hr:PA X es t)(hs:starEach (e::es) X.env=(false,eval e X.env)::starEach es X.env:=by rfl):PA X (e::es) (oX te t):=by
 intro pos pins s σ H Q I h;rw[hs];show wpAny _ _ (spliced ((false,eval e X.env)::backTo pos (starEach es X.env))) _ _ s;refine al6 (aN (ha pins s σ H _ I h) fun u s1 Rn=>?_);obtain⟨x,H1,I1,r1,q1⟩:=Rn;exact aN (hr pos pins s1 σ H1 _ I1 q1) fun us s2 Rm=>(by obtain⟨xs,H2,I2,r2,q2⟩:=Rm;exact(⟨x::xs,H2,I2,.cons r1 r2,q2⟩))
def Nb(t:TA):TE:=fun σ H Q=>t σ H fun xs H1=>xs.length<=sizeLine/\ ∀p,H1 p=none->Q (.ref p) (upd H1 p (.tup xs))
def Nj(t:TA):TE:=fun σ H Q=>t σ H fun xs H1=>xs.length<=sizeLine/\ ∀p,H1 p=none->Q (.ref p) (upd H1 p (.lst xs))
theorem m8{x1}(h:PA X es t):PE X (.Tuple es x1 pos) (Nb t):=by
 intro pins s σ H Q I hq;refine wpAny_Tuple_spliced (aN (h pos pins s σ H _ I hq) fun us s1 ⟨xs,H1,I1,r,z,q⟩=>⟨by rw[<-r.length];exact z,?_⟩);have hf:H1 s1.heap.objs.size=none:=I1.aI.fresh (ab2 _);refine⟨.ref s1.heap.objs.size,upd H1 s1.heap.objs.size (.tup xs),I1.laid (t':=s1.toks) (fun b u e=>aa3 _ e) (ab2 _) ?_,rfl,q _ hf⟩;exact⟨z,us,r,⟨_,ab6 _ rfl,rfl,rfl,_,rfl⟩⟩
theorem qB(h:PA X es t):PE X (.List es pos) (Nj t):=by
 intro pins s σ H Q I hq;refine wpAny_List_spliced (aN (h pos pins s σ H _ I hq) fun us s1 ⟨xs,H1,I1,r,z,q⟩=>⟨by rw[<-r.length];exact z,?_⟩);have hf:H1 s1.heap.objs.size=none:=I1.aI.fresh (ab2 _);refine⟨.ref s1.heap.objs.size,upd H1 s1.heap.objs.size (.lst xs),I1.laid (t':=s1.toks) (fun b u e=>aa3 _ e) (ab2 _) ?_,rfl,q _ hf⟩;exact⟨z,us,0,r,ab6 _ rfl⟩
end
abbrev Sp:=List V->Hp->VK->XK->Prop
abbrev ED:=List Env->Hp->Shared->XK->Value->Shared->Prop
structure wA(P:Program)(w:World)(K:PySem.W.Frag)(mg:Str->Option Value)(base:Heap)(A:Around)(outer:List Env)(s:Shared)(H:Hp):Prop where
 frames:A.frames=some outer
 mod:Mod K mg base
 bs: ∀b o,base.get? b=some o->s.heap.get? b=some o/\H b=none
 EA:base.objs.size<=s.heap.objs.size
 i7:s.heap.FunFrames base outer
 IC: ∀b∈fb outer,H b=none
 aI:gq P w H s.heap
 bare:AllBare s.gens
def CE(outer:List Env)(P:Program)(w:World)(H:Hp)(s:Shared)(Q:VK)(u:Value)(s':Shared):Prop:=
 ∃v H',s'.os=s.os/\AllBare s'.gens/\Un (fb outer) [] H H' s.heap s'.heap/\gq P w H' s'.heap/\RelV v u/\Q v H'
def CR(CX:ED)(outer:List Env)(P:Program)(w:World)(H:Hp)(s:Shared)(Q:VK)(E:XK)(r:Result)(s':Shared):Prop:=
 match r with
 | .ok (.ret u)=>CE outer P w H s Q u s'
 | .ok _=>False
 | .error e=>CX outer H s E e s'
structure aJ(P:Program)(w:World)(K:PySem.W.Frag)(mg:Str->Option Value)(base:Heap)(CX:ED)(k:Nat)(f:Addr)(fd:FuncData)(ps:List Str)(sp:Sp):Prop where
 len: ∀vs H Q E,sp vs H Q E->vs.length=ps.length
 run: ∀(A:Around) (outer:List Env) (s:Shared) (H:Hp) (args:Args) (us:List Value) (vs:List V) (Q:VK) (E:XK),bg k A->wA P w K mg base A outer s H->BindsTo s fd args (ps.zip us)->Vals vs us->sp vs H Q E->
  codeAny (model P w) A (.call (.ref f) args) (CR CX outer P w H s Q E) s
theorem aJ.imp{P:Program}{w:World}{K:PySem.W.Frag}{k:Nat}(F:aJ P w K mg base CX k f fd ps sp)(h: ∀vs H Q E,Xe vs H Q E->sp vs H Q E):aJ P w K mg base CX k f fd ps Xe:=
 ⟨fun vs H Q E q=>F.len vs H Q E (h _ _ _ _ q),fun A outer s H args us vs Q E hr he hb hv hs=>F.run A outer s H args us vs Q E hr he hb hv (h _ _ _ _ hs)⟩
theorem wA.make{P:Program}{w:World}{K:PySem.W.Frag}(e:wA P w K mg base A outer s H)(C:Addr)(us:List Value)(kw:List (Str × Value)):
  wA P w K mg base (A.under (.builtin "type.__call__" ⟨.ref C::us,kw⟩)) outer s H:=⟨by first | exact e.frames | (simpa [Around.under,Code.envs,Code.isFrame,pushEnvs] using e.frames),e.mod,e.bs,e.EA,e.i7,e.IC,e.aI,e.bare⟩
theorem Inv.Lm(I:Inv X pins σ H s):wA X.prog X.w X.K X.mg X.base X.A X.stack s H:=
 ⟨I.ok.frames,I.ok.mod,I.bs,ac6 I.ok.EA I.sz,I.stack,I.ju,I.aI,I.bare⟩
theorem Inv.after(I:Inv X pins σ H s)(h:CE X.stack X.prog X.w H s Q u s'):EP X pins σ Q u s':=by
 obtain⟨v,H',os,bare,un,aI,r,q⟩:=h;obtain⟨hh,g,d,t,My⟩:=s';obtain rfl:My=s.os:=os;exact⟨v,H',I.call (h':=hh) (g':=g) (d':=d) (t':=t) (ch:= []) un aI bare (fun b z=>absurd z (by simp)),r,q⟩
def wQ(sp:Sp)(dvs:List V)(E:XK)(t:TA):TE:=fun σ H Q=>t σ H fun vs H1=>sp (vs++dvs) H1 Q E
def Binds(K:PySem.W.Frag)(fd:FuncData)(ps:List Str)(ds:List Value):Prop:=
 ∀(s:Shared) (us:List Value),K.In s.heap->(us++ds).length=ps.length->BindsTo s fd ⟨us,[]⟩ (ps.zip (us++ds))
theorem Binds.all{K:PySem.W.Frag}{ps:List Str}(h: ∀us:List Value,us.length=ps.length->bindArgs fd ⟨us,[]⟩=pure (ps.zip us)):Binds K fd ps []:=fun s us _ hl=>by
 rw[af0] at hl ⊢;exact .of_eq (h us hl)
def Passes(CX:ED)(X:Cx)(E:XK):Prop:= ∀(pins:List (Addr × Obj)) (σ:St) (H:Hp) (s:Shared) (e:Value) (s':Shared),Inv X pins σ H s->CX X.stack H s E e s'->X.xe e s'
theorem Bs(F:aJ X.prog X.w X.K X.mg X.base CX k f fd ps sp)(hr:bg k X.A)(hb:Binds X.K fd ps ds)(hd:Vals dvs ds)(hx:Passes CX X E)(I:Inv X pins σ H s)(r:Vals vs us)(h:sp (vs++dvs) H Q E):wpAny (model X.prog X.w) X.A (call (.ref f) us) (EP X pins σ Q) X.xe s:=by
 have r2:Vals (vs++dvs) (us++ds):=r.append hd;have hl:(us++ds).length=ps.length:=by rw[<-r2.length];exact F.len _ _ _ _ h
 refine wpAny_call (am3 (F.run X.A X.stack s H ⟨us,[]⟩ (us++ds) (vs++dvs) Q E hr I.Lm (hb s us I.kJ hl) r2 h) fun r s' hq=>?_);cases r with
 | error e=>exact hx pins σ H s e s' I hq
 | ok fl=>
  cases fl with
  | ret u=>exact I.after hq
  | next=>exact False.elim hq
  | brk=>exact False.elim hq
  | cont=>exact False.elim hq
theorem xk(F:aJ X.prog X.w X.K X.mg X.base CX k f fd ps sp)(hr:bg k X.A)(hg:Gl X x)(hm:X.mg x=some (.ref f))(hk:PySem.W.keepIn X.K (.ref f)=true)(hb:Binds X.K fd ps ds)(hd:Vals dvs ds)(hx:Passes CX X E)
  (ha:PA X (e::es) t) (gs:(x==("__debug__":Str))=false:=by decide) (he:starEach (e::es) X.env=(false,eval e X.env)::starEach es X.env:=by rfl) (da:(backTo pos (starEach es X.env)).any (·.1)=false:=by rfl):
  PE X (.Call (.Name x p) (e::es) [] pos) (wQ sp dvs E t):=by
 intro pins s σ H Q I h;refine aj3 (jH I hg hm ?_ gs);refine PySem.W.callWith_K (h₀:=X.base) I.ok.mod.Oo hk (aN (ha pos pins s σ H _ I h) fun us s1 ⟨vs,H1,I1,r,q⟩=>⟨I1.kJ,?_⟩) he da;exact Bs F hr hb hd hx I1 r q
def PK(X:Cx)(kZ:List Keyword)(t:TA):Prop:=
 ∀(pos:Pos) (pins:List (Addr × Obj)) (s:Shared) (σ:St) (H:Hp) (Q:List V->Hp->Prop),Inv X pins σ H s->t σ H Q->wpAny (model X.prog X.w) X.A (evalAll ((backToKw pos (keywordEach kZ X.env)).map (·.2))) (AP X pins σ Q) X.xe s
theorem BE:PK X [] uJ:=fun _ _ _ _ H Q I h=>wpAny_evalAll_nil ⟨[],H,I,.nil,h⟩
theorem xg(ha:PE X e te)(hr:PK X kZ t):PK X (⟨nm,e,qM⟩::kZ) (oX te t):=by
 intro pos pins s σ H Q I h;show wpAny _ _ (evalAll ((do let v<-eval e X.env;standAt pos;pure v)::(backToKw pos (keywordEach kZ X.env)).map (·.2))) _ _ s;refine wpAny_evalAll_cons (aa0 (aN (ha pins s σ H _ I h) fun u s1 ⟨x,H1,I1,r1,q1⟩=>aa0 (af9 (aa7 ?_))));exact aN (hr pos pins s1 σ H1 _ I1 q1) fun us s2 Rl=>(by obtain⟨xs,H2,I2,r2,q2⟩:=Rl;exact(⟨x::xs,H2,I2,.cons r1 r2,q2⟩))
structure aw(N P:List Str)(sc:Scope):Prop where
 kind:sc.kind= .function
 co:sc.isCoroutine=false
 gen:sc.isGenerator=false
 nd:N.Nodup
 pre:N.take P.length=P
 par: ∀x∈P,sc.names.lookup x=some .local\/sc.names.lookup x=some .cell
 Km: ∀y∈sc.names,y.2≠ .free
theorem pR{kindOf:Str->Option NameKind}: ∀{binds:List (Str × Value)} {m:Str->Option Value},(∀v,(x,v)∉binds)->bindL kindOf binds m x=m x
 | [],_,_=>rfl
 | (n,v)::r,m,h=>by
  unfold bindL;rw[pR fun w hw=>h w (ab5 _ hw)];split
  . have:x≠n:=by rintro rfl;exact h v ab3
    simp [this]
  . rfl
theorem pU{kindOf:Str->Option NameKind}: ∀{binds:List (Str × Value)} {m:Str->Option Value},(∀v,(x,v)∉binds)->bindC kindOf binds m x=m x
 | [],_,_=>rfl
 | (n,v)::r,m,h=>by
  unfold bindC;rw[pU fun w hw=>h w (ab5 _ hw)];split
  . rfl
  . have:x≠n:=by rintro rfl;exact h v ab3
    simp [this]
theorem pS{kindOf:Str->Option NameKind}: ∀{P:List Str} {vs:List Value} {i:Nat} {m:Str->Option Value},P.Nodup->P[i]?=some x->vs[i]?=some v->kindOf x=some .local->
  bindL kindOf (P.zip vs) m x=some v
 | [],_,_,_,_,h,_,_=>by simp at h
 | _::_,[],_,_,_,_,h,_=>by simp at h
 | p::P,w::vs,0,m,nd,h1,h2,hk=>by
  simp at h1 h2;subst h1;subst h2;show bindL kindOf ((p,w)::P.zip vs) m p=_;unfold bindL;rw[pR fun v hv=>(ak5.mp nd).1 (List.of_mem_zip hv).1,if_pos hk];simp
 | p::P,w::vs,i+1,m,nd,h1,h2,hk=>by
  show bindL kindOf ((p,w)::P.zip vs) m x=_;unfold bindL;exact pS (i:=i) (ak5.mp nd).2 (by simpa using h1) (by simpa using h2) hk
theorem pV{kindOf:Str->Option NameKind}: ∀{P:List Str} {vs:List Value} {i:Nat} {m:Str->Option Value},P.Nodup->P[i]?=some x->vs[i]?=some v->kindOf x≠some .local->
  bindC kindOf (P.zip vs) m x=some v
 | [],_,_,_,_,h,_,_=>by simp at h
 | _::_,[],_,_,_,_,h,_=>by simp at h
 | p::P,w::vs,0,m,nd,h1,h2,hk=>by
  simp at h1 h2;subst h1;subst h2;show bindC kindOf ((p,w)::P.zip vs) m p=_;unfold bindC;rw[pU fun v hv=>(ak5.mp nd).1 (List.of_mem_zip hv).1,if_neg hk];simp
 | p::P,w::vs,i+1,m,nd,h1,h2,hk=>by
  show bindC kindOf ((p,w)::P.zip vs) m x=_;unfold bindC;exact pV (i:=i) (ak5.mp nd).2 (by simpa using h1) (by simpa using h2) hk
noncomputable def start(N:List Str)(vs:List V):St:=vs.map some++List.replicate (N.length - vs.length) none
noncomputable def fJ(CX:ED)(P:Program)(w:World)(K:PySem.W.Frag)(mg:Str->Option Value)(base:Heap)(N:List Str)(qual:Str)(scope:Scope)(f:Addr)(cd:Value)(A:Around)(outer:List Env)(s:Shared)(H:Hp)(E:XK):Cx where
 prog:=P
 w:=w
 K:=K
 mg:=mg
 base:=base
 A:=A.deeper (envOfC qual scope s.heap.objs.size f cd)
 N:=N
 s₀:=s
 H₀:=H
 env:=envOfC qual scope s.heap.objs.size f cd
 outer:=outer
 stack:=envOfC qual scope s.heap.objs.size f cd::outer
 ex:= []
 calm:=true
 fn:=fun _=>true
 pn:= []
 xe:=fun e s'=>wpAny (model P w) (A.deeper (envOfC qual scope s.heap.objs.size f cd)) (leaving (envOfC qual scope s.heap.objs.size f cd) e) (fun _ Ff=>CX outer H s E e Ff) (fun e' Ff=>CX outer H s E e' Ff) s'
theorem j4{sc:Scope}(h:sc.names.lookup x=some .cell): ∃c,(cellsFrom n sc.names []).lookup x=some c:=by
 have q:=PySem.W.cellsFrom_some sc.names n [] (.inl h);exact ag2.mp q
theorem zE{CX:ED}{P:Program}{w:World}{K:PySem.W.Frag}{A:Around}{vs:List V}(S:aw N ps scope)(hd:A.handled=none)(e0:wA P w K mg base A outer s H)(hl:vs.length=ps.length)(r:Vals vs us)(x:InCallC s s.heap.objs.size (bindL (envOfC qual scope s.heap.objs.size f cd).kindOf (ps.zip us) fun _=>none) (cellsFrom (s.heap.objs.size+1) scope.names []) (bindC (envOfC qual scope s.heap.objs.size f cd).kindOf (ps.zip us) fun _=>none) s1):
  Inv (fJ CX P w K mg base N qual scope f cd A outer s H E) [] (start N vs) H s1:=by
 have da:ps.length<=N.length:=by have:=ag1 List.length S.pre;rw[aj1] at this;lia
 obtain⟨h1,tk,rfl,hk⟩:=x.done;have N5: ∀b:Addr,b∉(fJ CX P w K mg base N qual scope f cd A outer s H E).ex:=fun b z=>absurd (show b∈([]:List Addr) from z) (by simp);refine⟨⟨e0.mod,S.kind,rfl,rfl,ab2 _,fun y z c h1 h2=>?_,fun y hy=>?_,fun y c _ h=>?_,fun _=>hd,Around.frames_deeper e0.frames,.inr ⟨rfl,rfl⟩,fun b z=>absurd z (N5 b),e0.bs,e0.EA,fun b _ _=>N5 b,fun b z=>absurd z (N5 b),e0.i7,e0.IC⟩,
  rfl,e0.bare,Un.kept hk,⟨_,x.toInCall.ns,fun i y v h1 h2 h3=>?_⟩,fun y c h=>⟨_,x.cell y c h⟩,e0.aI.fresh (ab2 _),fun y c h=>?_,fun p hp=>absurd (show p∈([]:List (Addr × Obj)) from hp) (by simp),e0.aI.kept hk,?_⟩
 . exact name_of_addr x.apart (af6 h1) (af6 h2)
 . have hy:scope.names.lookup y=some .cell\/scope.names.lookup y=some .free:=hy;rcases hy with hy | hy
   . exact j4 hy
   . exact absurd rfl (S.Km _ (af6 hy))
 . exact Nat.le_of_lt (x.above y c (af6 h))
 . have hi : i < vs.length := by
     unfold start at h2;by_cases hi:i < vs.length
     . exact hi
     . rw[ae4 (by simpa using hi)] at h2;rw[ac1] at h2;split at h2 <;> cases h2
   have ha:vs[i]?=some v:=by
    unfold start at h2;rw[ad5 (by simpa using hi),aa8] at h2;cases e:vs[i]? with
    | none=>rw[e] at h2;cases h2
    | some a=>rw[e] at h2;cases h2;rfl
   obtain⟨u,hu,rv⟩:=r.get ha;have hp:ps[i]?=some y:=by
    rw[<-S.pre,List.getElem?_take_of_lt (by lia)];exact h1
   have U5:ps.Nodup:=by rw[<-S.pre];exact S.nd.sublist (List.take_sublist _ _)
   refine⟨u,rv,?_⟩;rcases S.par y (ad2 hp) with k | k
   . exact .inl ⟨k,pS U5 hp hu k⟩
   . obtain⟨c,e⟩:=j4 (n:=s.heap.objs.size+1) k;refine .inr ⟨.inl k,c,e,?_⟩;have q:=x.cell y c e;rw[pV U5 hp hu (by show scope.names.lookup y≠_;rw[k];decide)] at q;exact q
 . exact e0.aI.fresh (Nat.le_of_lt (x.above y c (af6 h)))
 . unfold start;show _=N.length;rw[aa9,aa1,ah3];lia
theorem ID {CX : ED} {P : Program} {w : World} {K : PySem.W.Frag} {mg : Str -> Option Value} {base : Heap} {k : Nat} {f : Addr} {name qual : Str} {params : Arguments} {body : List Stmt} {scope : Scope} {dV kV doc pm ba ct oc : Value} (lk : K.lookup f = some ⟨oc, od, .func (PySem.W.fnOf name qual params body scope dV kV doc pm an ba ct), Ar⟩) (jo : PySem.W.codeIn K ba qual = true) (S : aw N ps scope) (len : ∀ vs H Q E, sp vs H Q E -> vs.length = ps.length) (dw : ∀ (A : Around) (outer : List Env) (s : Shared) (H : Hp) (vs : List V) (Q : VK) (E : XK), bg k (A.deeper (envOfC qual scope s.heap.objs.size f ba)) -> sp vs H Q E ->
   ∃t,iH (fJ CX P w K mg base N qual scope f ba A outer s H E) body t/\t {nx:=fun _ H'=>Q .aF H',rt:=Q} (start N vs) H):
  aJ P w K mg base CX (k+1) f (PySem.W.fnOf name qual params body scope dV kV doc pm an ba ct) ps sp:=by
 refine⟨len,fun A outer s H args us vs Q E hr e0 hb r Ij=>?_⟩;have hl:=len _ _ _ _ Ij;have KX:K.In s.heap:=e0.mod.Oo.keeps fun b o e=>(e0.bs b o e).1;have lim:s.heap.NoLimit:=e0.mod.nolimit.keeps fun b o e=>(e0.bs b o e).1;have OS: ∀y∈ps.zip us,scope.names.lookup y.1=some .local\/(scope.names.lookup y.1=some .cell/\((cellsFrom (s.heap.objs.size+1) scope.names []).lookup y.1).isSome=true):=fun Rk hy=>(by obtain⟨n,v⟩:=Rk;exact(by
  rcases S.par n (List.of_mem_zip hy).1 with q | q
  . exact .inl q
  . exact .inr ⟨q,PySem.W.cellsFrom_some _ _ _ (.inl q)⟩))
 refine codeAny_call_function hr.depth (KX _ _ lk) rfl S.co S.gen rfl (PySem.W.codeRec_of KX jo) (hb _ _ _ _ ?_);refine wpAny_newFunctionEnv_cells S.kind OS fun env he s1 x=>?_;subst he;refine⟨lim.keeps x.toInCall.keep,codeAny_func ?_⟩;obtain⟨t,ht,hq⟩:=dw A outer s H vs Q E (hr.deeper _) Ij;have I:Inv (fJ CX P w K mg base N qual scope f ba A outer s H E) [] (start N vs) H s1:=zE S hr.hd e0 hl r x;refine ad1 (ht [] s1 (start N vs) H _ I hq) (fun fl s' hs=>?_) fun e s' hs=>hs;have fin: ∀{σ':St} {H':Hp} {v:V} {u:Value},Inv (fJ CX P w K mg base N qual scope f ba A outer s H E) [] σ' H' s'->RelV v u->Q v H'->CE outer P w H s Q u s':=
  fun{σ' H' v u} J rv q=>⟨v,H',J.os,J.bare,J.base,J.aI,rv,q⟩
 cases fl with
 | ret u=>
  obtain⟨v,σ',H',J,rv,q⟩:=hs;exact fin J rv q
 | next=>
  obtain⟨σ',H',J,q⟩:=hs;exact fin (v:=V.aF) (u:=Value.none) J rfl q
 | brk=>
  obtain⟨_,_,_,q⟩:=hs;exact False.elim q
 | cont=>
  obtain⟨_,_,_,q⟩:=hs;exact False.elim q
section
variable{X:Cx}{x:Str}{p pos:Pos}{e:Expr}{es:List Expr}{t:TA}{id T:String}{r:List V->Hp->VK->Prop}
def R0(r:List V->Hp->VK->Prop)(t:TA):TE:=fun σ H Q=>t σ H fun vs H1=>r vs H1 Q
theorem fC(hc:eQ X (.builtin id) r)(hg:Gl X x)(hm:X.mg x=none)(hv:bootBuiltins x=some (.builtin id))(ha:PA X (e::es) t)(hn:x≠"__name__":=by decide)(gs:(x==("__debug__":Str))=false:=by decide)
  (he:starEach (e::es) X.env=(false,eval e X.env)::starEach es X.env:=by rfl) (da:(backTo pos (starEach es X.env)).any (·.1)=false:=by rfl):PE X (.Call (.Name x p) (e::es) [] pos) (R0 r t):=by
 intro pins s σ H Q I h;refine aj3 (cA I hg hm hv ?_ hn gs);exact PyProof.Rows.callWith_builtin1 (aN (ha pos pins s σ H _ I h) fun us s1 Rj=>(by obtain⟨vs,H1,I1,r1,q1⟩:=Rj;exact(hc pins s1 σ H1 vs us Q I1 r1 q1))) he da
theorem fB(hc:eQ X (.type T) r)(hg:Gl X x)(hm:X.mg x=none)(hv:bootBuiltins x=some (.type T))(ha:PA X (e::es) t)(hn:x≠"__name__":=by decide)(gs:(x==("__debug__":Str))=false:=by decide)
  (he:starEach (e::es) X.env=(false,eval e X.env)::starEach es X.env:=by rfl) (da:(backTo pos (starEach es X.env)).any (·.1)=false:=by rfl):PE X (.Call (.Name x p) (e::es) [] pos) (R0 r t):=by
 intro pins s σ H Q I h;refine aj3 (cA I hg hm hv ?_ hn gs);exact ag3 (aN (ha pos pins s σ H _ I h) fun us s1 Ri=>(by obtain⟨vs,H1,I1,r1,q1⟩:=Ri;exact(hc pins s1 σ H1 vs us Q I1 r1 q1))) he da
end
end L2
namespace HT
open PySem PyProof.Rows
section
variable{prog:Program}{w:World}{A:Around}{E:Value->Shared->Prop}{s:Shared}
theorem Ha{vs ws:List Value}(ht:IsTup s.heap t vs.toArray)(hb:IsTup s.heap b ws.toArray)(hv:vs≠ [])(h1:ws= []->Q (.ref t) s)(h2:ws≠ []->Q (.ref s.heap.objs.size) {s with heap:=s.heap.push {cls:= .type "tuple",data:= .seq (vs++ws).toArray}})(hsz:vs.length+ws.length<=sizeLine):wpAny (model prog w) A (binaryOp .Add (.ref t) (.ref b)) Q E s:=by
 obtain⟨⟨cls,dd,data,sl⟩,ho,hc,n,hd⟩:=id ht;obtain⟨⟨ZK,VR,data2,Qv⟩,ki,QL,n2,hd2⟩:=id hb;simp only at hc hd QL hd2;subst hc hd QL hd2;have e:vs.toArray++ws.toArray=(vs++ws).toArray:=by simp
 by_cases hw:ws= []
 . exact concat_meets ⟨_, ho, rfl⟩ ⟨_, ki, rfl⟩ noFill_tuple_add seq_tuple_add PySem.F.slot_tuple_add aq2 (ap8 _ _)
     (tuple_addW1 t b vs.toArray ws.toArray n n2 dd VR sl Qv (by simpa using hv) (by simp [hw])) ⟨ho,ki,h1 hw⟩
 . refine concat_meets ⟨_, ho, rfl⟩ ⟨_, ki, rfl⟩ noFill_tuple_add seq_tuple_add PySem.F.slot_tuple_add aq2 (ap8 _ _)
     (tuple_addW2 t b vs.toArray ws.toArray n n2 dd VR sl Qv (by simpa using hv) (by simpa using hw) (by rw[ab0,ab0];exact hsz)) ⟨ho,ki,?_⟩
   rw[e];exact h2 hw
noncomputable def cE(n d:Nat):Option Int->Nat
 | none=>d
 | some v=>if v < 0 then(v+(n:Int)).toNat else min v.toNat n
theorem gM(n d:Nat):cE n d none=d:=rfl
theorem l6(n d k:Nat):cE n d (some (k:Int))=min k n:=by
 show(if (k:Int) < 0 then((k:Int)+(n:Int)).toNat else min (k:Int).toNat n)=min k n;rw[if_neg (by lia),ah5]
theorem Bp(n d:Nat)(hd:d<=n)(o:Option Int):cE n d o<=n:=by
 cases o with
 | none=>exact hd
 | some v=>
  show(if v < 0 then(v+(n:Int)).toNat else min v.toNat n)<=n;by_cases hv:v < 0
  . rw[if_pos hv];lia
  . rw[if_neg hv];exact Nat.min_le_right _ _
theorem x3(v:Int)(n d:Nat):(if v < 0 then max (v+(n:Int)) 0 else min v (n:Int))=((cE n d (some v):Nat):Int):=by
 show(if v < 0 then max (v+(n:Int)) 0 else min v (n:Int))=(((if v < 0 then(v+(n:Int)).toNat else min v.toNat n):Nat):Int)
 by_cases hv:v < 0
 . simp only [if_pos hv];lia
 . simp only [if_neg hv];lia
theorem wg(lo hi:Option Int)(n:Nat):Builtin.Slice.sliceAdjust lo hi 1 (n:Int)=(((cE n 0 lo:Nat):Int),((cE n n hi:Nat):Int)):=by
 have h1: ¬((1:Int) < 0):=by lia
 unfold Builtin.Slice.sliceAdjust;simp only [h1,if_false];refine Prod.ext ?_ ?_
 . cases lo with
   | none=>rfl
   | some v=>exact x3 v n 0
 . cases hi with
   | none=>rfl
   | some v=>exact x3 v n n
theorem u6(i j:Nat):Builtin.Slice.slicePlaces (i:Int) (j:Int) 1=j - i:=by
 unfold Builtin.Slice.slicePlaces;have h1:(1:Int) > 0:=by lia
 simp only [h1,if_true,Int.ediv_one];split <;> lia
theorem mW(p:IsPart v o)(h:Q o s):wpAny (model prog w) A (Builtin.Slice.slicePartIndex v) Q E s:=by
 cases p with
 | none=>exact slicePart_none h
 | int i t=>exact slicePart_int h
theorem fq{sl:Addr}{vl vu:Value}{lo hi:Option Int}{n:Nat}{Q:Int × Int × Nat->Shared->Prop}(hs:s.heap.IsSliceOf sl vl vu .none)(pl:IsPart vl lo)(pu:IsPart vu hi)
  (h:Q (((cE n 0 lo:Nat):Int),1,cE n n hi - cE n 0 lo) s):wpAny (model prog w) A (Builtin.Slice.sliceApplied (.ref sl) (pure (n:Int))) Q E s:=by
 obtain⟨os,KQ,QK,K3⟩:=id hs;unfold Builtin.Slice.sliceApplied Builtin.Slice.sliceFields;refine aa0 (aa0 (ag4 KQ K3 (x:=vl) rfl (aa0 (ag4 KQ K3 (x:=vu) rfl (aa0 (ag4 KQ K3 (x:= .none) rfl (aa7 ?_)))))));refine aa0 (slicePart_none ?_);show wpAny _ _ (if ((1:Int)==0)=true then _ else _) _ _ s;rw[if_neg (by decide)];refine aa0 (mW pl (aa0 (mW pu (aa0 (aa7 ?_)))));show wpAny _ _ (match Builtin.Slice.sliceAdjust lo hi 1 (n:Int) with | (lo,hi)=>pure (lo,(1:Int),Builtin.Slice.slicePlaces lo hi 1)) _ _ s;rw[wg lo hi n];show wpAny _ _ (pure (((cE n 0 lo:Nat):Int),(1:Int),Builtin.Slice.slicePlaces ((cE n 0 lo:Nat):Int) ((cE n n hi:Nat):Int) 1)) _ _ s;rw[u6];exact aa7 h
theorem BG(xs:Array Value)(i k:Nat):((List.range k).filterMap fun(m:Nat)=>xs[((i:Int)+(m:Int)*1).toNat]?).toArray=((xs.toList.drop i).take k).toArray:=by
 have e:(fun(m:Nat)=>xs[((i:Int)+(m:Int)*1).toNat]?)=fun m=>xs[i+m]?:=by
  funext m
  have:((i:Int)+(m:Int)*1).toNat=i+m:=by lia
  rw[this]
 rw[e];have:=pick_run xs i k;rw[List.filterMap_map] at this;have e2:((fun x=>xs[x]?) ∘ fun x=>i+x)=fun m=>xs[i+m]?:=rfl;rw[e2] at this;rw[this]
theorem jN{t sl:Addr}{items:Array Value}{vl vu:Value}{lo hi:Option Int}(ht:IsTup s.heap t items)(hs:s.heap.IsSliceOf sl vl vu .none)(pl:IsPart vl lo)(pu:IsPart vu hi)(hw: ¬(cE items.size 0 lo=0/\cE items.size items.size hi=items.size))(h:Q (.ref s.heap.objs.size) {s with heap:=s.heap.push {cls:= .type "tuple",data:= .seq ((items.toList.drop (cE items.size 0 lo)).take (cE items.size items.size hi - cE items.size 0 lo)).toArray}})(hsz:items.size<=sizeLine):wpAny (model prog w) A (getItem (.ref t) (.ref sl)) Q E s:=by
 have xJ:sizeOk (.seq ((items.toList.drop (cE items.size 0 lo)).take (cE items.size items.size hi - cE items.size 0 lo)).toArray):=by
  show((items.toList.drop (cE items.size 0 lo)).take (cE items.size items.size hi - cE items.size 0 lo)).toArray.size<=sizeLine;rw[ab0,aj1,ak1,ai8];lia
 have hj:cE items.size items.size hi<=items.size:=Bp _ _ (ab2 _) hi;obtain⟨os,KQ,QK,K3⟩:=id hs;have Ts:s.TypeIs (.ref sl) "slice":=⟨os,KQ,QK⟩
 unfold getItem;try with_reducible refine ag9 ?_
 first | refine aa0 (aa7 ?_) | skip
 refine aa0 (wpAny_sequenceKey ht.typeIs (by decide) ?_);refine aa0 (aj6 (name:=Str.ofString "__getitem__") ht.typeIs ak3
  (am6 ak3 ht.typeIs entry_tuple_getitem ?_ (args_tuple_getitem _ _)))
 show wpAny _ _ (Builtin.Tuple.tupleItemsOf (.ref t) >>=_) _ _ s;refine aa0 (tupleItemsOf_ ht ?_);refine aa0 (wpAny_typeOf Ts ?_);rw[if_pos (by decide)];refine aa0 (fq hs pl pu ?_);have Gj: ¬((((cE items.size 0 lo:Nat):Int)==0 && (1:Int)==1 && (cE items.size items.size hi - cE items.size 0 lo)==items.size)=true):=by
  intro q;rw[af8,af8] at q;have q1:((cE items.size 0 lo:Nat):Int)=0:=eq_of_beq q.1.1;have q2:cE items.size items.size hi - cE items.size 0 lo=items.size:=eq_of_beq q.2;exact hw ⟨by lia,by lia⟩
 show wpAny _ _ (if (((cE items.size 0 lo:Nat):Int)==0 && (1:Int)==1 && (cE items.size items.size hi - cE items.size 0 lo)==items.size)=true then _ else _) _ _ s;rw[if_neg Gj,BG];first
  | exact aa0 (m:=Builtin.Tuple.tupleExact _) (ag6 (aa7 ⟨_,rfl,aa7 h⟩) xJ)
  | exact aa0 (m:=Builtin.Tuple.tupleExact _) (ag6 (aa0 (aa7 (aa7 ⟨_,rfl,aa7 h⟩))) xJ)
  | exact aa0 (aa0 (m:=Builtin.Tuple.tupleExact _) (ag6 (aa7 (aa7 ⟨_,rfl,aa7 h⟩)) xJ))
  | exact aa0 (aa0 (m:=Builtin.Tuple.tupleExact _) (ag6 (aa7 ⟨_,rfl,aa7 h⟩) xJ))
end
end HT
namespace L2
open PySem PySem.Spec PyProof.Rows
abbrev TO:=St->Hp->(Option Int->Hp->Prop)->Prop
def PO(X:Cx)(e:Option Expr)(t:TO):Prop:=
 ∀(pins:List (Addr × Obj)) (s:Shared) (σ:St) (H:Hp) (Q:Option Int->Hp->Prop),Inv X pins σ H s->t σ H Q->
  wpAny (model X.prog X.w) X.A (evalPart e X.env) (fun u s'=> ∃o H',Inv X pins σ H' s'/\IsPart u o/\Q o H') X.xe s
def EU:TO:=fun _ H Q=>Q none H
def Nf(t:TE):TO:=fun σ H Q=>t σ H fun x H1=> ∃i,x= .int i/\Q (some i) H1
theorem intsAre_of{ns:List Int}: ∀{us:List Value},Vals (ns.map V.int) us->IntsAre us ns:=by
 induction ns with
 | nil=>intro us r;rw[List.map_nil] at r;cases r;exact .nil
 | cons n ns ih=>
  intro us r;rw[ac9] at r;cases r with
  | cons r1 r2=>
   obtain⟨t,e⟩:=r1;subst e;exact .cons n t (ih r2)
section
variable{X:Cx}{e:Expr}{te:TE}{lo hi:Option Expr}{tl th:TO}{pos p2:Pos}
theorem xf:PO X none EU:=by
 intro pins s σ H Q I h;rw[evalPart_none];exact aa7 ⟨none,H,I,.none,h⟩
theorem xc(h:PE X e te):PO X (some e) (Nf te):=by
 intro pins s σ H Q I hw;rw[evalPart_some];refine aN (h pins s σ H _ I hw) fun u s1 Rh=>?_;obtain⟨x,H1,I1,r1,q1⟩:=Rh;obtain⟨i,rfl,q⟩:=q1;obtain⟨t,rfl⟩:=r1;exact⟨some i,H1,I1,.int i t,q⟩
def pZ(X:Cx)(r:V->Option Int->Option Int->Hp->VK->Prop):Prop:=
 ∀(pins:List (Addr × Obj)) (s:Shared) (σ:St) (H:Hp) (x:V) (v vl vu:Value) (lo hi:Option Int) (sl:Addr) (Q:VK),Inv X pins σ H s->RelV x v->s.heap.IsSliceOf sl vl vu .none->IsPart vl lo->IsPart vu hi->r x lo hi H Q->
  ∃T id,typeLookup (.type T) "__getitem__"=pure (some (.builtin id))/\s.TypeIs v T/\wpAny (model X.prog X.w) X.A (getItem v (.ref sl)) (EP X pins σ Q) X.xe s
def W9(r:V->Option Int->Option Int->Hp->VK->Prop)(te:TE)(tl th:TO):TE:=fun σ H Q=>te σ H fun x H1=>tl σ H1 fun l H2=>th σ H2 fun u H3=>r x l u H3 Q
theorem m9(hr:pZ X r)(he:PE X e te)(hl:PO X lo tl)(hu:PO X hi th):PE X (.Subscript e (.Slice lo hi none p2) pos) (W9 r te tl th):=by
 intro pins s σ H Q I h;refine Subscript_ (aN (he pins s σ H _ I h) fun v s1 Rg=>?_);obtain⟨x,H1,I1,r1,q1⟩:=Rg;refine wpAny_Slice (aN (hl pins s1 σ H1 _ I1 q1) fun vl s2 ⟨l,H2,I2,pl,q2⟩=>aN (hu pins s2 σ H2 _ I2 q2) fun vu s3 Rf=>?_);obtain⟨u,H3,I3,pu,q3⟩:=Rf;rw[evalPart_none];refine aa7 ?_;have I4:Inv X pins σ H3 {s3 with heap:=s3.heap.push {cls:= .type "slice",data:= .fields #[vl,vu,.none]}}:=I3.kept (t':=s3.toks) fun b ob q=>aa3 _ q;obtain⟨T,id,hT,ht,hg⟩:=hr pins {s3 with heap:=s3.heap.push {cls:= .type "slice",data:= .fields #[vl,vu,.none]}} σ H3 x v vl vu l u s3.heap.objs.size Q I4 r1 (Heap.IsSliceOf.new ..) pl pu q3;show wpAny (model X.prog X.w) X.A (subscriptTail e (.Slice lo hi none p2) v (.ref s3.heap.objs.size)) (EP X pins σ Q) X.xe {s3 with heap:=s3.heap.push {cls:= .type "slice",data:= .fields #[vl,vu,.none]}};exact tail_any (ops:= [.ref s3.heap.objs.size,v]) ht hT hg (by with_unfolding_all rfl)
noncomputable def lR(xs:List V)(lo hi:Option Int):List V:=(xs.drop (HT.cE xs.length 0 lo)).take (HT.cE xs.length xs.length hi - HT.cE xs.length 0 lo)
theorem lu(xs:List V)(lo hi:Option Int):(lR xs lo hi).length<=xs.length:=by
 unfold lR;rw[aj1,ak1];lia
theorem Vals.qJ(r:Vals xs us):us= []↔xs= []:=by
 cases r with
 | nil=>simp
 | cons _ _=>simp
end
noncomputable def xD(n:Nat)(i:Int):Option Nat:=if 0<=i then(if i < n then some i.toNat else none) else if -(n:Int)<=i then some (i+n).toNat else none
noncomputable def jd{α:Type}(xs:List α)(i:Int):Option α:=(xD xs.length i).bind fun j=>xs[j]?
theorem xC(h:xD n i=some j):seqIndex? i n=some j/\j < n/\ -(n:Int)<=i/\i < n:=by
 unfold xD at h;by_cases h0:0<=i
 . rw[if_pos h0] at h;by_cases h1:i < n
   . rw[if_pos h1] at h;have e:i.toNat=j:=Option.some.inj h;exact⟨by rw[seqIndex_of h0 h1,e],by lia,by lia,h1⟩
   . rw[if_neg h1] at h;cases h
 . rw[if_neg h0] at h;by_cases h1: -(n:Int)<=i
   . rw[if_pos h1] at h;have e:(i+n).toNat=j:=Option.some.inj h;exact⟨by rw[seqIndex_neg (by lia) h1,e],by lia,h1,by lia⟩
   . rw[if_neg h1] at h;cases h
theorem rE(h:jd xs i=some v): ∃j,seqIndex? i xs.length=some j/\xs[j]?=some v/\j < xs.length/\ -(xs.length:Int)<=i/\i < xs.length:=by
 unfold jd at h;cases e:xD xs.length i with
 | none=>rw[e] at h;cases h
 | some j=>
  rw[e] at h;obtain⟨h1,h2,h3,h4⟩:=xC e;exact⟨j,h1,h,h2,h3,h4⟩
theorem bc{j:Nat}(h:xs[j]?=some v):jd xs (j:Int)=some v:=by
 have hj:j < xs.length:=(aa5.mp h).1;have e:xD xs.length (j:Int)=some j:=by
  unfold xD;rw[if_pos (by lia),if_pos (by lia)];simp
 unfold jd;rw[e];exact h
theorem nS(xs:List α)(v:α):jd (xs++ [v]) (-1)=some v:=by
 have hl:(xs++ [v]).length=xs.length+1:=by simp
 have e:xD (xs++ [v]).length (-1)=some xs.length:=by
  unfold xD;rw[hl,if_neg (by decide),if_pos (by lia)];congr 1
  lia
 unfold jd;rw[e];show(xs++ [v])[xs.length]?=some v;simp
def rG(b:Expr):Prop:= ∀o i,subscripted b false o i=operate [o,i] (getItem o i)
def Ho(X:Cx)(r:R2):Prop:=
 ∀(value slice:Expr) (pins:List (Addr × Obj)) (s:Shared) (σ:St) (H:Hp) (x y:V) (v u:Value) (Q:VK),Inv X pins σ H s->RelV x v->RelV y u->r x y H Q->
  subscripted slice false v u=operate [v,u] (getItem v u)->wpAny (model X.prog X.w) X.A (subscriptTail value slice v u) (EP X pins σ Q) X.xe s
def UD(X:Cx)(id:String)(r:V->List V->Hp->VK->Prop):Prop:=
 ∀(pins:List (Addr × Obj)) (s:Shared) (σ:St) (H:Hp) (x:V) (xs:List V) (v:Value) (us:List Value) (Q:VK),Inv X pins σ H s->RelV x v->Vals xs us->r x xs H Q->
  wpAny (model X.prog X.w) X.A (call (.builtin id) (v::us)) (EP X pins σ Q) X.xe s
section
variable{X:Cx}{a b:Expr}{ta tb:TE}{pos:Pos}
theorem Ho.or(h:Ho X r)(h':Ho X r'):Ho X (fun x y H Q=>r x y H Q\/r' x y H Q):=by
 intro value slice pins s σ H x y v u Q I rx ry q hs;rcases q with q | q
 . exact h value slice pins s σ H x y v u Q I rx ry q hs
 . exact h' value slice pins s σ H x y v u Q I rx ry q hs
theorem BM(hr:Ho X r)(ha:PE X a ta)(hb:PE X b tb)(hs:rG b):PE X (.Subscript a b pos) (JD r ta tb):=by
 intro pins s σ H Q I h;exact Subscript_ (LU ha hb I h fun v u s2 x y H2 I2 rx ry q=>hr a b pins s2 σ H2 x y v u Q I2 rx ry q (hs _ _))
def NL(K:PySem.W.Frag):R2:=fun x y H Q=> ∃p xs i v,x= .ref p/\y= .int i/\bS K H p xs/\jd xs i=some v/\Q v H
def NJ(K:PySem.W.Frag):R2:=fun x y H Q=> ∃p xs i v,x= .ref p/\y= .int i/\dB K H p xs/\jd xs i=some v/\Q v H
def NK:R2:=fun x y H Q=> ∃z i c,x= .str z/\y= .int i/\z.length<=sizeLine/\jd z.cps.toList i=some c/\Q (.str ⟨#[c]⟩) H
theorem qO:Ho X (NL X.K):=by
 intro value slice pins s σ H x y v u Q I rx ry h hs;obtain⟨p,xs,i,z,rfl,rfl,hq,he,q⟩:=h;cases rx;obtain⟨t,rfl⟩:=ry;obtain⟨ao,r,pl,hz⟩:=I.list hq;obtain⟨j,h1,h2,h3,h4,h5⟩:=rE he;obtain⟨w,ew,rM⟩:=r.get h2;have hl:=r.length;have hn:=kG;have fin:EP X pins σ Q w s:=⟨z,H,I,rM,q⟩
 by_cases h0:0<=i
 . have hj : i.toNat = j := by
     rw[seqIndex_of h0 h5] at h1;exact Option.some.inj h1
   exact item_listR pl.isList h0 (by lia) (by rw[hj];simpa using ew) fin hs
 . have hj : (i + (ao.toArray.size : Int)).toNat = j := by
     rw[seqIndex_neg (by lia) h4] at h1;rw[ab0,<-hl];exact Option.some.inj h1
   exact subscriptTail_builtinR (x:=w) pl.isList.typeIs slot_list_getitem.lookup
    (wpAny_getItem_list_neg (Q:=fun r s'=>r=w/\EP X pins σ Q r s') pl.isList (by lia) (by rw[ab0] <;> lia) (by lia) (by rw[hj];simpa using ew) ⟨rfl,fin⟩) hs
theorem KG:Ho X (NJ X.K):=by
 intro value slice pins s σ H x y v u Q I rx ry h hs;obtain⟨p,xs,i,z,rfl,rfl,hq,he,q⟩:=h;cases rx;obtain⟨t,rfl⟩:=ry;obtain⟨ao,r,pl,hz⟩:=I.tuple hq;obtain⟨j,h1,h2,h3,h4,h5⟩:=rE he;obtain⟨w,ew,rM⟩:=r.get h2;have hl:=r.length;have hn:=kG;have fin:EP X pins σ Q w s:=⟨z,H,I,rM,q⟩
 exact subscriptTail_builtinR (x:=w) pl.typeIs slot_tuple_getitem.lookup
  (getItem_tuple (j:=j) (Q:=fun r s'=>r=w/\EP X pins σ Q r s') pl (by lia) (by lia) (by rw[ab0,<-hl];exact h1) (by simpa using ew) ⟨rfl,fin⟩) hs
theorem KH:Ho X NK:=by
 intro value slice pins s σ H x y v u Q I rx ry h hs;obtain⟨z,i,c,rfl,rfl,hz,he,q⟩:=h;obtain⟨t,rfl⟩:=rx;obtain⟨t',rfl⟩:=ry;obtain⟨j,h1,h2,h3,h4,h5⟩:=rE he;have hl:z.cps.toList.length=z.length:=by simp [Str.length]
 rw[hl] at h1 h4 h5;have hn:=kG;exact tail_any (typeIs_str s z t) slot_str_getitem.lookup (getItem_str (c:=c) (by
  have e1:decide (i < -(2^63:Int))=false:=ae5 (by lia);have e2:decide (i>=2^63)=false:=ae5 (by lia);rw[e1,e2,Bool.or_false]) (by rw[h1];simpa using h2) ⟨.str ⟨#[c]⟩,H,I.tok _,⟨_,rfl⟩,q⟩) hs
def US(K:PySem.W.Frag):R2:=fun x y H Q=>NL K x y H Q\/NJ K x y H Q\/NK x y H Q
theorem KI:Ho X (US X.K):=qO.or (KG.or KH)
theorem vp(ao:List Value)(n j:Nat)(u:Value):Obj.mapSeq (·.setIfInBounds j u) {cls:= .type "list",data:= .seq ao.toArray n}={cls:= .type "list",data:= .seq (ao.set j u).toArray n}:=by
 simp [Obj.mapSeq]
theorem Inv.lst{pins:List (Addr × Obj)}{σ:St}{H:Hp}{s:Shared}{p:Addr}{xs:List V}(I:Inv X pins σ H s)(h:H p=some (.lst xs)):
  ∃(ao:List Value) (n:Nat),Vals xs ao/\s.heap.get? p=some {cls:= .type "list",data:= .seq ao.toArray n}/\xs.length<=sizeLine:=by
 obtain⟨z,ao,n,r,e⟩:=I.aI p _ h;exact⟨ao,n,r,e,z⟩
theorem Inv.Ku{ao its':List Value}(I:Inv X pins σ H s)(h:H p=some (.lst xs))(ho:s.heap.get? p=some {cls:= .type "list",data:= .seq ao.toArray n})(hf:f {cls:= .type "list",data:= .seq ao.toArray n}={cls:= .type "list",data:= .seq its'.toArray n'})(r:Vals ys its')(hz:ys.length<=sizeLine)(t:Nat):
  Inv X pins σ (upd H p (.lst ys)) {s with heap:=s.heap.update p f,toks:=t}:=by
 have e:(s.heap.update p f).get? p=some {cls:= .type "list",data:= .seq its'.toArray n'}:=by
  rw[ai1 f ho (by rw[hf] <;> rfl),hf]
 refine I.write (x:=p) (e:=p) (by rw[h];trivial) (.inl rfl) (fun b u hb q=>(af5 _ _ (Ne.symm hb)).trans q) ⟨_,e⟩ ?_;exact⟨hz,its',n',r,e⟩
def NH:V->V->V->Hp->(Hp->Prop)->Prop:=fun o i v H Q=> ∃p xs k j,o= .ref p/\i= .int k/\H p=some (.lst xs)/\xD xs.length k=some j/\Q (upd H p (.lst (xs.set j v)))
theorem set_list:P7 X NH:=by
 intro pins s σ H o i v ov iv u Q I ro ri rv h;obtain⟨p,xs,k,j,rfl,rfl,hp,hj,q⟩:=h;cases ro;obtain⟨t,rfl⟩:=ri;obtain⟨ao,n,r,ho,hz⟩:=I.lst hp;obtain⟨h1,h2,h3,h4⟩:=xC hj;have hl:=r.length;have hn:=kG;have I':Inv X pins σ (upd H p (.lst (xs.set j v))) {s with heap:=s.heap.update p (Obj.mapSeq (·.setIfInBounds j u))}:=
  I.Ku hp ho (vp ao n j u) (r.set rv j) (by rw[ad0];exact hz) s.toks
 by_cases h0:0<=k
 . have hk : k.toNat = j := by
     rw[seqIndex_of h0 h4] at h1;exact Option.some.inj h1
   exact PySem.W.ki_setAt ho h0 (by lia) (by rw[ab0,<-hl];exact h4) (by rw[hk];exact⟨_,I',q⟩)
 . have hk : (k + (ao.toArray.size : Int)).toNat = j := by
     rw[seqIndex_neg (by lia) h3] at h1;rw[ab0,<-hl];exact Option.some.inj h1
   exact PySem.W.ki_setBack ho (by lia) (by rw[ab0,<-hl];exact h3) (by lia) (by rw[hk];exact⟨_,I',q⟩)
theorem qf(lo hi:Option Int)(n:Nat):(sliceBounds lo hi none n).1=((HT.cE n 0 lo:Nat):Int)/\(sliceBounds lo hi none n).2.1=((HT.cE n n hi:Nat):Int)/\(sliceBounds lo hi none n).2.2=1:=by
 refine⟨?_,?_,rfl⟩
 . cases lo with
   | none=>simp [sliceBounds,HT.cE]
   | some i=>
    simp only [sliceBounds,HT.cE,Option.getD_none,show(1:Int) > 0 by decide,if_true];by_cases h:i < 0
    . simp only [h,if_true] <;> lia
    . simp only [h,if_false] <;> lia
 . cases hi with
   | none=>simp [sliceBounds,HT.cE]
   | some i=>
    simp only [sliceBounds,HT.cE,Option.getD_none,show(1:Int) > 0 by decide,if_true];by_cases h:i < 0
    . simp only [h,if_true] <;> lia
    . simp only [h,if_false] <;> lia
theorem oj(ao:List Value)(lo hi:Option Int):slicePick ao.toArray lo hi none=((ao.drop (HT.cE ao.length 0 lo)).take (HT.cE ao.length ao.length hi - HT.cE ao.length 0 lo)).toArray:=by
 obtain⟨h1,h2,h3⟩:=qf lo hi ao.toArray.size;unfold slicePick;rw[h1,h2,h3];simp only [sliceRange_one,pick_run,ab0] <;> rfl
def Sb(K:PySem.W.Frag):V->Option Int->Option Int->Hp->VK->Prop:=fun x lo hi H Q=> ∃a xs,x= .ref a/\bS K H a xs/\ ∀p,H p=none->Q (.ref p) (upd H p (.lst (lR xs lo hi)))
theorem wU:pZ X (Sb X.K):=by
 intro pins s σ H x v vl vu lo hi sl Q I rx hs pl pu h;obtain⟨a,xs,rfl,hx,q⟩:=h;cases rx;obtain⟨ao,r,ht,hz⟩:=I.list hx;have hlen:=r.length;refine⟨"list",_,slot_list_getitem.lookup,ht.isList.typeIs,?_⟩;refine wpAny_getItem_list_slice ht.isList hs pl pu .none (by simp) ?_ (by rw[ab0] <;> lia);rw[oj,<-hlen];refine⟨.ref s.heap.objs.size,_,I.laid (t':=s.toks) (o:= .lst (lR xs lo hi)) (fun b ob q=>aa3 _ q) (ab2 _) ?_,rfl,q _ (I.aI.fresh (ab2 _))⟩;exact⟨ac6 (lu xs lo hi) hz,_,0,(r.drop (HT.cE xs.length 0 lo)).take (HT.cE xs.length xs.length hi - HT.cE xs.length 0 lo),ab6 _ rfl⟩
noncomputable def cT:V->Bool
 | .aF=>true
 | .bl _=>true
 | .int _=>true
 | .str _=>true
 | _=>false
noncomputable def rN:V->V->Bool
 | .aF,.aF=>true
 | .bl a,.bl b=>a==b
 | .bl a,.int b=>(if a then 1 else 0)==b
 | .int a,.bl b=>a==(if b then 1 else 0)
 | .int a,.int b=>a==b
 | .str a,.str b=>a==b
 | _,_=>false
theorem vQ(ry:RelV y u)(rx:RelV x v)(fy:cT y=true)(fx:cT x=true):SeqAt.EqAt A s u v (rN y x):=by
 cases y with
 | aF=>
  cases ry;cases x with
  | aF=>cases rx;exact SeqAt.EqAt.same _
  | bl b=>cases rx;exact SeqAt.EqAt.none_bool b
  | int b=>obtain⟨t,rfl⟩:=rx;exact SeqAt.EqAt.none_int b t
  | str b=>obtain⟨t,rfl⟩:=rx;exact SeqAt.EqAt.none_str b t
  | _=>exact absurd (show false=true from fx) ac0
 | bl a=>
  cases ry;cases x with
  | aF=>cases rx;exact SeqAt.EqAt.bool_none a
  | bl b=>cases rx;exact SeqAt.EqAt.bool_bool a b
  | int b=>obtain⟨t,rfl⟩:=rx;exact SeqAt.EqAt.bool_int a b t
  | str b=>obtain⟨t,rfl⟩:=rx;exact SeqAt.EqAt.bool_str a b t
  | _=>exact absurd (show false=true from fx) ac0
 | int a=>
  obtain⟨t',rfl⟩:=ry;cases x with
  | aF=>cases rx;exact SeqAt.EqAt.int_none a t'
  | bl b=>cases rx;exact SeqAt.EqAt.int_bool a t' b
  | int b=>obtain⟨t,rfl⟩:=rx;exact SeqAt.EqAt.int_int a t' b t
  | str b=>obtain⟨t,rfl⟩:=rx;exact SeqAt.EqAt.int_str a t' b t
  | _=>exact absurd (show false=true from fx) ac0
 | str a=>
  obtain⟨t',rfl⟩:=ry;cases x with
  | aF=>cases rx;exact SeqAt.EqAt.str_none a t'
  | bl b=>cases rx;exact SeqAt.EqAt.str_bool a t' b
  | int b=>obtain⟨t,rfl⟩:=rx;exact SeqAt.EqAt.str_int a t' b t
  | str b=>obtain⟨t,rfl⟩:=rx;exact SeqAt.EqAt.str_str a t' b t
  | _=>exact absurd (show false=true from fx) ac0
 | _=>exact absurd (show false=true from fy) ac0
noncomputable def vP(x:V)(u:Value):Bool:=match u with
 | .none=>rN .aF x
 | .bool b=>rN (.bl b) x
 | .int i _=>rN (.int i) x
 | .str z _=>rN (.str z) x
 | _=>false
theorem C3(r:RelV y u)(f:cT y=true):vP x u=rN y x:=by
 cases y with
 | aF=>cases r;rfl
 | bl b=>cases r;rfl
 | int i=>obtain⟨t,rfl⟩:=r;rfl
 | str z=>obtain⟨t,rfl⟩:=r;rfl
 | _=>exact absurd (show false=true from f) ac0
theorem j9: ∀{xs:List V} {us:List Value},Vals xs us->xs.all cT=true->us.any (vP x)=xs.any fun y=>rN y x
 | _,_,.nil,_=>rfl
 | y::xs,u::us,.cons r t,f=>by
  rw[ar6,af8] at f;rw[al8,al8,C3 r f.1,j9 t f.2]
theorem gS(rx:RelV x v)(fx:cT x=true): ∀{xs:List V} {us:List Value},Vals xs us->xs.all cT=true-> ∀u∈us,SeqAt.EqAt A s u v (vP x u)
 | _,_,.nil,_=>fun u hu=>by cases hu
 | y::xs,u::us,.cons r t,f=>fun u' hu=>by
  rw[ar6,af8] at f;rcases ac3.mp hu with rfl | hu
  . rw[C3 r f.1];exact vQ r rx f.1 fx
  . exact gS rx fx t f.2 u' hu
noncomputable def oq(x:V)(xs:List V):Bool:=xs.any fun y=>rN y x
def Se(K:PySem.W.Frag)(neg:Bool):R2:=fun x y H Q=> ∃p xs,y= .ref p/\(bS K H p xs\/dB K H p xs)/\cT x=true/\xs.all cT=true/\Q (.bl (if neg then !oq x xs else oq x xs)) H
theorem za:iR X (compareOp .In) (Se X.K false):=by
 intro pins s σ H x y v u Q I rx ry h;obtain⟨p,xs,rfl,hq,fx,fs,q⟩:=h;cases ry;rcases hq with hq | hq
 . obtain⟨ao,r,pl,hz⟩:=I.list hq;refine SeqAt.in_listAt (vP x) pl.isList (fun w hw=>gS rx fx r fs w (by simpa using hw)) ⟨.bl _,H,I,rfl,?_⟩;rw[show ao.toArray.any (vP x)=ao.any (vP x) by simp,j9 r fs];exact q
 . obtain⟨ao,r,pl,hz⟩:=I.tuple hq;refine SeqAt.in_tupleAt (vP x) pl (fun w hw=>gS rx fx r fs w (by simpa using hw)) ⟨.bl _,H,I,rfl,?_⟩;rw[show ao.toArray.any (vP x)=ao.any (vP x) by simp,j9 r fs];exact q
theorem qD:iR X (compareOp .NotIn) (Se X.K true):=by
 intro pins s σ H x y v u Q I rx ry h;obtain⟨p,xs,rfl,hq,fx,fs,q⟩:=h;cases ry;rcases hq with hq | hq
 . obtain⟨ao,r,pl,hz⟩:=I.list hq;refine SeqAt.notIn_listAt (vP x) pl.isList (fun w hw=>gS rx fx r fs w (by simpa using hw)) ⟨.bl _,H,I,rfl,?_⟩;rw[show ao.toArray.any (vP x)=ao.any (vP x) by simp,j9 r fs];exact q
 . obtain⟨ao,r,pl,hz⟩:=I.tuple hq;refine SeqAt.notIn_tupleAt (vP x) pl (fun w hw=>gS rx fx r fs w (by simpa using hw)) ⟨.bl _,H,I,rfl,?_⟩;rw[show ao.toArray.any (vP x)=ao.any (vP x) by simp,j9 r fs];exact q
theorem j6:eQ X (.builtin "len") (fun xs H Q=> ∃p ys,xs= [.ref p]/\(bS X.K H p ys\/dB X.K H p ys)/\Q (.int ys.length) H):=by
 intro pins s σ H xs us Q I r h;obtain⟨p,ys,rfl,hq,q⟩:=h;obtain⟨u,rfl,rx⟩:=vals1 r;cases rx;have hn:=kG;rcases hq with hq | hq
 . obtain⟨ao,r',pl,hz⟩:=I.list hq;have hlen:=r'.length;exact Calls.call_len_list pl.isList (by simp only [ab0] <;> lia) ⟨.int ys.length,H,I.tok _,⟨s.toks+1,by rw[ab0,hlen]⟩,q⟩
 . obtain⟨ao,r',pl,hz⟩:=I.tuple hq;have hlen:=r'.length;exact len_tuple pl (by simp only [ab0] <;> lia) ⟨.int ys.length,H,I.tok _,⟨s.toks+1,by rw[ab0,hlen]⟩,q⟩
theorem j5:eQ X (.type "list") (fun xs H Q=> ∃p ys,xs= [.ref p]/\(bS X.K H p ys\/dB X.K H p ys)/\ ∀l,H l=none->Q (.ref l) (upd H l (.lst ys))):=by
 intro pins s σ H xs us Q I r h;obtain⟨p,ys,rfl,hq,q⟩:=h;obtain⟨u,rfl,rx⟩:=vals1 r;cases rx;have fin: ∀(ao:List Value),Vals ys ao->ys.length<=sizeLine-> ∀(h':Heap) (c':Nat),(∀b o',s.heap.get? b=some o'->h'.get? b=some o')->
   h'.get? s.heap.objs.size=some {cls:= .type "list",dict:=none,data:= .seq ao.toArray c',slots:= #[]}->EP X pins σ Q (.ref s.heap.objs.size) {s with heap:=h'}:=fun ao r' hz h' c' kp e=>
  ⟨.ref s.heap.objs.size,_,I.laid (t':=s.toks) kp (ab2 _) (show aV X.prog X.w _ h' _ (.lst ys) from⟨hz,ao,c',r',e⟩),rfl,q _ (I.aI.fresh (ab2 _))⟩
 rcases hq with hq | hq
 . obtain⟨ao,r',pl,hz⟩:=I.list hq;have hlen:=r'.length;obtain⟨o,ho,hc,n,hd⟩:=pl.isList;exact call_list_seq p (.inl rfl) ho hc hd (fun h' c' kp e=>fin ao r' hz h' c' kp e) (by simp only [ab0] <;> lia)
 . obtain⟨ao,r',pl,hz⟩:=I.tuple hq;have hlen:=r'.length;obtain⟨o,ho,hc,n,hd⟩:=pl;exact call_list_seq p (.inr rfl) ho hc hd (fun h' c' kp e=>fin ao r' hz h' c' kp e) (by simp only [ab0] <;> lia)
theorem iQ:eQ X (.type "tuple") (fun xs H Q=> ∃p ys,xs= [.ref p]/\((bS X.K H p ys/\ ∀l,H l=none->Q (.ref l) (upd H l (.tup ys)))\/(dB X.K H p ys/\Q (.ref p) H))):=by
 intro pins s σ H xs us Q I r h;obtain⟨p,ys,rfl,h⟩:=h;obtain⟨u,rfl,rx⟩:=vals1 r;cases rx;rcases h with ⟨hq,q⟩ | ⟨hq,q⟩
 . obtain⟨ao,r',pl,hz⟩:=I.list hq;have hlen:=r'.length;refine call_tuple_list pl.isList (fun h' kp=>?_) (by simp only [ab0] <;> lia);have I1:Inv X pins σ H {s with heap:=h'}:=I.kept (t':=s.toks) kp;have I2:Inv X pins σ (upd H h'.objs.size (.tup ys)) {s with heap:=h'.push {cls:= .type "tuple",data:= .seq ao.toArray}}:=
    I1.laid (t':=s.toks) (fun b o e=>aa3 _ e) (ab2 _) (show aV X.prog X.w _ _ _ (.tup ys) from⟨hz,ao,r',n4.new _ _⟩)
   exact⟨.ref h'.objs.size,_,I2,rfl,q _ (I1.aI.fresh (ab2 _))⟩
 . obtain⟨ao,r',pl,hz⟩:=I.tuple hq;exact call_tuple_same pl ⟨.ref p,H,I,rfl,q⟩
def RM(K:PySem.W.Frag)(T:String)(x:V)(H:Hp):Prop:=match x with
 | .str _=>T="str"
 | .int _=>T="int"
 | .ref p=>(T="list"/\ ∃xs,bS K H p xs)\/(T="tuple"/\ ∃o,K.lookup p=some o/\o.cls= .type "tuple"/\o.dict=none)\/
   (T="dict"/\((∃aC,H p=some (.dK aC))\/ ∃aC,H p=some (.dT aC)))\/(T="set"/\ ∃S n,H p=some (.set S n))\/(T="tuple"/\ ∃xs,H p=some (.tup xs))
 | _=>False
theorem AX(I:Inv X pins σ H s)(r:RelV x v)(ty:RM X.K T x H):
  s.TypeIs v T/\ ∀a,v= .ref a-> ∃ob,s.heap.get? a=some ob/\ob.dict=none:=by
 cases x with
 | str z=>
  obtain⟨t,rfl⟩:=r;cases (show T="str" from ty);exact⟨typeIs_str s z t,fun _ e=>nomatch e⟩
 | int i=>
  obtain⟨t,rfl⟩:=r;cases (show T="int" from ty);exact⟨typeIs_int s i t,fun _ e=>nomatch e⟩
 | ref p=>
  cases r;rcases ty with ⟨rfl,xs,hq⟩ | ⟨rfl,o,hk,hc,hd⟩ | ⟨rfl,hk⟩ | ⟨rfl,S,n,hk⟩ | ⟨rfl,xs,hk⟩
  . obtain⟨ao,_,pl,_⟩:=I.list hq;refine⟨pl.isList.typeIs,fun a e=>?_⟩;cases e;obtain⟨o,n,e,c,hd,_⟩:=pl;exact⟨o,e,hd⟩
  . refine⟨⟨o,I.kJ p o hk,hc⟩,fun a e=>?_⟩;cases e;exact⟨o,I.kJ _ o hk,hd⟩
  . have z : ∃ o, s.heap.get? p = some o /\ o.ExactDict := by
      rcases hk with ⟨aC,hk⟩ | ⟨aC,hk⟩
      . obtain⟨_,_,_,_,o,_,_,e,ex,_⟩:=I.aI p _ hk;exact⟨o,e,ex⟩
      . obtain⟨_,_,_,_,o,_,_,e,ex,_⟩:=I.aI p _ hk;exact⟨o,e,ex⟩
    obtain⟨o,e,ex⟩:=z;refine⟨⟨o,e,ex.1⟩,fun a e2=>?_⟩;cases e2;exact⟨o,e,ex.2.1⟩
  . obtain⟨o,_,_,_,e,ex,_⟩:=I.aI p _ hk;refine⟨⟨o,e,ex.1⟩,fun a e2=>?_⟩;cases e2;exact⟨o,e,ex.2.1⟩
  . obtain⟨_,_,_,o,e,c,dn,_⟩:=(show aV X.prog X.w H s.heap p (.tup xs) from I.aI p _ hk)
    refine⟨⟨o,e,c⟩,fun a e2=>?_⟩;cases e2;exact⟨o,e,dn⟩
 | _=>exact False.elim ty
def R1(K:PySem.W.Frag)(T:String)(r:V->List V->Hp->VK->Prop)(to:TE):TE:=fun σ H Q=>to σ H fun x H1=>RM K T x H1/\r x [] H1 Q
def UN(K:PySem.W.Frag)(T:String)(r:V->List V->Hp->VK->Prop)(to:TE)(t:TA):TE:=fun σ H Q=>to σ H fun x H1=>RM K T x H1/\t σ H1 fun xs H2=>r x xs H2 Q
variable{o e:Expr}{es:List Expr}{to:TE}{t:TA}{name:Str}{apos aY:Pos}{T id:String}{r:V->List V->Hp->VK->Prop}
theorem J8(pa:PlainAttrs T)(slot:Slot T name id)(SQ:typeOf (.builtin id)=pure (.type "method_descriptor"))(hm:UD X id r)(ho:PE X o to)
  (fE:attributeBase o name X.env (eval o X.env)=eval o X.env:=by rfl) (jJ:(apos.endLine==aY.line)=true:=by rfl):PE X (.Call (.Attribute o name apos) [] [] aY) (R1 X.K T r to):=by
 intro pins s σ H Q I h;refine wpAny_Call_method0_late fE jJ (aN (ho pins s σ H _ I h) fun v s1 Rb=>?_);obtain⟨x,H1,I1,r1,ty,q1⟩:=Rb;obtain⟨h1,h2⟩:=AX I1 r1 ty;exact⟨T,id,pa,slot,SQ,h1,h2,Calls.callWith_builtin rfl (PySem.evalArgs_none (hm pins s1 σ H1 x [] v [] Q I1 r1 .nil q1))⟩
theorem HN(pa:PlainAttrs T)(slot:Slot T name id)(SQ:typeOf (.builtin id)=pure (.type "method_descriptor"))(hm:UD X id r)(ho:PE X o to)(ha:PA X (e::es) t)
  (fE:attributeBase o name X.env (eval o X.env)=eval o X.env:=by rfl)
  (CF:((backTo aY (starEach (e::es) X.env)).all (fun x=>!x.1) && (backToKw aY (keywordEach [] X.env)).all (fun x=>x.1.isSome)
   && decide ((e::es).length+([]:List Keyword).length+(if ([]:List Keyword).isEmpty then 0 else 1) < 30))=true:=by rfl)
  (jJ:(apos.endLine==aY.line)=true:=by rfl) (hs:starEach (e::es) X.env=(false,eval e X.env)::starEach es X.env:=by rfl) (i6:(backTo aY (starEach es X.env)).any (·.1)=false:=by rfl):
  PE X (.Call (.Attribute o name apos) (e::es) [] aY) (UN X.K T r to t):=by
 intro pins s σ H Q I h;refine wpAny_Call_method_late fE CF jJ rfl (aN (ho pins s σ H _ I h) fun v s1 Ra=>?_);obtain⟨x,H1,I1,r1,ty,q1⟩:=Ra;obtain⟨h1,h2⟩:=AX I1 r1 ty;refine⟨T,id,pa,slot,SQ,h1,h2,?_⟩;have hA:=ha aY pins s1 σ H1 _ I1 q1;rw[hs] at hA ⊢;refine Calls.callWith_builtin (by show(false || (backTo aY (starEach es X.env)).any (·.1))=false;rw[i6] <;> rfl) (Calls.evalArgs_plain ?_);exact aN hA fun us s2 Q9=>(by obtain⟨vs,H2,I2,r2,q2⟩:=Q9;exact(hm pins s2 σ H2 x vs v us Q I2 r1 r2 q2))
end
def Wu(X:Cx)(id:String)(r:V->List V->Hp->VK->Prop):Prop:=
 ∀(pins:List (Addr × Obj)) (s:Shared) (σ:St) (H:Hp) (x:V) (xs:List V) (v:Value) (us:List Value) (Q:VK),Inv X pins σ H s->RelV x v->Vals xs us->r x xs H Q->
  wpAny (model X.prog X.w) X.A (call (.builtin id) (v::us)) (EP X pins σ Q) X.xe s
theorem Vals.one: ∀{x:V} {us:List Value},Vals [x] us-> ∃u,us= [u]/\RelV x u
 | _,_,.cons r .nil=>⟨_,rfl,r⟩
theorem Vals.zero: ∀{us:List Value},Vals [] us->us= []
 | _,.nil=>rfl
theorem Vals.reverse(h:Vals xs us):Vals xs.reverse us.reverse:=by
 induction h with
 | nil=>exact .nil
 | cons r t ih=>rw[aq6,aq6];exact Vals.append ih (.cons r .nil)
theorem Vals.rep(h:Vals xs us): ∀k:Nat,Vals (List.replicate k xs).flatten (List.replicate k us).flatten
 | 0=> .nil
 | k+1=>by
  rw[ag5,ag5,ae9,ae9];exact Vals.append h (Vals.rep h k)
theorem foldl_rep(ao:List Value): ∀(k:Nat) (acc:List Value),
  List.foldl (fun x1 x2=>x1++x2) acc.toArray (List.replicate k ao.toArray)=(acc++(List.replicate k ao).flatten).toArray
 | 0,acc=>by simp
 | k+1,acc=>by
  have e:acc.toArray++ao.toArray=(acc++ao).toArray:=by simp
  have e2:(acc++ao)++(List.replicate k ao).flatten=acc++(List.replicate (k+1) ao).flatten:=by
   rw[ag5,ae9,af3]
  rw[<-e2,<-foldl_rep ao k (acc++ao),<-e,ag5,List.foldl_cons]
theorem Inv.Of{ao its':List Value}(I:Inv X pins σ H s)(hH:H l=some (.lst xs))(e:s.heap.get? l=some {cls:= .type "list",data:= .seq ao.toArray n})(hf:f ao.toArray=its'.toArray)(hv:Vals ys its')(hz:ys.length<=sizeLine):
  Inv X pins σ (upd H l (.lst ys)) {s with heap:=s.heap.update l (Obj.mapSeq f),toks:=t'}:=by
 have q:=PySem.IsL.update e f;rw[hf] at q;refine I.write (x:=l) (e:=l) (by rw[hH];exact trivial) (.inl rfl) (fun b' u hb hu=>(af5 s.heap (Obj.mapSeq f) (Ne.symm hb)).trans hu) ⟨_,q⟩ ?_;exact⟨hz,its',_,hv,q⟩
theorem Inv.Oh(I:Inv X pins σ H s)(hv:Vals ys ao)(hz:ys.length<=sizeLine):
  Inv X pins σ (upd H s.heap.objs.size (.lst ys)) {s with heap:=s.heap.push {cls:= .type "list",data:= .seq ao.toArray},toks:=t'}:=
 I.laid (fun _ _ q=>aa3 _ q) (ab2 _) ⟨hz,ao,0,hv,ab6 _ rfl⟩
theorem Inv.fresh(I:Inv X pins σ H s):H s.heap.objs.size=none:=I.aI.fresh (ab2 _)
theorem Inv.Ck(I:Inv X pins σ H s)(hH:H l=some (.lst xs)):xs.length<=sizeLine/\ ∃(ao:List Value) (n:Nat),Vals xs ao/\xs.length=ao.length/\s.heap.get? l=some {cls:= .type "list",data:= .seq ao.toArray n}:=by
 obtain⟨z,ao,n,r,e⟩:=I.aI l _ hH;exact⟨z,ao,n,r,r.length,e⟩
theorem Ce(h:n<=sizeLine):Builtin.List.listTooLong n=false:=by
 unfold Builtin.List.listTooLong;exact ae5 (by lia)
section
variable{X:Cx}
def Fp:V->List V->Hp->VK->Prop:=fun x vs H Q=> ∃l xs y,x= .ref l/\vs= [y]/\H l=some (.lst xs)/\xs.length < sizeLine/\Q .aF (upd H l (.lst (xs++ [y])))
theorem kC:Wu X "list.append" Fp:=by
 intro pins s σ H x vs v us Q I rx rv h;obtain⟨l,xs,y,rfl,rfl,hH,hz,q⟩:=h;cases rx;obtain⟨u,rfl,ru⟩:=rv.one;obtain⟨z,ao,n,r,hl,e⟩:=I.Ck hH;refine ao4 F.slot_list_append ⟨_,e,rfl⟩ F.entry_list_append (F.args_list_append_2 _ _) (PySem.list_append l ao.toArray n u (by rw[ab0];lia)) ⟨e,?_⟩;refine⟨.aF,_,I.Of (its':=ao++ [u]) hH e (by simp) (r.append (.cons ru .nil)) ?_,rfl,q⟩;rw[aa9,List.length_singleton];lia
def Bw:V->List V->Hp->VK->Prop:=fun x vs H Q=> ∃l xs,x= .ref l/\vs= []/\H l=some (.lst xs)/\Q .aF (upd H l (.lst xs.reverse))
theorem vk:Wu X "list.reverse" Bw:=by
 intro pins s σ H x vs v us Q I rx rv h;obtain⟨l,xs,rfl,rfl,hH,q⟩:=h;cases rx;have XU:=rv.zero;subst XU;obtain⟨z,ao,n,r,hl,e⟩:=I.Ck hH;refine ao4 F.slot_list_reverse ⟨_,e,rfl⟩ F.entry_list_reverse (F.args_list_reverse_1 _) (AutoSeq1.list_reverse_list_0 l ao.toArray n (by rw[ab0];lia)) ⟨e,?_⟩;refine⟨.aF,_,I.Of (its':=ao.reverse) hH e (by simp) r.reverse ?_,rfl,q⟩;rw[List.length_reverse];lia
def NN:R2:=fun x y H Q=> ∃l b xs zs,x= .ref l/\y= .ref b/\H l=some (.lst xs)/\H b=some (.lst zs)/\xs.length+zs.length<=sizeLine/\ ∀p,H p=none->Q (.ref p) (upd H p (.lst (xs++zs)))
theorem Ke:iR X (binaryOp .Add) NN:=by
 intro pins s σ H x y v u Q I rx ry h;obtain⟨l,b,xs,zs,rfl,rfl,hH,hB,hz,q⟩:=h;cases rx;cases ry;obtain⟨z,ao,n,r,hl,e⟩:=I.Ck hH;obtain⟨z2,cf,n2,r2,QG,e2⟩:=I.Ck hB;refine PySem.P.add_list e e2 ?_ (by rw[ab0,ab0];lia);have ea:ao.toArray++cf.toArray=(ao++cf).toArray:=by simp
 rw[ea];exact⟨.ref _,_,I.Oh (t':=s.toks) (r.append r2) (by rw[aa9];lia),rfl,q _ I.fresh⟩
def NI:R2:=fun x y H Q=> ∃l k xs,x= .ref l/\y= .int k/\H l=some (.lst xs)/\ -(2^63)<=k/\k < 2^63/\xs.length*k.toNat<=sizeLine/\
 ∀p,H p=none->Q (.ref p) (upd H p (.lst (List.replicate k.toNat xs).flatten))
theorem len_rep{α:Type}(xs:List α)(k:Nat):(List.replicate k xs).flatten.length=k*xs.length:=by
 induction k with
 | zero=>simp
 | succ k ih=>rw[ag5,ae9,aa9,ih,Nat.succ_mul,Nat.add_comm]
theorem Kb:iR X (binaryOp .Mult) NI:=by
 intro pins s σ H x y v u Q I rx ry h;obtain⟨l,k,xs,rfl,rfl,hH,h1,h2,hz,q⟩:=h;cases rx;obtain⟨t,rfl⟩:=ry;obtain⟨z,ao,n,r,hl,e⟩:=I.Ck hH;have hlen:ao.toArray.size*k.toNat<=sizeLine:=by rw[ab0,<-hl];exact hz
 have K4: ¬ao.toArray.size*k.toNat > (2^63 - 1) / 8:=by
  have:(sizeLine:Nat)<=(2^63 - 1) / 8:=by decide
  lia
 have KZ: ¬(!Builtin.List.listFitsIndex k)=true:=by
  rw[fitsIndex_both h1 h2];exact ac0
 have OQ: ¬Builtin.List.listTooLong (ao.toArray.size*k.toNat)=true:=by
  rw[Ce hlen];exact ac0
 have Gk:List.foldl (fun x1 x2=>x1++x2) #[] (List.replicate (if ao.toArray.isEmpty=true then 0 else k.toNat) ao.toArray)=(List.replicate k.toNat ao).flatten.toArray:=by
  have f0: ∀m:Nat,List.foldl (fun x1 x2=>x1++x2) #[] (List.replicate m ao.toArray)=(List.replicate m ao).flatten.toArray:=fun m=>by
   have:=foldl_rep ao m [];rw[List.nil_append] at this;exact this
  rw[f0];cases ao with
  | nil=>simp
  | cons a r'=>rw[if_neg (by simp)]
 refine wpAny_binaryOp_repeat_ref (T:="list") (U:="int") (by decide) ⟨_,e,rfl⟩ (fun s'=>typeIs_int s' k t) noFill_list_mul F.fills_int_mul F.slot_int_rmul repeat_list F.slot_int_index.lookup
  (ao4 F.slot_int_rmul (typeIs_int s k t) F.entry_int_rmul (F.args_int_rmul_2 _ _) (int___rmul___int_list k t l ao.toArray n)
   ⟨e,rfl,⟨_,e,rfl⟩,ao4 F.slot_list_mul ⟨_,e,rfl⟩ F.entry_list_mul (F.args_list_mul_2 _ _) (AutoListH.list___mul___list_int_3 l ao.toArray n k t KZ K4 OQ) ⟨e,?_⟩⟩)
 rw[Gk];exact⟨.ref _,_,I.Oh (t':=s.toks) (r.rep k.toNat) (by rw[len_rep,Nat.mul_comm];exact hz),rfl,q _ I.fresh⟩
end
section
variable{κ:Type}[DecidableEq κ]
noncomputable def fL(aC:List (κ × V))(k:κ):Option V:=(aC.find? fun kv=>decide (kv.1=k)).map (·.2)
noncomputable def putK(aC:List (κ × V))(k:κ)(v:V):List (κ × V):=
 if (aC.any fun kv=>decide (kv.1=k))=true then aC.map (fun kv=>if kv.1=k then(kv.1,v) else kv) else aC++ [(k,v)]
theorem mK{p:κ × V}(e:p.1=k):fL (p::r) k=some p.2:=by simp [fL,an3,e]
theorem mM{p:κ × V}(e: ¬p.1=k):fL (p::r) k=fL r k:=by simp [fL,an3,e]
theorem rZ(k:κ): ∀aC:List (κ × V),(aC.any fun kv=>decide (kv.1=k))=(fL aC k).isSome
 | []=>rfl
 | p::r=>by
  rw[al8];by_cases e:p.1=k
  . simp only [mK e,ad6 e,Bool.true_or,Option.isSome_some]
  . rw[mM e,ae5 e,Bool.false_or];exact rZ k r
theorem du(aC:List (κ × V))(k:κ)(v:V):(putK aC k v).length<=aC.length+1:=by
 unfold putK;split
 . rw[aa1];lia
 . rw[aa9,ac7,ak0];lia
theorem kd.zD(r:kd o u):o.isSome=u.isSome:=by
 cases o with
 | none=>cases u with
  | none=>rfl
  | some _=>exact(show False from r).elim
 | some _=>cases u with
  | none=>exact(show False from r).elim
  | some _=>rfl
theorem KV.val(r:KV aC vs)(k:κ):kd (fL aC k) (valueAt vs k):=by
 unfold KV at r;induction r with
 | nil=>exact True.intro
 | @cons p q ps qs h t ih=>
  obtain⟨h1,h2⟩:=h;by_cases e:p.1=k
  . have e':q.1=k:=h1.symm.trans e;have b:valueAt (q::qs) k=some q.2:=by simp [valueAt,an3,e']
    rw[mK e,b];exact h2
  . have e': ¬q.1=k:=fun z=>e (h1.trans z);have b:valueAt (q::qs) k=valueAt qs k:=by simp [valueAt,an3,e']
    rw[mM e,b];exact ih
theorem KV.any(r:KV aC vs)(k:κ):(aC.any fun kv=>decide (kv.1=k))=vs.any fun kv=>decide (kv.1=k):=by
 unfold KV at r;induction r with
 | nil=>rfl
 | cons h t ih=>rw[al8,al8,ih,h.1]
theorem KV.JT(r:KV aC vs)(k:κ)(ry:RelV y u):
  KV (aC.map fun kv=>if kv.1=k then(kv.1,y) else kv) (vs.map fun kv=>if kv.1=k then(kv.1,u) else kv):=by
 unfold KV at r ⊢;induction r with
 | nil=>exact .nil
 | @cons p q ps qs h t ih=>
  rw[ac9,ac9];refine .cons ?_ ih;obtain⟨h1,h2⟩:=h;by_cases e:p.1=k
  . rw[if_pos e,if_pos (h1.symm.trans e)];exact⟨h1,ry⟩
  . rw[if_neg e,if_neg (fun z=>e (h1.trans z))];exact⟨h1,h2⟩
theorem KV.put(r:KV aC vs)(k:κ)(ry:RelV y u):KV (putK aC k y) (stored vs k u):=by
 unfold putK stored;rw[r.any k];by_cases e:(vs.any fun kv=>decide (kv.1=k))=true
 . rw[if_pos e,if_pos e];exact r.JT k ry
 . rw[if_neg e,if_neg e];exact Paired.snoc r ⟨rfl,ry⟩
theorem KV.length{aC:List (κ × V)}(r:KV aC vs):aC.length=vs.length:=Paired.length r
end
theorem tj(r:RelV (kV k) u):(aS P w).is k u=true:=by
 cases k with
 | inl i=>obtain⟨t,e⟩:=(show∃t,u=Value.int i t from r);subst e;exact sV P w i t
 | inr x=>obtain⟨t,e⟩:=(show∃t,u=Value.str x t from r);subst e;exact sU P w x t
theorem o8: ∀{ks:List Key} {us:List Value},Vals (ks.map kV) us->ItemsAre (aS P w) ks us
 | [],_,r=>by rw[List.map_nil] at r;cases r;exact .nil
 | k::ks,_,r=>by
  rw[ac9] at r;cases r with
  | cons h t=>exact .cons (tj h) (o8 t)
abbrev KT(H:Hp):List (List Key × V)->List (List Key × Addr × Value)->Prop:=Paired fun p q=>p.1=q.1/\H q.2.1=some (.tup (p.1.map kV))/\RelV p.2 q.2.2
theorem KT.val(r:KT H aC xs)(k:List Key):kd (fL aC k) ((atKey xs k).map (·.2)):=by
 induction r with
 | nil=>exact True.intro
 | @cons p q ps qs h t ih=>
  obtain⟨h1,_,h2⟩:=h;by_cases e:p.1=k
  . have e':q.1=k:=h1.symm.trans e;have b:atKey (q::qs) k=some q.2:=by simp [atKey,an3,e']
    rw[mK e,b];exact h2
  . have e': ¬q.1=k:=fun z=>e (h1.trans z);have b:atKey (q::qs) k=atKey qs k:=by simp [atKey,an3,e']
    rw[mM e,b];exact ih
theorem KT.JT(r:KT H aC xs)(k:List Key)(ry:RelV y u):
  KT H (aC.map fun kv=>if kv.1=k then(kv.1,y) else kv) (xs.map (putAt k u)):=by
 induction r with
 | nil=>exact .nil
 | @cons p q ps qs h t ih=>
  rw[ac9,ac9];refine .cons ?_ ih;obtain⟨h1,h2,h3⟩:=h;unfold putAt;by_cases e:p.1=k
  . rw[if_pos e,if_pos (h1.symm.trans e)];exact⟨h1,h2,ry⟩
  . rw[if_neg e,if_neg (fun z=>e (h1.trans z))];exact⟨h1,h2,h3⟩
theorem KT.put(r:KT H aC xs)(k:List Key)(hb:H b=some (.tup (k.map kV)))(ry:RelV y u):
  KT H (putK aC k y) (storedH xs k b u):=by
 have e:(aC.any fun kv=>decide (kv.1=k))=(atKey xs k).isSome:=by
  rw[rZ,(r.val k).zD,Option.isSome_map]
 unfold putK storedH;rw[e];by_cases q:(atKey xs k).isSome=true
 . rw[if_pos q,if_pos q];exact r.JT k ry
 . rw[if_neg q,if_neg q];exact Paired.snoc r ⟨rfl,hb,ry⟩
theorem KT.keeps(r:KT H aC xs)(ht: ∀b ys,H b=some (.tup ys)->H' b=some (.tup ys)):KT H' aC xs:=
 Paired.Ks r fun _ _ z=>⟨z.1,ht _ _ z.2.1,z.2.2⟩
theorem HK(ok:gq P w H h)(e:Rd H a u):aV P w H h a u:=e.ok ok
theorem Dh(ok:gq P w H h)(e:Rd H a (.dK aC)):aC.length<=sizeLine/\(a==sysModules)=false/\ ∃vs,KV aC vs/\h.DictOf (aS P w) a vs:=
 show aV P w H h a (.dK aC) from HK ok e
theorem Di(ok:gq P w H h)(e:H a=some (.dK aC)):aC.length<=sizeLine/\(a==sysModules)=false/\ ∃vs,KV aC vs/\h.DictOf (aS P w) a vs:=Dh ok (.inl e)
theorem qN{ks:List Key}(ok:gq P w H h)(e:H a=some (.tup (ks.map kV))):(tupleKind (aS P w)).is h ks a:=by
 obtain⟨_,ao,r,o,h1,h2,_,n,h3⟩:=(show aV P w H h a (.tup (ks.map kV)) from ok a _ e)
 exact⟨o,ao.toArray,n,h1,h2,h3,by simpa using o8 r⟩
theorem Df(ok:gq P w H h)(e:Rd H a (.dT aC)):aC.length<=sizeLine/\(a==sysModules)=false/\
  ∃xs,KT H aC xs/\h.DictOfH (tupleKind (aS P w)) a xs:=by
 obtain⟨z,y,xs,r,o,es,ep,h1,h2,h3,h4,h5⟩:=(show aV P w H h a (.dT aC) from HK ok e)
 refine⟨z,y,xs,r,o,es,ep,h1,h2,h3,h4,fun x hx=>?_,h5⟩;have all: ∀{l:List (List Key × V)} {m:List (List Key × Addr × Value)},KT H l m-> ∀x∈m,(tupleKind (aS P w)).is h x.1 x.2.1:=by
  intro l m q;induction q with
  | nil=>intro x hx;exact nomatch hx
  | @cons p q ps qs hq t ih=>
   intro x hx;rcases ac3.mp hx with e | hx
   . subst e;exact qN ok (by rw[<-hq.1];exact hq.2.1)
   . exact ih x hx
 exact all r x hx
theorem xP(ok:gq P w H h)(e:H a=some (.dT aC)):aC.length<=sizeLine/\(a==sysModules)=false/\
  ∃xs,KT H aC xs/\h.DictOfH (tupleKind (aS P w)) a xs:=Df ok (.inl e)
def lX(H:Hp)(a:Addr)(y:V)(r:Option V):Prop:=
 (∃aC k,Rd H a (.dK aC)/\y=kV k/\r=fL aC k)\/ ∃aC k b,Rd H a (.dT aC)/\y= .ref b/\H b=some (.tup (k.map kV))/\r=fL aC k
def n8(H:Hp)(a:Addr)(y v:V)(H':Hp):Prop:=
 (∃aC k,H a=some (.dK aC)/\y=kV k/\aC.length < sizeLine/\H'=upd H a (.dK (putK aC k v)))\/
 ∃aC k b,H a=some (.dT aC)/\y= .ref b/\H b=some (.tup (k.map kV))/\aC.length < sizeLine/\H'=upd H a (.dT (putK aC k v))
theorem lX.k{H:Hp}{a:Addr}{aC:List (Key × V)}{k:Key}(e:H a=some (.dK aC)):lX H a (kV k) (fL aC k):= .inl ⟨aC,k,.inl e,rfl,rfl⟩
theorem lX.t{k:List Key}(e:H a=some (.dT aC))(eb:H b=some (.tup (k.map kV))):lX H a (.ref b) (fL aC k):= .inr ⟨aC,k,b,.inl e,rfl,eb,rfl⟩
theorem n8.k{H:Hp}{a:Addr}{aC:List (Key × V)}{k:Key}(e:H a=some (.dK aC))(hl:aC.length < sizeLine):n8 H a (kV k) v (upd H a (.dK (putK aC k v))):= .inl ⟨aC,k,e,rfl,hl,rfl⟩
theorem n8.t{k:List Key}(e:H a=some (.dT aC))(eb:H b=some (.tup (k.map kV)))(hl:aC.length < sizeLine):
  n8 H a (.ref b) v (upd H a (.dT (putK aC k v))):= .inr ⟨aC,k,b,e,rfl,eb,hl,rfl⟩
theorem Inv.big(I:Inv X pins σ H s):sysModules < s.heap.objs.size:=by
 have h:mainGlobals < s.heap.objs.size:=(I.mod.glob.keeps I.bk).lt;exact Nat.lt_trans (by decide) h
theorem z0(hu:A.units+1 < cLine)(I:Inv X pins σ H s)(g:lX H a y (some v))(ry:RelV y u)(h: ∀w' s',Inv X pins σ H s'->RelV v w'->Q w' s'):
  wpAny (model X.prog X.w) A (getItem (.ref a) u) Q E s:=by
 rcases g with ⟨aC,k,e,ey,l⟩ | ⟨aC,k,b,e,ey,eb,l⟩
 . subst ey;obtain⟨z,hd,vs,rel,dd⟩:=Dh I.aI e;obtain⟨w',hw,rM⟩:=kd.some_of (v:=v) (o:=valueAt vs k) (by rw[l];exact rel.val k);exact wpAny_getItem_of (tj ry) dd.mapOf hw (h w' _ (I.tok _) rM)
 . subst ey;cases (show u=Value.ref b from ry);obtain⟨z,hd,xs,rel,dd⟩:=Df I.aI e;obtain⟨w',hw,rM⟩:=kd.some_of (v:=v) (o:=(atKey xs k).map (·.2)) (by rw[l];exact rel.val k);obtain⟨p,hp,OG⟩:=ag8.mp hw;refine wpAny_getItem_heap (tupleKind_room_in1 hu) (qN I.aI eb) dd hp ?_;rw[OG];exact h w' _ (I.tok _) rM
theorem iz(I:Inv X pins σ H s)(mu:Qf (H a))(hs:Heap.SameBut a s.heap h')(he: ∃q,h'.get? a=some q)(new:aV X.prog X.w (upd H a ob) h' a ob):
  Inv X pins σ (upd H a ob) {s with heap:=h',toks:=t'}:=
 I.write (x:=a) (e:=a) mu (.inl rfl) (fun b q hb z=>(hs.2 b hb).trans z) he new
theorem vU{h':Heap}{aC:List (Key × V)}(z:aC.length<=sizeLine)(hd:(a==sysModules)=false)(rel:KV aC vs)(dd:h'.DictOf (aS P w) a vs):
  aV P w H' h' a (.dK aC):=⟨z,hd,vs,rel,dd⟩
theorem zZ(hu:A.units+1 < cLine)(I:Inv X pins σ H s)(g:n8 H a y v H')(ry:RelV y u)(rv:RelV v r)(h: ∀s',Inv X pins σ H' s'->Q () s'):
  wpAny (model X.prog X.w) A (setItem (.ref a) u r) Q E s:=by
 rcases g with ⟨aC,k,e,ey,l,eH⟩ | ⟨aC,k,b,e,ey,eb,l,eH⟩
 . subst ey eH;obtain⟨z,hd,vs,rel,dd⟩:=Di I.aI e;have hz:vs.length<=sizeLine:=by rw[<-rel.length];exact z
   have hl:(putK aC k v).length<=sizeLine:=by have:=du aC k v;lia
   refine wpAny_setItem_pairs (hsz:=hz) (tj ry) dd fun h' Aw hs=>h _ ?_;have he: ∃q,h'.get? a=some q:=let ⟨q,_,_,hq,_⟩:=Aw;⟨q,hq⟩;exact iz I (by rw[e];exact True.intro) hs he (vU hl hd (rel.put k rv) Aw)
 . subst ey eH;cases (show u=Value.ref b from ry);obtain⟨z,hd,xs,rel,dd⟩:=xP I.aI e;have hz:xs.length<=sizeLine:=by rw[<-Paired.length rel];exact z
   have hl:(putK aC k v).length<=sizeLine:=by have:=du aC k v;lia
   refine wpAny_setItem_heap (hsz:=hz) (tupleKind_room_in1 hu) (qN I.aI eb) dd fun h' Aw hs=>h _ ?_;obtain⟨q,es,ep,hq,h2,h3,h4,_,h5⟩:=Aw;refine iz I (by rw[e];exact True.intro) hs ⟨q,hq⟩ ⟨hl,hd,_,(rel.put k eb rv).keeps fun c ys ec=>?_,q,es,ep,hq,h2,h3,h4,h5⟩;rw[ah (xt ec e (fun z=>nomatch z))];exact ec
def L7(i:Expr):Prop:= ∀ov iv,subscripted i false ov iv=operate [ov,iv] (getItem ov iv)
theorem EV{prog:Program}{w:World}{A:Around}{E:Value->Shared->Prop}{s:Shared}{env:Env}{value slice:Expr}{pos:Pos}{T id:String}(hl:typeLookup (.type T) "__getitem__"=pure (some (.builtin id)))(hs:L7 slice)(h:wpAny (model prog w) A (eval value env) (fun o s₁=>wpAny (model prog w) A (eval slice env) (fun i s₂=>s₂.TypeIs o T/\wpAny (model prog w) A (getItem o i) Q E s₂) E s₁) E s):
  wpAny (model prog w) A (eval (.Subscript value slice pos) env) Q E s:=by
 refine Subscript_ (ad1 h (fun o s₁ h₁=>ad1 h₁ (fun i s₂ h₂=>?_) fun _ _ x=>x) fun _ _ x=>x);obtain⟨hT,h₂⟩:=h₂;unfold subscriptTail;refine aa0 ?_;rw[getitemInPython_of_ne hT.not_modules];refine aa0 (wpAny_specialOf hT hl ?_);have fin:wpAny (model prog w) A (subscripted slice false o i) (fun r s₃=>wpAny (model prog w) A (letTemporaryGo value o r >>=fun _=>pure r) Q E s₃) E s₂:=by
  rw[hs o i];exact wpAny_operating (ad1 h₂ (fun r s₃ h₃=>aa0 (wpAny_letTemporaryGo (aa7 h₃))) fun _ _ x=>x)
 first
  | exact aa7 (aa0 fin)
  | exact aa0 (aa7 (aa0 fin))
  | exact aa0 fin
theorem tU(I:Inv X pins σ H s)(g:lX H a y o):s.TypeIs (.ref a) "dict":=by
 rcases g with ⟨aC,k,e,_,_⟩ | ⟨aC,k,b,e,_,_,_⟩
 . obtain⟨_,_,vs,_,dd⟩:=Dh I.aI e;exact dd.typeIs
 . obtain⟨_,_,xs,_,dd⟩:=Df I.aI e;exact dd.typeIs
def Nn(td ty:TE):TE:=fun σ H Q=>td σ H fun x H1=>ty σ H1 fun y H2=> ∃a v,x= .ref a/\lX H2 a y (some v)/\Q v H2
def Ny(td ty tv:TE):TS:=fun D σ H=>tv σ H fun v H1=>td σ H1 fun x H2=>ty σ H2 fun y H3=> ∃a H4,x= .ref a/\n8 H3 a y v H4/\D.nx σ H4
theorem jF(hu:X.A.units+1 < cLine)(ho:PE X o td)(hi:PE X i ty)(hs:L7 i):PE X (.Subscript o i pos) (Nn td ty):=by
 intro pins s σ H Q I h;refine EV PySem.F.slot_dict_getitem.lookup hs (aN (ho pins s σ H _ I h) fun u s1 ⟨x,H1,I1,rx,q1⟩=>aN (hi pins s1 σ H1 _ I1 q1) fun iv s2 Q8=>?_);obtain⟨y,H2,I2,ry,a,v,ex,g,q2⟩:=Q8;subst ex;obtain rfl:u=Value.ref a:=rx;exact⟨tU I2 g,z0 hu I2 g ry fun w' s3 I3 rM=>⟨v,H2,I3,rM,q2⟩⟩
theorem xa(hu:X.A.units+1 < cLine)(ho:PE X o td)(hi:PE X i ty)(hv:PE X value tv)(hs:swapsWith value (some (.Subscript o i pos')) pos.line X.env=pure false):
  PS X (.Assign [.Subscript o i pos'] value pos) (Ny td ty tv):=by
 intro pins s σ H D I h;refine wpAny_Assign_Subscript (aN (hv pins s σ H _ I h) fun r s1 ⟨v,H1,I1,rv,q1⟩=>aN (ho pins s1 σ H1 _ I1 q1) fun u s2 ⟨x,H2,I2,rx,q2⟩=>aN (hi pins s2 σ H2 _ I2 q2) fun iv s3 Q7=>?_) hs;obtain⟨y,H3,I3,ry,a,H4,ex,g,q3⟩:=Q7;subst ex;obtain rfl:u=Value.ref a:=rx;exact zZ hu I3 g ry rv fun s4 I4=>⟨σ,H4,I4,q3⟩
theorem Dj(h:Heap)(hb:sysModules < h.objs.size):aV P w H (h.push {cls:= .type "dict",data:= .dict #[]}) h.objs.size (.dK []):=
 ⟨ag0 _,ai7.mpr (Ne.symm (af4 hb)),[],.nil,Heap.DictOf.new h⟩
theorem nL(h:Heap)(hb:sysModules < h.objs.size):aV P w H (h.push {cls:= .type "dict",data:= .dict #[]}) h.objs.size (.dT []):=
 ⟨ag0 _,ai7.mpr (Ne.symm (af4 hb)),[],.nil,_,#[],0,ab6 _ rfl,⟨rfl,rfl,rfl⟩,rfl,rfl,ai6⟩
def JE:TE:=fun _ H Q=> ∀p,H p=none->Q (.ref p) (upd H p (.dT []))
theorem BO:PE X (.Dict [] [] pos) JE:=fun pins s σ H Q I h=>
 wpAny_Dict_empty ⟨.ref s.heap.objs.size,_,I.laid (a:=s.heap.objs.size) (o:= .dT []) (t':=s.toks) (fun _ _ q=>aa3 _ q) (ab2 _) (nL s.heap I.big),rfl,h _ (I.aI.fresh (ab2 _))⟩
def uI:List (TE × TE)->St->Hp->(List (V × V)->Hp->Prop)->Prop
 | [],_,H,Q=>Q [] H
 | (tk,tv)::r,σ,H,Q=>tk σ H fun x H1=>tv σ H1 fun y H2=>uI r σ H2 fun ps H3=>Q ((x,y)::ps) H3
abbrev VV:List (V × V)->List (Value × Value)->Prop:=Paired fun p q=>RelV p.1 q.1/\RelV p.2 q.2
def Q3(X:Cx)(pos:Pos)(keys:List (Option Expr))(values:List Expr)(Jw:List (TE × TE)):Prop:=
 ∀(pins:List (Addr × Obj)) (s:Shared) (σ:St) (H:Hp) (Q:List (V × V)->Hp->Prop),Inv X pins σ H s->uI Jw σ H Q->
  wpAny (model X.prog X.w) X.A (evalPairs (pairTrees keys values X.env pos)) (fun vs s'=> ∃ps H',Inv X pins σ H' s'/\VV ps vs/\Q ps H') X.xe s
theorem Fv:Q3 X pos [] [] []:=fun pins s σ H Q I h=>pairTrees_nil_walk ⟨[],H,I,.nil,h⟩
theorem sL(hk:PE X k tk)(hv:PE X v tv)(hr:Q3 X pos ks vs Jw):
  Q3 X pos (some k::ks) (v::vs) ((tk,tv)::Jw):=fun pins s σ H Q I h=>
 pairTrees_cons_walk (aN (hk pins s σ H _ I h) fun u s1 MT=>(by obtain⟨x,H1,I1,rx,q1⟩:=MT;exact(aN (hv pins s1 σ H1 _ I1 q1) fun w2 s2 MS=>(by obtain⟨y,H2,I2,ry,q2⟩:=MS;exact(
  aN (hr pins s2 σ H2 _ I2 q2) fun ws s3 MR=>(by obtain⟨ps,H3,I3,rel,q3⟩:=MR;exact(⟨(x,y)::ps,H3,I3,.cons ⟨rx,ry⟩ rel,q3⟩)))))))
noncomputable def i4(aC more:List (Key × V)):List (Key × V):=more.foldl (fun acc kv=>putK acc kv.1 kv.2) aC
theorem KV.merge: ∀{more:List (Key × V)} {rs:List (Key × Value)} {aC:List (Key × V)} {vs:List (Key × Value)},KV more rs->KV aC vs->KV (i4 aC more) (merged vs rs):=by
 intro more rs aC vs r;unfold KV at r;induction r generalizing aC vs with
 | nil=>intro q;exact q
 | @cons p q ps qs h t ih=>
  intro r0;have e:KV (putK aC p.1 p.2) (stored vs q.1 q.2):=by
   have:=r0.put p.1 h.2;rw[<-h.1];exact this
  exact ih e
theorem iO: ∀(more aC:List (Key × V)),(i4 aC more).length<=aC.length+more.length
 | [],aC=>by show aC.length<=aC.length+0;lia
 | p::r,aC=>by
  have h1:=iO r (putK aC p.1 p.2);have h2:=du aC p.1 p.2;show(i4 (putK aC p.1 p.2) r).length<=_;rw[ac7];lia
theorem nQ: ∀{aC:List (Key × V)} {ws:List (Value × Value)},VV (aC.map fun kv=>(kV kv.1,kv.2)) ws-> ∃rs,Carries (aS P w) ws rs/\KV aC rs
 | [],_,r=>by rw[List.map_nil] at r;cases r;exact⟨[],True.intro,.nil⟩
 | p::aC,_,r=>by
  rw[ac9] at r;cases r with
  | @cons a b as bs h t=>
   obtain⟨rs,c,q⟩:=nQ (P:=P) (w:=w) t;obtain⟨b1,b2⟩:=b;exact⟨(p.1,b2)::rs,⟨tj h.1,rfl,c⟩,.cons ⟨rfl,h.2⟩ q⟩
def HF(Jw:List (TE × TE)):TE:=fun σ H Q=> ∀p,H p=none->uI Jw σ (upd H p (.dK [])) fun ps H2=>H2 p=some (.dK [])/\ ∃aC:List (Key × V),ps=aC.map (fun kv=>(kV kv.1,kv.2))/\aC.length<=15/\Q (.ref p) (upd H2 p (.dK (i4 [] aC)))
theorem Fy(h:Q3 X pos keys values Jw)(K6:keys.all (·.isSome)=true)(hl:keys.length=values.length)(h0:keys≠ [])(YH:keys.length<=15):PE X (.Dict keys values pos) (HF Jw):=by
 intro pins s σ H Q I q;have hn:=I.aI.fresh (ab2 s.heap.objs.size);have I1:=I.laid (a:=s.heap.objs.size) (o:= .dK []) (h':=s.heap.push {cls:= .type "dict",data:= .dict #[]}) (t':=s.toks) (fun _ _ q=>aa3 _ q) (ab2 _) (Dj s.heap I.big);refine wpAny_Dict_walk (knd:=aS X.prog X.w) K6 hl h0 YH (aN (h pins _ σ _ _ I1 (q _ hn)) fun ws s2 MQ=>?_);obtain⟨ps,H2,I2,rel,e,aC,ep,lk,q2⟩:=MQ;subst ep;obtain⟨rs,c,rk⟩:=nQ (P:=X.prog) (w:=X.w) rel;obtain⟨z,hd,WU,r0,dd⟩:=Di I2.aI e;cases r0;refine⟨rs,c,dd,fun h' Aw hs=>⟨.ref s.heap.objs.size,_,?_,rfl,q2⟩⟩;have hz:(i4 [] aC).length<=sizeLine:=by
  have h1:=iO aC [];rw[ak0] at h1;rw[sizeLine_eq];lia
 have he: ∃q,h'.get? s.heap.objs.size=some q:=let ⟨q,_,_,hq,_⟩:=Aw;⟨q,hq⟩;exact iz I2 (by rw[e];exact True.intro) hs he (vU hz hd (rk.merge .nil) Aw)
end L2
namespace WB
open PySem PySem.W PySem.Calls PyProof.Rows
theorem lK: ∀(ns:List Int) (vs:List Value),WellAll P h vs (ns.map WData.int)->IntsAre vs ns:=by
 intro ns;induction ns with
 | nil=>
  intro vs w;rw[List.map_nil] at w;cases w;exact .nil
 | cons n ns ih=>
  intro vs w;rw[ac9] at w;cases w with
  | cons a b=>
   cases a;exact .cons _ _ (ih _ b)
theorem yL{l:OpenLaw}(hn:l.most=some n)(Gh:l.row.toRowW.claim.pre args=true)(SK:WellAll P h vals args):
  ∃a vs ns,vals= [Value.ref a]/\args= [WData.list (ns.map WData.int)]/\h.get? a=some {cls:= .type "list",data:= .seq vs.toArray}/\IntsAre vs ns/\ns.length<=n:=by
 have XZ:WShape.hasAll [] args [.list .int]=true:=(pre_splitW Gh).1;have hc:l.pre.holds [] {args:=args}=true:=(pre_splitW Gh).2;obtain⟨d,r,rfl,h1,h2⟩:=hasAllW_cons XZ;obtain rfl:=hasAllW_nil h2;obtain⟨xs,rfl,h3⟩:=hasW_list h1;obtain⟨ns,rfl⟩:=items_int h3;have hlen:ns.length<=n:=by
  unfold OpenLaw.pre at hc;have h4:(WTm.not (.lt (.lit (.int (n:Int))) (.len (.arg 0)))).holds [] {args:= [.list (ns.map .int)]}=true:=by
   have h4:=(holds_andW hc).1;rw[hn] at h4;exact h4
  have h5:=condW_of h4 (w_not (w_lt w_lit (w_len_list (w_arg rfl))));rw[aa1] at h5;refine Nat.le_of_not_lt fun q=>?_;have q':(n:Int) < ((ns.length:Nat):Int):=by lia
  first
   | (rw[ad6 q'] at h5;exact absurd h5 (by decide))
   | (simp at h5;lia)
 cases SK with
 | cons w1 w2=>
  cases w2;cases w1 with
  | list ho K6=>exact⟨_,_,ns,rfl,rfl,ho,lK ns _ K6,hlen⟩
theorem yS(l:OpenLaw)(args:List WData):l.row.toRowW.claim.post args (.bool true) args=true:=
 postW_of (r:=l.row.toRowW) (X:=(true==true))
  (show WShape.has [] (.bool true) .bool=true by first | rfl | decide | simp [WShape.has,WShape.arms,WShape.armsAll])
  (show(WTm.eq .res (.lit (.bool true))).value [] {args:=args,res:=some (.bool true),after:=args}=some (.bool (true==true)) from w_eq_bool (w_res rfl) w_lit) rfl
theorem ub {l : OpenLaw} {d : DefRec} (hn : l.most = some n) (O0 : d.params.defaults = []) (call : ∀ (w : World) (s₀ s₁ : Shared) (mg mb : Str -> Option Value) (fa : Addr) (o : Obj) (pm cd doc : Value) (a : Addr) (vs : List Value) (ns : List Int),
   Ground q loose [] XP w s₀ mg mb s₁.heap->YP w s₁.heap->
   s₁.heap.get? fa=some o->o.data= .func (docDef d.name d.params d.body d.scope pm cd doc)->s₁.heap.CodeRec cd d.name->mg d.name=some (.ref fa)->
   s₁.heap.get? a=some {cls:= .type "list",data:= .seq vs.toArray}->IntsAre vs ns->ns.length<=n->s₁.gens= #[]->
   codeAny (model l.prog w) callerA (.call (.ref fa) ⟨[.ref a],[]⟩) (fun r s'=>r= .ok (.ret (.bool true))/\OldK s₁.heap s'.heap/\s'.os=s₁.os/\AllBare s'.gens) s₁):
  WalkO q loose XP YP l.row.toRowW d [] (fun f vs=>PySem.call f vs):=by
 intro w s₀ s₁ mg mb G Y fa o pm cd doc dV kV ho hd jo hD OM hg args vals as Gh X8 hrd SK hlo;obtain rfl:dV= .none:=Dflts.none hD O0;obtain rfl:kV= .none:=Dflts.noKw hD;obtain⟨a,vs,ns,rfl,rfl,KS,hints,hlen⟩:=yL hn Gh SK;refine enter_call (am3 (call w s₀ s₁ mg mb fa o pm cd doc a vs ns G Y ho (fd_plain hd) jo OM KS hints hlen hg) fun r s' hq=>?_);obtain⟨rfl,h2,h3,h4⟩:=hq;exact⟨.inl ⟨.bool true,.bool true,[],rfl,fun _=>rfl,.bool true,yS l _,fun _=>⟨List.Pairwise.nil,fun _ hm=>(nomatch hm)⟩⟩,h2,h3,h4⟩
end WB
namespace L2
open PySem PySem.Spec PyProof.Rows
theorem oU: ∀{vs:List Value} {ns:List Int},IntsAre vs ns->Vals (ns.map V.int) vs
 | _,_,.nil=> .nil
 | _,_,.cons n t h=> .cons ⟨t,rfl⟩ (oU h)
def L5(H:Hp):Prop:= ∀b,H b=none\/ ∃o xs,H b=some (.tF o (.lst xs))
theorem Cm{K:PySem.W.Frag}{s₁:Shared}{vs:List Value}(KX:K.In s₁.heap)(Il:s₁.heap.Ns mainGlobals mg)(hb:s₁.heap.Ns builtinsNs mb)(Yz: ∀x:Str,x≠"__name__"->mb x=bootBuiltins x)(S4:s₁.heap.NoLimit)(hg:s₁.gens= #[])(ha:s₁.heap.get? a=some {cls:= .type "list",data:= .seq vs.toArray})(hi:IntsAre vs ns)(hl:ns.length<=sizeLine)(hr:bg k callerA)(F: ∀base:Heap,K.In base->base.Ns mainGlobals mg->aJ P w K mg base CX k fa fd [x] sp)(O2: ∀(s:Shared) (u:Value),BindsTo s fd ⟨[u],[]⟩ [(x,u)])(Ij: ∀H:Hp,L5 H->bS K H a (ns.map V.int)->sp [.ref a] H (fun v _=>v= .bl true) fun _ _ _=>False)(TC: ∀H e s',CX [] H s₁ (fun _ _ _=>False) e s'->False):
  codeAny (model P w) callerA (.call (.ref fa) ⟨[.ref a],[]⟩) (fun r s'=>r= .ok (.ret (.bool true))/\OldK s₁.heap s'.heap/\s'.os=s₁.os/\AllBare s'.gens) s₁:=by
 have rv:=oU hi;have Sv:=hi.length;have core: ∀H:Hp,L5 H->bS K H a (ns.map V.int)->gq P w H s₁.heap->(∀b,H b≠none->b=a)->(H a≠none->K.lookup a=none)->
   codeAny (model P w) callerA (.call (.ref fa) ⟨[.ref a],[]⟩) (fun r s'=>r= .ok (.ret (.bool true))/\OldK s₁.heap s'.heap/\s'.os=s₁.os/\AllBare s'.gens) s₁:=by
  intro H hO hS aI hA hK;have ya: ∀{b:Addr} {o:Obj},s₁.heap.get? b=some o->H b=none->(qP s₁.heap H).get? b=some o:=fun e n=>CD e n;have N5: ∀{b:Addr} {o:Obj} {es:Array DictEntry} {ep:Nat},s₁.heap.get? b=some o->o.data= .dict es ep->H b=none:=fun{b o es ep} e d=>by
   cases q:H b with
   | none=>rfl
   | some u=>
    have e':b=a:=hA b (by rw[q];simp);subst e';rw[ha] at e;cases e;have d':Data.seq vs.toArray _=Data.dict es ep:=d;cases d'
  have QA: ∀{b:Addr} {m:Str->Option Value},s₁.heap.Ns b m->(qP s₁.heap H).Ns b m:=fun{b m} MP=>(by obtain⟨o,es,ep,e,d,r⟩:=MP;exact(⟨o,es,ep,ya e (N5 e d),d,r⟩))
  have Vs:K.In (qP s₁.heap H):=fun b o e=>ya (KX b o e) (by
   cases q:H b with
   | none=>rfl
   | some u=>
    have e':b=a:=hA b (by rw[q];simp);subst e';rw[hK (by rw[q];simp)] at e;cases e)
  have hM:Mod K mg (qP s₁.heap H):=⟨Vs,QA Il,⟨mb,QA hb,Yz⟩,let ⟨mc,h1,h2⟩:=S4;⟨mc,QA h1,h2⟩⟩
  have e0:wA P w K mg (qP s₁.heap H) callerA [] s₁ H:=⟨rfl,hM,fun b o e=>FV e,Nat.le_of_eq (zH _ _),trivial,fun b hb=>absurd (show b∈([]:List Addr) from hb) (by simp),aI,.of_eq hg⟩
  refine am3 ((F _ Vs (QA Il)).run callerA [] s₁ H ⟨[.ref a],[]⟩ [.ref a] [.ref a] _ _ hr e0 (O2 s₁ (.ref a)) (.cons rfl .nil) (Ij H hO hS)) fun r s' h=>?_;cases r with
  | error e=>exact(TC H e s' h).elim
  | ok fl=>
   cases fl with
   | next=>exact False.elim h
   | brk=>exact False.elim h
   | cont=>exact False.elim h
   | ret u=>
    obtain⟨v,H',os,bare,un,Gi,r',q⟩:=h;have q':v= .bl true:=q;subst q';obtain rfl:u=Value.bool true:=r';refine⟨rfl,OldK.of_keep fun b o e=>?_,os,bare⟩;cases q:H b with
    | none=>exact un.keep b o e q (by intro z;exact absurd (show b∈([]:List Addr) from z) (by simp)) (by simp)
    | some u=>
     rcases hO b with z | ⟨ob,xs,z⟩
     . rw[q] at z;cases z
     . have z2:=un.jP b ob _ z;obtain⟨e1,_⟩:=aI b _ z;obtain⟨e2,_⟩:=Gi b _ z2;rw[e] at e1;cases e1;exact e2
 cases hk:K.lookup a with
 | some o=>
  have e:=KX a o hk;rw[ha] at e;cases e;refine core (fun _=>none) (fun _=> .inl rfl) (.inr ⟨_,vs.toArray,_,hk,rfl,rfl,rfl,by rw[ab0,Sv];exact hl,by simpa using rv⟩) (fun b u z=>by have z':(none:Option HO)=some u:=z;cases z') (fun b z=>absurd rfl z) fun z=>absurd rfl z
 | none=>
  refine core (fun b=>if b=a then some (.tF {cls:= .type "list",data:= .seq vs.toArray} (.lst (ns.map V.int))) else none) (fun b=>?_) (.inl (.inr ⟨{cls:= .type "list",data:= .seq vs.toArray},if_pos rfl⟩)) (fun b u z=>?_) (fun b z=>?_) fun _=>hk
  . by_cases hb:b=a
    . exact .inr ⟨_,_,if_pos hb⟩
    . exact .inl (if_neg hb)
  . by_cases hb:b=a
    . have z':=(if_pos hb).symm.trans z;cases z';subst hb;exact⟨ha,by rw[aa1];exact hl,vs,_,rv,ha⟩
    . have z':=(if_neg hb).symm.trans z;cases z'
  . by_cases hb:b=a
    . exact hb
    . exact absurd (if_neg hb) z
theorem EJ {l : PySem.W.OpenLaw} {n k : Nat} {q : Program} {loose : List Str} {XP : (Str -> Option Value) -> Heap -> Prop} {YP : World -> Heap -> Prop} {d : DefRec} {K : Params -> PySem.W.Frag} {CX : World -> ED} {sp : World -> Sp} (hn : l.most = some n) (OK : n <= sizeLine) (O0 : d.params.defaults = []) (hr : bg k callerA) (hY : ∀ (w : World) (h : Heap), YP w h -> (K w.params).In h) (F : ∀ (w : World) (mg : Str -> Option Value) (fa : Addr) (h : Heap), (K w.params).In h -> h.Ns mainGlobals mg -> mg d.name = some (.ref fa) ->
   ∃fd:FuncData,(∀(s:Shared) (u:Value),BindsTo s fd ⟨[u],[]⟩ [(x,u)])/\
    ∀base:Heap,(K w.params).In base->base.Ns mainGlobals mg->aJ l.prog w (K w.params) mg base (CX w) k fa fd [x] (sp w)) (Ij: ∀(w:World) (H:Hp) (a:Addr) (ns:List Int),ns.length<=n->L5 H->bS (K w.params) H a (ns.map V.int)->sp w [.ref a] H (fun v _=>v= .bl true) fun _ _ _=>False) (TC: ∀(w:World) (H:Hp) (s:Shared) (e:Value) (s':Shared),CX w [] H s (fun _ _ _=>False) e s'->False):
  PySem.W.WalkO q loose XP YP l.row.toRowW d [] (fun f vs=>PySem.call f vs):=by
 refine WB.ub hn O0 fun w s₀ s₁ mg mb fa o pm cd doc a vs ns G Y ho hd jo OM KS hints hlen hg=>?_;have KX:=hY w _ Y;obtain⟨fd,hb,hF⟩:=F w mg fa _ KX G.T.g OM;exact Cm KX G.T.g G.T.b G.T.builtins G.T.nolimit hg KS hints (ac6 hlen OK) hr hF hb (fun H hO hS=>Ij w H a ns hlen hO hS) fun H e s'=>TC w H s₁ e s'
noncomputable def eO(s:Stmt):Arguments:=match s with
 | .FunctionDef _ a _ _ _ _ _ _ _ _=>a
 | _=>{posonlyargs:= [],args:= [],vararg:=none,kwonlyargs:= [],kw_defaults:= [],kwarg:=none,defaults:= []}
noncomputable def bz(s:Stmt):List Stmt:=match s with
 | .FunctionDef _ _ b _ _ _ _ _ _ _=>b
 | _=> []
noncomputable def af(s:Stmt):Scope:=match s with
 | .FunctionDef _ _ _ _ _ _ sc _ _ _=>sc
 | _=>{kind:= .function,names:= [],isGenerator:=false,isCoroutine:=false}
abbrev cX:ED:=fun _ _ _ _ _ _=>False
abbrev E0:XK:=fun _ _ _=>False
theorem HP:Passes cX X E0:=fun _ _ _ _ _ _ _ h=>h.elim
structure dM(K:PySem.W.Frag)(x qual:Str)(st:Stmt)(f:Addr)(fd:FuncData):Prop where
 ex: ∃(oc:Value) (od:Option Addr) (kV doc pm:Value) (an:Option Addr) (ba ct:Value) (Ar:Array (Option Value)),
  fd=PySem.W.fnOf x qual (eO st) (bz st) (af st) .none kV doc pm an ba ct/\K.lookup f=some ⟨oc,od,.func fd,Ar⟩/\PySem.W.codeIn K ba qual=true
 kp:PySem.W.keepIn K (.ref f)=true
section
variable{P:Program}{w:World}{K:PySem.W.Frag}{mg:Str->Option Value}{base:Heap}
theorem dM.ok {x qual : Str} {st : Stmt} {k : Nat} (F : dM K x qual st f fd) (S : aw N ps (af st)) (len : ∀ vs H Q E, sp vs H Q E -> vs.length = ps.length) (dw : ∀ (ba : Value) (A : Around) (outer : List Env) (s : Shared) (H : Hp) (vs : List V) (Q : VK) (E : XK), bg k (A.deeper (envOfC qual (af st) s.heap.objs.size f ba)) -> sp vs H Q E ->
   ∃t,iH (fJ cX P w K mg base N qual (af st) f ba A outer s H E).Cd (bz st) t/\t {nx:=fun _ H'=>Q .aF H',rt:=Q} (start N vs) H):aJ P w K mg base cX (k+1) f fd ps sp:=by
 obtain⟨oc,od,kV,doc,pm,an,ba,ct,Ar,rfl,lk,jo⟩:=F.ex;refine ID lk jo S len fun A outer s H vs Q E hr Ij=>?_;obtain⟨t,h,q⟩:=dw ba A outer s H vs Q E hr Ij;exact⟨t,h.Cd,q⟩
theorem CM{x qual:Str}{st:Stmt}{f:Addr}{oc:Value}{od an:Option Addr}{Ar:Array (Option Value)}{kV doc pm ba ct:Value}(l:K.lookup f=some ⟨oc,od, .func (PySem.W.fnOf x qual (eO st) (bz st) (af st) .none kV doc pm an ba ct),Ar⟩)
  (c:PySem.W.codeIn K ba qual=true) (k:PySem.W.keepIn K (.ref f)=true):dM K x qual st f (PySem.W.fnOf x qual (eO st) (bz st) (af st) .none kV doc pm an ba ct):=⟨⟨oc,od,kV,doc,pm,an,ba,ct,Ar,rfl,l,c⟩,k⟩
end
theorem eC(hr:bg k A):A.units+1 < cLine:=an6 (Nat.add_le_add_left (by decide:1<=64) _) hr.units
theorem pv(i:Nat)(hN:X.N[i]?=some x:=by rfl)(hv:Q1 X.env.scope x:=by first | exact Or.inl rfl | exact Or.inr (Or.inl rfl) | exact Or.inr (Or.inr rfl))(hd:(x==("__debug__":Str))=false:=by decide)(jo:(x==("__classdict__":Str))=false:=by decide):PE X (.Name x pos) (iF i):=BJ hN hv hd jo
theorem bN{A B:Prop}(h:B):if false=true then A else B:=by
 rw[if_neg ac0];exact h
theorem cS{A B:Prop}(h:A):if true=true then A else B:=by
 rw[if_pos rfl];exact h
theorem Sz{c A B:Prop} [Decidable c](h1:c->A)(h2: ¬c->B):if c then A else B:=by
 by_cases h:c
 . rw[if_pos h];exact h1 h
 . rw[if_neg h];exact h2 h
def ax(H H':Hp):Prop:= ∀b o,H b=some o->H' b=some o
noncomputable def nR(scope:Scope)(cl:List (Str × Addr))(C:Addr)(env:Env):Env:=
 {scope:=relabel scope env,locals:=C,globals:=env.globals,cells:=cellsFrom (C+1) scope.names cl,qual:=env.qual,func:=none,code:=env.code,frame:=env.frame,builtins:=env.builtins}
noncomputable def dA(X:Cx)(N:List Str)(scope:Scope)(s:Shared)(H:Hp)(cl:List (Str × Addr))(C:Addr)(ex:List Addr):Cx:=
 {X with N:=N,s₀:=s,H₀:=H,env:=nR scope cl C X.env,outer:=X.stack,ex:=ex,fn:=fun x=>decide (scope.names.lookup x=some .cell),pn:= [],xe:=fun _ _=>False}
theorem a9: ∀(names:List (Str × NameKind)) (n:Nat) (acc:List (Str × Addr)),cellsFrom n names acc=cellsFrom n names []++acc
 | [],_,_=>rfl
 | (name,kind)::r,n,acc=>by
  unfold cellsFrom;split
  . rw[a9 r (n+1) ((name,n)::acc),a9 r (n+1) [(name,n)],af3];rfl
  . exact a9 r n acc
theorem eY: ∀(names:List (Str × NameKind)) (n:Nat) {x:Str} {c:Addr},(x,c)∈cellsFrom n names []->(x,NameKind.cell)∈names
 | [],_,_,_,h=>by simp [cellsFrom] at h
 | (name,kind)::r,n,x,c,h=>by
  unfold cellsFrom at h;split at h
  . rename_i hk;rw[a9] at h;rcases ae1.mp h with q | q
    . exact ab5 _ (eY r _ q)
    . have e:(x,c)=(name,n):=by simpa using q
      cases e;have:kind= .cell:=by simpa using hk
      subst this;exact ab3
  . exact ab5 _ (eY r _ h)
theorem eX{α:Type}: ∀{l:List (Str × α)} {x:Str} {v:α},(l.map (·.1)).Nodup->(x,v)∈l->l.lookup x=some v
 | (k,w)::r,x,v,nd,h=>by
  rw[ac9] at nd;obtain⟨h1,h2⟩:=ak5.mp nd;rw[ae6];rcases ac3.mp h with e | h'
  . cases e;simp
  . have vC : (x == k) = false := by
      rw[ai7];intro e;exact h1 (e▸ab7.mpr ⟨(x,v),h',rfl⟩)
    rw[vC];exact eX h2 h'
theorem gT{env:Env}: ∀{names:List (Str × NameKind)} {x:Str} {k:NameKind},
  (names.map fun(n,k)=>if (k==NameKind.free && env.scope.kind== .function && env.kindOf n==some .cell) then(n,NameKind.cell) else(n,k)).lookup x=some k->
  names.lookup x=some k\/(k= .cell/\names.lookup x=some .free)
 | [],_,_,h=>by simp at h
 | (n,k0)::r,x,k,h=>by
  have ih:= @gT env r x k;rw[ac9] at h;cases hx:x==n with
  | true=>
   by_cases hc:(k0==NameKind.free && env.scope.kind== .function && env.kindOf n==some .cell)=true
   . dsimp only at h;rw[if_pos hc,ae6,hx] at h;cases h;right;refine⟨rfl,?_⟩;rw[ae6,hx];simp only [af8] at hc;have:k0= .free:=by simpa using hc.1.1
     rw[this]
   . dsimp only at h;rw[if_neg hc,ae6,hx] at h;left;rw[ae6,hx];exact h
  | false=>
   have h':(r.map fun(n,k)=>if (k==NameKind.free && env.scope.kind== .function && env.kindOf n==some .cell) then(n,NameKind.cell) else(n,k)).lookup x=some k:=by
    by_cases hc:(k0==NameKind.free && env.scope.kind== .function && env.kindOf n==some .cell)=true
    . dsimp only at h;rw[if_pos hc,ae6,hx] at h;exact h
    . dsimp only at h;rw[if_neg hc,ae6,hx] at h;exact h
   rw[ae6,hx];exact ih h'
theorem dE{env:Env}: ∀{names:List (Str × NameKind)} {x:Str},names.lookup x=some .free->
  (names.map fun(n,k)=>if (k==NameKind.free && env.scope.kind== .function && env.kindOf n==some .cell) then(n,NameKind.cell) else(n,k)).lookup x=some .free\/
  (names.map fun(n,k)=>if (k==NameKind.free && env.scope.kind== .function && env.kindOf n==some .cell) then(n,NameKind.cell) else(n,k)).lookup x=some .cell
 | [],_,h=>by simp at h
 | (n,k0)::r,x,h=>by
  have ih:= @dE env r x;rw[ac9];dsimp only;cases hx:x==n with
  | true=>
   rw[ae6,hx] at h;cases h;by_cases hc:(NameKind.free==NameKind.free && env.scope.kind== .function && env.kindOf n==some .cell)=true
   . right;rw[if_pos hc,ae6,hx]
   . left;rw[if_neg hc,ae6,hx]
  | false=>
   rw[ae6,hx] at h;by_cases hc:(k0==NameKind.free && env.scope.kind== .function && env.kindOf n==some .cell)=true
   . rw[if_pos hc];simp only [ae6,hx];exact ih h
   . rw[if_neg hc];simp only [ae6,hx];exact ih h
theorem gf{scope:Scope}{env:Env}(h: ∀x∈scope.names,x.2= .free-> ∃c,env.cells.lookup x.1=some c):
  ∃cl,closureFor scope env=pure cl/\(∀x c,(x,c)∈cl->env.cells.lookup x=some c)/\ ∀x,(x,NameKind.free)∈scope.names-> ∃c,(x,c)∈cl:=by
 have gen: ∀(names:List (Str × NameKind)) (acc:List (Str × Addr)),(∀x∈names,x.2= .free-> ∃c,env.cells.lookup x.1=some c)->(∀x c,(x,c)∈acc->env.cells.lookup x=some c)->
   ∃cl,(forIn names acc (fun(x:Str × NameKind) (cs:List (Str × Addr))=>match x with | (name,kind)=>if kind== .free then(do let a<-cellOf env name;pure (ForInStep.yield ((name,a)::cs))) else pure (ForInStep.yield cs)):Sem (List (Str × Addr)))=pure cl/\
    (∀x c,(x,c)∈cl->env.cells.lookup x=some c)/\(∀p∈acc,p∈cl)/\ ∀x,(x,NameKind.free)∈names-> ∃c,(x,c)∈cl:=by
  intro names;induction names with
  | nil=>intro acc _ ha;exact⟨acc,by rw[List.forIn_nil],ha,fun _ hp=>hp,fun x hx=>by simp at hx⟩
  | cons p r ih=>
   intro acc hn ha;obtain⟨n,k⟩:=p;rw[List.forIn_cons];by_cases hk:(k==NameKind.free)=true
   . have QH:k= .free:=by simpa using hk
     obtain⟨c,hc⟩:=hn (n,k) ab3 QH;obtain⟨cl,e1,e2,e3,e4⟩:=ih ((n,c)::acc) (fun x hx=>hn x (ab5 _ hx)) (fun x c' hx=>by
      rcases ac3.mp hx with e | hx
      . cases e;exact hc
      . exact ha x c' hx)
     refine⟨cl,?_,e2,fun q hq=>e3 q (ab5 _ hq),fun x hx=>?_⟩
     . dsimp only;rw[if_pos hk];have:cellOf env n=pure c:=by unfold cellOf;rw[hc]
       rw[this];exact e1
     . rcases ac3.mp hx with e | hx
       . cases e;exact⟨c,e3 _ ab3⟩
       . exact e4 x hx
   . obtain⟨cl,e1,e2,e3,e4⟩:=ih acc (fun x hx=>hn x (ab5 _ hx)) ha;refine⟨cl,?_,e2,e3,fun x hx=>?_⟩
     . dsimp only;rw[if_neg hk];exact e1
     . rcases ac3.mp hx with e | hx
       . cases e;exact absurd rfl hk
       . exact e4 x hx
 obtain⟨cl,e1,e2,_,e4⟩:=gen scope.names [] h (fun _ _ hx=>nomatch hx);refine⟨cl,?_,e2,e4⟩;unfold closureFor;first
  | exact e1
  | (simp only [bind_pure];exact e1)
theorem rj (I : Nat -> Shared -> Prop) (turn : ∀ n s, I n s -> wpAny (model prog w) A (pyNext it) (fun r s₁ => match r with
   | none=>R (.ok .next) s₁
   | some v=>wpAny (model prog w) A (letOwnedTupleGo target it v) (fun _ s₀=>wpAny (model prog w) A (assign target env v) (fun _ s₂=>
     wpAny (model prog w) A (forIn ifs true fun c r=>if r=true then do let ok<-isTrue c env (eval c env);pure (ForInStep.yield ok) else pure (ForInStep.yield r)) (fun ok s₃=>
      if ok=true then wpAny (model prog w) A (eval elt env) (fun x s₄=>
       wpAny (model prog w) A (call (.builtin "list.append") [acc,x]) (fun _ s₅=> ∃m,m < n/\I m s₅) (fun _ _=>False) s₄) (fun _ _=>False) s₃
      else∃m,m < n/\I m s₃) (fun _ _=>False) s₂) (fun _ _=>False) s₀) (fun _ _=>False) s₁) (fun _ _=>False) s) (n:Nat) (h:I n s):codeAny (model prog w) A (.compLoop (.ListComp elt [⟨target,iter,ifs,0⟩] scope pos) 0 it acc env) R s:=by
 refine codeAny_loop rfl I (fun n s hI=>?_) n h;show wpAny _ A ((compTurn (.ListComp elt [⟨target,iter,ifs,0⟩] scope pos) 0 it acc env).onRaise (fun x=>do noteFrame x env;theTreesLotGoes x)) _ _ s;refine wpAny_noted ?_;rw[compTurn_list];refine aa0 (af9 (aa0 (ad1 (turn n s hI) (fun r s₁ h₁=>?_) fun _ _ h'=>h'.elim)));cases r with
 | none=>exact aa7 h₁
 | some v=>
  refine aa0 (ad1 h₁ (fun _ s₀ h₀=>?_) fun _ _ h'=>h'.elim);refine aa0 (ad1 h₀ (fun _ s₂ h₂=>aa0 (ad1 h₂ (fun ok s₃ h₃=>?_) fun _ _ h'=>h'.elim)) fun _ _ h'=>h'.elim);cases ok with
  | false=>exact aa7 ⟨rfl,h₃⟩
  | true=>
   exact aa0 (aa0 (ad1 h₃ (fun x s₄ h₄=>aa0 (ad1 h₄ (fun _ s₅ h₅=>aa7 (aa7 ⟨rfl,h₅⟩)) fun _ _ h'=>h'.elim)) fun _ _ h'=>h'.elim))
def PF(X:Cx)(ifs:List Expr)(t:TT):Prop:=
 ∀(pins:List (Addr × Obj)) (s:Shared) (σ:St) (H:Hp) (Q:Bool->Hp->Prop),Inv X pins σ H s->t σ H Q->
  wpAny (model X.prog X.w) X.A (forIn ifs true fun c r=>if r=true then do let ok<-isTrue c X.env (eval c X.env);pure (ForInStep.yield ok) else pure (ForInStep.yield r)) (TP X pins σ Q) X.xe s
def Nc:TT:=fun _ H Q=>Q true H
theorem J4:PF X [] Nc:=fun _ _ _ H _ I h=>wpAny_tests_nil ⟨H,I,h⟩
theorem J3(h:PT X c t):PF X [c] t:=fun pins s σ H Q I hw=>wpAny_tests_one (h pins s σ H Q I hw)
noncomputable def kr(nt:Nat)(js:List Nat)(σ:St):St:=List.replicate nt none++js.map fun j=>(σ[j]?).join
structure jj(X:Cx)(N:List Str)(nt:Nat)(js:List Nat)(scope:Scope):Prop where
 kind:scope.kind= .function
 nd:(scope.names.map (·.1)).Nodup
 len:nt<=N.length
 Wj:js.map (fun j=>X.N[j]?)=(N.drop nt).map some
 fr: ∀x∈N.drop nt,scope.names.lookup x=some .free
 Mv: ∀x∈scope.names,x.2= .free->X.env.kindOf x.1=some .cell\/X.env.kindOf x.1=some .free
theorem jj.names(S:jj X N nt js scope): ∀x∈scope.names,x.2= .local->scope.names.lookup x.1=some .local:=fun x hx e=>by
 obtain⟨n,k⟩:=x;cases e;exact eX S.nd hx
theorem kQ(S:jj X N nt js scope)(hc:X.calm=true)(I:Inv X pins σ H s)(hf: ∀b∈fp,dD X pins H b)(Vm: ∀b∈fp,b < s.heap.objs.size)(c1: ∀x c,(x,c)∈cl->X.env.cells.lookup x=some c)(c2: ∀x,(x,NameKind.free)∈scope.names-> ∃c,(x,c)∈cl):
  Inv (dA X N scope s H cl s.heap.objs.size fp) [] (kr nt js σ) H {s with heap:=pushCells (s.heap.push {cls:= .type "dict",data:= .dict #[]}) scope.names,toks:=tk}:=by
 have keep: ∀b o,s.heap.get? b=some o->(pushCells (s.heap.push {cls:= .type "dict",data:= .dict #[]}) scope.names).get? b=some o:=fun b o e=>ak4 _ _ b o (aa3 _ e);have ok:=cellsFrom_ok scope.names (s.heap.push {cls:= .type "dict",data:= .dict #[]}) (s.heap.objs.size+1) [] ⟨fun _ _ hm=>(nomatch hm),List.Pairwise.nil⟩ (by rw[af7];exact ab2 _);rw[af7] at ok;have split: ∀x c,(cellsFrom (s.heap.objs.size+1) scope.names cl).lookup x=some c->(x,c)∈cellsFrom (s.heap.objs.size+1) scope.names []\/(x,c)∈cl:=fun x c e=>by
  rw[a9] at e;exact ae1.mp (af6 e)
 have old: ∀x c,(x,c)∈cl->c < s.heap.objs.size:=fun x c h=>by
  obtain⟨v,q⟩:=I.cell x c (c1 x c h);exact q.lt
 have new: ∀x c,(x,c)∈cellsFrom (s.heap.objs.size+1) scope.names []->s.heap.objs.size+1<=c:=fun x c h=>(ok.empty x c h).2;have fresh: ∀b,s.heap.objs.size<=b->H b=none:=fun b hb=>I.aI.fresh hb;have IZ: ∀x,scope.names.lookup x=some .free-> ∀c,X.env.cells.lookup x=some c->(cellsFrom (s.heap.objs.size+1) scope.names cl).lookup x=some c:=fun x hx c Yu=>by
  obtain⟨c',Iy⟩:=c2 x (af6 hx);have e1:(cellsFrom (s.heap.objs.size+1) scope.names []).lookup x=none:=by
   cases e:(cellsFrom (s.heap.objs.size+1) scope.names []).lookup x with
   | none=>rfl
   | some d=>
    have:=eX S.nd (eY _ _ (af6 e));rw[hx] at this;cases this
  have e2: ∃d,cl.lookup x=some d:=by
   cases e:cl.lookup x with
   | some d=>exact⟨d,rfl⟩
   | none=>
    exfalso;have: ∀{l:List (Str × Addr)},(x,c')∈l->l.lookup x≠none:=fun{l}=>by
     induction l with
     | nil=>intro h;simp at h
     | cons p r ih=>
      intro h;obtain⟨k,v⟩:=p;rw[ae6];cases hb:x==k with
      | true=>simp
      | false=>
       rcases ac3.mp h with q | q
       . cases q;simp at hb
       . exact ih q
    exact this Iy e
  obtain⟨d,hd⟩:=e2;have:d=c:=by
   have:=c1 x d (af6 hd);rw[Yu] at this;cases this;rfl
  subst this;rw[a9,List.lookup_append,e1,hd];rfl
 have YJ: ∀b,b≠X.env.locals->b∉X.fs->b∉fb X.stack:=fun b h1 h2 hb=>(ac3.mp (I.uK b hb)).elim h1 h2;refine⟨⟨I.ok.mod,S.kind,I.ok.glob,I.ok.blt,ab2 _,fun x y c e1 e2=>?_,fun x hx=>?_,fun x c h1 h2=>?_,I.ok.hd,I.ok.frames,.inl rfl,fun b hb=>⟨?_,fun x c e=>?_⟩,fun b o e=>⟨I.bk b o e,(I.bs b o e).2⟩,?_,fun b o e hb=>?_,fun b hb=>?_,I.stack,I.ju⟩,
  rfl,I.bare,Un.kept keep,⟨_,(Heap.Ns.new s.heap (.type "dict")).keeps (ak4 _ _),fun i x v e1 e2 e3=>?_⟩,fun x c e=>?_,fresh _ (ab2 _),fun x c e=>?_,fun p hp=>absurd (show p∈([]:List (Addr × Obj)) from hp) (by simp),I.aI.kept keep,?_⟩
 . rcases split x c e1 with h1 | h1 <;> rcases split y c e2 with h2 | h2
   . exact name_of_addr ok.apart h1 h2
   . exact absurd (ac4 (old y c h2) (ao0 (new x c h1))) (ae8 _)
   . exact absurd (ac4 (old x c h1) (ao0 (new y c h2))) (ae8 _)
   . exact I.ok.inj x y c (c1 x c h1) (c1 y c h2)
 . have own : scope.names.lookup x = some .cell -> ∃ c, (cellsFrom (s.heap.objs.size + 1) scope.names cl).lookup x = some c := fun h => by
     obtain⟨c,e⟩:=j4 (n:=s.heap.objs.size+1) h;exact⟨c,by rw[a9,List.lookup_append,e];rfl⟩
   have VF:scope.names.lookup x=some .free-> ∃c,(cellsFrom (s.heap.objs.size+1) scope.names cl).lookup x=some c:=fun h=>by
    obtain⟨c,e⟩:=I.ok.has x (S.Mv _ (af6 h) rfl);exact⟨c,IZ x h c e⟩
   rcases hx with h | h <;> rcases gT h with q | ⟨z,q⟩
   . exact own q
   . exact VF q
   . exact VF q
   . cases z
 . have h1:scope.names.lookup x=some .cell:=by simpa [dA] using h1
   obtain⟨d,e⟩:=j4 (n:=s.heap.objs.size+1) h1;have h2:(cellsFrom (s.heap.objs.size+1) scope.names cl).lookup x=some c:=h2;rw[a9,List.lookup_append,e] at h2;have:d=c:=by simpa using h2
   subst this;exact ao0 (new x d (af6 e))
 . exact af4 (Vm b hb)
 . rcases split x c e with h | h
   . exact am5 (ac4 (Vm b hb) (ao0 (new x c h)))
   . exact(hf b hb).2.2.2.2.1 x c (c1 x c h)
 . exact ac6 I.ok.EA I.sz
 . rcases(hf b hb).2.2.2.1 with z | z
   . exact I.ok.zk b o e z
   . exact absurd (ac4 (ac2 e) (ac6 I.ok.EA z)) (ae8 _)
 . exact YJ b (hf b hb).2.1 (hf b hb).2.2.1
 . have hi : nt <= i := by
     apply Nat.le_of_not_lt;intro dH;unfold kr at e2;rw[ad5 (by simpa using dH),ac1,if_pos dH] at e2;cases e2
   have Pf:(js.map fun j=>(σ[j]?).join)[i - nt]?=some (some v):=by
    unfold kr at e2;rw[ae4 (by simpa using hi),ah3] at e2;exact e2
   rw[aa8] at Pf;have VO:(N.drop nt)[i - nt]?=some x:=by
    rw[List.getElem?_drop];have:nt+(i - nt)=i:=by lia
    rw[this];exact e1
   cases hj:js[i - nt]? with
   | none=>rw[hj] at Pf;cases Pf
   | some j=>
    rw[hj] at Pf;have GL:(σ[j]?).join=some v:=by simpa using Pf
    have hσ:σ[j]?=some (some v):=by
     cases q:σ[j]? with
     | none=>rw[q] at GL;cases GL
     | some o=>rw[q] at GL;simpa using GL
    have hX:X.N[j]?=some x:=by
     have:=ag1 (fun l=>l[i - nt]?) S.Wj;simp only [aa8,hj,VO,Option.map_some] at this;exact Option.some.inj this
    have lb:=S.fr x (ad2 VO);have hk:=S.Mv _ (af6 lb) rfl;obtain⟨m,_,hl⟩:=I.loc;obtain⟨u,ru,lk⟩:=hl j x v hX hσ (by rcases hk with q | q;exact .inr (.inl q);exact .inr (.inr q));refine⟨u,ru,?_⟩;rcases lk with ⟨QH,_⟩ | ⟨_,c,K5,ph⟩
    . rcases hk with q | q <;> rw[q] at QH <;> cases QH
    . refine .inr ⟨?_,c,IZ x lb c K5,ph.keeps keep⟩;rcases dE (env:=X.env) lb with q | q
      . exact .inr q
      . exact .inl q
 . rcases split x c e with h | h
   . exact⟨none,(ok.empty x c h).1⟩
   . obtain⟨v,q⟩:=I.cell x c (c1 x c h);exact⟨v,q.keeps keep⟩
 . rcases split x c e with h | h
   . exact fresh _ (ao0 (new x c h))
   . exact I.eF x c (c1 x c h)
 . unfold kr;show _=N.length;rw[aa9,ah3,aa1];have:=ag1 List.length S.Wj;rw[aa1,aa1,ak1] at this;have:=S.len;lia
def jh(nt:Nat)(g:TG):Prop:= ∀v σ H (Q:St->Hp->Prop),g v σ H Q->g v σ H fun σ' H'=>Q σ' H'/\σ'.length=σ.length/\ ∀k,nt<=k->σ'[k]?=σ[k]?
def yh(nt:Nat)(g:L4):Prop:= ∀vs σ H (Q:St->Hp->Prop),g vs σ H Q->g vs σ H fun σ' H'=>Q σ' H'/\σ'.length=σ.length/\ ∀k,nt<=k->σ'[k]?=σ[k]?
theorem bM(h:i < nt:=by decide):jh nt (cm i):=fun v σ H Q q=>⟨q,by simp,fun k hk=>by rw[ab1 (by lia)]⟩
theorem CL:yh nt vN:=fun vs σ H Q bZ=>(by obtain⟨e,q⟩:=bZ;exact(⟨e,q,rfl,fun _ _=>rfl⟩))
def yg(g:L4):Prop:= ∀vs σ H (Q Q':St->Hp->Prop),(∀σ' H',Q σ' H'->Q' σ' H')->g vs σ H Q->g vs σ H Q'
theorem pw:yg vN:=fun vs σ H Q Q' hq eS=>(by obtain⟨e,q⟩:=eS;exact(⟨e,hq _ _ q⟩))
theorem vM(hu:yg u):yg (eM (cm i) u):=fun vs σ H Q Q' hq gr=>(by obtain⟨v,r,e,q⟩:=gr;exact(⟨v,r,e,hu r _ _ Q Q' hq q⟩))
theorem pA(h:i < nt:=by decide)(hm:yg u)(hu:yh nt u):yh nt (eM (cm i) u):=fun vs σ H Q bZ=>(by obtain⟨v,r,e,q⟩:=bZ;exact(by
 refine⟨v,r,e,hm _ _ _ _ _ (fun σ' H' z=>?_) (hu r (σ.set i (some v)) H Q q)⟩;obtain⟨z1,z2,z3⟩:=z;refine⟨z1,by simpa using z2,fun k hk=>?_⟩;rw[z3 k hk,ab1 (by lia)]))
theorem CK{nt n:Nat}{K:PySem.W.Frag}(h:yh nt t):jh nt (zO K n t):=fun v σ H Q iS=>(by obtain⟨a,xs,e,sq,l,q⟩:=iS;exact(⟨a,xs,e,sq,l,h xs σ H Q q⟩))
def Em(nt:Nat)(js:List Nat)(g:TG)(tc:TT)(te:TE)(σ:St)(Q:VK)(D:Addr)(J:It)(H0:Hp):Prop:=
 ∃W:Nat->Nat->List V->Hp->Prop,(∃m,W 0 m [] H0)/\ ∀i m acc H,W i m acc H->
  (J.stop i H/\Q (.ref D) H)\/(J.go i H/\acc.length < sizeLine/\ ∃B:List V->Hp->Prop,(∀bR H',B bR H'-> ∃m',m' < m/\W (i+1) m' bR H')/\ ∀x H',J.rR i H x H'->g x (kr nt js σ) H' fun σ2 H2=>
   tc σ2 H2 fun b H3=>if b=true then te σ2 H3 fun v H4=>H4 D=some (.lst acc)/\B (acc++ [v]) (upd H4 D (.lst (acc++ [v]))) else B acc H3)
def A7(nt:Nat)(js:List Nat)(wi:TI)(g:TG)(tc:TT)(te:TE):TE:=fun σ H Q=>wi σ H fun J H1=> ∀D,H1 D=none->Em nt js g tc te σ Q D J (upd H1 D (.lst []))
theorem eU{s:Shared}(h: ∀jc:Env,{jc with scope:=relabel scope env}=nR scope cl s.heap.objs.size env->jc.locals=s.heap.objs.size->Q jc {s with heap:=pushCells (s.heap.push {cls:= .type "dict",data:= .dict #[]}) scope.names}):
  wpAny M A (newFunctionEnv scope env.globals cl [] env.qual none .none (some env)) Q E s:=by
 simp only [newFunctionEnv,Option.isSome_some,if_true];refine aa0 (wpAny_alloc ?_);refine aa0 (wpAny_layCells _ (fun name kind cells=>by cases Yd:kind==NameKind.cell <;> simp [Yd]) _ _ _ _ ?_);rw[show({s with heap:=s.heap.push {cls:= .type "dict",data:= .dict #[]}}:Shared).heap.objs.size=s.heap.objs.size+1 from af7 ..];first
  | exact aa7 (h _ rfl rfl)
  | exact aa0 (aa7 (aa7 (h _ rfl rfl)))
theorem pL{elt tg iter:Expr}{ifs:List Expr}{pos:Pos}{g:TG}{tc:TT}{te:TE}{cl:List (Str × Addr)}{Q:VK}{E:Value->Shared->Prop}{RR:Value->Addr->Result->Shared->Prop}(S:jj X N nt js scope)(hc:X.calm=true)(hg: ∀s H cl C ex,PG (dA X N scope s H cl C ex) tg g)(eE:jh nt g)(hf: ∀s H cl C ex,PF (dA X N scope s H cl C ex) ifs tc)(he: ∀s H cl C ex,PE (dA X N scope s H cl C ex) elt te){tn:Nat->Heap->Prop}(I:Inv X pins σ H s)(T:Turn X.prog X.w X.K tg J fp it tn)(st:tn 0 s.heap)(ff: ∀b∈fp,dD X pins H b)(c1: ∀x c,(x,c)∈cl->X.env.cells.lookup x=some c)(c2: ∀x,(x,NameKind.free)∈scope.names-> ∃c,(x,c)∈cl)(R: ∀D,H D=none->Em nt js g tc te σ Q D J (upd H D (.lst [])))(fin: ∀(D C:Addr) (s':Shared) (H':Hp),Inv X pins σ H' s'->dD X pins H' C->(∃m,s'.heap.Ns C m)->Q (.ref D) H'->RR (.ref D) C (.ok .next) s'):
  wpAny (model X.prog X.w) X.A (newList []) (fun acc s₃=>wpAny (model X.prog X.w) X.A (newFunctionEnv scope X.env.globals cl [] X.env.qual none .none (some X.env)) (fun jc s₄=>
   codeAny (model X.prog X.w) X.A (.compStart (.ListComp elt [⟨tg,iter,ifs,0⟩] scope pos) 0 (.ref it) acc {jc with scope:=relabel scope X.env}) (RR acc jc.locals) s₄) E s₃) E s:=by
 refine ag6 (eU fun jc tR De=>?_);rw[tR,De];dsimp only;have hD:H s.heap.objs.size=none:=I.aI.fresh (ab2 _);obtain⟨W,⟨m0,w0⟩,turn⟩:=R s.heap.objs.size hD;have kD: ∀b u,s.heap.get? b=some u->(s.heap.push {cls:= .type "list",data:= .seq ([]:List Value).toArray}).get? b=some u:=fun b u e=>aa3 _ e;have I3:Inv X pins σ (upd H s.heap.objs.size (.lst [])) {s with heap:=s.heap.push {cls:= .type "list",data:= .seq ([]:List Value).toArray},toks:=s.toks}:=
  I.laid kD (ab2 _) ⟨ag0 _,[],_,.nil,ab6 _ rfl⟩
 have fs: ∀b∈fp,b < s.heap.objs.size:=fun b hb=>by
  obtain⟨o,e,_⟩:=T.obj _ _ st b hb;exact ac2 e
 have IG: ∀b∈fp,dD X pins (upd H s.heap.objs.size (.lst [])) b:=fun b hb=>⟨by rw[ah (af4 (fs b hb))];exact(ff b hb).1,(ff b hb).2⟩
 have I4:=kQ (tk:=s.toks) S hc I3 IG (fun b hb=>by show b < (s.heap.push _).objs.size;rw[af7];exact aq4 (fs b hb)) c1 c2;dsimp only at I4;have O9:(s.heap.push {cls:= .type "list",data:= .seq ([]:List Value).toArray}).objs.size=s.heap.objs.size+1:=af7 ..;generalize hY:dA X N scope {s with heap:=s.heap.push {cls:= .type "list",data:= .seq ([]:List Value).toArray},toks:=s.toks} (upd H s.heap.objs.size (.lst [])) cl (s.heap.push {cls:= .type "list",data:= .seq ([]:List Value).toArray}).objs.size fp=Y at I4;have Vq:=hY;have nW:Y.env=nR scope cl (s.heap.push {cls:= .type "list",data:= .seq ([]:List Value).toArray}).objs.size X.env:=by rw[<-hY];rfl
 have bX:Y.prog=X.prog:=by rw[<-hY];rfl
 have Yw:Y.w=X.w:=by rw[<-hY];rfl
 have YA:Y.A=X.A:=by rw[<-hY];rfl
 have YK:Y.K=X.K:=by rw[<-hY];rfl
 have kc:Y.calm=true:=by rw[<-hY];exact hc
 have rO:Y.xe=fun _ _=>False:=by rw[<-hY];rfl
 have ue:Y.ex=fp:=by rw[<-hY];rfl
 have PZ:Y.pn= []:=by rw[<-hY];rfl
 have P1:Y.fs=fb X.stack:=by rw[<-hY];rfl
 have Jc:Y.s₀={s with heap:=s.heap.push {cls:= .type "list",data:= .seq ([]:List Value).toArray},toks:=s.toks}:=by rw[<-hY];rfl
 have P2:Y.H₀=upd H s.heap.objs.size (.lst []):=by rw[<-hY];rfl
 have OW:PG Y tg g:=by rw[<-hY];exact hg _ _ _ _ _
 have Tg:PF Y ifs tc:=by rw[<-hY];exact hf _ _ _ _ _
 have Tn:PE Y elt te:=by rw[<-hY];exact he _ _ _ _ _
 have hm:(Y.N.length:Nat)=(kr nt js σ).length:=I4.len.symm;rw[<-nW,<-bX,<-Yw,<-YA];have CP: ∀{H':Hp} (_: ∀b∈fp,H' b=none),∀b∈fp,dD Y [] H' b:=fun{H'} hn b hb=>by
  refine⟨hn b hb,(I4.ok.GG b (by rw[ue];exact hb)).1,I4.ok.tK b (by rw[ue];exact hb),.inl (by rw[ue];exact hb),(I4.ok.GG b (by rw[ue];exact hb)).2,fun p hp=>?_⟩;rw[PZ] at hp;simp at hp
 have back: ∀{H':Hp} {s':Shared} {σ':St},Inv Y [] σ' H' s'->Inv X pins σ H' s'/\dD X pins H' Y.env.locals/\ ∃m,s'.heap.Ns Y.env.locals m:=fun{H' s' σ'} J=>by
  have hb:Un (fb X.stack) fp (upd H s.heap.objs.size (.lst [])) H' (s.heap.push {cls:= .type "list",data:= .seq ([]:List Value).toArray}) s'.heap:=by
   have:=J.base;rw[P1,ue,P2,Jc] at this;exact this
  have loc:Y.env.locals=s.heap.objs.size+1:=by rw[nW];exact O9
  have os:s'.os=s.os:=by
   have:=J.os;rw[Jc] at this;exact this
  have aI:gq X.prog X.w H' s'.heap:=by
   have:=J.aI;rw[bX,Yw] at this;exact this
  refine⟨I3.t7 (ch:=fp) os hb aI J.bare fun b hb=>⟨(ff b hb).2.2.2.1,(ff b hb).2.1,(ff b hb).2.2.2.2.1,(ff b hb).2.2.2.2.2⟩,?_,let ⟨m,q,_⟩:=J.loc;⟨m,q⟩⟩;exact I.tG (by rw[loc];exact ar2 _) J.free
 have loop:codeAny (model Y.prog Y.w) Y.A (.compLoop (.ListComp elt [⟨tg,iter,ifs,0⟩] scope pos) 0 (.ref it) (.ref s.heap.objs.size) Y.env) (RR (.ref s.heap.objs.size) Y.env.locals)
   {s with heap:=pushCells ((s.heap.push {cls:= .type "list",data:= .seq ([]:List Value).toArray}).push {cls:= .type "dict",data:= .dict #[]}) scope.names}:=by
  refine rj (fun n s'=> ∃i acc H',Inv Y [] (kr nt js σ) H' s'/\tn i s'.heap/\(∀b∈fp,H' b=none)/\W i n acc H') ?_ m0
   ⟨0,[],_,I4,T.keep _ _ _ st fun b _ o e=>ak4 _ _ b o (aa3 _ (kD b o e)),fun b hb=>(IG b hb).1,w0⟩
  rintro n s5 ⟨i,acc,H5,I5,uN,zQ,w5⟩
  rcases turn i n acc H5 w5 with ⟨stop,q⟩ | ⟨go,hlen,B,hB,step⟩
  . have hd:=T.done Y bX Yw YK kc i [] s5 _ H5 (fun _ _=>False) I5 (CP zQ) uN stop;rw[<-bX,<-Yw] at hd;refine aN hd fun r s6 jq=>?_;obtain⟨hr,I6⟩:=jq;subst hr;obtain⟨b1,b2,b3⟩:=back I6;exact fin _ _ _ _ b1 b2 b3 q
  . have hd:=T.item Y bX Yw YK kc i [] s5 _ H5 (fun _ _=>False) I5 (CP zQ) uN go;rw[<-bX,<-Yw] at hd;refine aN hd fun r s6 mE=>?_;obtain⟨u,hr,h6⟩:=mE;subst hr;refine aN h6 fun _ s7 rP=>?_;obtain⟨x,H7,I7,r7,y7,uM,Ld⟩:=rP;have Mj:=I7.pinned (CP Ld) (T.obj _ _ uM);have g7:=eE _ _ _ _ (step x H7 y7);have h7:=OW _ s7 _ H7 x u _ Mj r7 g7;rw[rO] at h7;refine aN h7 fun _ s8 mD=>?_;obtain⟨σ8,H8,I8,q8,l8,k8⟩:=mD;have h8:=Tg _ s8 σ8 H8 _ I8 q8;rw[rO] at h8;refine aN h8 fun b s9 gv=>?_;obtain⟨H9,I9,q9⟩:=gv;have again: ∀{lz:Hp} {oa:Shared} {bR:List V},Inv Y ([]++i0 fp s7.heap) σ8 lz oa->B bR lz-> ∃m,m < n/\ ∃i acc H',Inv Y [] (kr nt js σ) H' oa/\tn i oa.heap/\(∀b∈fp,H' b=none)/\W i m acc H':=fun{lz oa bR} uk PY=>by
     obtain⟨m',Et,Js⟩:=hB bR lz PY;refine⟨m',Et,i+1,bR,lz,uk.dX.weak l8.symm fun k v e=>?_,T.keep _ _ _ uM fun b hb o e=>(uk.pin (b,o) (ab4 _ (ab4 _ (bp hb e)))).1,fun b hb=>?_,Js⟩
     . by_cases hk:nt<=k
       . rw[k8 k hk];exact e
       . exfalso;unfold kr at e;rw[ad5 (by simp;lia),ac1,if_pos (by lia)] at e;cases e
     . obtain⟨o,e,d⟩:=T.obj _ _ uM b hb;exact(uk.pin (b,o) (ab4 _ (ab4 _ (bp hb e)))).2.1
    cases b with
    | false=>
     rw[if_neg ac0] at q9 ⊢;exact again I9 q9
    | true=>
     rw[if_pos rfl] at q9 ⊢;have h9:=Tn _ s9 σ8 H9 _ I9 q9;rw[rO] at h9;refine aN h9 fun y oa mG=>?_;obtain⟨v,lz,uk,NO,Lb,JW⟩:=mG;have GA:=(kC (X:=Y) _ oa σ8 lz (.ref s.heap.objs.size) [v] (.ref s.heap.objs.size) [y] (fun _ H'=>B (acc++ [v]) H') uk rfl (.cons NO .nil) ⟨_,acc,v,rfl,rfl,Lb,hlen,JW⟩)
     rw[rO] at GA;refine aN GA fun _ Nz mF=>?_;obtain⟨_,EB,Hq,_,Sf⟩:=mF;exact again Hq Sf
 have tQ:(s.heap.push {cls:= .type "list",data:= .seq ([]:List Value).toArray}).objs.size=Y.env.locals:=by rw[nW];rfl
 rw[tQ];exact codeAny_compStart_list loop (by rw[bX,Yw,YA] at*;exact T.self _ 0 _ _ _ (T.keep _ _ _ st fun b _ o e=>ak4 _ _ b o (aa3 _ (kD b o e))) loop)
theorem Fz(S:jj X N nt js scope)(hc:X.calm=true)(hi:PI X tg iter wi)(hg: ∀s H cl C ex,PG (dA X N scope s H cl C ex) tg g)(eE:jh nt g)(hf: ∀s H cl C ex,PF (dA X N scope s H cl C ex) ifs tc)(he: ∀s H cl C ex,PE (dA X N scope s H cl C ex) elt te)(hs: ∀x,foldedSetIterable iter X.env x=pure x:=by intro _;rfl):PE X (.ListComp elt [⟨tg,iter,ifs,0⟩] scope pos) (A7 nt js wi g tc te):=by
 intro pins s σ H Q I h;obtain⟨cl,kL,c1,c2⟩:=gf (scope:=scope) (env:=X.env) fun x hx e=>I.ok.has x.1 (S.Mv x hx e);rw[eval_ListComp];refine am9 (use:=none) rfl hs kL S.kind S.names (aN (hi pins s σ H _ I h) fun v s1 h1=>aN h1 fun MA s2 h2=>?_);obtain⟨it,fp,tn,J,H2,rfl,I2,T,gk,f2,R⟩:=h2;refine pL (RR:=fun acc C=>compPost (model X.prog X.w) X.A X.xe none (EP X pins σ Q) acc C) S hc hg eE hf he I2 T gk f2 c1 c2 R fun D C s' H' I' fo iT q=>?_;obtain⟨m,hn⟩:=iT;refine⟨m,hn,fun h' sb=>⟨.ref D,H',?_,rfl,q⟩⟩;obtain⟨f0,f1,_,f3,f4,f5⟩:=fo;exact I'.turned (t':=s'.toks) (fun b o hb e=>(sb.2 b hb).trans e) f0 f1 f3 f4 f5
theorem xb{pos pos' py:Pos}(hN:X.N.Nodup)(OT:X.N[i]?=some y)(hy:Loc X.env.scope y)(S:jj X N nt js scope)(hc:X.calm=true)(hi:PI X tg iter wi)(hg: ∀s H cl C ex,PG (dA X N scope s H cl C ex) tg g)(eE:jh nt g)(hf: ∀s H cl C ex,PF (dA X N scope s H cl C ex) ifs tc)(he: ∀s H cl C ex,PE (dA X N scope s H cl C ex) elt te)(Gg:swapsWith (.ListComp elt [⟨tg,iter,ifs,0⟩] scope pos) (some (.Name y py)) pos'.line X.env=pure true:=by rfl)(hs: ∀x,foldedSetIterable iter X.env x=pure x:=by intro _;rfl)(Gr:X.fn y=true\/X.env.scope.names.lookup y=some .local:=by first | exact .inl rfl | exact .inr rfl | assumption):
  PS X (.Assign [.Name y py] (.ListComp elt [⟨tg,iter,ifs,0⟩] scope pos) pos') (A8 (A7 nt js wi g tc te) (cm i)):=by
 intro pins s σ H D I h;obtain⟨cl,kL,c1,c2⟩:=gf (scope:=scope) (env:=X.env) fun x hx e=>I.ok.has x.1 (S.Mv x hx e);rw[exec_Assign_Name_used _ _ _ _ Gg];refine aa0 (af9 (aa0 ?_));show wpAny _ _ (do let _<-comprehension (.ListComp elt [⟨tg,iter,ifs,0⟩] scope pos) scope X.env _ (newList []) false (eval iter X.env) (some (assign (.Name y py) X.env))) _ _ s;refine aa0 (ad1 (am9 (use:=some (assign (.Name y py) X.env)) (Q:=fun _ s'=>SP X pins D .next s') rfl hs kL S.kind S.names
  (aN (hi pins s σ H _ I h) fun v s1 h1=>aN h1 fun MA s2 h2=>?_)) (fun _ s' hq=>aa7 (aa7 hq)) fun _ _ e=>e)
 obtain⟨it,fp,tn,J,H2,rfl,I2,T,gk,f2,R⟩:=h2;refine pL (RR:=fun acc C=>compPost (model X.prog X.w) X.A X.xe (some (assign (.Name y py) X.env)) (fun _ s'=>SP X pins D .next s') acc C) (Q:=fun x H1=>cm i x σ H1 D.nx) S hc hg eE hf he I2 T gk f2 c1 c2 R fun Da C s' H' I' fo AI q=>?_;obtain⟨m,hn⟩:=AI;show wpAny _ _ (assign (.Name y py) X.env (.ref Da)) _ _ _;obtain⟨f0,f1,_,f3,f4,f5⟩:=fo;refine wpAny_assign_Name (oZ I' hN OT hy (v:= .ref Da) rfl (fun Ff Z9 uy=>?_) Gr);obtain⟨a,sb,ha⟩:=uy;have YF:C≠a:=by
  rcases ha with z | z
  . rw[z];exact f1
  . exact Ne.symm (f4 _ _ z)
 refine⟨m,hn.sameBut sb YF,fun h' Xk=>⟨_,H',?_,q⟩⟩;exact Z9.turned (t':=Ff.toks) (fun b o hb e=>(Xk.2 b hb).trans e) f0 f1 f3 f4 f5
open AutoSeq1 (wpAny_loadPart')
theorem KL(q1:typeLookup (.type T) "__init__"=pure (some (.builtin "object.__init__")))(q2:Bind.madeBy (.type T)=pure (some newId))(q3:(some newId !=some "object.__new__")=true):Meets (Builtin.«object.__init__» ⟨me::more,kw⟩) (fun _ R s=>s.TypeIs me T/\R (.ok (.ret .none)) s):=by
 refine Meets.of_wp fun prog w A R s bZ=>?_;obtain⟨hT,hq⟩:=bZ;cases more with
 | nil=>
  cases kw with
  | nil=>exact aa7 ⟨_,rfl,hq⟩
  | cons p r=>
   repeat (any_goals (first | assumption | wp_step))
   all_goals exact⟨_,rfl,hq⟩
 | cons a r=>
  repeat (any_goals (first | assumption | wp_step))
  all_goals exact⟨_,rfl,hq⟩
theorem j8(ft:TypeCalled T newId "object.__init__")(vC:(some newId !=some "object.__new__")=true)(c1:checkTypeCall T ⟨xs,kw⟩=pure ())(c2:checkBuiltinCall newId ⟨.type T::xs,kw⟩=pure ())(c3: ∀ob,argsOk "object.__init__" ⟨ob::xs,kw⟩)(eN:entryFor table newId=some B)(mt:Meets (B ⟨.type T::xs,kw⟩) S)(h:S A.in1 (wants (fun ob z=>z.TypeIs ob T/\Q ob z) E) s):wpAny (model prog w) A (call (.type T) xs kw) Q E s:=by
 obtain⟨c,tl,S2⟩:=ft.mro;have Vl:=ft.made;have Cw:=ft.sub;refine wpAny_call (codeAny_of_tree (show wpAny _ _ (callAny (.type T) _) _ _ _ from aa7 ⟨ap7 _ (by decide+kernel),ap2 F.entry_type_call ?_⟩));rw[Around.under_plain (weight_type_call_type T xs kw) (units_type_call_type T xs kw)];have k1:=ft.notType;have k2:=ft.canCreate;repeat (any_goals (first | assumption | wp_step))
 refine am3 (ak7 ft.plain eN (wpAny_of_eq c2 (mt prog w A.in1 _ s h))) fun r z hr=>?_;match r,hr with
 | .error e,hr=>exact hr
 | .ok (.ret ob),hr=>
  obtain⟨hT,hq⟩:=hr;have l1:=ft.init.lookup;have l2:=ft.init.bind ob;repeat (any_goals (first | assumption | wp_step))
  refine am3 (ak7 ft.init.plain F.entry_object_init (ft.init.check _ _ _ _ _ _ _ _ hT (c3 ob) (KL ft.init.lookup ft.made vC prog w A.in1 (wants (fun v z'=>v= .none/\Q ob z') E) z ⟨hT,rfl,hq⟩))) fun r2 z2 zF=>?_;match r2,zF with
  | .error e,zF=>exact zF
  | .ok (.ret v),zF=>
   obtain⟨rfl,Vg⟩:=zF;repeat (any_goals (first | assumption | wp_step))
  | .ok .next,zF=>exact zF.elim
  | .ok .brk,zF=>exact zF.elim
  | .ok .cont,zF=>exact zF.elim
 | .ok .next,hr=>exact hr.elim
 | .ok .brk,hr=>exact hr.elim
 | .ok .cont,hr=>exact hr.elim
open AutoSeq1 (wpAny_loadPart')
noncomputable def jT(h:Heap)(t:Addr)(k:Int):Heap:=
 (h.push {cls:= .type "tuple_iterator",data:= .fields #[.ref t,.int 0 0]}).push {cls:= .type "enumerate",data:= .fields #[.none,.bool false,.ref h.objs.size,rawInt k,.none,.none]}
def tM(t:Addr)(k:Int):PySem.Spec:=fun _ R s=>(∃items,s.heap.IsTuple t items)/\R (.ok (.ret (.ref (s.heap.push {cls:= .type "tuple_iterator",data:= .fields #[.ref t,.int 0 0]}).objs.size))) {s with heap:=jT s.heap t k}
theorem C7(t:Addr):Meets (Builtin.«enumerate.__new__» ⟨[.type "enumerate",.ref t],[]⟩) (tM t 0):=
 .of_wp fun prog w A R s bZ=>(by obtain⟨⟨items,hT⟩,h⟩:=bZ;exact(by
  obtain⟨hp,g,d,tk,os⟩:=s;have Cw:=sub_enumerate;obtain⟨⟨c,QT,dt,sl⟩,hl,hc,n,hd⟩:=id hT;replace hc:c= .type "tuple":=hc
  replace hd:dt= .seq items n:=hd
  subst hc hd;wp_walk using ae3 hl
  refine wpAny_stack_any fun st=>aa7 ?_;split
  . rename_i c _ _ _ _ _;cases (c==Value.type "enumerate") <;> (wp_walk using ae3 hl,aj2 hT;exact⟨_,rfl,h⟩)
  . wp_walk using ae3 hl,aj2 hT
    exact⟨_,rfl,h⟩))
theorem C6(t:Addr)(u:Tok):Meets (Builtin.«enumerate.__new__» ⟨[.type "enumerate",.ref t],[("start",.int 1 u)]⟩) (tM t 1):=
 .of_wp fun prog w A R s eS=>(by obtain⟨⟨items,hT⟩,h⟩:=eS;exact(by
  obtain⟨hp,g,d,tk,os⟩:=s;have Cw:=sub_enumerate;obtain⟨⟨c,QT,dt,sl⟩,hl,hc,n,hd⟩:=id hT;replace hc:c= .type "tuple":=hc
  replace hd:dt= .seq items n:=hd
  subst hc hd;wp_walk using ae3 hl
  refine wpAny_stack_any fun st=>aa7 ?_;split
  . rename_i c _ _ _ _ _;cases (c==Value.type "enumerate") <;> (wp_walk using ae3 hl,aj2 hT;exact⟨_,rfl,h⟩)
  . wp_walk using ae3 hl,aj2 hT
    exact⟨_,rfl,h⟩))
open AutoSeq1 (wpAny_loadPart')
theorem sg(a1:s.heap.IsTupleIter it t j)(a2:s.heap.IsTuple t ao)(a3:ao[j]?=some y)(k: ∀h',h'.IsTupleIter it t (j+1)->Heap.SameBut it s.heap h'->Q y {s with heap:=h'}):wpAny (model prog w) A (Builtin.SmallTypes.nextOf (.ref it)) Q E s:=by
 obtain⟨ob,b1,b2,b3⟩:=id a1;obtain⟨ot,d1,_,nt,d2⟩:=a2;unfold Builtin.SmallTypes.nextOf;refine aa0 (aj6 (name:=Str.ofString "__next__") a1.typeIs al9 (am6 al9 a1.typeIs F.entry_tuple_iterator_next ?_ (F.args_tuple_iterator_next_1 _)));show wpAny _ _ (field (.ref it) 0 >>=_) _ _ s;refine aa0 (ag4 b1 b3 (x:= .ref t) rfl ?_);show wpAny _ _ (if (Value.ref t==Value.none)=true then _ else _) _ _ s;rw[if_neg (show¬(Value.ref t==Value.none)=true from fun z=>nomatch (show false=true from z))];show wpAny _ _ (field (.ref it) 1 >>=_) _ _ s;refine aa0 (ag4 b1 b3 (x:= .int j 0) rfl ?_);show wpAny _ _ (seqItems? (.ref t) >>=_) _ _ s;refine aa0 (aj5 d1 d2 ?_);simp only [ah5,a3];refine aa0 (aq1 b1 b3 (by simp) (aa7 ⟨y,rfl,aa7 (k _ ⟨_,ai1 _ b1 (Obj.isFreed_of_fields (an5 b3 _)),(Obj.cls_mapFields ..).trans b2,by rw[an5 b3];simp [rawInt]⟩ (Heap.SameBut.update ..))⟩))
theorem si(hh:A.handled=none)(a1:s.heap.IsTupleIter it t j)(a2:s.heap.IsTuple t ao)(a3:ao[j]?=none)(k: ∀h' e,Heap.ExtBut it s.heap h'->(∃o,h'.get? e=some o/\o.cls= .type "StopIteration")->E (.ref e) {s with heap:=h'}):wpAny (model prog w) A (Builtin.SmallTypes.nextOf (.ref it)) Q E s:=by
 obtain⟨ob,b1,b2,b3⟩:=id a1;obtain⟨ot,d1,_,nt,d2⟩:=a2;unfold Builtin.SmallTypes.nextOf;refine aa0 (aj6 (name:=Str.ofString "__next__") a1.typeIs al9 (am6 al9 a1.typeIs F.entry_tuple_iterator_next ?_ (F.args_tuple_iterator_next_1 _)));show wpAny _ _ (field (.ref it) 0 >>=_) _ _ s;refine aa0 (ag4 b1 b3 (x:= .ref t) rfl ?_);show wpAny _ _ (if (Value.ref t==Value.none)=true then _ else _) _ _ s;rw[if_neg (show¬(Value.ref t==Value.none)=true from fun z=>nomatch (show false=true from z))];show wpAny _ _ (field (.ref it) 1 >>=_) _ _ s;refine aa0 (ag4 b1 b3 (x:= .int j 0) rfl ?_);show wpAny _ _ (seqItems? (.ref t) >>=_) _ _ s;refine aa0 (aj5 d1 d2 ?_);simp only [ah5,a3];refine aa0 (ap9 (aa0 (aq1 b1 b3 (by simp) ?_)));show wpAny _ _ (newExc (.type "StopIteration") [] >>=_) _ _ _;refine aa0 ?_;simp only [newExc,newTuple];refine aa0 (ag6 ?_ (by size_fits));refine aa0 (m:=firstArgMember _ _) (wpAny_of_eq (a:=Value.none) (by first | rfl | (simp only [firstArgMember];rfl)) (ag6 ?_ (by size_fits)));simp only [raiseNew];refine aa0 (wpAny_handled ?_);first | rw[show A.in1.handled=none from hh] | rw[hh]
 exact aa0 (aa7 (wpAny_throw (k _ _ (((Heap.SameBut.update ..).extBut.push _).push _) ⟨_,ab6 _ rfl,rfl⟩)))
theorem tS{prog:Program}{w:World}{A:Around}(hh:A.handled=none)(it t:Addr)(vC:t≠it)(ao:Array Value)(k:Nat):
  Draws prog w A it [it,t] (ao.size+k) (fun i v=>k<=i/\ao[i - k]?=some v) (fun i h=>k<=i/\h.IsTupleIter it t (i - k)/\h.IsTuple t ao) where
 live:=fun _ _ bZ=>(by obtain⟨_,st,_⟩:=bZ;exact(let ⟨o,ho,_⟩:=st;⟨o,ho⟩))
 frame:=fun _ _ _ eS hk=>(by obtain⟨l,st,gk⟩:=eS;exact(⟨l,let ⟨o,q,r⟩:=st;⟨o,hk it (by simp) o q,r⟩,let ⟨o,q,r⟩:=gk;⟨o,hk t (by simp) o q,r⟩⟩))
 item:=fun i s Q E hi ⟨l,st,gk⟩ hQ=>by
  have dH:i - k < ao.size:=by grind
  refine sg st gk (y:=ao[i - k]) (by simp [dH]) fun h' q1 q2=>hQ _ h' s.toks ⟨l,by simp [dH]⟩ ⟨by grind,?_,?_⟩ q2
  . rw[show i+1 - k=i - k+1 by grind];exact q1
  . obtain⟨o,q,r⟩:=gk;exact⟨o,(q2.2 t vC).trans q,r⟩
 done:=fun s Q E iC hE=>(by obtain⟨l,st,gk⟩:=iC;exact(si hh st gk (by simp) hE))
section
variable{X:Cx}{pins:List (Addr × Obj)}{σ:St}{H:Hp}{s:Shared}
theorem Inv.km{h':Heap}{t':Nat}{ch:List Addr}(I:Inv X pins σ H s)(hc: ∀b∈ch,dD X pins H b)(hT:s.heap.objs.size<=T)(k: ∀b u,b∉ch->s.heap.get? b=some u->h'.get? b=some u)(new:aV X.prog X.w (upd H T o) h' T o):Inv X pins σ (upd H T o) {s with heap:=h',toks:=t'}:=by
 have nT:H T=none:=I.aI.fresh hT;have ne: ∀b u,s.heap.get? b=some u->b≠T:=fun b u e z=>absurd (ac4 (ac2 e) (z▸hT)) (ae8 _);have En: ∀b u,H b=some u->b∉ch:=fun b u e z=>by rw[(hc b z).1] at e;cases e
 refine I.step (g':=s.gens) (d':=s.drawn) (ch:=ch) (fun b hb=>?_) (fun b u _ _ hn e _=>k b u hn e) (fun b u _ _ hn e _=>⟨u.slots,k b u hn e⟩) (fun b u hn e n=>by rw[ah (ne b u e)];exact n)
  (fun b u hn e=>⟨u,k b u hn e⟩) (fun b xs e=>by rw[ah (aq e nT)];exact e) (fun b ob u e=>by rw[ah (aq e nT)];exact e) (fun b ps e=>⟨#[],by rw[ah (aq e nT),e];simp⟩) (fun m hm=>?_) (fun b u e=>?_) I.bare
 . obtain⟨f0,f1,f2,f3,f4,f5⟩:=hc b hb;exact⟨f3,f1,f4,f5⟩
 . obtain⟨ob,es,ep,ho,r⟩:=hm;exact⟨ob,es,ep,k _ ob (fun z=>(hc _ z).2.1 rfl) ho,r⟩
 . by_cases hb:b=T
   . subst hb;rw[ag] at e;cases e;exact new
   . rw[ah hb] at e;refine(I.aI b u e).fN (fun c v Iy q=>k c v ?_ q) (fun c q=>by rw[ah (aq q nT)];exact q) fun c xs q=>by rw[ah (aq q nT)];exact q
     rcases Iy with z | z
     . rw[z];exact En b u e
     . exact En c _ z
noncomputable def MM(K:PySem.W.Frag)(a:Addr)(k:Nat):It:=
 ⟨fun i H=> ∃xs x,dB K H a xs/\xs[i]?=some x,fun i H x H'=> ∃p y,x= .ref p/\H p=none/\H'=upd H p (.tup [.int ((i+k:Nat):Int),y])/\ ∀xs,dB K H a xs->xs[i]?=some y,fun i H=> ∃xs,dB K H a xs/\xs.length=i⟩
theorem yC{P:Program}{w:World}{K:PySem.W.Frag}{es:List Expr}{x1}{tp:Pos}(a e it:Addr)(k:Nat)(K2:e≠it):
  Turn P w K (.Tuple es x1 tp) (MM K a k) [e,it] e (fun i h=>(∃old,IsEnum h e it ((i+k:Nat):Int) old)/\h.IsTupleIter it a i) where
 mem:=by simp
 obj:=fun i h st b hb=>by
  obtain⟨⟨old,mU⟩,gk⟩:=st;rcases ac3.mp hb with q | q
  . subst q;exact⟨_,mU,fun v z=>nomatch (show Data.fields _=Data.cell v from z)⟩
  . have q:b=it:=by simpa using q
    subst q;obtain⟨o,q1,q2,q3⟩:=gk;exact⟨o,q1,fun v z=>by rw[q3] at z;cases z⟩
 keep:=fun i h h' st kk=>by
  obtain⟨⟨old,mU⟩,gk⟩:=st;exact⟨⟨old,kk e (by simp) _ mU⟩,gk.at fun o q=>kk it (by simp) o q⟩
 item:=by
  intro X hP hw hK hc i pins s σ H E I hf st hg;subst hP hw hK;obtain⟨xs,x,hq,hx⟩:=hg;obtain⟨ao,rv,p,hz⟩:=I.tuple hq;obtain⟨u,hu,ru⟩:=rv.get hx;obtain⟨⟨old,mU⟩,gk⟩:=st;have ha: ∃o,s.heap.get? a=some o:=let ⟨o,q,_⟩:=p;⟨o,q⟩;have Tq:a≠e:=by
   rintro rfl
   obtain⟨o,q1,q2,_⟩:=p;rw[mU] at q1;cases q1;injection q2 with z;exact absurd z (by decide)
  have K7:a≠it:=by
   rintro rfl
   obtain⟨o,q1,q2,_⟩:=p;obtain⟨o',r1,r2,_⟩:=gk;rw[r1] at q1;cases q1;rw[r2] at q2;injection q2 with z;exact absurd z (by decide)
  have D:=tS (prog:=X.prog) (w:=X.w) (A:=X.A.in1) (I.ok.hd hc) it a K7 ao.toArray k;have hlen:i < ao.length:=(aa5.mp hu).1;refine wpAny_pyNext_enum_itemD D mU ⟨by lia,by rw[show i+k - k=i by lia];exact gk,p⟩ (by simp;lia) K2 (by simp [K2,Ne.symm Tq]) fun y h' tk hy ho Er ht hsz hk=>?_;obtain⟨_,hy⟩:=hy;rw[show i+k - k=i by lia] at hy;have ey:y=u:=by
   have:ao[i]?=some y:=by simpa using hy
   rw[hu] at this;cases this;rfl
  subst ey;refine⟨_,rfl,?_⟩;refine wpAny_letOwnedTupleGo_enum ho fun h2 To JI=>?_;have CH:e < s.heap.objs.size:=ac2 mU;have CC:it < s.heap.objs.size:=let ⟨o,q,_⟩:=gk;ac2 q;have I1:Inv X pins σ (upd H s.heap.objs.size (.tup [.int ((i+k:Nat):Int),x])) {s with heap:=h2,toks:=tk+1}:=by
   refine I.km (ch:= [e,it]) hf (ab2 _) (fun b o hb q=>?_) ⟨by show 2<=sizeLine;decide,[.int ((i+k:Nat):Int) tk,y],.cons ⟨_,rfl⟩ (.cons ru .nil),?_⟩
   . have h1:b≠e:=fun z=>hb (by simp [z]);have qS:b≠it:=fun z=>hb (by simp [z]);exact(JI.2 b h1).trans (hk b o h1 qS q)
   . exact⟨_,(JI.2 _ (am5 CH)).trans ht,rfl,rfl,_,rfl⟩
  refine⟨.ref s.heap.objs.size,_,I1,rfl,⟨_,x,rfl,I.aI.fresh (ab2 _),rfl,fun ys hy=>by rw[I.yD hy hq];exact hx⟩,⟨⟨y,?_⟩,?_⟩,fun b hb=>?_⟩
  . rw[show((i+1+k:Nat):Int)=((i+k:Nat):Int)+1 by lia];exact To
  . obtain⟨_,q,_⟩:=Er;rw[show i+k+1 - k=i+1 by lia] at q;exact q.at fun o z=>(JI.2 it (Ne.symm K2)).trans z
  . rw[ah (fun z=>?_)]
    . exact(hf b hb).1
    . rcases ac3.mp hb with q | q
      . subst q;exact absurd (z▸CH) (ae8 _)
      . have q:b=it:=by simpa using q
        subst q;exact absurd (z▸CC) (ae8 _)
 done:=by
  intro X hP hw hK hc i pins s σ H E I hf st hg;subst hP hw hK;obtain⟨xs,hq,hx⟩:=hg;obtain⟨ao,rv,p,hz⟩:=I.tuple hq;obtain⟨⟨old,mU⟩,gk⟩:=st;have K7:a≠it:=by
   rintro rfl
   obtain⟨o,q1,q2,_⟩:=p;obtain⟨o',r1,r2,_⟩:=gk;rw[r1] at q1;cases q1;rw[r2] at q2;injection q2 with z;exact absurd z (by decide)
  have hl:=rv.length;have D:=tS (prog:=X.prog) (w:=X.w) (A:=X.A.in1) (I.ok.hd hc) it a K7 ao.toArray k;obtain⟨f0,f1,f2,f3,f4,f5⟩:=hf it (by simp);refine wpAny_pyNext_enum_endD D mU ⟨by simp,?_,p⟩ fun h' eb=>⟨rfl,I.turned (t':=s.toks) (fun b o hb q=>eb b o hb q) f0 f1 f3 f4 f5⟩
  rw[show ao.toArray.size+k - k=i by simp;lia];exact gk
 self:=fun A i s Q E st h=>by
  obtain⟨⟨old,mU⟩,_⟩:=st;exact aq3 mU h
end
section
variable{X:Cx}{tg:Expr}{a b:Expr}{ta tb:TE}{pos:Pos}
def OA(K:PySem.W.Frag)(k:Nat)(ta:TA):TI:=fun σ H R=>ta σ H fun vs H1=> ∃a,vs= [.ref a]/\(∃xs,dB K H1 a xs)/\R (MM K a k) H1
def KO(K:PySem.W.Frag)(ta:TA)(tk:TA):TI:=fun σ H R=>ta σ H fun vs H1=>tk σ H1 fun zs H2=> ∃a,vs= [.ref a]/\zs= [.int 1]/\(∃xs,dB K H2 a xs)/\R (MM K a 1) H2
theorem lq{x1}{k:Nat}(I:Inv X pins σ H s)(q:R (MM X.K p k) H):
  wpAny (model X.prog X.w) X.A (pyIter (.ref (s.heap.push {cls:= .type "tuple_iterator",data:= .fields #[.ref p,.int 0 0]}).objs.size)) (P8 X pins σ (.Tuple es x1 tp) R) E {s with heap:=jT s.heap p k,toks:=tk}:=by
 have z:(s.heap.push {cls:= .type "tuple_iterator",data:= .fields #[.ref p,.int 0 0]}).objs.size=s.heap.objs.size+1:=af7 ..;have he:IsEnum (jT s.heap p k) (s.heap.objs.size+1) s.heap.objs.size k .none:=by
  have:=ab6 (s.heap.push {cls:= .type "tuple_iterator",data:= .fields #[.ref p,.int 0 0]}) (o:={cls:= .type "enumerate",data:= .fields #[.none,.bool false,.ref s.heap.objs.size,rawInt k,.none,.none]}) rfl;rw[z] at this;exact this
 have hi:(jT s.heap p k).IsTupleIter s.heap.objs.size p 0:=⟨_,aa3 _ (ab6 _ rfl),rfl,rfl⟩
 rw[z];refine aq3 he ?_;refine⟨s.heap.objs.size+1,[s.heap.objs.size+1,s.heap.objs.size],_,MM X.K p k,H,rfl,I.kept fun c o e=>aa3 _ (aa3 _ e),yC p _ _ k (Nat.succ_ne_self _),⟨⟨.none,?_⟩,hi⟩,fun c hc=>?_,q⟩
 . rw[Nat.zero_add];exact he
 . have hle : s.heap.objs.size <= c := by
     rcases ac3.mp hc with q | q
     . rw[q];exact ar2 _
     . have q:c=s.heap.objs.size:=by simpa using q
       rw[q];exact ab2 _
   exact I.tG hle (I.aI.fresh hle)
theorem BI{x1}(hg:Gl X "enumerate")(hm:X.mg "enumerate"=none)(ha:PA X [e] t)(hs:starEach [e] X.env= [(false,eval e X.env)]:=by rfl):
  PI X (.Tuple es x1 tp) (.Call (.Name "enumerate" p) [e] [] pos) (OA X.K 0 t):=by
 intro pins s σ H R I h;refine Call_ (cA I hg hm boot_enumerate (ag3 (aN (ha pos pins s σ H _ I h) fun us s1 bZ=>?_) hs rfl));obtain⟨vs,H1,I1,r1,q1⟩:=bZ;obtain⟨p,rfl,⟨xs,hq⟩,q⟩:=q1;obtain⟨u,rfl,ru⟩:=vals1 r1;cases ru;obtain⟨ao,rv,pt,hz⟩:=I1.tuple hq;exact j8 F.called_enumerate (by decide) (F.typeCall_enumerate_1 _) (F.newCall_enumerate_1 _) (fun obj=>F.args_object_init_2 obj _) F.entry_enumerate_new (C7 p) ⟨⟨_,pt⟩,⟨_,ab6 _ rfl,rfl⟩,lq (k:=0) I1 q⟩
theorem zV(a b:Value):checkTypeCall "enumerate" ⟨[a],[("start",b)]⟩=pure ():=by kernel_rfl
theorem zX(a b:Value):checkBuiltinCall "enumerate.__new__" ⟨[.type "enumerate",a],[("start",b)]⟩=pure ():=by kernel_rfl
theorem Cb(a b c:Value):argsOk "object.__init__" ⟨[a,b],[("start",c)]⟩:=by unfold argsOk;kernel_rfl
theorem oM{M:Model}{A:Around}{E:Value->Shared->Prop}{s:Shared}{env:Env}{pos:Pos}{T:String}{Q:Value->Shared->Prop}{e:Expr}{rest:List Expr}(h:wpAny M A (spliced (backTo pos (starEach (e::rest) env))) (fun vs z=>wpAny M A (evalAll ((backToKw pos (keywordEach kZ env)).map (·.2))) (fun ks z2=>wpAny M A (call (.type T) vs (((backToKw pos (keywordEach kZ env)).filterMap (·.1)).zip ks)) Q E z2) E z) E s)(k1:backTo pos (starEach (e::rest) env)=(false,eval e env)::backTo pos (starEach rest env):=by rfl)(k2:(backTo pos (starEach (e::rest) env)).any (·.1)=false:=by rfl)(k3:(backToKw pos (keywordEach kZ env)).all (·.1.isSome)=true:=by rfl)(k4:(backToKw pos (keywordEach kZ env)).any (·.1.isNone)=false:=by rfl):
  wpAny M A (callWith pos (.type T) [] (backTo pos (starEach (e::rest) env)) (backToKw pos (keywordEach kZ env))) Q E s:=by
 have g:wpAny M A (evalArgs (.type T) true (backTo pos (starEach (e::rest) env)) (backToKw pos (keywordEach kZ env))) (fun a z=>wpAny M A (call (.type T) ([]++a.pos) a.kw) Q E z) E s:=by
  rw[k1] at h ⊢;exact evalArgs_kwB k3 h
 unfold callWith;refine aa0 (ag9 (ad1 g (fun a z gz=>aa0 (af9 ?_)) fun _ _ x=>x));simp only [k2,k4,Bool.or_false];exact aa0 (aa7 (aa0 (ad1 gz (fun r z2 hr=>aa0 (ag9 (wpAny_point (aa7 hr)))) fun _ _ x=>x)))
theorem BH{x1}(hg:Gl X "enumerate")(hm:X.mg "enumerate"=none)(ha:PA X [e] t)(hk:PK X kZ tk)(Gn:(backToKw pos (keywordEach kZ X.env)).filterMap (·.1)=(["start"]:List Str):=by rfl)(k1:backTo pos (starEach [e] X.env)=(false,eval e X.env)::backTo pos (starEach [] X.env):=by rfl)(k2:(backTo pos (starEach [e] X.env)).any (·.1)=false:=by rfl)(k3:(backToKw pos (keywordEach kZ X.env)).all (·.1.isSome)=true:=by rfl)(k4:(backToKw pos (keywordEach kZ X.env)).any (·.1.isNone)=false:=by rfl):
  PI X (.Tuple es x1 tp) (.Call (.Name "enumerate" p) [e] kZ pos) (KO X.K t tk):=by
 intro pins s σ H R I h;refine aj3 (cA I hg hm boot_enumerate (oM (aN (ha pos pins s σ H _ I h) fun us s1 gr=>?_) k1 k2 k3 k4));obtain⟨vs,H1,I1,r1,q1⟩:=gr;refine aN (hk pos pins s1 σ H1 _ I1 q1) fun ws s2 iC=>?_;obtain⟨zs,H2,I2,rz,q2⟩:=iC;obtain⟨p,rfl,rfl,⟨xs,hq⟩,q⟩:=q2;obtain⟨u,rfl,ru⟩:=vals1 r1;cases ru;obtain⟨u2,rfl,⟨Eo,rfl⟩⟩:=vals1 rz;obtain⟨ao,rv,pt,hz⟩:=I2.tuple hq;rw[Gn];exact j8 F.called_enumerate (by decide) (zV _ _) (zX _ _) (fun obj=>Cb obj _ _) F.entry_enumerate_new (C6 p Eo) ⟨⟨_,pt⟩,⟨_,ab6 _ rfl,rfl⟩,lq (k:=1) I2 q⟩
def Fl(K:PySem.W.Frag):R2:=fun x y H Q=> ∃p q xs,x= .ref p/\y= .ref q/\bS K H p xs/\bS K H q []/\Q (.bl xs.isEmpty) H
def w8(K:PySem.W.Frag):R2:=fun x y H Q=> ∃p q xs,x= .ref p/\y= .ref q/\bS K H p xs/\bS K H q []/\Q (.bl (!xs.isEmpty)) H
theorem zb(hu:X.A.units < cLine):iR X (compareOp .Eq) (Fl X.K):=by
 intro pins s σ H x y v u Q I rx ry h;obtain⟨p,q,xs,rfl,rfl,h1,h2,hq⟩:=h;cases rx;cases ry;obtain⟨ao,rv,pl,_⟩:=I.list h1;obtain⟨cf,iY,m7,_⟩:=I.list h2;cases iY;cases rv with
 | nil=>exact SeqAt.eq_listAt (e:=fun _=>true) pl.isList m7.isList rfl hu (fun j h1 _=>absurd h1 (by simp)) ⟨.bl true,H,I,rfl,hq⟩
 | cons r rr=>exact SeqAt.eq_list_lengthsAt pl.isList m7.isList (by simp) hu ⟨.bl false,H,I,rfl,hq⟩
def Qq(i j:Int):Prop:=0 < j/\j < 2^64
theorem So(h1:0 < j)(h2:j < 2^64):Builtin.divisionGoesByPylong i j=false:=by
 have e:j.natAbs < 2^64:=by lia
 have l:j.natAbs.log2 < 64:=by
  rw[Nat.log2_lt (by lia)];exact e
 unfold Builtin.divisionGoesByPylong;have: ¬(if (j==0)=true then 0 else j.natAbs.log2 / 30+1) > 300:=by
  split <;> lia
 simp only [ae5 this,Bool.false_and]
theorem j7:eQ X (.builtin "divmod") (fun xs H Q=> ∃i j,xs= [.int i,.int j]/\Qq i j/\ ∀p,H p=none->Q (.ref p) (upd H p (.tup [.int (i / j),.int (i % j)]))):=by
 intro pins s σ H xs us Q I r h;obtain⟨i,j,rfl,⟨h1,h2⟩,q⟩:=h;obtain⟨u,u2,rfl,⟨t,rfl⟩,⟨t',rfl⟩⟩:=vals2 r;refine divmod_int (by lia) ?_ (.inl (So h1 h2));rw[Int.fdiv_eq_ediv_of_nonneg i (by lia),Int.fmod_eq_emod_of_nonneg i (by lia)];refine⟨.ref s.heap.objs.size,_,I.laid (o:= .tup [.int (i / j),.int (i % j)]) (fun b o e=>aa3 _ e) (ab2 _) ⟨by show 2<=sizeLine;decide,[.int (i / j) s.toks,.int (i % j) (s.toks+1)],.cons ⟨_,rfl⟩ (.cons ⟨_,rfl⟩ .nil),_,ab6 s.heap rfl,rfl,rfl,0,rfl⟩,rfl,q _ (I.aI.fresh (ab2 _))⟩
noncomputable def tq(T:String)(H:Hp):V->Option Bool
 | .aF=>some false
 | .bl _=>some (T=="bool" || T=="int")
 | .int _=>some (T=="int")
 | .str _=>some (T=="str")
 | .ref a=>match H a with
  | some (.lst _)=>some (T=="list")
  | some (.tup _)=>some (T=="tuple")
  | _=>none
 | _=>none
theorem KJ(hT:T="int"\/T="bool"\/T="tuple"\/T="list"\/T="str"):eQ X (.builtin "isinstance") (fun xs H Q=> ∃x b,xs= [x,.ty T]/\tq T H x=some b/\Q (.bl b) H):=by
 intro pins s σ H xs us Q I r h;obtain⟨x,b,rfl,e,q⟩:=h;obtain⟨u,u2,rfl,ru,NA⟩:=vals2 r;cases (show u2=Value.type T from NA);have fin: ∀tk:Nat,EP X pins σ Q (.bool b) {s with toks:=tk}:=fun tk=>⟨.bl b,H,I.tok _,rfl,q⟩
 cases x with
 | aF=>cases e;rcases hT with rfl | rfl | rfl | rfl | rfl <;> exact dU I ru .aF rfl fin
 | bl y=>cases e;rcases hT with rfl | rfl | rfl | rfl | rfl <;> exact dU I ru (.bl y) rfl fin
 | int y=>cases e;rcases hT with rfl | rfl | rfl | rfl | rfl <;> exact dU I ru (.int y) rfl fin
 | str y=>cases e;rcases hT with rfl | rfl | rfl | rfl | rfl <;> exact dU I ru (.str y) rfl fin
 | ref a=>
  cases ha:H a with
  | none=>simp only [tq,ha] at e;cases e
  | some o=>
   cases o with
   | lst xs=>simp only [tq,ha] at e;cases e;rcases hT with rfl | rfl | rfl | rfl | rfl <;> exact dU I ru (.lst ha) rfl fin
   | tup xs=>simp only [tq,ha] at e;cases e;rcases hT with rfl | rfl | rfl | rfl | rfl <;> exact dU I ru (.tup ha) rfl fin
   | _=>simp only [tq,ha] at e;cases e
 | _=>cases e
end
inductive gj:List Value->List Bool->Prop
 | nil:gj [] []
 | cons (b:Bool) {vs:List Value} {bs:List Bool}:gj vs bs->gj (.bool b::vs) (b::bs)
theorem gj.of: ∀{bs:List Bool} {us:List Value},Vals (bs.map V.bl) us->gj us bs
 | [],_,.nil=> .nil
 | b::bs,_,.cons r rr=>by
  cases (show _=Value.bool b from r);exact .cons b (gj.of rr)
theorem gj.get(h:gj vs bs): ∀(i:Nat) (v:Value),vs[i]?=some v-> ∃b,bs[i]?=some b/\v= .bool b:=by
 induction h with
 | nil=>intro i v e;simp at e
 | cons b _ ih=>
  intro i v e;cases i with
  | zero=>simp at e;subst e;exact⟨b,rfl,rfl⟩
  | succ i=>simpa using ih i v (by simpa using e)
theorem Bv(bs:List Bool):((List.range bs.length).all fun i=>(bs[i]?).getD true)=bs.all id:=by
 rw[ak6,ah2,ah2];constructor
 . intro h b hb;obtain⟨i,hi,e⟩:=ah8 hb;have:=h i (af2.mpr hi);simp only [aa2 hi,al3,e] at this;exact this
 . intro h i hi;have Eu:=af2.mp hi;simp only [aa2 Eu,al3];exact h _ (List.getElem_mem Eu)
theorem DR{X:Cx}(hc:X.calm=true):eQ X (.builtin "all") (fun xs H Q=> ∃a bs,xs= [.ref a]/\bS X.K H a (List.map V.bl bs)/\Q (.bl (bs.all id)) H):=by
 intro pins s σ H xs us Q I r h;obtain⟨a,bs,rfl,hq,q⟩:=h;obtain⟨u,rfl,ru⟩:=vals1 r;cases ru;obtain⟨ao,rv,pl,_⟩:=I.list hq;have hl:=pl.isList;have hb:=gj.of rv;have hlen:ao.length=bs.length:=by rw[<-rv.length,aa1]
 have dH:a < s.heap.objs.size:=by obtain⟨_,e,_⟩:=hl;exact ac2 e
 refine call_all_walk (aj8 hl ?_);refine⟨s.heap.objs.size,[s.heap.objs.size,a],[s.heap.objs.size],ao.toArray.size,_,_,fun i=>(bs[i]?).getD true,rfl,Walks.list (A:=X.A.in1) (I.ok.hd hc) _ a (af4 dH) ao.toArray,
  ⟨⟨_,ab6 _ rfl,rfl,rfl⟩,hl.push _⟩,fun i v s' Q' E' hP hQ=>?_,fun h' tk hk=>?_⟩
 . obtain⟨b,e,rfl⟩:=hb.get i v (by simpa using hP);simp only [e,al3] at hQ;exact aj7 hQ
 . have e : ((List.range ao.toArray.size).all fun i => (bs[i]?).getD true) = bs.all id := by
     rw[ab0,hlen];exact Bv bs
   rw[e];exact⟨.bl (bs.all id),H,I.kept fun b x e=>hk b x (fun hm=>by rw[aa6.mp hm] at e;exact ae8 _ (ac2 e)) (aa3 _ e),rfl,q⟩
end L2
namespace L2
open PySem PySem.Spec PyProof.Rows HT
def ug(H:Hp)(zs:List V)(p:Addr)(H':Hp):Prop:=(H'=H/\H p=some (.tup zs))\/(H p=none/\H'=upd H p (.tup zs))
theorem ug.at(h:ug H zs p H'):H' p=some (.tup zs):=by
 rcases h with ⟨rfl,h⟩ | ⟨_,rfl⟩
 . exact h
 . exact ag
theorem ug.keep(h:ug H zs p H'):ax H H':=by
 rcases h with ⟨rfl,h⟩ | ⟨h,rfl⟩
 . exact fun _ _ e=>e
 . exact fun b o e=>by rw[ah (aq e h)];exact e
theorem DO{vs ws:List Value}(ht:IsTup s.heap t vs.toArray)(hb:IsTup s.heap b ws.toArray)(hv:vs= [])(h:Q (.ref b) s):wpAny (model prog w) A (binaryOp .Add (.ref t) (.ref b)) Q E s:=by
 obtain⟨⟨c1,d1,t1,l1⟩,a1,a2,n1,a3⟩:=id ht;obtain⟨⟨c2,d2,t2,l2⟩,b1,b2,n2,b3⟩:=id hb;simp only at a2 a3 b2 b3;subst a2 a3 b2 b3;exact concat_meets ⟨_,a1,rfl⟩ ⟨_,b1,rfl⟩ noFill_tuple_add seq_tuple_add PySem.F.slot_tuple_add aq2 (ap8 _ _) (tuple_addW0 t b vs.toArray ws.toArray n1 n2 d1 d2 l1 l2 (by simp [hv])) ⟨a1,b1,h⟩
theorem jO{t sl:Addr}{items:Array Value}{vl vu:Value}{lo hi:Option Int}(ht:IsTup s.heap t items)(hs:s.heap.IsSliceOf sl vl vu .none)(pl:IsPart vl lo)(pu:IsPart vu hi)(hw:cE items.size 0 lo=0/\cE items.size items.size hi=items.size)(h:Q (.ref t) s):wpAny (model prog w) A (getItem (.ref t) (.ref sl)) Q E s:=by
 obtain⟨os,KQ,QK,K3⟩:=id hs;have Ts:s.TypeIs (.ref sl) "slice":=⟨os,KQ,QK⟩
 unfold getItem;try with_reducible refine ag9 ?_
 first | refine aa0 (aa7 ?_) | skip
 refine aa0 (wpAny_sequenceKey ht.typeIs (by decide) ?_);refine aa0 (aj6 (name:=Str.ofString "__getitem__") ht.typeIs ak3
  (am6 ak3 ht.typeIs entry_tuple_getitem ?_ (args_tuple_getitem _ _)))
 show wpAny _ _ (Builtin.Tuple.tupleItemsOf (.ref t) >>=_) _ _ s;refine aa0 (tupleItemsOf_ ht ?_);refine aa0 (wpAny_typeOf Ts ?_);rw[if_pos (by decide)];refine aa0 (fq hs pl pu ?_);rw[hw.1,hw.2];obtain⟨ob,k1,k2,k3⟩:=id ht;show wpAny _ _ (if (((0:Nat):Int)==0 && (1:Int)==1 && (items.size - 0)==items.size)=true then _ else _) _ _ s;rw[if_pos (by simp)];wp_walk using AutoSeq1.wpAny_loadPart' k1
 all_goals exact⟨_,rfl,aa7 h⟩
section
variable{X:Cx}{e:Expr}{te:TE}{pos p2:Pos}
def HM:R2:=fun x y H Q=> ∃a b xs ys,x= .ref a/\y= .ref b/\H a=some (.tup xs)/\H b=some (.tup ys)/\xs.length+ys.length<=sizeLine/\ ∀p H',ug H (xs++ys) p H'->Q (.ref p) H'
theorem FE:iR X (binaryOp .Add) HM:=by
 intro pins s σ H x y v u Q I rx ry h;obtain⟨a,b,xs,ys,rfl,rfl,h1,h2,hz,q⟩:=h;cases rx;cases ry;obtain⟨ao,r1,p1,_⟩:=I.tuple (dB.of h1);obtain⟨cf,r2,p2,_⟩:=I.tuple (dB.of h2);by_cases e1:ao= []
 . have ex:xs= []:=r1.qJ.mp e1;refine DO p1 p2 e1 ⟨.ref b,H,I,rfl,q b H (.inl ⟨rfl,?_⟩)⟩;rw[ex];exact h2
 . refine Ha p1 p2 e1 (fun e2=>⟨.ref a,H,I,rfl,q a H (.inl ⟨rfl,?_⟩)⟩) (fun e2=>?_) (by rw[<-r1.length,<-r2.length];exact hz)
   . have ey:ys= []:=r2.qJ.mp e2;rw[ey,af0];exact h1
   . refine⟨.ref s.heap.objs.size,_,I.laid (t':=s.toks) (o:= .tup (xs++ys)) (fun b ob q=>aa3 _ q) (ab2 _) ⟨by rw[aa9];exact hz,_,r1.append r2,n4.new _ _⟩,rfl,q _ _ (.inr ⟨I.aI.fresh (ab2 _),rfl⟩)⟩
def Sd:V->Option Int->Option Int->Hp->VK->Prop:=fun x lo hi H Q=> ∃a xs,x= .ref a/\H a=some (.tup xs)/\ ∀p H',ug H (lR xs lo hi) p H'->Q (.ref p) H'
theorem EY:pZ X Sd:=by
 intro pins s σ H x v vl vu lo hi sl Q I rx hs pl pu h;obtain⟨a,xs,rfl,hx,q⟩:=h;cases rx;obtain⟨ao,r,ht,hz⟩:=I.tuple (dB.of hx);have hlen:ao.toArray.size=xs.length:=by rw[ab0];exact r.length.symm
 refine⟨"tuple",_,PyProof.Rows.slot_tuple_getitem.lookup,ht.typeIs,?_⟩;by_cases hw:cE xs.length 0 lo=0/\cE xs.length xs.length hi=xs.length
 . refine jO ht hs pl pu (by rw[hlen];exact hw) ⟨.ref a,H,I,rfl,q a H (.inl ⟨rfl,?_⟩)⟩;unfold lR;rw[hw.1,hw.2,am2,Nat.sub_zero,am7];exact hx
 . refine HT.jN ht hs pl pu (by rw[hlen];exact hw) ?_ (by rw[hlen];exact hz);rw[hlen];refine⟨.ref s.heap.objs.size,_,I.laid (t':=s.toks) (o:= .tup (lR xs lo hi)) (fun b ob q=>aa3 _ q) (ab2 _) ?_,rfl,q _ _ (.inr ⟨I.aI.fresh (ab2 _),rfl⟩)⟩;exact⟨ac6 (lu xs lo hi) hz,_,(r.drop (HT.cE xs.length 0 lo)).take (HT.cE xs.length xs.length hi - HT.cE xs.length 0 lo),n4.new _ _⟩
end
end L2
namespace L2
open PySem PySem.Spec PyProof.Rows
theorem Hf(h:0<=i)(e:xs[i.toNat]?=some v):jd xs i=some v:=by
 have:i=((i.toNat:Nat):Int):=by lia
 rw[this];exact bc e
theorem Gb{n:Nat}{i:Int}(h:0<=i)(hl:i < n):xD n i=some i.toNat:=by
 unfold xD;rw[if_pos h,if_pos hl]
def dj(P:Program)(w:World)(K:PySem.W.Frag)(mg:Str->Option Value)(base:Heap)(x:Str)(k:Nat)(ps:List Str)(sp:Sp):Prop:=
 ∃f fd,mg x=some (.ref f)/\PySem.W.keepIn K (.ref f)=true/\Binds K fd ps []/\aJ P w K mg base cX k f fd ps sp
theorem kA{X:Cx}(h:dj X.prog X.w X.K X.mg X.base x k ps sp)(hr:bg k X.A)(hg:Gl X x)(ha:PA X (e::es) t)(gs:(x==("__debug__":Str))=false:=by decide)(he:starEach (e::es) X.env=(false,eval e X.env)::starEach es X.env:=by rfl)(da:(backTo pos (starEach es X.env)).any (·.1)=false:=by rfl):
  PE X (.Call (.Name x p) (e::es) [] pos) (wQ sp [] E0 t):=by
 obtain⟨f,fd,h1,h2,h3,h4⟩:=h;exact xk h4 hr hg h1 h2 h3 .nil HP ha gs he da
end L2
namespace LB
open PySem L2 PyProof.Rows
theorem kP:bootBuiltins "int"=some (.type "int"):=by decide+kernel
theorem bW:bootBuiltins "tuple"=some (.type "tuple"):=by decide+kernel
theorem df:bootBuiltins "bool"=some (.type "bool"):=by decide+kernel
theorem iA:bootBuiltins "str"=some (.type "str"):=by decide+kernel
theorem Ah:bootBuiltins "sum"=some (.builtin "sum"):=by decide+kernel
theorem bD:bootBuiltins "list"=some (.type "list"):=by decide+kernel
theorem rC:bootBuiltins "divmod"=some (.builtin "divmod"):=by decide+kernel
theorem Sy: ¬(("cells":Str)="turn"):=by decide+kernel
noncomputable def bx(c:Addr)(t:Int):List (Key × V):= [(Sum.inr "cells",.ref c),(Sum.inr "turn",.int t)]
theorem ua(c:Addr)(t:Int):fL (bx c t) (Sum.inr "cells":Key)=some (.ref c):=by
 simp [fL,bx]
theorem Hb(c:Addr)(t:Int):fL (bx c t) (Sum.inr "turn":Key)=some (.int t):=by
 simp [fL,bx,Sy]
theorem LR(c:Addr)(t u:Int):putK (bx c t) (Sum.inr "turn":Key) (.int u)=bx c u:=by
 simp [putK,bx,Sy]
structure uu(H:Hp)(d c:Addr)(t:Int):Prop where
 dc:H d=some (.dK (bx c t))
 cs: ∃ns:List Int,H c=some (.lst (ns.map V.int))/\0 < ns.length/\ns.length<=63
 t0:0<=t
 t1:t<=1000000
theorem uu.ne(b:uu H d c t):d≠c:=let ⟨_,h,_⟩:=b.cs;xt b.dc h (by intro z;cases z)
def Kp(d c:Addr)(H H':Hp):Prop:= ∀b o,H b=some o->b≠d->b≠c->H' b=some o
theorem uu.same(b:uu H d c t)(s:ax H H'):uu H' d c t:=⟨s _ _ b.dc,let ⟨ns,h,r⟩:=b.cs;⟨ns,s _ _ h,r⟩,b.t0,b.t1⟩
def Bb:Sp:=fun vs H Q _=> ∃(d c:Addr) (t m:Int),vs= [.ref d,.int m]/\uu H d c t/\t < 1000000/\0 < m/\m < 2^64/\ ∀(r:Int) (H':Hp),0<=r->r < m->uu H' d c (t+1)->Kp d c H H'->Q (.int r) H'
def qd(K:PySem.W.Frag):Sp:=fun vs H Q _=> ∃(a:Addr) (ns:List Int),vs= [.ref a]/\bS K H a (ns.map V.int)/\ns.length<=63/\ ∀(d c:Addr) (H':Hp),uu H' d c 0->ax H H'->Q (.ref d) H'
theorem ax.new(h:H p=none):ax H (upd H p o):=fun b u e=>by rw[ah (aq e h)];exact e
end LB
namespace L2
open PySem PySem.Spec PyProof.Rows
theorem DQ(hc:X.calm=true):eQ X (.builtin "sum") (fun xs H Q=> ∃a ns,xs= [.ref a]/\bS X.K H a (List.map V.int ns)/\Q (.int ns.sum) H):=by
 intro pins s σ H xs us Q I r h;obtain⟨a,ns,rfl,hq,q⟩:=h;obtain⟨u,rfl,ru⟩:=vals1 r;cases ru;obtain⟨ao,rv,pl,_⟩:=I.list hq;have hi:=intsAre_of rv;obtain⟨xs,hx⟩:=hi.allInts.items;have OR:s.heap.IsList a (intItems xs):=hx▸pl.isList;refine sum_intListG (I.ok.hd hc) OR fun h' tk t' hk=>?_;have e1:ns=xs.toList.map (·.1):=by
  rw[<-nums_intItems,<-hx];exact(show numsOf ao.toArray.toList=ns from hi.numsOf).symm
 have e2:preSum (numAt xs) xs.size=ns.sum:=by
  rw[preSum_eq,an8 (by simp),e1]
 rw[e2];exact⟨.int ns.sum,H,I.kept hk,⟨_,rfl⟩,q⟩
theorem rX: ∀{xs:List V} {us:List Value},xs.length=us.length->(∀(j:Nat) x u,xs[j]?=some x->us[j]?=some u->RelV x u)->Vals xs us
 | [],[],_,_=> .nil
 | [],_::_,h,_=>by simp at h
 | _::_,[],h,_=>by simp at h
 | x::xs,u::us,h,r=> .cons (r 0 x u rfl rfl) (rX (by simpa using h) fun j y v h1 h2=>r (j+1) y v (by simpa using h1) (by simpa using h2))
def Xb(ta:TA):TE:=fun σ H Q=>ta σ H fun vs H1=> ∃(i:Int) (n:Nat),vs= [.int i,.int (i+n)]/\ -(2^61)<=i/\i < 2^61/\n<=1000/\ ∀p,H1 p=none->Q (.ref p) (upd H1 p (.lst ((List.range n).map fun k=>V.int (i+(k:Nat)))))
theorem BL(hc:X.calm=true)(KW:Gl X "list")(Gm:X.mg "list"=none)(oA:Gl X "range")(OL:X.mg "range"=none)(ha:PA X [a,b] ta)(Cy:starEach [.Call (.Name "range" p2) [a,b] [] u5] X.env= [(false,eval (.Call (.Name "range" p2) [a,b] [] u5) X.env)]:=by rfl)(hs:starEach [a,b] X.env= [(false,eval a X.env),(false,eval b X.env)]:=by rfl)(nE:starEach [b] X.env= [(false,eval b X.env)]:=by rfl):
  PE X (.Call (.Name "list" p) [.Call (.Name "range" p2) [a,b] [] u5] [] pos) (Xb ta):=by
 intro pins s σ H Q I h;refine Call_ (cA I KW Gm LB.bD (ag3 ?_ Cy rfl));rw[Cy];show wpAny _ _ (spliced ((false,eval (.Call (.Name "range" p2) [a,b] [] u5) X.env)::backTo pos (starEach [] X.env))) _ _ s;refine al6 (Call_ (cA I oA OL boot_range (ag3 (aN (ha u5 pins s σ H _ I h) fun us s1 bZ=>?_) (by rw[hs,nE]) (by rw[nE];rfl))));obtain⟨vs,H1,I1,r1,q1⟩:=bZ;obtain⟨i,n,rfl,h1,h2,hn,q⟩:=q1;obtain⟨u,u2,rfl,⟨t,rfl⟩,⟨t',rfl⟩⟩:=vals2 r1;refine call_range_2 (ar0 ?_);have sz:Builtin.Range.rangeSize i (i+n) 1=(n:Int):=by rw[rangeSize_one];split <;> lia
 refine call_list_range (n:=n) (I.ok.hd hc) (IsRange.new ..) (small_one (by lia) (by lia) (by lia) (by lia)) sz (ac6 hn (by decide)) fun h' tk acc c' hk hS O3=>?_;have I2:Inv X pins σ H1 {s1 with heap:=s1.heap.push {cls:= .type "range",data:= .fields #[.int i t,.int (i+n) t',.int 1 s1.toks]},toks:=s1.toks+1}:=I1.kept fun b o e=>aa3 _ e;refine⟨.ref _,_,I2.laid (t':=tk) (o:= .lst ((List.range n).map fun k=>V.int (i+(k:Nat)))) hk (ab2 _) ⟨by rw[aa1,ad4];exact ac6 hn (by decide),acc.toList,c',?_,by simpa using hS⟩,rfl,q _ (I2.aI.fresh (ab2 _))⟩;refine rX (by rw[aa1,ad4,ai8,O3.1]) fun j x v hx hv=>?_;have hj:j < n:=by
  have:=(aa5.mp hx).1;rw[aa1,ad4] at this;exact this
 rw[aa8,ah9 hj] at hx;cases hx;obtain⟨t2,rfl⟩:=O3.2 j v (by simpa using hv);exact⟨t2,by rw[Int.mul_one]⟩
section
variable{X:Cx}
def w6(K:PySem.W.Frag):R2:=fun x y H Q=> ∃p q xs,x= .ref p/\y= .ref q/\dB K H p xs/\dB K H q []/\Q (.bl (!xs.isEmpty)) H
theorem yZ(hu:X.A.units < cLine):iR X (compareOp .NotEq) (w8 X.K):=by
 intro pins s σ H x y v u Q I rx ry h;obtain⟨p,q,xs,rfl,rfl,h1,h2,hq⟩:=h;cases rx;cases ry;obtain⟨ao,rv,pl,_⟩:=I.list h1;obtain⟨cf,iY,m7,_⟩:=I.list h2;cases iY;cases rv with
 | nil=>exact SeqAt.RcNeAt.lists (e:=fun _=>true) pl.isList m7.isList rfl hu (fun j h1 _=>absurd h1 (by simp)) _ _ _ _ ⟨.bl false,H,I,rfl,hq⟩
 | cons r rr=>exact SeqAt.RcNeAt.lists_lengths pl.isList m7.isList (by simp) hu _ _ _ _ ⟨.bl true,H,I,rfl,hq⟩
theorem yY(hu:X.A.units < cLine):iR X (compareOp .NotEq) (w6 X.K):=by
 intro pins s σ H x y v u Q I rx ry h;obtain⟨p,q,xs,rfl,rfl,h1,h2,hq⟩:=h;cases rx;cases ry;obtain⟨ao,rv,pl,_⟩:=I.tuple h1;obtain⟨cf,iY,m7,_⟩:=I.tuple h2;cases iY;cases rv with
 | nil=>exact SeqAt.RcNeAt.tuples (e:=fun _=>true) (show s.heap.IsTuple p _ from pl) (show s.heap.IsTuple q _ from m7) hu (fun j h1 _=>absurd h1 (by simp)) _ _ _ _ ⟨.bl false,H,I,by simp [RelV],hq⟩
 | cons r rr=>exact SeqAt.RcNeAt.tuples (e:=fun _=>true) (show s.heap.IsTuple p _ from pl) (show s.heap.IsTuple q _ from m7) hu (fun j _ h2=>absurd h2 (by simp)) _ _ _ _ ⟨.bl true,H,I,by simp [RelV],hq⟩
end
def nX(h:Heap)(it a:Addr)(xs:Array Value)(k:Nat):Prop:=(h.IsListIter it a k/\h.IsList a xs)\/(h.IsTupleIter it a k/\h.IsTuple a xs)
theorem nX.ext{h h':Heap}(z:nX h it a xs k)(e1: ∀o,h.get? it=some o->h'.get? it=some o)(e2: ∀o,h.get? a=some o->h'.get? a=some o):nX h' it a xs k:=by
 rcases z with ⟨z1,z2⟩ | ⟨z1,z2⟩
 . exact .inl ⟨let ⟨o,q,r⟩:=z1;⟨o,e1 o q,r⟩,let ⟨o,q,r⟩:=z2;⟨o,e2 o q,r⟩⟩
 . exact .inr ⟨let ⟨o,q,r⟩:=z1;⟨o,e1 o q,r⟩,let ⟨o,q,r⟩:=z2;⟨o,e2 o q,r⟩⟩
theorem vj(z:nX s.heap it a xs k)(vC:a≠it)(hy:xs[k]?=some y)(hQ: ∀h',nX h' it a xs (k+1)->Heap.SameBut it s.heap h'->Q y {s with heap:=h'}):wpAny (model prog w) A (Builtin.SmallTypes.nextOf (.ref it)) Q E s:=by
 rcases z with ⟨z1,z2⟩ | ⟨z1,z2⟩
 . exact wpAny_nextOf_list_item z1 z2 hy fun h' q sb=>hQ h' (.inl ⟨q,let ⟨o,e,r⟩:=z2;⟨o,(sb.2 a vC).trans e,r⟩⟩) sb
 . exact sg z1 z2 hy fun h' q sb=>hQ h' (.inr ⟨q,let ⟨o,e,r⟩:=z2;⟨o,(sb.2 a vC).trans e,r⟩⟩) sb
theorem Cf(hh:A.handled=none)(z:nX s.heap it a xs k)(hy:xs[k]?=none)(hE: ∀h' e,Heap.ExtBut it s.heap h'->(∃o,h'.get? e=some o/\o.cls= .type "StopIteration")->E (.ref e) {s with heap:=h'}):wpAny (model prog w) A (Builtin.SmallTypes.nextOf (.ref it)) Q E s:=by
 rcases z with ⟨z1,z2⟩ | ⟨z1,z2⟩
 . exact wpAny_nextOf_list_end hh z1 z2 hy hE
 . exact si hh z1 z2 hy hE
theorem yr{z TI TO i1 i2 l1 l2:Addr}{k1 k2:Nat}{xs ys:Array Value}{x y a b:Value}{Q:Value->Shared->Prop}(D:ZipApart z TI TO i1 i2 l1 l2)(hz:IsZip s.heap z TI TO .none)(La:IsPair s.heap TI (.ref i1) (.ref i2))(K9:IsPair s.heap TO a b)
  (h1:nX s.heap i1 l1 xs k1) (h2:nX s.heap i2 l2 ys k2) (hx:xs[k1]?=some x) (hy:ys[k2]?=some y)
  (hQ: ∀h',IsZip h' z TI TO (rawInt s.heap.objs.size)->IsPair h' TO x y->nX h' i1 l1 xs (k1+1)->nX h' i2 l2 ys (k2+1)->IsPair h' s.heap.objs.size x y->h'.objs.size=s.heap.objs.size+1->
   (∀c o,c≠z->c≠TO->c≠i1->c≠i2->s.heap.get? c=some o->h'.get? c=some o)->Q (.ref s.heap.objs.size) {s with heap:=h'}):wpAny (model prog w) A (Builtin.«zip.__next__» ⟨[.ref z],[]⟩) (fun fin s'=> ∃v,fin= .done (.ret v)/\Q v s') E s:=by
 show wpAny _ _ (field (.ref z) 2 >>=_) _ _ _;refine aa0 (ag4 hz rfl (x:= .bool false) rfl ?_);show wpAny _ _ (field (.ref z) 3 >>=_) _ _ _;refine aa0 (ag4 hz rfl (x:= .ref TI) rfl ?_);refine aa0 (aj5 La rfl ?_);show wpAny _ _ (Builtin.SmallTypes.ownedTupleIsFree (.ref z) >>=_) _ _ _;refine aa0 ?_;unfold Builtin.SmallTypes.ownedTupleIsFree;refine aa0 (ag4 hz rfl (x:= .none) rfl (aa7 ?_));simp only [if_true];refine aa0 (ap9 ?_);refine aa0 (ag4 hz rfl (x:= .ref TO) rfl ?_);refine aa0 (al4 hz (by simp) fun h₁ k9 dG=>?_);replace k9:IsZip h₁ z TI TO .ellipsis:=k9;refine aa0 ?_;simp only [List.zipIdx_cons,List.zipIdx_nil,List.forIn_cons,List.forIn_nil]
 refine aa0 (aa0 (wpAny_onRaise ?_));show wpAny _ _ (Builtin.SmallTypes.nextOf (.ref i1) >>=_) _ _ _;refine aa0 (vj (h1.ext (fun o e=>dG.extBut _ _ D.i1z e) fun o e=>dG.extBut _ _ D.l1z e) D.l1i1 hx fun h₂ IA gX=>aa7 ?_);have nG:IsPair h₂ TO a b:=gX.extBut _ _ D.TOi1 (dG.extBut _ _ D.TOz K9);refine aa0 (aj5 nG rfl ?_);refine aa0 (wpAny_updateSeq_pair nG fun h₃ qR gW=>?_);replace qR:IsPair h₃ TO x b:=qR;refine aa0 (ap1 (aa7 ?_));refine aa0 (aa0 (wpAny_onRaise ?_));show wpAny _ _ (Builtin.SmallTypes.nextOf (.ref i2) >>=_) _ _ _;have k3: ∀c o,c≠z->c≠i1->c≠TO->s.heap.get? c=some o->h₃.get? c=some o:=fun c o c1 c2 c3 e=>gW.extBut _ _ c3 (gX.extBut _ _ c2 (dG.extBut _ _ c1 e));refine aa0 (vj (h2.ext (fun o e=>k3 _ o D.i2z D.i12.symm D.TOi2.symm e) fun o e=>k3 _ o D.l2z D.l2i1 D.l2TO e) D.l2i2 hy fun h₄ O7 jI=>aa7 ?_);have CI:IsPair h₄ TO x b:=jI.extBut _ _ D.TOi2 qR;refine aa0 (aj5 CI rfl ?_);refine aa0 (wpAny_updateSeq_pair CI fun h₅ qQ iP=>?_);replace qQ:IsPair h₅ TO x y:=qQ;refine aa0 (ap1 (aa7 (aa7 ?_)));refine aa0 (aj5 qQ rfl ?_);refine aa0 (wpAny_newTuple ?_);have hsz:h₅.objs.size=s.heap.objs.size:=by rw[iP.1,jI.1,gW.1,gX.1,dG.1]
 have k5: ∀c o,c≠z->c≠TO->c≠i1->c≠i2->s.heap.get? c=some o->h₅.get? c=some o:=fun c o c1 c2 c3 c4 e=>iP.extBut _ _ c2 (jI.extBut _ _ c4 (k3 c o c1 c3 c2 e));have Ie:IsZip h₅ z TI TO .ellipsis:=iP.extBut _ _ D.TOz.symm (jI.extBut _ _ D.i2z.symm (gW.extBut _ _ D.TOz.symm (gX.extBut _ _ D.i1z.symm k9)));have f1:nX h₅ i1 l1 xs (k1+1):=IA.ext (fun o e=>iP.extBut _ _ D.TOi1.symm (jI.extBut _ _ D.i12 (gW.extBut _ _ D.TOi1.symm e))) fun o e=>iP.extBut _ _ D.l1TO (jI.extBut _ _ D.l1i2 (gW.extBut _ _ D.l1TO e));have f2:nX h₅ i2 l2 ys (k2+1):=O7.ext (fun o e=>iP.extBut _ _ D.TOi2.symm e) fun o e=>iP.extBut _ _ D.l2TO e;have MU:z < h₅.objs.size:=ac2 Ie;show wpAny _ _ (Builtin.SmallTypes.ownedTupleHandOut (.ref z) (.ref h₅.objs.size) >>=_) _ _ _;refine aa0 ?_;unfold Builtin.SmallTypes.ownedTupleHandOut;have OB:IsZip (h₅.push {cls:= .type "tuple",data:= .seq #[x,y]}) z TI TO .ellipsis:=aa3 _ Ie;refine aa0 (al4 OB (by simp) fun h₇ Ct Cv=>?_);replace Ct:IsZip h₇ z TI TO (rawInt h₅.objs.size):=Ct;refine al4 Ct (by simp) fun h₈ xH Cu=>?_
 replace xH:IsZip h₈ z TI TO (rawInt h₅.objs.size):=xH
 have up: ∀c o,c≠z->h₅.get? c=some o->h₈.get? c=some o:=fun c o c1 e=>Cu.extBut _ _ c1 (Cv.extBut _ _ c1 (aa3 _ e));have pT:IsPair h₈ h₅.objs.size x y:=Cu.extBut _ _ (am5 MU) (Cv.extBut _ _ (am5 MU) (ab6 _ rfl));have s8:h₈.objs.size=h₅.objs.size+1:=by rw[Cu.1,Cv.1,af7]
 rw[hsz] at xH pT s8;refine aa7 ⟨_,rfl,?_⟩;show Q (.ref h₅.objs.size) _;rw[hsz];exact hQ h₈ xH (up _ _ D.TOz qQ) (f1.ext (fun o e=>up _ o D.i1z e) fun o e=>up _ o D.l1z e) (f2.ext (fun o e=>up _ o D.i2z e) fun o e=>up _ o D.l2z e) pT s8 fun c o c1 c2 c3 c4 e=>up c o c1 (k5 c o c1 c2 c3 c4 e)
theorem yn{z TI TO i1 i2 l1 l2:Addr}{k1 k2:Nat}(hh:A.handled=none)(D:ZipApart z TI TO i1 i2 l1 l2)(hz:IsZip s.heap z TI TO .none)(La:IsPair s.heap TI (.ref i1) (.ref i2))(K9:IsPair s.heap TO a b)(h1:nX s.heap i1 l1 xs k1)(h2:nX s.heap i2 l2 ys k2)(K1:xs[k1]?=none\/ys[k2]?=none)(hE: ∀h' e,(∀c o,c≠z->c≠TO->c≠i1->c≠i2->s.heap.get? c=some o->h'.get? c=some o)->(∃o,h'.get? e=some o/\o.cls= .type "StopIteration")->E (.ref e) {s with heap:=h'}):wpAny (model prog w) A (Builtin.«zip.__next__» ⟨[.ref z],[]⟩) Q E s:=by
 show wpAny _ _ (field (.ref z) 2 >>=_) _ _ _;refine aa0 (ag4 hz rfl (x:= .bool false) rfl ?_);show wpAny _ _ (field (.ref z) 3 >>=_) _ _ _;refine aa0 (ag4 hz rfl (x:= .ref TI) rfl ?_);refine aa0 (aj5 La rfl ?_);show wpAny _ _ (Builtin.SmallTypes.ownedTupleIsFree (.ref z) >>=_) _ _ _;refine aa0 ?_;unfold Builtin.SmallTypes.ownedTupleIsFree;refine aa0 (ag4 hz rfl (x:= .none) rfl (aa7 ?_));simp only [if_true];refine aa0 (ap9 ?_);refine aa0 (ag4 hz rfl (x:= .ref TO) rfl ?_);refine aa0 (al4 hz (by simp) fun h₁ k9 dG=>?_);replace k9:IsZip h₁ z TI TO .ellipsis:=k9;refine aa0 ?_;simp only [List.zipIdx_cons,List.zipIdx_nil,List.forIn_cons,List.forIn_nil]
 refine aa0 (aa0 (wpAny_onRaise ?_));show wpAny _ _ (Builtin.SmallTypes.nextOf (.ref i1) >>=_) _ _ _;have g1:nX h₁ i1 l1 xs k1:=h1.ext (fun o e=>dG.extBut _ _ D.i1z e) fun o e=>dG.extBut _ _ D.l1z e;cases hx:xs[k1]? with
 | none=>
  refine aa0 (Cf hh g1 hx fun h₂ e gX he=>?_);obtain⟨oe,KR,O1⟩:=he;have Ih:IsZip h₂ z TI TO .ellipsis:=gX _ _ D.i1z.symm k9;have Ti:e≠z:=fun y=>by subst y;rw[Ih] at KR;cases KR;simp at O1
  exact al4 Ih (by simp) fun h₃ _ gW=>hE h₃ e (fun c o c1 _ c3 _ y=>gW.extBut _ _ c1 (gX _ _ c3 (dG.extBut _ _ c1 y))) ⟨oe,gW.extBut _ _ Ti KR,O1⟩
 | some x=>
  have hy:ys[k2]?=none:=K1.resolve_left fun q=>by rw[hx] at q;cases q
  refine aa0 (vj g1 D.l1i1 hx fun h₂ IA gX=>aa7 ?_);have nG:IsPair h₂ TO a b:=gX.extBut _ _ D.TOi1 (dG.extBut _ _ D.TOz K9);refine aa0 (aj5 nG rfl ?_);refine aa0 (wpAny_updateSeq_pair nG fun h₃ qR gW=>?_);refine aa0 (ap1 (aa7 ?_));refine aa0 (aa0 (wpAny_onRaise ?_));show wpAny _ _ (Builtin.SmallTypes.nextOf (.ref i2) >>=_) _ _ _;have k3: ∀c o,c≠z->c≠i1->c≠TO->s.heap.get? c=some o->h₃.get? c=some o:=fun c o c1 c2 c3 e=>gW.extBut _ _ c3 (gX.extBut _ _ c2 (dG.extBut _ _ c1 e));refine aa0 (Cf hh (h2.ext (fun o e=>k3 _ o D.i2z D.i12.symm D.TOi2.symm e) fun o e=>k3 _ o D.l2z D.l2i1 D.l2TO e) hy fun h₄ e jI he=>?_);obtain⟨oe,KR,O1⟩:=he;have Ig:IsZip h₄ z TI TO .ellipsis:=jI _ _ D.i2z.symm (gW.extBut _ _ D.TOz.symm (gX.extBut _ _ D.i1z.symm k9));have Ti:e≠z:=fun y=>by subst y;rw[Ig] at KR;cases KR;simp at O1
  exact al4 Ig (by simp) fun h₅ _ iP=>hE h₅ e (fun c o c1 c2 c3 c4 y=>iP.extBut _ _ c1 (jI _ _ c4 (k3 c o c1 c3 c2 y))) ⟨oe,iP.extBut _ _ Ti KR,O1⟩
theorem yq {z TI TO i1 i2 l1 l2 : Addr} {k1 k2 : Nat} (D : ZipApart z TI TO i1 i2 l1 l2) (hz : IsZip s.heap z TI TO .none) (La : IsPair s.heap TI (.ref i1) (.ref i2)) (K9 : IsPair s.heap TO a b) (h1 : nX s.heap i1 l1 xs k1) (h2 : nX s.heap i2 l2 ys k2) (hx : xs[k1]? = some x) (hy : ys[k2]? = some y) (hQ : ∀ h', IsZip h' z TI TO (rawInt s.heap.objs.size) -> IsPair h' TO x y -> nX h' i1 l1 xs (k1 + 1) -> nX h' i2 l2 ys (k2 + 1) -> IsPair h' s.heap.objs.size x y -> h'.objs.size = s.heap.objs.size + 1 ->
   (∀c o,c≠z->c≠TO->c≠i1->c≠i2->s.heap.get? c=some o->h'.get? c=some o)->Q (some (.ref s.heap.objs.size)) {s with heap:=h'}):wpAny (model prog w) A (pyNext (.ref z)) Q E s:=by
 have hT:s.TypeIs (.ref z) "zip":=⟨_,hz,rfl⟩;unfold pyNext;exact aa0 (wpAny_attempt (aj6 (name:=Str.ofString "__next__") hT F.slot_zip_next (am6 F.slot_zip_next hT F.entry_zip_next
   (yr D hz La K9 h1 h2 hx hy fun h' a1 a2 a3 a4 a5 a6 a7=>aa7 (hQ h' a1 a2 a3 a4 a5 a6 a7)) (F.args_zip_next_1 _))))
theorem AJ{z TI TO i1 i2 l1 l2:Addr}{k1 k2:Nat}(hh:A.handled=none)(D:ZipApart z TI TO i1 i2 l1 l2)(hz:IsZip s.heap z TI TO .none)(La:IsPair s.heap TI (.ref i1) (.ref i2))(K9:IsPair s.heap TO a b)(h1:nX s.heap i1 l1 xs k1)(h2:nX s.heap i2 l2 ys k2)(K1:xs[k1]?=none\/ys[k2]?=none)(hQ: ∀h',(∀c o,c≠z->c≠TO->c≠i1->c≠i2->s.heap.get? c=some o->h'.get? c=some o)->Q none {s with heap:=h'}):wpAny (model prog w) A (pyNext (.ref z)) Q E s:=by
 have hT:s.TypeIs (.ref z) "zip":=⟨_,hz,rfl⟩;unfold pyNext;refine aa0 (wpAny_attempt (aj6 (name:=Str.ofString "__next__") hT F.slot_zip_next (am6 F.slot_zip_next hT F.entry_zip_next (yn hh D hz La K9 h1 h2 K1 fun h' e hk he=>?_) (F.args_zip_next_1 _))));obtain⟨o,ho,hc⟩:=he;refine aa0 (wpAny_isInstance (T:="StopIteration") (b:=true) ⟨o,ho,hc⟩ isSubtype_stop ?_);exact aa7 (hQ _ hk)
open AutoSeq1 (wpAny_loadPart')
noncomputable def zC(b:Bool)(a:Addr):Obj:={cls:= .type (if b then "tuple_iterator" else "list_iterator"),data:= .fields #[.ref a,.int 0 0]}
def wy(b:Bool)(h:Heap)(a:Addr)(xs:Array Value):Prop:=match b with
 | true=>h.IsTuple a xs
 | false=>h.IsList a xs
noncomputable def fg(h:Heap)(b1 b2:Bool)(a1 a2:Addr):Heap:=(h.push (zC b1 a1)).push (zC b2 a2)
noncomputable def gw(h:Heap)(b1 b2:Bool)(a1 a2:Addr):Heap:=((fg h b1 b2 a1 a2).push {cls:= .type "tuple",data:= .seq #[.ref h.objs.size,.ref (h.push (zC b1 a1)).objs.size]}).push {cls:= .type "tuple",data:= .seq #[.none,.none]}
noncomputable def dm(h:Heap)(b1 b2:Bool)(a1 a2:Addr):Heap:=
 (gw h b1 b2 a1 a2).push {cls:= .type "zip",data:= .fields #[.none,.bool false,.bool false,.ref (fg h b1 b2 a1 a2).objs.size,.ref ((fg h b1 b2 a1 a2).push {cls:= .type "tuple",data:= .seq #[.ref h.objs.size,.ref (h.push (zC b1 a1)).objs.size]}).objs.size]}
theorem Jl(b1 b2:Bool)(a1 a2:Addr)(xs ys:Array Value):
  Meets (Builtin.«zip.__new__» ⟨[.type "zip",.ref a1,.ref a2],[]⟩) (fun _ R s=>wy b1 s.heap a1 xs/\wy b2 s.heap a2 ys/\R (.ok (.ret (.ref (gw s.heap b1 b2 a1 a2).objs.size))) {s with heap:=dm s.heap b1 b2 a1 a2}):=
 .of_wp fun prog w A R s h=>by
  obtain⟨hp,g,d,tk,os⟩:=s;obtain⟨h1,h2,h⟩:=h;have Cw:=sub_zip;cases b1 <;> cases b2
  . have q1:Heap.IsList (Shared.heap ⟨hp,g,d,tk,os⟩) a1 xs:=h1;have q2:Heap.IsList (Shared.heap ⟨hp.push {cls:= .type "list_iterator",data:= .fields #[.ref a1, .int 0 0]},g,d,tk,os⟩) a2 ys:=Heap.IsList.push h2 _;wp_walk using aj8 q1,aj8 q2
    exact⟨_,rfl,h⟩
  . have q1:Heap.IsList (Shared.heap ⟨hp,g,d,tk,os⟩) a1 xs:=h1;have q2:Heap.IsTuple (Shared.heap ⟨hp.push {cls:= .type "list_iterator",data:= .fields #[.ref a1, .int 0 0]},g,d,tk,os⟩) a2 ys:=let ⟨o,e,r⟩:=h2;⟨o,aa3 _ e,r⟩;wp_walk using aj8 q1,aj2 q2
    exact⟨_,rfl,h⟩
  . have q1:Heap.IsTuple (Shared.heap ⟨hp,g,d,tk,os⟩) a1 xs:=h1;have q2:Heap.IsList (Shared.heap ⟨hp.push {cls:= .type "tuple_iterator",data:= .fields #[.ref a1, .int 0 0]},g,d,tk,os⟩) a2 ys:=Heap.IsList.push h2 _;wp_walk using aj2 q1,aj8 q2
    exact⟨_,rfl,h⟩
  . have q1:Heap.IsTuple (Shared.heap ⟨hp,g,d,tk,os⟩) a1 xs:=h1;have q2:Heap.IsTuple (Shared.heap ⟨hp.push {cls:= .type "tuple_iterator",data:= .fields #[.ref a1, .int 0 0]},g,d,tk,os⟩) a2 ys:=let ⟨o,e,r⟩:=h2;⟨o,aa3 _ e,r⟩;wp_walk using aj2 q1,aj2 q2
    exact⟨_,rfl,h⟩
def oN(b:Bool)(H:Hp)(a:Addr)(xs:List V):Prop:=match b with
 | true=>H a=some (.tup xs)
 | false=>H a=some (.lst xs)
theorem oN.inj(h:oN b H a xs)(k:oN b H a ys):xs=ys:=by
 cases b
 . have h:H a=some (.lst xs):=h;have k:H a=some (.lst ys):=k;rw[h] at k;cases k;rfl
 . have h:H a=some (.tup xs):=h;have k:H a=some (.tup ys):=k;rw[h] at k;cases k;rfl
theorem oN.some{b:Bool}{H:Hp}{a:Addr}{xs:List V}(h:oN b H a xs): ∃o,H a=some o:=by
 cases b
 . exact⟨_,h⟩
 . exact⟨_,h⟩
def Az(b:Bool)(h:Heap)(it a:Addr)(k:Nat):Prop:=match b with
 | true=>h.IsTupleIter it a k
 | false=>h.IsListIter it a k
theorem Az.obj(z:Az b h it a k): ∃o,h.get? it=Option.some o/\ ∀v,o.data≠ .cell v:=by
 cases b
 . obtain⟨o,q,_,d⟩:=(show h.IsListIter it a k from z);exact⟨o,q,fun v y=>by rw[d] at y;cases y⟩
 . obtain⟨o,q,_,d⟩:=(show h.IsTupleIter it a k from z);exact⟨o,q,fun v y=>by rw[d] at y;cases y⟩
theorem Az.keep{h h':Heap}(z:Az b h it a k)(e: ∀o,h.get? it=Option.some o->h'.get? it=Option.some o):Az b h' it a k:=by
 cases b
 . obtain⟨o,q,r⟩:=(show h.IsListIter it a k from z);exact(show h'.IsListIter it a k from⟨o,e o q,r⟩)
 . obtain⟨o,q,r⟩:=(show h.IsTupleIter it a k from z);exact(show h'.IsTupleIter it a k from⟨o,e o q,r⟩)
theorem Az.Qw(z:Az b h it a k)(q:wy b h a xs):nX h it a xs k:=by
 cases b
 . exact .inl ⟨z,q⟩
 . exact .inr ⟨z,q⟩
theorem Cq(z:nX h it a xs k)(q:wy b h a xs):Az b h it a k:=by
 cases b
 . rcases z with ⟨z1,_⟩ | ⟨_,o,e1,e2,_⟩
   . exact z1
   . obtain⟨o',f1,f2,_⟩:=(show h.IsList a xs from q)
     rw[f1] at e1;cases e1;rw[f2] at e2;injection e2 with y;exact absurd y (by decide)
 . rcases z with ⟨_,o,e1,e2,_⟩ | ⟨z1,_⟩
   . obtain⟨o',f1,f2,_⟩:=(show h.IsTuple a xs from q)
     rw[f1] at e1;cases e1;rw[f2] at e2;injection e2 with y;exact absurd y (by decide)
   . exact z1
theorem Inv.Mu(I:Inv X pins σ H s)(h:oN b H a xs): ∃ao:List Value,Vals xs ao/\wy b s.heap a ao.toArray:=by
 cases b
 . obtain⟨ao,rv,pl,_⟩:=I.list (bS.of (show H a=Option.some (.lst xs) from h));exact⟨ao,rv,pl.isList⟩
 . obtain⟨ao,rv,pl,_⟩:=I.tuple (dB.of (show H a=Option.some (.tup xs) from h));exact⟨ao,rv,pl⟩
theorem Inv.yA{h':Heap}{t':Nat}{ch:List Addr}(I:Inv X pins σ H s)(hc: ∀b∈ch,dD X pins H b)(k: ∀b u,b∉ch->s.heap.get? b=some u->h'.get? b=some u):Inv X pins σ H {s with heap:=h',toks:=t'}:=by
 have En: ∀b u,H b=some u->b∉ch:=fun b u e z=>by rw[(hc b z).1] at e;cases e
 refine I.step (g':=s.gens) (d':=s.drawn) (ch:=ch) (fun b hb=>?_) (fun b u _ _ hn e _=>k b u hn e) (fun b u _ _ hn e _=>⟨u.slots,k b u hn e⟩) (fun _ _ _ _ n=>n)
  (fun b u hn e=>⟨u,k b u hn e⟩) (fun _ _ e=>e) (fun _ _ _ e=>e) (fun b ps e=>⟨#[],by rw[e];simp⟩) (fun m hm=>?_) (fun b u e=>?_) I.bare
 . obtain⟨f0,f1,f2,f3,f4,f5⟩:=hc b hb;exact⟨f3,f1,f4,f5⟩
 . obtain⟨ob,es,ep,ho,r⟩:=hm;exact⟨ob,es,ep,k _ ob (fun z=>(hc _ z).2.1 rfl) ho,r⟩
 . refine(I.aI b u e).fN (fun c v Iy q=>k c v ?_ q) (fun c q=>q) fun c xs q=>q;rcases Iy with z | z
   . rw[z];exact En b u e
   . exact En c _ z
structure Z5(n:Nat):Prop where
 a:n+2≠n+4
 b:n+3≠n+4
 c:n≠n+4
 d:n+1≠n+4
 e:n+2≠n+3
 f:n+2≠n
 g:n+2≠n+1
 h:n+3≠n
 i:n+3≠n+1
 j:n≠n+1
theorem bu(n:Nat):Z5 n:=⟨by lia,by lia,by lia,by lia,by lia,by lia,by lia,by lia,by lia,by lia⟩
noncomputable def Qg(b1 b2:Bool)(a1 a2:Addr):It:=
 ⟨fun i H=> ∃xs x ys y,oN b1 H a1 xs/\xs[i]?=some x/\oN b2 H a2 ys/\ys[i]?=some y,
  fun i H v H'=> ∃p x y,v= .ref p/\H p=none/\H'=upd H p (.tup [x,y])/\(∀xs,oN b1 H a1 xs->xs[i]?=some x)/\ ∀ys,oN b2 H a2 ys->ys[i]?=some y,
  fun i H=> ∃xs ys,oN b1 H a1 xs/\oN b2 H a2 ys/\(xs.length<=i\/ys.length<=i)⟩
theorem AY{P:Program}{w:World}{K:PySem.W.Frag}{es:List Expr}{x1}{tp:Pos}(b1 b2:Bool)(a1 a2:Addr)(n:Nat):
  Turn P w K (.Tuple es x1 tp) (Qg b1 b2 a1 a2) [n+4,n+2,n+3,n,n+1] (n+4) (fun i h=>IsZip h (n+4) (n+2) (n+3) .none/\IsPair h (n+2) (.ref n) (.ref (n+1))/\(∃a b,IsPair h (n+3) a b)/\Az b1 h n a1 i/\Az b2 h (n+1) a2 i) where
 mem:=by simp
 obj:=fun i h st b hb=>by
  obtain⟨z1,z2,⟨u,v,z3⟩,z4,z5⟩:=st;simp only [ac3,aa4,or_false] at hb;rcases hb with rfl | rfl | rfl | rfl | rfl
  . exact⟨_,z1,fun v y=>nomatch (show Data.fields _=Data.cell v from y)⟩
  . exact⟨_,z2,fun v y=>nomatch (show Data.seq _ _=Data.cell v from y)⟩
  . exact⟨_,z3,fun v y=>nomatch (show Data.seq _ _=Data.cell v from y)⟩
  . exact z4.obj
  . exact z5.obj
 keep:=fun i h h' st kk=>by
  obtain⟨z1,z2,⟨u,v,z3⟩,z4,z5⟩:=st;exact⟨kk _ (by simp) _ z1,kk _ (by simp) _ z2,⟨u,v,kk _ (by simp) _ z3⟩,z4.keep fun o q=>kk _ (by simp) o q,z5.keep fun o q=>kk _ (by simp) o q⟩
 item:=by
  intro X hP hw hK hc i pins s σ H E I hf st hg;subst hP hw hK;obtain⟨xs,x,ys,y,q1,hx,q2,hy⟩:=hg;obtain⟨ao,rv,p1⟩:=I.Mu q1;obtain⟨cf,iY,p2⟩:=I.Mu q2;obtain⟨u,hu,ru⟩:=rv.get hx;obtain⟨u2,SO,NA⟩:=iY.get hy;obtain⟨z1,z2,⟨c1,c2,z3⟩,z4,z5⟩:=st;have ap: ∀{b:Bool} {a:Addr} {zs:List V},oN b H a zs-> ∀f∈ [n+4,n+2,n+3,n,n+1],a≠f:=fun hq f Gs e=>by
   obtain⟨o,q⟩:=hq.some;have:=(hf f Gs).1;rw[<-e,q] at this;cases this
  have D:ZipApart (n+4) (n+2) (n+3) n (n+1) a1 a2:=⟨(bu n).a,(bu n).b,(bu n).c,(bu n).d,(bu n).e,(bu n).f,(bu n).g,(bu n).h,(bu n).i,(bu n).j,ap q1 _ (by simp),ap q1 _ (by simp),ap q1 _ (by simp),ap q1 _ (by simp),ap q2 _ (by simp),ap q2 _ (by simp),ap q2 _ (by simp),ap q2 _ (by simp)⟩
  refine yq D z1 z2 z3 (z4.Qw p1) (z5.Qw p2) (x:=u) (y:=u2) (by simpa using hu) (by simpa using SO) fun h' e1 e2 e3 e4 e5 e6 e7=>⟨_,rfl,?_⟩
  refine wpAny_letOwnedTupleGo_zip e1 fun h2 g1 sb=>?_;have MU:n+4 < s.heap.objs.size:=ac2 z1;have I1:Inv X pins σ (upd H s.heap.objs.size (.tup [x,y])) {s with heap:=h2,toks:=s.toks}:=by
   refine I.km (ch:= [n+4,n+2,n+3,n,n+1]) hf (ab2 _) (fun b o hb q=>?_) ⟨by show 2<=sizeLine;decide,[u,u2],.cons ru (.cons NA .nil),?_⟩
   . have m: ∀f,f∈ [n+4,n+2,n+3,n,n+1]->b≠f:=fun f Gs e=>hb (e▸Gs);exact(sb.2 b (m _ (by simp))).trans (e7 b o (m _ (by simp)) (m _ (by simp)) (m _ (by simp)) (m _ (by simp)) q)
   . exact⟨_,(sb.2 _ (am5 MU)).trans e5,rfl,rfl,_,rfl⟩
  have up: ∀b o,b≠n+4->h'.get? b=some o->h2.get? b=some o:=fun b o hb q=>(sb.2 b hb).trans q;have Ib: ∀{b:Bool} {a:Addr} {zs:Array Value} {ws:List V},oN b H a ws->wy b s.heap a zs->wy b h' a zs:=fun{b a zs ws} hq hs=>by
   have k: ∀o,s.heap.get? a=some o->h'.get? a=some o:=fun o q=>e7 a o (ap hq _ (by simp)) (ap hq _ (by simp)) (ap hq _ (by simp)) (ap hq _ (by simp)) q;cases b
   . obtain⟨o,f1,f2⟩:=(show s.heap.IsList a zs from hs);exact(show h'.IsList a zs from⟨o,k o f1,f2⟩)
   . obtain⟨o,f1,f2⟩:=(show s.heap.IsTuple a zs from hs);exact(show h'.IsTuple a zs from⟨o,k o f1,f2⟩)
  refine⟨.ref s.heap.objs.size,_,I1,rfl,⟨_,x,y,rfl,I.aI.fresh (ab2 _),rfl,fun zs hz=>by rw[hz.inj q1];exact hx,fun zs hz=>by rw[hz.inj q2];exact hy⟩,⟨g1,?_,⟨u,u2,up _ _ (bu n).b e2⟩,?_,?_⟩,fun b hb=>?_⟩
  . exact up _ _ (bu n).a (e7 _ _ (bu n).a (bu n).e (bu n).f (bu n).g z2)
  . exact(Cq e3 (Ib q1 p1)).keep fun o q=>up _ o (bu n).c q
  . exact(Cq e4 (Ib q2 p2)).keep fun o q=>up _ o (bu n).d q
  . rw[ah (fun z=>?_)]
    . exact(hf b hb).1
    . have WD:n+4 < s.heap.objs.size:=MU;have: ∀f:Nat,f∈ [n+4,n+2,n+3,n,n+1]->f < s.heap.objs.size:=fun f Gs=>by
       simp only [ac3,aa4,or_false] at Gs;lia
      exact absurd (z▸this b hb) (ae8 _)
 done:=by
  intro X hP hw hK hc i pins s σ H E I hf st hg;subst hP hw hK;obtain⟨xs,ys,q1,q2,hx⟩:=hg;obtain⟨ao,rv,p1⟩:=I.Mu q1;obtain⟨cf,iY,p2⟩:=I.Mu q2;have l1:=rv.length;have l2:=iY.length;obtain⟨z1,z2,⟨c1,c2,z3⟩,z4,z5⟩:=st;have ap: ∀{b:Bool} {a:Addr} {zs:List V},oN b H a zs-> ∀f∈ [n+4,n+2,n+3,n,n+1],a≠f:=fun hq f Gs e=>by
   obtain⟨o,q⟩:=hq.some;have:=(hf f Gs).1;rw[<-e,q] at this;cases this
  have D:ZipApart (n+4) (n+2) (n+3) n (n+1) a1 a2:=⟨(bu n).a,(bu n).b,(bu n).c,(bu n).d,(bu n).e,(bu n).f,(bu n).g,(bu n).h,(bu n).i,(bu n).j,ap q1 _ (by simp),ap q1 _ (by simp),ap q1 _ (by simp),ap q1 _ (by simp),ap q2 _ (by simp),ap q2 _ (by simp),ap q2 _ (by simp),ap q2 _ (by simp)⟩
  refine AJ (I.ok.hd hc) D z1 z2 z3 (z4.Qw p1) (z5.Qw p2) (hx.elim (fun h=> .inl (by rw[List.getElem?_toArray];exact ah4 (by lia))) fun h=> .inr (by rw[List.getElem?_toArray];exact ah4 (by lia))) fun h' kk=>⟨rfl,?_⟩
  refine I.yA (ch:= [n+4,n+2,n+3,n,n+1]) hf fun b o hb q=>?_;have m: ∀f,f∈ [n+4,n+2,n+3,n,n+1]->b≠f:=fun f Gs e=>hb (e▸Gs);exact kk b o (m _ (by simp)) (m _ (by simp)) (m _ (by simp)) (m _ (by simp)) q
 self:=fun A i s Q E st h=>wpAny_pyIter_zip st.1 h
theorem Ag:bootBuiltins "zip"=some (.type "zip"):=by decide+kernel
def Ow(ta:TA):TI:=fun σ H R=>ta σ H fun vs H1=> ∃b1 b2 a1 a2 xs ys,vs= [.ref a1,.ref a2]/\oN b1 H1 a1 xs/\oN b2 H1 a2 ys/\R (Qg b1 b2 a1 a2) H1
theorem uA{x1}(I:Inv X pins σ H s)(q:R (Qg b1 b2 a1 a2) H):
  wpAny (model X.prog X.w) X.A (pyIter (.ref (gw s.heap b1 b2 a1 a2).objs.size)) (P8 X pins σ (.Tuple es x1 tp) R) E {s with heap:=dm s.heap b1 b2 a1 a2,toks:=tk}:=by
 have z1:(s.heap.push (zC b1 a1)).objs.size=s.heap.objs.size+1:=af7 ..;have z2:(fg s.heap b1 b2 a1 a2).objs.size=s.heap.objs.size+2:=by unfold fg;rw[af7,z1]
 have z3:((fg s.heap b1 b2 a1 a2).push {cls:= .type "tuple",data:= .seq #[.ref s.heap.objs.size,.ref (s.heap.push (zC b1 a1)).objs.size]}).objs.size=s.heap.objs.size+3:=by rw[af7,z2]
 have z4:(gw s.heap b1 b2 a1 a2).objs.size=s.heap.objs.size+4:=by unfold gw;rw[af7,z3]
 have keep: ∀c o,s.heap.get? c=some o->(dm s.heap b1 b2 a1 a2).get? c=some o:=fun c o e=>by
  unfold dm gw fg;exact aa3 _ (aa3 _ (aa3 _ (aa3 _ (aa3 _ e))))
 have g5:IsZip (dm s.heap b1 b2 a1 a2) (s.heap.objs.size+4) (s.heap.objs.size+2) (s.heap.objs.size+3) .none:=by
  have:=ab6 (gw s.heap b1 b2 a1 a2) (o:={cls:= .type "zip",data:= .fields #[.none,.bool false,.bool false,.ref (fg s.heap b1 b2 a1 a2).objs.size,.ref ((fg s.heap b1 b2 a1 a2).push {cls:= .type "tuple",data:= .seq #[.ref s.heap.objs.size,.ref (s.heap.push (zC b1 a1)).objs.size]}).objs.size]}) rfl;rw[z4,z2,z3] at this;unfold dm;rw[z2,z3];exact this
 have g3:IsPair (dm s.heap b1 b2 a1 a2) (s.heap.objs.size+2) (.ref s.heap.objs.size) (.ref (s.heap.objs.size+1)):=by
  have:=ab6 (fg s.heap b1 b2 a1 a2) (o:={cls:= .type "tuple",data:= .seq #[.ref s.heap.objs.size,.ref (s.heap.push (zC b1 a1)).objs.size]}) rfl;rw[z2] at this;have h2:(dm s.heap b1 b2 a1 a2).get? (s.heap.objs.size+2)=some {cls:= .type "tuple",data:= .seq #[.ref s.heap.objs.size,.ref (s.heap.push (zC b1 a1)).objs.size]}:=by
   unfold dm gw;exact aa3 _ (aa3 _ this)
  rw[z1] at h2;exact h2
 have g4:IsPair (dm s.heap b1 b2 a1 a2) (s.heap.objs.size+3) .none .none:=by
  have:=ab6 ((fg s.heap b1 b2 a1 a2).push {cls:= .type "tuple",data:= .seq #[.ref s.heap.objs.size,.ref (s.heap.push (zC b1 a1)).objs.size]}) (o:={cls:= .type "tuple",data:= .seq #[.none,.none]}) rfl;rw[z3] at this;unfold dm gw;exact aa3 _ this
 have i1:Az b1 (dm s.heap b1 b2 a1 a2) s.heap.objs.size a1 0:=by
  have h:(dm s.heap b1 b2 a1 a2).get? s.heap.objs.size=some (zC b1 a1):=by
   unfold dm gw fg;refine aa3 _ (aa3 _ (aa3 _ (aa3 _ (ab6 _ ?_))));cases b1 <;> rfl
  cases b1
  . exact(show Heap.IsListIter _ _ _ _ from⟨_,h,rfl,rfl⟩)
  . exact(show Heap.IsTupleIter _ _ _ _ from⟨_,h,rfl,rfl⟩)
 have i2:Az b2 (dm s.heap b1 b2 a1 a2) (s.heap.objs.size+1) a2 0:=by
  have h:(dm s.heap b1 b2 a1 a2).get? (s.heap.push (zC b1 a1)).objs.size=some (zC b2 a2):=by
   unfold dm gw fg;refine aa3 _ (aa3 _ (aa3 _ (ab6 _ ?_)));cases b2 <;> rfl
  rw[z1] at h;cases b2
  . exact(show Heap.IsListIter _ _ _ _ from⟨_,h,rfl,rfl⟩)
  . exact(show Heap.IsTupleIter _ _ _ _ from⟨_,h,rfl,rfl⟩)
 rw[z4];refine wpAny_pyIter_zip g5 ?_;refine⟨s.heap.objs.size+4,_,_,Qg b1 b2 a1 a2,H,rfl,I.kept keep,AY b1 b2 a1 a2 s.heap.objs.size,⟨g5,g3,⟨_,_,g4⟩,i1,i2⟩,fun c hc=>?_,q⟩;have hle:s.heap.objs.size<=c:=by
  have: ∀n f:Nat,f∈ [n+4,n+2,n+3,n,n+1]->n<=f:=fun n f hf=>by
   simp only [ac3,aa4,or_false] at hf;omega
  exact this _ _ hc
 exact I.tG hle (I.aI.fresh hle)
theorem kz{x1}(hg:Gl X "zip")(hm:X.mg "zip"=none)(ha:PA X [e,f] t)(hs:starEach [e,f] X.env= [(false,eval e X.env),(false,eval f X.env)]:=by rfl)(nE:starEach [f] X.env= [(false,eval f X.env)]:=by rfl):
  PI X (.Tuple es x1 tp) (.Call (.Name "zip" p) [e,f] [] pos) (Ow t):=by
 intro pins s σ H R I h;refine Call_ (cA I hg hm Ag (ag3 (aN (ha pos pins s σ H _ I h) fun us s1 bZ=>?_) (by rw[hs,nE]) (by rw[nE];rfl)));obtain⟨vs,H1,I1,r1,q1⟩:=bZ;obtain⟨b1,b2,a1,a2,xs,ys,rfl,k1,k2,q⟩:=q1;obtain⟨u,u2,rfl,ru,NA⟩:=vals2 r1;cases ru;cases NA;obtain⟨ao,rv,p1⟩:=I1.Mu k1;obtain⟨cf,iY,p2⟩:=I1.Mu k2;exact j8 F.called_zip (by decide) (F.typeCall_zip_2 _ _) (F.newCall_zip_2 _ _) (fun obj=>F.args_object_init_3 obj _ _) F.entry_zip_new (Jl b1 b2 a1 a2 ao.toArray cf.toArray) ⟨p1,p2,⟨_,ab6 _ rfl,rfl⟩,uA I1 q⟩
end L2
namespace LW
open PySem L2 LB PyProof.Rows
theorem ax.none{H H':Hp}{a:Addr}(s:ax H H')(h:H' a=none):H a=none:=by
 cases e:H a with
 | none=>rfl
 | some o=>rw[s _ _ e] at h;cases h
end LW
namespace LD
open PySem PySem.Spec L2 LB PyProof.Rows
inductive Dt where
 | aF | bl (b:Bool) | int (i:Int) | str (x:Str) | lst (ds:List Dt) | tup (ds:List Dt) | vV (ks:List Key) (ds:List Dt) | lN (ks:List (List Key)) (ds:List Dt)
noncomputable def Dt.SE:Dt->Bool
 | .aF=>true
 | _=>false
inductive Rep(M:Addr->Prop)(H:Hp):V->Dt->Prop where
 | aF:Rep M H .aF .aF
 | bl (b:Bool):Rep M H (.bl b) (.bl b)
 | int (i:Int):Rep M H (.int i) (.int i)
 | str (x:Str):Rep M H (.str x) (.str x)
 | lst {a:Addr} {xs:List V} {ds:List Dt}:H a=some (.lst xs)-> ¬M a->xs.length=ds.length->(∀(i:Nat) x d,xs[i]?=some x->ds[i]?=some d->Rep M H x d)->Rep M H (.ref a) (.lst ds)
 | tup {a:Addr} {xs:List V} {ds:List Dt}:H a=some (.tup xs)-> ¬M a->xs.length=ds.length->(∀(i:Nat) x d,xs[i]?=some x->ds[i]?=some d->Rep M H x d)->Rep M H (.ref a) (.tup ds)
 | vV {a:Addr} {vs:List (Key × V)} {ks:List Key} {ds:List Dt}:H a=some (.dK vs)-> ¬M a->vs.map (·.1)=ks->(vs.map (·.2)).length=ds.length->(∀(i:Nat) x d,(vs.map (·.2))[i]?=some x->ds[i]?=some d->Rep M H x d)->Rep M H (.ref a) (.vV ks ds)
 | lN {a:Addr} {vs:List (List Key × V)} {ks:List (List Key)} {ds:List Dt}:H a=some (.dT vs)-> ¬M a->vs.map (·.1)=ks->(vs.map (·.2)).length=ds.length->(∀(i:Nat) x d,(vs.map (·.2))[i]?=some x->ds[i]?=some d->Rep M H x d)->Rep M H (.ref a) (.lN ks ds)
def ay(M:Addr->Prop)(H:Hp)(xs:List V)(ds:List Dt):Prop:=xs.length=ds.length/\ ∀(i:Nat) x d,xs[i]?=some x->ds[i]?=some d->Rep M H x d
theorem Rep.mono(h:Rep M H v d)(m: ∀a o,H a=some o-> ¬M a->H' a=some o/\ ¬M' a):Rep M' H' v d:=by
 induction h with
 | aF=>exact .aF
 | bl b=>exact .bl b
 | int i=>exact .int i
 | str x=>exact .str x
 | lst h n l r ih=>exact .lst (m _ _ h n).1 (m _ _ h n).2 l ih
 | tup h n l r ih=>exact .tup (m _ _ h n).1 (m _ _ h n).2 l ih
 | vV h n e l r ih=>exact .vV (m _ _ h n).1 (m _ _ h n).2 e l ih
 | lN h n e l r ih=>exact .lN (m _ _ h n).1 (m _ _ h n).2 e l ih
theorem ay.mono(h:ay M H xs ds)(m: ∀a o,H a=some o-> ¬M a->H' a=some o/\ ¬M' a):ay M' H' xs ds:=⟨h.1,fun i x d h1 h2=>(h.2 i x d h1 h2).mono m⟩
theorem Rep.same(h:Rep M H v d)(s:ax H H'):Rep M H' v d:=h.mono fun a o e n=>⟨s _ _ e,n⟩
theorem ay.same(h:ay M H xs ds)(s:ax H H'):ay M H' xs ds:=h.mono fun a o e n=>⟨s _ _ e,n⟩
theorem ay.nil:ay M H [] []:=⟨rfl,fun i x d h=>by simp at h⟩
theorem ay.cons{M:Addr->Prop}{H:Hp}{x:V}{d:Dt}{xs:List V}{ds:List Dt}(h:Rep M H x d)(r:ay M H xs ds):ay M H (x::xs) (d::ds):=
 ⟨by rw[ac7,ac7,r.1],fun i y e h1 h2=>by
  cases i with
  | zero=>cases h1;cases h2;exact h
  | succ j=>exact r.2 j y e (by simpa using h1) (by simpa using h2)⟩
theorem ay.append(h:ay M H xs ds)(r:ay M H ys es):ay M H (xs++ys) (ds++es):=
 ⟨by rw[aa9,aa9,h.1,r.1],fun i y e h1 h2=>by
  by_cases hi:i < xs.length
  . rw[ad5 hi] at h1;rw[ad5 (by rw[<-h.1];exact hi)] at h2;exact h.2 i y e h1 h2
  . rw[ae4 (by omega)] at h1;rw[ae4 (by have:=h.1;omega),<-h.1] at h2;exact r.2 _ y e h1 h2⟩
theorem ay.one(h:Rep M H x d):ay M H [x] [d]:= .cons h .nil
theorem ay.get(h:ay M H xs ds){i:Nat}(e:ds[i]?=some d): ∃x,xs[i]?=some x/\Rep M H x d:=by
 have hi:=(aa5.mp e).1;have hx:xs[i]?=some (xs[i]'(by rw[h.1];exact hi)):=aa2 _;exact⟨_,hx,h.2 i _ _ hx e⟩
theorem ay.take(h:ay M H xs ds)(n:Nat):ay M H (xs.take n) (ds.take n):=
 ⟨by rw[aj1,aj1,h.1],fun i y e h1 h2=>by
  rw[List.getElem?_take] at h1 h2;split at h1
  . rename_i hi;rw[if_pos hi] at h2;exact h.2 i y e h1 h2
  . cases h1⟩
theorem ay.drop(h:ay M H xs ds)(n:Nat):ay M H (xs.drop n) (ds.drop n):=
 ⟨by rw[ak1,ak1,h.1],fun i y e h1 h2=>by
  rw[List.getElem?_drop] at h1 h2;exact h.2 _ y e h1 h2⟩
theorem ay.aG(h:ay M H xs (d::ds)): ∃x ys,xs=x::ys/\Rep M H x d/\ay M H ys ds:=by
 cases xs with
 | nil=>have:=h.1;simp at this
 | cons x ys=>exact⟨x,ys,rfl,h.2 0 x d rfl rfl,⟨by have:=h.1;simpa using this,fun i y e h1 h2=>h.2 (i+1) y e (by simpa using h1) (by simpa using h2)⟩⟩
theorem ay.cC(h:ay M H xs []):xs= []:=List.length_eq_zero_iff.mp (by rw[h.1];rfl)
theorem Rep.mR(h:H a=some (.lst xs))(n: ¬M a)(r:ay M H xs ds):Rep M H (.ref a) (.lst ds):= .lst h n r.1 r.2
theorem Rep.gy(h:H a=some (.tup xs))(n: ¬M a)(r:ay M H xs ds):Rep M H (.ref a) (.tup ds):= .tup h n r.1 r.2
theorem Rep.bV(h:Rep M H v (.lst ds)): ∃a xs,v= .ref a/\H a=some (.lst xs)/\ ¬M a/\ay M H xs ds:=by
 cases h with
 | lst h n l r=>exact⟨_,_,rfl,h,n,l,r⟩
theorem Rep.bQ(h:Rep M H v (.tup ds)): ∃a xs,v= .ref a/\H a=some (.tup xs)/\ ¬M a/\ay M H xs ds:=by
 cases h with
 | tup h n l r=>exact⟨_,_,rfl,h,n,l,r⟩
theorem Rep.N2(h:Rep M H v (.lN ks ds)): ∃a vs,v= .ref a/\H a=some (.dT vs)/\ ¬M a/\vs.map (·.1)=ks/\ay M H (vs.map (·.2)) ds:=by
 cases h with
 | lN h n e l r=>exact⟨_,_,rfl,h,n,e,l,r⟩
theorem Rep.ofInt(h:Rep M H v (.int i)):v= .int i:=by cases h;rfl
theorem Rep.zi(h:Rep M H v (.bl i)):v= .bl i:=by cases h;rfl
structure Wr where
 rel:(Addr->Prop)->Hp->V->List Addr->Prop
 st: ∀{M M':Addr->Prop} {H H':Hp} {v:V} {as:List Addr},rel M H v as->(∀a∈as,∀o,H a=some o->H' a=some o)->(∀a o,H a=some o-> ¬M a->H' a=some o/\ ¬M' a)->rel M' H' v as
inductive Sl where
 | no | im (d:Dt) | ow (ds:List Dt) | bx (t:Int) | dk (ks:List Key) (ds:List Dt) | ob (R:Wr) | fn (f:Addr)
def pZ(M:Addr->Prop)(H:Hp)(o:Option V):Sl->List Addr->Prop
 | .no,as=>as= []
 | .im d,as=>as= []/\ ∃v,o=some v/\Rep M H v d
 | .ow ds,as=> ∃a xs,as= [a]/\o=some (.ref a)/\H a=some (.lst xs)/\ay M H xs ds
 | .bx t,as=> ∃d c,as= [d,c]/\o=some (.ref d)/\uu H d c t
 | .dk ks ds,as=> ∃a vs,as= [a]/\o=some (.ref a)/\H a=some (.dK vs)/\vs.map (·.1)=ks/\ay M H (vs.map (·.2)) ds
 | .ob R,as=> ∃v,o=some v/\R.rel M H v as
 | .fn f,as=>as= []/\o=some (.ref f)
structure Wd where
 H0:Hp
 A0:Addr->Prop
 M0:Addr->Prop
 M1:Addr->Prop
 box:Option (Addr × Addr)
noncomputable def Sl.cB:Sl->Bool
 | .bx _=>true
 | _=>false
structure Q0(W:Wd)(M:Addr->Prop)(α:List (List Addr))(H:Hp)(δ:List Sl):Prop where
 bs: ∀b o,W.H0 b=some o-> ¬W.A0 b->H b=some o
 ex: ∀b,W.H0 b≠none->H b≠none
 fr: ∀a∈α.flatten,W.A0 a\/W.H0 a=none
 m0: ∀a,W.M0 a->M a
 m1: ∀a,M a->W.M1 a\/W.H0 a=none
 bx: ∀d c,W.box=some (d,c)-> ∃t,δ[0]?=some (.bx t)/\α[0]?=some [d,c]
 fz: ∀(i:Nat) s as,δ[i]?=some s->α[i]?=some as->s.cB=false-> ∀a∈as,¬W.M0 a
def iI(M:Addr->Prop)(H:Hp):Prop:= ∀a,M a-> ∃o,H a=some o/\ ∀xs,o≠ .tup xs
structure az(Ws:List Wd)(M:Addr->Prop)(α:List (List Addr))(H:Hp)(σ:L2.St)(δ:List Sl):Prop where
 ls:σ.length=δ.length
 la:α.length=δ.length
 sl: ∀(i:Nat) (s:Sl),δ[i]?=some s-> ∃o as,σ[i]?=some o/\α[i]?=some as/\pZ M H o s as
 nd:α.flatten.Nodup
 mu: ∀a∈α.flatten,M a
 al:iI M H
 w: ∀W∈Ws,Q0 W M α H δ
def cW(α:List (List Addr))(H H':Hp):Prop:= ∀b o,H b=some o->b∉α.flatten->H' b=some o
theorem cW.rf:cW α H H:=fun _ _ e _=>e
theorem cW.tr(a:cW α H H1)(b:cW α H1 H2):cW α H H2:=fun x o e n=>b _ _ (a _ _ e n) n
theorem cW.of(s:ax H H'):cW α H H':=fun x o e _=>s _ _ e
theorem Rep.chg(h:Rep M H v d)(E:az W M α H σ δ)(c:cW α H H'):Rep M H' v d:=h.mono fun a o e n=>⟨c _ _ e fun z=>n (E.mu a z),n⟩
theorem ay.chg(h:ay M H v d)(E:az W M α H σ δ)(c:cW α H H'):ay M H' v d:=h.mono fun a o e n=>⟨c _ _ e fun z=>n (E.mu a z),n⟩
theorem pZ.same(h:pZ M H o s as)(z:ax H H'):pZ M H' o s as:=by
 cases s with
 | no=>exact h
 | im d=>exact⟨h.1,let ⟨v,e,r⟩:=h.2;⟨v,e,r.same z⟩⟩
 | ow ds=>obtain⟨a,xs,e1,e2,e3,r⟩:=h;exact⟨a,xs,e1,e2,z _ _ e3,r.same z⟩
 | bx t=>obtain⟨d,c,e1,e2,r⟩:=h;exact⟨d,c,e1,e2,r.same z⟩
 | dk ks ds=>obtain⟨a,vs,e1,e2,e3,e4,r⟩:=h;exact⟨a,vs,e1,e2,z _ _ e3,e4,r.same z⟩
 | ob R=>obtain⟨v,e,r⟩:=h;exact⟨v,e,R.st r (fun a _ o q=>z _ _ q) fun a o q n=>⟨z _ _ q,n⟩⟩
 | fn f=>exact h
theorem az.same(E:az W M α H σ δ)(z:ax H H'):az W M α H' σ δ:=by
 refine⟨E.ls,E.la,fun i s h=>?_,E.nd,E.mu,fun a h=>?_,fun W hW=>let k:=E.w W hW;⟨fun b o e n=>z _ _ (k.bs b o e n),fun b n y=>k.ex b n (LW.ax.none z y),k.fr,k.m0,k.m1,k.bx,k.fz⟩⟩
 . obtain⟨o,as,h1,h2,h3⟩:=E.sl i s h;exact⟨o,as,h1,h2,h3.same z⟩
 . obtain⟨o,e,n⟩:=E.al a h;exact⟨o,z _ _ e,n⟩
theorem az.fresh(E:az W M α H σ δ)(h:H p=none): ¬M p:=fun z=>let ⟨_,e,_⟩:=E.al p z;by rw[h] at e;cases e
theorem iI.fresh(h:iI M H)(e:H p=none): ¬M p:=fun z=>let ⟨_,e',_⟩:=h p z;by rw[e] at e';cases e'
theorem iI.tup{M:Addr->Prop}{H:Hp}(h:iI M H){p:Addr}{xs:List V}(e:H p=some (.tup xs)): ¬M p:=fun z=>let ⟨_,e',n⟩:=h p z;by rw[e] at e';cases e';exact n xs rfl
theorem iI.Ko(h:iI M H)(n:ug H xs p H'): ¬M p:=by
 rcases n with ⟨_,e⟩ | ⟨e,_⟩
 . exact h.tup e
 . exact h.fresh e
abbrev bh:=List Sl->(Dt->List Sl->Prop)->Prop
abbrev kj:=List Sl->(Bool->List Sl->Prop)->Prop
abbrev eZ:=List Sl->(List Dt->List Sl->Prop)->Prop
inductive lE(t:bh)(σ:L2.St)(H:Hp)(Q:VK):Prop
 | mk (W:List Wd) (M:Addr->Prop) (α:List (List Addr)) (δ:List Sl) (Qd:Dt->List Sl->Prop) (h1:az W M α H σ δ) (h2:t δ Qd) (h3: ∀d δ' H' v,Qd d δ'->az W M α H' σ δ'->cW α H H'->Rep M H' v d->Q v H')
inductive lT(t:kj)(σ:L2.St)(H:Hp)(Q:Bool->Hp->Prop):Prop
 | mk (W:List Wd) (M:Addr->Prop) (α:List (List Addr)) (δ:List Sl) (Qd:Bool->List Sl->Prop) (h1:az W M α H σ δ) (h2:t δ Qd) (h3: ∀b δ' H',Qd b δ'->az W M α H' σ δ'->cW α H H'->Q b H')
inductive lA(t:eZ)(σ:L2.St)(H:Hp)(Q:List V->Hp->Prop):Prop
 | mk (W:List Wd) (M:Addr->Prop) (α:List (List Addr)) (δ:List Sl) (Qd:List Dt->List Sl->Prop) (h1:az W M α H σ δ) (h2:t δ Qd) (h3: ∀ds δ' H' vs,Qd ds δ'->az W M α H' σ δ'->cW α H H'->ay M H' vs ds->Q vs H')
abbrev wB:=List Sl->(List Dt->List Sl->Prop)->Prop
inductive lO(t:wB)(σ:L2.St)(H:Hp)(Q:VK):Prop
 | mk (W:List Wd) (M:Addr->Prop) (α:List (List Addr)) (δ:List Sl) (Qd:List Dt->List Sl->Prop) (h1:az W M α H σ δ) (h2:t δ Qd) (h3: ∀ds δ' H1 xs a,Qd ds δ'->az W M α H1 σ δ'->cW α H H1->ay M H1 xs ds->H1 a=none->Q (.ref a) (upd H1 a (.lst xs)))
theorem PE.imp(h:PE X e t)(i: ∀σ H Q,t' σ H Q->t σ H Q):PE X e t':=fun pins s σ H Q I q=>h pins s σ H Q I (i _ _ _ q)
theorem PT.imp(h:PT X e t)(i: ∀σ H Q,t' σ H Q->t σ H Q):PT X e t':=fun pins s σ H Q I q=>h pins s σ H Q I (i _ _ _ q)
theorem PW.imp(h:PW X e t)(i: ∀σ H Q,t' σ H Q->t σ H Q):PW X e t':=fun w pins s σ H Q I q=>h w pins s σ H Q I (i _ _ _ q)
theorem PA.imp(h:PA X e t)(i: ∀σ H Q,t' σ H Q->t σ H Q):PA X e t':=fun pos pins s σ H Q I q=>h pos pins s σ H Q I (i _ _ _ q)
theorem PS.imp(h:PS X e t)(i: ∀D σ H,t' D σ H->t D σ H):PS X e t':=fun pins s σ H D I q=>h pins s σ H D I (i _ _ _ q)
theorem iH.imp(h:iH X e t)(i: ∀D σ H,t' D σ H->t D σ H):iH X e t':=fun pins s σ H D I q=>h pins s σ H D I (i _ _ _ q)
abbrev Ev(X:Cx)(e:Expr)(t:bh):Prop:=PE X e (lE t)
abbrev Tv(X:Cx)(e:Expr)(t:kj):Prop:=PT X e (lT t)
abbrev Av(X:Cx)(es:List Expr)(t:eZ):Prop:=PA X es (lA t)
abbrev Ov(X:Cx)(e:Expr)(t:wB):Prop:=PE X e (lO t)
section
variable{X:Cx}{a b c e:Expr}{es:List Expr}{ta tb t:bh}{pos:Pos}
inductive Ab(i:Nat)(δ:List Sl)(Q:Dt->List Sl->Prop):Prop
 | mk (d:_) (h1:δ[i]?=some (.im d)) (h2:Q d δ)
theorem az.im(E:az W M α H σ δ){i:Nat}(h:δ[i]?=some (.im d)): ∃v,σ[i]?=some (some v)/\Rep M H v d:=by
 obtain⟨o,as,h1,_,_,v,rfl,r⟩:=E.sl i _ h;exact⟨v,h1,r⟩
theorem az.ow(E:az W M α H σ δ){i:Nat}(h:δ[i]?=some (.ow ds)): ∃a xs,σ[i]?=some (some (.ref a))/\α[i]?=some [a]/\H a=some (.lst xs)/\ay M H xs ds:=by
 obtain⟨o,as,h1,h2,a,xs,rfl,rfl,e,r⟩:=E.sl i _ h;exact⟨a,xs,h1,h2,e,r⟩
theorem Lg(i:Nat)(h:PE X (.Name x pos) (iF i)):Ev X (.Name x pos) (Ab i):=PE.imp h fun σ H Q bZ=>(by obtain⟨W,M,α,δ,Qd,E,⟨d,hd,q⟩,k⟩:=bZ;exact(by
 obtain⟨v,h1,r⟩:=E.im hd;exact⟨v,h1,k _ _ _ _ q E cW.rf r⟩))
theorem dv(i:Nat)(hN:X.N[i]?=some x:=by rfl)(hv:Q1 X.env.scope x:=by first | exact Or.inl rfl | exact Or.inr (Or.inl rfl) | exact Or.inr (Or.inr rfl))(hd:(x==("__debug__":Str))=false:=by decide)(jo:(x==("__classdict__":Str))=false:=by decide):Ev X (.Name x pos) (Ab i):=Lg i (BJ hN hv hd jo)
def dC(d:Dt):bh:=fun δ Q=>Q d δ
theorem au{i j pos}:Ev X (.Constant (.int i) j pos) (dC (.int i)):=PE.imp bU fun σ H Q eS=>(by obtain⟨W,M,α,δ,Qd,E,q,k⟩:=eS;exact(k _ _ _ _ q E cW.rf (.int i)))
theorem vY{i j pos}:Ev X (.Constant (.bool i) j pos) (dC (.bl i)):=PE.imp NR fun σ H Q gr=>(by obtain⟨W,M,α,δ,Qd,E,q,k⟩:=gr;exact(k _ _ _ _ q E cW.rf (.bl i)))
theorem eG{j pos}:Ev X (.Constant .none j pos) (dC .aF):=PE.imp qA fun σ H Q iC=>(by obtain⟨W,M,α,δ,Qd,E,q,k⟩:=iC;exact(k _ _ _ _ q E cW.rf .aF))
theorem dI{i j pos}:Ev X (.Constant (.str i) j pos) (dC (.str i)):=PE.imp eW fun σ H Q iS=>(by obtain⟨W,M,α,δ,Qd,E,q,k⟩:=iS;exact(k _ _ _ _ q E cW.rf (.str i)))
def dO(t:wB):bh:=fun δ Q=>t δ fun ds δ'=>Q (.lst ds) δ'
theorem Ov.ev{t:wB}(h:Ov X e t):Ev X e (dO t):=PE.imp h fun σ H Q bZ=>(by obtain⟨W,M,α,δ,Qd,E,q,k⟩:=bZ;exact(by
 refine⟨W,M,α,δ,_,E,q,fun ds δ' H1 xs a q1 E1 c1 r1 h1=>?_⟩;have s:ax H1 (upd H1 a (.lst xs)):=ax.new h1;exact k _ _ _ _ q1 (E1.same s) (c1.tr (cW.of s)) (Rep.mR ag (E1.fresh h1) (r1.same s))))
abbrev D2:=Dt->Dt->(Dt->Prop)->Prop
def wC(r:R2)(R:D2):Prop:= ∀(M:Addr->Prop) (H:Hp) (x y:V) (d1 d2:Dt) (Qd:Dt->Prop) (Q:VK),iI M H->Rep M H x d1->Rep M H y d2->R d1 d2 Qd->(∀H' v d,Qd d->ax H H'->Rep M H' v d->Q v H')->r x y H Q
def lQ(R:D2)(ta tb:bh):bh:=fun δ Q=>ta δ fun d1 δ1=>tb δ1 fun d2 δ2=>R d1 d2 fun d=>Q d δ2
theorem l9(hd:wC r R): ∀σ H Q,lE (lQ R ta tb) σ H Q->JD r (lE ta) (lE tb) σ H Q:=fun σ H Q mE=>(by obtain⟨W,M,α,δ,Qd,E,q,k⟩:=mE;exact(
 ⟨W,M,α,δ,_,E,q,fun d1 δ1 H1 x q1 E1 c1 r1=>⟨W,M,α,δ1,_,E1,q1,fun d2 δ2 H2 y q2 E2 c2 r2=>hd M H2 x y d1 d2 _ _ E2.al (r1.chg E1 c2) r2 q2 fun H' v d q3 s r3=>k _ _ _ _ q3 (E2.same s) ((c1.tr c2).tr (cW.of s)) r3⟩⟩))
theorem tV(ho:iR X (binaryOp op) r)(hd:wC r R)(ha:Ev X a ta)(hb:Ev X b tb):Ev X (.BinOp a op b pos) (lQ R ta tb):=PE.imp (cN ho ha hb) (l9 hd)
theorem xV(ho:iR X (compareOp op) r)(hd:wC r R)(ha:Ev X a ta)(hb:Ev X b tb)(hm:behindInMarks op b=false):Ev X (.Compare a [op] [b] pos) (lQ R ta tb):=PE.imp (xj ho ha hb hm) (l9 hd)
inductive T7(Q:Bool->List Sl->Prop)(d:Dt)(δ':List Sl):Prop
 | mk (c:_) (h1:d= .bl c) (h2:Q c δ')
def dT(t:bh):kj:=fun δ Q=>t δ fun d δ'=>T7 Q d δ'
theorem fh: ∀σ H (Q:Bool->Hp->Prop),lT (dT t) σ H Q->lE t σ H fun x H1=> ∃c,x= .bl c/\Q c H1:=fun σ H Q rP=>(by obtain⟨W,M,α,δ,Qd,E,q,k⟩:=rP;exact(
 ⟨W,M,α,δ,_,E,q,fun d δ' H' v mD E1 c1 r1=>(by obtain⟨c,e,q1⟩:=mD;exact(⟨c,by subst e;exact r1.zi,k _ _ _ q1 E1 c1⟩))⟩))
theorem hV(ho:iR X (compareOp op) r)(hd:wC r R)(ha:Ev X a ta)(hb:Ev X b tb)(hm:behindInMarks op b=false):Tv X (.Compare a [op] [b] pos) (dT (lQ R ta tb)):=
 PT.imp (l7 ho ha hb hm) fun σ H Q h=>l9 hd _ _ _ (fh _ _ _ h |> fun gv=>(by obtain⟨W,M,α,δ,Qd,E,q,k⟩:=gv;exact(⟨W,M,α,δ,Qd,E,q,k⟩)))
theorem jU(h:Ev X e t)(he: ∀whole,isTrue e X.env whole=(do let v<-whole;standAt e.pos;holding [v] (truthy v)):=by intro _;rfl):Tv X e (dT t):=PT.imp (uY h he) fun σ H Q h=>fh _ _ _ h
def LN(ta:bh):bh:=fun δ Q=>ta δ fun d δ'=>Q (.bl d.SE) δ'
def IU(ta:bh):bh:=fun δ Q=>ta δ fun d δ'=>Q (.bl (!d.SE)) δ'
theorem Cr(r:Rep M H v d):decide (v= .aF)=d.SE:=by cases r <;> rfl
theorem tm: ∀σ H Q,lE (LN ta) σ H Q->Nl (lE ta) σ H Q:=fun σ H Q mG=>(by obtain⟨W,M,α,δ,Qd,E,q,k⟩:=mG;exact(
 ⟨W,M,α,δ,_,E,q,fun d δ' H' v q1 E1 c1 r1=>by show Q (V.bl (decide (v=V.aF))) H';rw[Cr r1];exact k _ _ _ _ q1 E1 c1 (.bl _)⟩))
theorem zj: ∀σ H Q,lE (IU ta) σ H Q->HE (lE ta) σ H Q:=fun σ H Q mF=>(by obtain⟨W,M,α,δ,Qd,E,q,k⟩:=mF;exact(
 ⟨W,M,α,δ,_,E,q,fun d δ' H' v q1 E1 c1 r1=>by show Q (V.bl !decide (v=V.aF)) H';rw[Cr r1];exact k _ _ _ _ q1 E1 c1 (.bl _)⟩))
theorem IP{j pos'}(ha:Ev X a ta):Ev X (.Compare a [.Is] [.Constant .none j pos'] pos) (LN ta):=PE.imp (J7 (u9 ha)) tm
theorem kT{j pos'}(ha:Ev X a ta):Tv X (.Compare a [.Is] [.Constant .none j pos'] pos) (dT (LN ta)):=PT.imp (uZ (u9 ha)) fun σ H Q h=>tm _ _ _ (fh _ _ _ h)
theorem mT{j pos'}(ha:Ev X a ta):Tv X (.Compare a [.IsNot] [.Constant .none j pos'] pos) (dT (IU ta)):=PT.imp (uZ (FA ha)) fun σ H Q h=>zj _ _ _ (fh _ _ _ h)
end
section
variable{X:Cx}{a b c e:Expr}{es rest:List Expr}{ta tb t:bh}{u v:kj}{pos:Pos}
def Ul(t u:kj):kj:=fun δ Q=>t δ fun c δ1=>if c=true then u δ1 Q else Q false δ1
def VS(t u:kj):kj:=fun δ Q=>t δ fun c δ1=>if c=true then Q true δ1 else u δ1 Q
def LC(t:kj):kj:=fun δ Q=>t δ fun c δ1=>Q (!c) δ1
theorem uE(h:Tv X a u):PW X (.BoolOp .And [a] pos) (lT u):=pw_and1 h
theorem mJ(h:Tv X a u):PW X (.BoolOp .Or [a] pos) (lT u):=pw_or1 h
theorem w_and(ha:Tv X a u)(hb:PW X (.BoolOp .And (b::rest) pos) (lT v)):PW X (.BoolOp .And (a::b::rest) pos) (lT (Ul u v)):=PW.imp (pw_and ha hb) fun σ H Q iT=>(by obtain⟨W,M,α,δ,Qd,E,q,k⟩:=iT;exact(
 ⟨W,M,α,δ,_,E,q,fun c δ1 H1 q1 E1 c1=>by
  cases c with
  | true=>rw[if_pos rfl] at q1 ⊢;exact⟨W,M,α,δ1,_,E1,q1,fun c2 δ2 H2 q2 E2 Us=>k _ _ _ q2 E2 (c1.tr Us)⟩
  | false=>rw[if_neg ac0] at q1 ⊢;exact k _ _ _ q1 E1 c1⟩))
theorem w_or(ha:Tv X a u)(hb:PW X (.BoolOp .Or (b::rest) pos) (lT v)):PW X (.BoolOp .Or (a::b::rest) pos) (lT (VS u v)):=PW.imp (pw_or ha hb) fun σ H Q AI=>(by obtain⟨W,M,α,δ,Qd,E,q,k⟩:=AI;exact(
 ⟨W,M,α,δ,_,E,q,fun c δ1 H1 q1 E1 c1=>by
  cases c with
  | false=>rw[if_neg ac0] at q1 ⊢;exact⟨W,M,α,δ1,_,E1,q1,fun c2 δ2 H2 q2 E2 Us=>k _ _ _ q2 E2 (c1.tr Us)⟩
  | true=>rw[if_pos rfl] at q1 ⊢;exact k _ _ _ q1 E1 c1⟩))
theorem A4(ha:Tv X a u):Tv X (.UnaryOp .Not a pos) (LC u):=PT.imp (By ha) fun σ H Q uy=>(by obtain⟨W,M,α,δ,Qd,E,q,k⟩:=uy;exact(⟨W,M,α,δ,_,E,q,fun c δ1 H1 q1 E1 c1=>k _ _ _ q1 E1 c1⟩))
inductive G8(tb:bh)(Q:Dt->List Sl->Prop)(d:Dt)(δ1:List Sl):Prop
 | mk (c:_) (h1:d= .bl c) (h2:if c=true then tb δ1 Q else Q (.bl false) δ1)
def PQ(ta tb:bh):bh:=fun δ Q=>ta δ fun d δ1=>G8 tb Q d δ1
inductive G1(Q:Dt->List Sl->Prop)(d:Dt)(δ1:List Sl):Prop
 | mk (c:_) (h1:d= .bl c) (h2:Q (.bl (!c)) δ1)
def Pz(ta:bh):bh:=fun δ Q=>ta δ fun d δ1=>G1 Q d δ1
theorem jW{op}(h:Ev X a t):Ev X (.BoolOp op [a] pos) t:=J5 h
theorem ia(ha:Ev X a ta)(hb:Ev X (.BoolOp .And (b::rest) pos) tb):Ev X (.BoolOp .And (a::b::rest) pos) (PQ ta tb):=PE.imp (J9 ha hb) fun σ H Q AH=>(by obtain⟨W,M,α,δ,Qd,E,q,k⟩:=AH;exact(
 ⟨W,M,α,δ,_,E,q,fun d δ1 H1 x AG E1 c1 r1=>(by obtain⟨c,e,q1⟩:=AG;exact(⟨c,by subst e;exact r1.zi,by
  cases c with
  | true=>rw[if_pos rfl] at q1 ⊢;exact⟨W,M,α,δ1,_,E1,q1,fun d2 δ2 H2 y q2 E2 c2 r2=>k _ _ _ _ q2 E2 (c1.tr c2) r2⟩
  | false=>rw[if_neg ac0] at q1 ⊢;exact k _ _ _ _ q1 E1 c1 (.bl _)⟩))⟩))
theorem IM(ha:Ev X a ta):Ev X (.UnaryOp .Not a pos) (Pz ta):=PE.imp (J6 ha) fun σ H Q uw=>(by obtain⟨W,M,α,δ,Qd,E,q,k⟩:=uw;exact(
 ⟨W,M,α,δ,_,E,q,fun d δ1 H1 x uv E1 c1 r1=>(by obtain⟨c,e,q1⟩:=uv;exact(⟨c,by subst e;exact r1.zi,k _ _ _ _ q1 E1 c1 (.bl _)⟩))⟩))
def ZI(t:kj)(ta tb:bh):bh:=fun δ Q=>t δ fun c δ1=>if c=true then ta δ1 Q else tb δ1 Q
theorem fZ(hc:Tv X c u)(ha:Ev X a ta)(hb:Ev X b tb):Ev X (.IfExp c a b pos) (ZI u ta tb):=PE.imp (sO hc ha hb) fun σ H Q AD=>(by obtain⟨W,M,α,δ,Qd,E,q,k⟩:=AD;exact(
 ⟨W,M,α,δ,_,E,q,fun c δ1 H1 q1 E1 c1=>by
  cases c with
  | true=>rw[if_pos rfl] at q1 ⊢;exact⟨W,M,α,δ1,_,E1,q1,fun d2 δ2 H2 y q2 E2 c2 r2=>k _ _ _ _ q2 E2 (c1.tr c2) r2⟩
  | false=>rw[if_neg ac0] at q1 ⊢;exact⟨W,M,α,δ1,_,E1,q1,fun d2 δ2 H2 y q2 E2 c2 r2=>k _ _ _ _ q2 E2 (c1.tr c2) r2⟩⟩))
def DE:eZ:=fun δ Q=>Q [] δ
def nM(ta:bh)(tr:eZ):eZ:=fun δ Q=>ta δ fun d δ1=>tr δ1 fun ds δ2=>Q (d::ds) δ2
theorem ae:Av X [] DE:=PA.imp aE fun σ H Q Jk=>(by obtain⟨W,M,α,δ,Qd,E,q,k⟩:=Jk;exact(k _ _ _ _ q E cW.rf .nil))
theorem aa(ha:Ev X e ta)(hr:Av X es tr)(hs:starEach (e::es) X.env=(false,eval e X.env)::starEach es X.env:=by rfl):Av X (e::es) (nM ta tr):=PA.imp (aj ha hr hs) fun σ H Q Jj=>(by obtain⟨W,M,α,δ,Qd,E,q,k⟩:=Jj;exact(
 ⟨W,M,α,δ,_,E,q,fun d δ1 H1 x q1 E1 c1 r1=>⟨W,M,α,δ1,_,E1,q1,fun ds δ2 H2 xs q2 E2 c2 r2=>k _ _ _ _ q2 E2 (c1.tr c2) (.cons (r1.chg E1 c2) r2)⟩⟩))
def T5(t:eZ):bh:=fun δ Q=>t δ fun ds δ'=>ds.length<=sizeLine/\Q (.tup ds) δ'
def PB(t:eZ):wB:=fun δ Q=>t δ fun ds δ'=>ds.length<=sizeLine/\Q ds δ'
theorem aM{x1}{t:eZ}(h:Av X es t):Ev X (.Tuple es x1 pos) (T5 t):=PE.imp (m8 h) fun σ H Q AB=>(by obtain⟨W,M,α,δ,Qd,E,q,k⟩:=AB;exact(
 ⟨W,M,α,δ,_,E,q,fun ds δ1 H1 xs Ji E1 c1 r1=>(by obtain⟨l,q1⟩:=Ji;exact(⟨by rw[r1.1];exact l,fun p hp=>by
  have s:ax H1 (upd H1 p (.tup xs)):=ax.new hp;exact k _ _ _ _ q1 (E1.same s) (c1.tr (cW.of s)) (Rep.gy ag (E1.fresh hp) (r1.same s))⟩))⟩))
theorem iN{t:eZ}(h:Av X es t):Ov X (.List es pos) (PB t):=PE.imp (qB h) fun σ H Q RD=>(by obtain⟨W,M,α,δ,Qd,E,q,k⟩:=RD;exact(
 ⟨W,M,α,δ,_,E,q,fun ds δ1 H1 xs RC E1 c1 r1=>(by obtain⟨l,q1⟩:=RC;exact(⟨by rw[r1.1];exact l,fun p hp=>k _ _ _ _ _ q1 E1 c1 r1 hp⟩))⟩))
theorem eI{t:eZ}(h:Av X es t):Ev X (.List es pos) (dO (PB t)):=Ov.ev (iN h)
abbrev DN:=List Dt->(Dt->Prop)->Prop
def Qp(r:List V->Hp->VK->Prop)(R:DN):Prop:= ∀(M:Addr->Prop) (H:Hp) (xs:List V) (ds:List Dt) (Qd:Dt->Prop) (Q:VK),iI M H->ay M H xs ds->R ds Qd->(∀H' v d,Qd d->ax H H'->Rep M H' v d->Q v H')->r xs H Q
def Ax(R:DN)(t:eZ):bh:=fun δ Q=>t δ fun ds δ'=>R ds fun d=>Q d δ'
theorem pO{r:List V->Hp->VK->Prop}{R:DN}{t:eZ}(hd:Qp r R): ∀σ H Q,lE (Ax R t) σ H Q->R0 r (lA t) σ H Q:=fun σ H Q Jh=>(by obtain⟨W,M,α,δ,Qd,E,q,k⟩:=Jh;exact(
 ⟨W,M,α,δ,_,E,q,fun ds δ1 H1 xs q1 E1 c1 r1=>hd M H1 xs ds _ _ E1.al r1 q1 fun H' v d q3 s r3=>k _ _ _ _ q3 (E1.same s) (c1.tr (cW.of s)) r3⟩))
theorem mv{id:String}{x:Str}{p:Pos}{r:List V->Hp->VK->Prop}{R:DN}{t:eZ}(hc:eQ X (.builtin id) r)(hd:Qp r R)(hg:Gl X x)(hm:X.mg x=none)(hv:bootBuiltins x=some (.builtin id))(ha:Av X (e::es) t)(hn:x≠"__name__":=by decide)(gs:(x==("__debug__":Str))=false:=by decide)
  (he:starEach (e::es) X.env=(false,eval e X.env)::starEach es X.env:=by rfl) (da:(backTo pos (starEach es X.env)).any (·.1)=false:=by rfl):Ev X (.Call (.Name x p) (e::es) [] pos) (Ax R t):=
 PE.imp (fC hc hg hm hv ha hn gs he da) (pO hd)
theorem tW{T:String}{x:Str}{p:Pos}{r:List V->Hp->VK->Prop}{R:DN}{t:eZ}(hc:eQ X (.type T) r)(hd:Qp r R)(hg:Gl X x)(hm:X.mg x=none)(hv:bootBuiltins x=some (.type T))(ha:Av X (e::es) t)(hn:x≠"__name__":=by decide)(gs:(x==("__debug__":Str))=false:=by decide)
  (he:starEach (e::es) X.env=(false,eval e X.env)::starEach es X.env:=by rfl) (da:(backTo pos (starEach es X.env)).any (·.1)=false:=by rfl):Ev X (.Call (.Name x p) (e::es) [] pos) (Ax R t):=
 PE.imp (fB hc hg hm hv ha hn gs he da) (pO hd)
end
inductive MN(g:Int->Int->Dt)(d1:Dt)(d2:Dt)(Q:Dt->Prop):Prop
 | mk (i j:_) (h1:d1= .int i) (h2:d2= .int j) (h3:Q (g i j))
inductive Mp(C:Int->Int->Prop)(g:Int->Int->Dt)(d1:Dt)(d2:Dt)(Q:Dt->Prop):Prop
 | mk (i j:_) (h1:d1= .int i) (h2:d2= .int j) (h3:C i j) (h4:Q (g i j))
theorem vT(h: ∀M H i j,Rep M H (g i j) (gd i j)):wC (Fj g) (MN gd):=fun M H x y d1 d2 Qd Q al r1 r2 bZ k=>(by obtain⟨i,j,e1,e2,q⟩:=bZ;exact(by
 subst e1;subst e2;exact⟨i,j,r1.ofInt,r2.ofInt,k H _ _ q (fun _ _ z=>z) (h M H i j)⟩))
theorem IJ(h: ∀M H i j,Rep M H (g i j) (gd i j)):wC (rI C g) (Mp C gd):=fun M H x y d1 d2 Qd Q al r1 r2 eS k=>(by obtain⟨i,j,e1,e2,c,q⟩:=eS;exact(by
 subst e1;subst e2;exact⟨i,j,r1.ofInt,r2.ofInt,c,k H _ _ q (fun _ _ z=>z) (h M H i j)⟩))
section
variable{X:Cx}{a b c e:Expr}{es rest:List Expr}{ta tb tc t:bh}{pos:Pos}
abbrev Um(ta tb:bh):bh:=lQ (MN fun i j=> .int (i+j)) ta tb
abbrev T8(ta tb:bh):bh:=lQ (MN fun i j=> .int (i - j)) ta tb
theorem cV(ha:Ev X a ta)(hb:Ev X b tb):Ev X (.BinOp a .Add b pos) (Um ta tb):=tV ng (vT fun _ _ _ _=> .int _) ha hb
theorem fG(ha:Ev X a ta)(hb:Ev X b tb):Ev X (.BinOp a .Sub b pos) (T8 ta tb):=tV Ka (vT fun _ _ _ _=> .int _) ha hb
theorem xU(ha:Ev X a ta)(hb:Ev X b tb):Ev X (.BinOp a .Mult b pos) (lQ (Mp wG fun i j=> .int (i*j)) ta tb):=tV i3 (IJ fun _ _ _ _=> .int _) ha hb
theorem IL(ha:Ev X a ta)(hb:Ev X b tb):Ev X (.BinOp a .Pow b pos) (lQ (Mp Aq fun i j=> .int (i^j.toNat)) ta tb):=tV BS (IJ fun _ _ _ _=> .int _) ha hb
abbrev UH:D2:=MN fun i j=> .bl (decide (i < j))
abbrev Ql:D2:=MN fun i j=> .bl (decide (i<=j))
abbrev Qn:D2:=MN fun i j=> .bl (decide (j < i))
theorem T1(ha:Ev X a ta)(hb:Ev X b tb):Ev X (.Compare a [.LtE] [b] pos) (lQ Ql ta tb):=xV HR (vT fun _ _ _ _=> .bl _) ha hb (cQ _)
theorem T3(ha:Ev X a ta)(hb:Ev X b tb):Ev X (.Compare a [.Gt] [b] pos) (lQ Qn ta tb):=xV HS (vT fun _ _ _ _=> .bl _) ha hb (cQ _)
theorem RS(ha:Ev X a ta)(hb:Ev X b tb):Tv X (.Compare a [.Lt] [b] pos) (dT (lQ UH ta tb)):=hV NV (vT fun _ _ _ _=> .bl _) ha hb (cQ _)
theorem Na(ha:Ev X a ta)(hb:Ev X b tb):Tv X (.Compare a [.LtE] [b] pos) (dT (lQ Ql ta tb)):=hV HR (vT fun _ _ _ _=> .bl _) ha hb (cQ _)
theorem RT(ha:Ev X a ta)(hb:Ev X b tb):Tv X (.Compare a [.Gt] [b] pos) (dT (lQ Qn ta tb)):=hV HS (vT fun _ _ _ _=> .bl _) ha hb (cQ _)
noncomputable def eq2:Dt->Dt->Option Bool
 | .aF,.aF=>some true | .aF,.int _=>some false | .int _,.aF=>some false | .aF,.bl _=>some false | .bl _,.aF=>some false | .aF,.str _=>some false | .str _,.aF=>some false
 | .int i,.int j=>some (decide (i=j)) | .bl i,.bl j=>some (decide (i=j)) | .str i,.str j=>some (decide (i=j))
 | .int _,.str _=>some false | .str _,.int _=>some false | .bl _,.str _=>some false | .str _,.bl _=>some false
 | _,_=>none
inductive Mq(d1:Dt)(d2:Dt)(Q:Dt->Prop):Prop
 | mk (b:_) (h1:eq2 d1 d2=some b) (h2:Q (.bl b))
inductive Qk(d1:Dt)(d2:Dt)(Q:Dt->Prop):Prop
 | mk (b:_) (h1:eq2 d1 d2=some b) (h2:Q (.bl (!b)))
noncomputable def Le:Dt->Option V
 | .aF=>some .aF | .bl b=>some (.bl b) | .int i=>some (.int i) | .str x=>some (.str x) | _=>none
theorem Rep.fl(r:Rep M H v d)(h:Le d=some u):v=u:=by
 cases r <;> cases h <;> rfl
theorem QU:decide (V.int i=V.int j)=decide (i=j):=by simp
theorem ZH:decide (V.bl i=V.bl j)=decide (i=j):=by simp
theorem ZG:decide (V.str i=V.str j)=decide (i=j):=by simp
inductive E2(d1 d2:Dt)(b:Bool):Prop
 | mk (u1 u2:V) (h1:Le d1=some u1) (h2:Le d2=some u2) (h3:EZ u1 u2=true/\decide (u1=u2)=b)
def Wz(d1 d2:Dt):Option Bool->Prop
 | none=>True
 | some b=>E2 d1 d2 b
theorem Ll:Wz d1 d2 (eq2 d1 d2):=by
 cases d1 with
 | lst _=>trivial
 | tup _=>trivial
 | vV _ _=>trivial
 | lN _ _=>trivial
 | _=>cases d2 with
  | lst _=>trivial
  | tup _=>trivial
  | vV _ _=>trivial
  | lN _ _=>trivial
  | _=>first | trivial | exact⟨_,_,rfl,rfl,rfl,rfl⟩ | exact⟨_,_,rfl,rfl,rfl,QU⟩ | exact⟨_,_,rfl,rfl,rfl,ZH⟩ | exact⟨_,_,rfl,rfl,rfl,ZG⟩
theorem C5{b:Bool}(r1:Rep M H x d1)(r2:Rep M H y d2)(h:eq2 d1 d2=some b):EZ x y=true/\decide (x=y)=b:=by
 have z:Wz d1 d2 (some b):=h▸Ll;obtain⟨u1,u2,e1,e2,q⟩:=z;rw[r1.fl e1,r2.fl e2];exact q
theorem IK:wC UT Mq:=fun M H x y d1 d2 Qd Q al r1 r2 gr k=>(by obtain⟨b,e,q⟩:=gr;exact(by
 obtain⟨h1,h2⟩:=C5 r1 r2 e;exact⟨h1,by rw[h2];exact k H _ _ q (fun _ _ z=>z) (.bl b)⟩))
theorem Pg:wC UR Qk:=fun M H x y d1 d2 Qd Q al r1 r2 iC k=>(by obtain⟨b,e,q⟩:=iC;exact(by
 obtain⟨h1,h2⟩:=C5 r1 r2 e;exact⟨h1,by rw[h2];exact k H _ _ q (fun _ _ z=>z) (.bl _)⟩))
theorem rh(ha:Ev X a ta)(hb:Ev X b tb):Ev X (.Compare a [.Eq] [b] pos) (lQ Mq ta tb):=xV HU IK ha hb (cQ _)
theorem yI(ha:Ev X a ta)(hb:Ev X b tb):Tv X (.Compare a [.Eq] [b] pos) (dT (lQ Mq ta tb)):=hV HU IK ha hb (cQ _)
theorem yH(ha:Ev X a ta)(hb:Ev X b tb):Tv X (.Compare a [.NotEq] [b] pos) (dT (lQ Qk ta tb)):=hV NU Pg ha hb (cQ _)
inductive Qi(g:Int->Dt)(Q:Dt->List Sl->Prop)(d:Dt)(δ':List Sl):Prop
 | mk (i:_) (h1:d= .int i) (h2:Q (g i) δ')
def D_u(g:Int->Dt)(ta:bh):bh:=fun δ Q=>ta δ fun d δ'=>Qi g Q d δ'
theorem fH(ha:Ev X a ta):Ev X (.UnaryOp .USub a pos) (D_u (fun i=> .int (-i)) ta):=PE.imp (NQ Jt ha) fun σ H Q iS=>(by obtain⟨W,M,α,δ,Qd,E,q,k⟩:=iS;exact(
 ⟨W,M,α,δ,_,E,q,fun d δ1 H1 x jq E1 c1 r1=>(by obtain⟨i,e,q1⟩:=jq;exact(⟨i,by subst e;exact r1.ofInt,k _ _ _ _ q1 E1 c1 (.int _)⟩))⟩))
theorem rD(r:ay M H xs ds)(h:jd ds i=some d): ∃x,jd xs i=some x/\Rep M H x d:=by
 unfold jd at h ⊢;rw[r.1];cases hn:xD ds.length i with
 | none=>rw[hn] at h;cases h
 | some j=>rw[hn] at h;exact r.get h
inductive Qm(d1:Dt)(d2:Dt)(Q:Dt->Prop):Prop
 | mk (ds i d:_) (h1:(d1= .lst ds\/d1= .tup ds)) (h2:d2= .int i) (h3:jd ds i=some d) (h4:Q d)
theorem Ph{K:PySem.W.Frag}:wC (US K) Qm:=fun M H x y d1 d2 Qd Q al r1 r2 mE k=>(by obtain⟨ds,i,d,e1,e2,h,q⟩:=mE;exact(by
 subst e2;rcases e1 with e1 | e1
 . subst e1;obtain⟨a,xs,rfl,ha,n,rr⟩:=r1.bV;obtain⟨v,hv,rv⟩:=rD rr h;exact .inl ⟨a,xs,i,v,rfl,r2.ofInt,bS.of ha,hv,k H _ _ q (fun _ _ z=>z) rv⟩
 . subst e1;obtain⟨a,xs,rfl,ha,n,rr⟩:=r1.bQ;obtain⟨v,hv,rv⟩:=rD rr h;exact .inr (.inl ⟨a,xs,i,v,rfl,r2.ofInt,dB.of ha,hv,k H _ _ q (fun _ _ z=>z) rv⟩)))
theorem dz(ha:Ev X a ta)(hb:Ev X b tb)(hs:rG b:=by exact fun _ _=>rfl):Ev X (.Subscript a b pos) (lQ Qm ta tb):=PE.imp (BM KI ha hb hs) (l9 Ph)
noncomputable def cutD(ds:List Dt)(lo hi:Option Int):List Dt:=(ds.drop (HT.cE ds.length 0 lo)).take (HT.cE ds.length ds.length hi - HT.cE ds.length 0 lo)
theorem ay.cut(r:ay M H xs ds)(lo hi:Option Int):ay M H (lR xs lo hi) (cutD ds lo hi):=by
 unfold lR cutD;rw[r.1];exact(r.drop _).take _
abbrev MO:=List Sl->(Option Int->List Sl->Prop)->Prop
inductive lP(t:MO)(σ:L2.St)(H:Hp)(Q:Option Int->Hp->Prop):Prop
 | mk (W:List Wd) (M:Addr->Prop) (α:List (List Addr)) (δ:List Sl) (Qd:Option Int->List Sl->Prop) (h1:az W M α H σ δ) (h2:t δ Qd) (h3: ∀o δ' H',Qd o δ'->az W M α H' σ δ'->cW α H H'->Q o H')
def Uc:MO:=fun δ Q=>Q none δ
inductive GZ(Q:Option Int->List Sl->Prop)(d:Dt)(δ':List Sl):Prop
 | mk (i:_) (h1:d= .int i) (h2:Q (some i) δ')
def Px(t:bh):MO:=fun δ Q=>t δ fun d δ'=>GZ Q d δ'
abbrev Pv(X:Cx)(o:Option Expr)(t:MO):Prop:=PO X o (lP t)
theorem PO.imp{X:Cx}{e:Option Expr}{t t':L2.TO}(h:PO X e t)(i: ∀σ H Q,t' σ H Q->t σ H Q):PO X e t':=fun pins s σ H Q I q=>h pins s σ H Q I (i _ _ _ q)
theorem eB:Pv X none Uc:=PO.imp xf fun σ H Q rP=>(by obtain⟨W,M,α,δ,Qd,E,q,k⟩:=rP;exact(k _ _ _ q E cW.rf))
theorem ez(h:Ev X e t):Pv X (some e) (Px t):=PO.imp (xc h) fun σ H Q mD=>(by obtain⟨W,M,α,δ,Qd,E,q,k⟩:=mD;exact(
 ⟨W,M,α,δ,_,E,q,fun d δ1 H1 x gv E1 c1 r1=>(by obtain⟨i,e,q1⟩:=gv;exact(⟨i,by subst e;exact r1.ofInt,k _ _ _ q1 E1 c1⟩))⟩))
inductive Ly(Q:Dt->List Sl->Prop)(d:Dt)(lo:Option Int)(hi:Option Int)(δ3:List Sl):Prop
 | mk (ds:_) (h1:d= .tup ds) (h2:Q (.tup (cutD ds lo hi)) δ3)
def T9(ta:bh)(tl th:MO):bh:=fun δ Q=>ta δ fun d δ1=>tl δ1 fun lo δ2=>th δ2 fun hi δ3=>Ly Q d lo hi δ3
inductive Lz(Q:Dt->List Sl->Prop)(d:Dt)(lo:Option Int)(hi:Option Int)(δ3:List Sl):Prop
 | mk (ds:_) (h1:d= .lst ds) (h2:Q (.lst (cutD ds lo hi)) δ3)
def Ua(ta:bh)(tl th:MO):bh:=fun δ Q=>ta δ fun d δ1=>tl δ1 fun lo δ2=>th δ2 fun hi δ3=>Lz Q d lo hi δ3
theorem lr{lo hi:Option Expr}(ha:Ev X a ta)(hl:Pv X lo tl)(hh:Pv X hi th):Ev X (.Subscript a (.Slice lo hi none p2) pos) (T9 ta tl th):=PE.imp (m9 EY ha hl hh) fun σ H Q bZ=>(by obtain⟨W,M,α,δ,Qd,E,q,k⟩:=bZ;exact(
 ⟨W,M,α,δ,_,E,q,fun d δ1 H1 x q1 E1 c1 r1=>⟨W,M,α,δ1,_,E1,q1,fun o2 δ2 H2 q2 E2 c2=>⟨W,M,α,δ2,_,E2,q2,fun o3 δ3 H3 eS E3 c3=>(by obtain⟨ds,e,q3⟩:=eS;exact(by
  subst e;obtain⟨a,xs,rfl,ha,n,rr⟩:=((r1.chg E1 c2).chg E2 c3).bQ;refine⟨a,xs,rfl,ha,fun p H' nt=>?_⟩;have s:ax H3 H':=nt.keep;exact k _ _ _ _ q3 (E3.same s) (((c1.tr c2).tr c3).tr (cW.of s)) (Rep.gy nt.at (E3.al.Ko nt) ((rr.cut _ _).same s))))⟩⟩⟩))
theorem Dw{lo hi:Option Expr}(ha:Ev X a ta)(hl:Pv X lo tl)(hh:Pv X hi th):Ev X (.Subscript a (.Slice lo hi none p2) pos) (Ua ta tl th):=PE.imp (m9 wU ha hl hh) fun σ H Q gr=>(by obtain⟨W,M,α,δ,Qd,E,q,k⟩:=gr;exact(
 ⟨W,M,α,δ,_,E,q,fun d δ1 H1 x q1 E1 c1 r1=>⟨W,M,α,δ1,_,E1,q1,fun o2 δ2 H2 q2 E2 c2=>⟨W,M,α,δ2,_,E2,q2,fun o3 δ3 H3 iC E3 c3=>(by obtain⟨ds,e,q3⟩:=iC;exact(by
  subst e;obtain⟨a,xs,rfl,ha,n,rr⟩:=((r1.chg E1 c2).chg E2 c3).bV;refine⟨a,xs,rfl,bS.of ha,fun p hp=>?_⟩;have s:ax H3 (upd H3 p (.lst (lR xs o2 o3))):=ax.new hp;exact k _ _ _ _ q3 (E3.same s) (((c1.tr c2).tr c3).tr (cW.of s)) (Rep.mR ag (E3.fresh hp) ((rr.cut _ _).same s))))⟩⟩⟩))
inductive Eg(d1:Dt)(d2:Dt)(Q:Dt->Prop):Prop
 | mk (ds es:_) (h1:d1= .tup ds) (h2:d2= .tup es) (h3:ds.length+es.length<=sizeLine) (h4:Q (.tup (ds++es)))
inductive Eh(d1:Dt)(d2:Dt)(Q:Dt->Prop):Prop
 | mk (ds es:_) (h1:d1= .lst ds) (h2:d2= .lst es) (h3:ds.length+es.length<=sizeLine) (h4:Q (.lst (ds++es)))
theorem GP:wC HM Eg:=fun M H x y d1 d2 Qd Q al r1 r2 uy k=>(by obtain⟨ds,es,e1,e2,l,q⟩:=uy;exact(by
 subst e1;subst e2;obtain⟨a,xs,rfl,ha,n,rr⟩:=r1.bQ;obtain⟨b,ys,rfl,hb,n2,sA⟩:=r2.bQ;exact⟨a,b,xs,ys,rfl,rfl,ha,hb,by rw[rr.1,sA.1];exact l,fun p H' nt=>k H' _ _ q nt.keep (Rep.gy nt.at (al.Ko nt) ((rr.append sA).same nt.keep))⟩))
theorem GQ:wC NN Eh:=fun M H x y d1 d2 Qd Q al r1 r2 iS k=>(by obtain⟨ds,es,e1,e2,l,q⟩:=iS;exact(by
 subst e1;subst e2;obtain⟨a,xs,rfl,ha,n,rr⟩:=r1.bV;obtain⟨b,ys,rfl,hb,n2,sA⟩:=r2.bV;refine⟨a,b,xs,ys,rfl,rfl,ha,hb,by rw[rr.1,sA.1];exact l,fun p hp=>?_⟩;have s:ax H (upd H p (.lst (xs++ys))):=ax.new hp;exact k _ _ _ q s (Rep.mR ag (al.fresh hp) ((rr.append sA).same s))))
theorem gb(ha:Ev X a ta)(hb:Ev X b tb):Ev X (.BinOp a .Add b pos) (lQ Eg ta tb):=tV FE GP ha hb
theorem kO(ha:Ev X a ta)(hb:Ev X b tb):Ev X (.BinOp a .Add b pos) (lQ Eh ta tb):=tV Ke GQ ha hb
inductive Ec(d1:Dt)(d2:Dt)(Q:Dt->Prop):Prop
 | mk (ds k:_) (h1:d1= .lst ds) (h2:d2= .int k) (h3: -(2^63)<=k) (h4:k < 2^63) (h5:ds.length*k.toNat<=sizeLine) (h6:Q (.lst (List.replicate k.toNat ds).flatten))
theorem ay.rep(r:ay M H xs ds): ∀n:Nat,ay M H (List.replicate n xs).flatten (List.replicate n ds).flatten
 | 0=> .nil
 | n+1=>by
  rw[ag5,ag5,ae9,ae9];exact r.append (r.rep n)
theorem GO:wC NI Ec:=fun M H x y d1 d2 Qd Q al r1 r2 jq k=>(by obtain⟨ds,n,e1,e2,h1,h2,l,q⟩:=jq;exact(by
 subst e1;subst e2;obtain⟨a,xs,rfl,ha,nn,rr⟩:=r1.bV;refine⟨a,n,xs,rfl,r2.ofInt,ha,h1,h2,by rw[rr.1];exact l,fun p hp=>?_⟩;have s:ax H (upd H p (.lst (List.replicate n.toNat xs).flatten)):=ax.new hp;exact k _ _ _ q s (Rep.mR ag (al.fresh hp) ((rr.rep _).same s))))
theorem vW(ha:Ev X a ta)(hb:Ev X b tb):Ev X (.BinOp a .Mult b pos) (lQ Ec ta tb):=tV Kb GO ha hb
noncomputable def cw:Dt->Bool
 | .lst _=>false
 | .tup _=>false
 | .vV _ _=>false
 | .lN _ _=>false
 | _=>true
noncomputable def C4:Dt->Dt->Bool
 | .aF,.aF=>true
 | .bl a,.bl b=>a==b
 | .bl a,.int b=>(if a then 1 else 0)==b
 | .int a,.bl b=>a==(if b then 1 else 0)
 | .int a,.int b=>a==b
 | .str a,.str b=>a==b
 | _,_=>false
noncomputable def inD(d:Dt)(ds:List Dt):Bool:=ds.any fun e=>C4 e d
theorem hG(r:Rep M H v d)(h:cw d=true):cT v=true:=by cases r <;> first | rfl | cases h
def EVo(d e:Dt):Option V->Option V->Prop
 | some u,some v=>rN u v=C4 d e
 | _,_=>False
theorem Lj{d e:Dt}(h:cw d=true)(h2:cw e=true):EVo d e (Le d) (Le e):=by
 cases d with
 | lst _=>cases h
 | tup _=>cases h
 | vV _ _=>cases h
 | lN _ _=>cases h
 | _=>cases e with
  | lst _=>cases h2
  | tup _=>cases h2
  | vV _ _=>cases h2
  | lN _ _=>cases h2
  | _=>exact(rfl:_=_)
theorem mq{M:Addr->Prop}{H:Hp}{v w:V}{d e:Dt}(r:Rep M H v d)(r2:Rep M H w e)(h:cw d=true)(h2:cw e=true):rN v w=C4 d e:=by
 have z:=Lj h h2;cases e1:Le d with
 | none=>rw[e1] at z;exact z.elim
 | some u=>
  cases e2:Le e with
  | none=>rw[e1,e2] at z;exact z.elim
  | some u2=>
   rw[e1,e2] at z;rw[r.fl e1,r2.fl e2];exact z
theorem pC(r:ay M H xs ds)(h:ds.all cw=true):xs.all cT=true:=ah2.mpr fun x hx=>by
 obtain⟨i,hi,e⟩:=ah8 hx;have h1:xs[i]?=some x:=by rw[aa2 hi,e]
 have h2:ds[i]?=some (ds[i]'(by rw[<-r.1];exact hi)):=aa2 _;exact hG (r.2 i _ _ h1 h2) (ah2.mp h _ (ad2 h2))
theorem xE(r:Rep M H v d)(hd:cw d=true): ∀{xs:List V} {ds:List Dt},ay M H xs ds->ds.all cw=true->oq v xs=inD d ds
 | [],[],_,_=>rfl
 | [],_::_,h,_=>by have:=h.1;simp at this
 | _::_,[],h,_=>by have:=h.1;simp at this
 | x::xs,e::ds,h,hf=>by
  obtain⟨y,ys,e1,e2,e3⟩:=h.aG;cases e1;rw[ar6,af8] at hf;have ih:=xE r hd e3 hf.2;unfold oq inD at ih ⊢;rw[al8,al8,ih,mq e2 r hf.1 hd]
inductive Mo(neg:Bool)(d1:Dt)(d2:Dt)(Q:Dt->Prop):Prop
 | mk (ds:_) (h1:(d2= .lst ds\/d2= .tup ds)) (h2:cw d1=true) (h3:ds.all cw=true) (h4:Q (.bl (if neg then !inD d1 ds else inD d1 ds)))
theorem II{K:PySem.W.Frag}{neg:Bool}:wC (Se K neg) (Mo neg):=fun M H x y d1 d2 Qd Q al r1 r2 AE k=>(by obtain⟨ds,e2,f1,f2,q⟩:=AE;exact(by
 have fin: ∀xs,ay M H xs ds->cT x=true/\xs.all cT=true/\Q (.bl (if neg then !oq x xs else oq x xs)) H:=fun xs rr=>⟨hG r1 f1,pC rr f2,by rw[xE r1 f1 rr f2];exact k H _ _ q (fun _ _ z=>z) (.bl _)⟩
 rcases e2 with e2 | e2
 . subst e2;obtain⟨a,xs,rfl,ha,n,rr⟩:=r2.bV;exact⟨a,xs,rfl,.inl (bS.of ha),fin xs rr⟩
 . subst e2;obtain⟨a,xs,rfl,ha,n,rr⟩:=r2.bQ;exact⟨a,xs,rfl,.inr (dB.of ha),fin xs rr⟩))
theorem ES(ha:Ev X a ta)(hb:Ev X b tb)(hm:behindInMarks .In b=false:=by rfl):Tv X (.Compare a [.In] [b] pos) (dT (lQ (Mo false) ta tb)):=hV za II ha hb hm
theorem qc(ha:Ev X a ta)(hb:Ev X b tb)(hm:behindInMarks .NotIn b=false:=by rfl):Tv X (.Compare a [.NotIn] [b] pos) (dT (lQ (Mo true) ta tb)):=hV qD II ha hb hm
inductive Jg(ds:List Dt)(Q:Dt->Prop):Prop
 | mk (es:_) (h1:(ds= [.lst es]\/ds= [.tup es])) (h2:Q (.int es.length))
theorem Lr{K:PySem.W.Frag}:Qp (fun xs H Q=> ∃p ys,xs= [.ref p]/\(bS K H p ys\/dB K H p ys)/\Q (.int ys.length) H) Jg:=fun M H xs ds Qd Q al r uw k=>(by obtain⟨es,e,q⟩:=uw;exact(by
 rcases e with e | e <;> subst e <;> obtain⟨x,ys,rfl,r1,r2⟩:=r.aG <;> cases r2.cC
 . obtain⟨a,zs,rfl,ha,n,rr⟩:=r1.bV;exact⟨a,zs,rfl,.inl (bS.of ha),by rw[rr.1];exact k H _ _ q (fun _ _ z=>z) (.int _)⟩
 . obtain⟨a,zs,rfl,ha,n,rr⟩:=r1.bQ;exact⟨a,zs,rfl,.inr (dB.of ha),by rw[rr.1];exact k H _ _ q (fun _ _ z=>z) (.int _)⟩))
theorem bH(hm:X.mg "len"=none)(ha:Av X [e] tA)(hg:Gl X "len":=by rfl)(he:starEach [e] X.env=(false,eval e X.env)::starEach [] X.env:=by rfl)(da:(backTo pos (starEach [] X.env)).any (·.1)=false:=by rfl):
  Ev X (.Call (.Name "len" p) [e] [] pos) (Ax Jg tA):=mv j6 Lr hg hm PySem.boot_len ha (by decide) (by decide) he da
inductive yj(ds:List Dt)(Q:Dt->Prop):Prop
 | mk (es:_) (h1:(ds= [.lst es]\/ds= [.tup es])) (h2:Q (.tup es))
theorem Ds{K:PySem.W.Frag}:Qp (fun xs H Q=> ∃p ys,xs= [.ref p]/\((bS K H p ys/\ ∀l,H l=none->Q (.ref l) (upd H l (.tup ys)))\/(dB K H p ys/\Q (.ref p) H))) yj:=fun M H xs ds Qd Q al r mE k=>(by obtain⟨es,e,q⟩:=mE;exact(by
 rcases e with e | e <;> subst e <;> obtain⟨x,ys,rfl,r1,r2⟩:=r.aG <;> cases r2.cC
 . obtain⟨a,zs,rfl,ha,n,rr⟩:=r1.bV;refine⟨a,zs,rfl,.inl ⟨bS.of ha,fun l hl=>?_⟩⟩;have s:ax H (upd H l (.tup zs)):=ax.new hl;exact k _ _ _ q s (Rep.gy ag (al.fresh hl) (rr.same s))
 . obtain⟨a,zs,rfl,ha,n,rr⟩:=r1.bQ;exact⟨a,zs,rfl,.inr ⟨dB.of ha,k H _ _ q (fun _ _ z=>z) r1⟩⟩))
theorem jV(hm:X.mg "tuple"=none)(ha:Av X [e] tA)(hg:Gl X "tuple":=by rfl)(he:starEach [e] X.env=(false,eval e X.env)::starEach [] X.env:=by rfl)(da:(backTo pos (starEach [] X.env)).any (·.1)=false:=by rfl):
  Ev X (.Call (.Name "tuple" p) [e] [] pos) (Ax yj tA):=tW iQ Ds hg hm bW ha (by decide) (by decide) he da
end
theorem bG{α:List (List Addr)}(h:x∈(α.set i as).flatten):x∈α.flatten\/x∈as:=by
 obtain⟨l,hl,hx⟩:=ao6.mp h;rcases List.mem_or_eq_of_mem_set hl with y | y
 . exact .inl (ao6.mpr ⟨l,y,hx⟩)
 . exact .inr (y▸hx)
theorem bB{α:List (List Addr)}{i:Nat}(h:α[i]?=some as)(hx:x∈as):x∈α.flatten:=ao6.mpr ⟨as,ad2 h,hx⟩
theorem cF: ∀{α:List (List Addr)} {i:Nat} {as:List Addr},α.flatten.Nodup->as.Nodup->(∀x∈as,x∉α.flatten)->(α.set i as).flatten.Nodup
 | [],_,_,_,_,_=>by simp
 | l::r,0,as,h,ha,hx=>by
  rw[List.set_cons_zero,ae9];rw[ae9] at h;refine ai0.mpr ⟨ha,(ai0.mp h).2.1,fun x h1 y h2 e=>?_⟩;subst e;exact hx x h1 (by rw[ae9];exact ab4 _ h2)
 | l::r,i+1,as,h,ha,hx=>by
  rw[List.set_cons_succ,ae9];rw[ae9] at h;obtain⟨h1,h2,h3⟩:=ai0.mp h;refine ai0.mpr ⟨h1,cF h2 ha fun x z y=>hx x z (by rw[ae9];exact ab4 _ y),fun x z y w e=>?_⟩;subst e;rcases bG w with q | q
  . exact h3 x z x q rfl
  . exact hx x q (by rw[ae9];exact ae2 _ z)
theorem fX: ∀{α:List (List Addr)} {i j:Nat} {as bs:List Addr} {x:Addr},α.flatten.Nodup->α[i]?=some as->α[j]?=some bs->i≠j->x∈as->x∉bs
 | [],i,j,as,bs,x,_,h1,_,_,_=>by simp at h1
 | l::r,i,j,as,bs,x,h,h1,h2,ck,hx=>by
  rw[ae9] at h;obtain⟨n1,n2,n3⟩:=ai0.mp h;cases i with
  | zero=>
   cases j with
   | zero=>exact absurd rfl ck
   | succ j=>
    simp at h1 h2;subst h1;exact fun y=>n3 x hx x (bB h2 y) rfl
  | succ i=>
   cases j with
   | zero=>
    simp at h1 h2;subst h2;exact fun y=>n3 x y x (bB h1 hx) rfl
   | succ j=>exact fX n2 (by simpa using h1) (by simpa using h2) (by lia) hx
section
variable{Ws:List Wd}{M:Addr->Prop}{α:List (List Addr)}{H H':Hp}{σ:L2.St}{δ:List Sl}{i:Nat}{v:V}{d:Dt}{s:Sl}
def br(δ:List Sl)(i:Nat):Prop:= ∃s,δ[i]?=some s/\s.cB=false
theorem br.lt(h:br δ i):i < δ.length:=let ⟨s,e,_⟩:=h;(aa5.mp e).1
theorem az.fw(E:az Ws M α H σ δ)(r:Rep M H v d)(ok:br δ i):az Ws M (α.set i []) H (σ.set i (some v)) (δ.set i (.im d)):=by
 have hi:=ok.lt;obtain⟨s0,Cy,nb⟩:=ok;refine⟨by rw[ad0,ad0,E.ls],by rw[ad0,ad0,E.la],fun j s hj=>?_,cF E.nd ai6 (fun x hx=>absurd hx aa4),fun a ha=>(bG ha).elim (E.mu a) fun z=>absurd z aa4,E.al,fun W hW=>?_⟩
 . by_cases ck:i=j
   . subst ck;rw[ab9 hi] at hj;cases hj;exact⟨some v,[],by rw[ab9 (by rw[E.ls];exact hi)],by rw[ab9 (by rw[E.la];exact hi)],rfl,v,rfl,r⟩
   . rw[ab1 ck] at hj;obtain⟨o,as,h1,h2,h3⟩:=E.sl j s hj;exact⟨o,as,by rw[ab1 ck];exact h1,by rw[ab1 ck];exact h2,h3⟩
 . have k:=E.w W hW;refine⟨k.bs,k.ex,fun a ha=>(bG ha).elim (k.fr a) fun z=>absurd z aa4,k.m0,k.m1,fun d c e=>?_,fun j s as h1 h2 N9=>?_⟩
   . obtain⟨t,e1,e2⟩:=k.bx d c e;have:i≠0:=fun z=>by subst z;rw[Cy] at e1;cases e1;cases nb
     exact⟨t,by rw[ab1 this];exact e1,by rw[ab1 this];exact e2⟩
   . by_cases ck:i=j
     . subst ck;rw[ab9 (by rw[E.la];exact hi)] at h2;cases h2;exact fun a ha=>absurd ha aa4
     . rw[ab1 ck] at h1 h2;exact k.fz j s as h1 h2 N9
theorem ay.grow(r:ay M H xs ds)(hp:H p=none):ay (fun b=>M b\/b=p) (upd H p o) xs ds:=r.mono fun a u e n=>⟨by rw[ah (aq e hp)];exact e,fun z=>z.elim n (aq e hp)⟩
theorem Rep.grow(r:Rep M H x d)(hp:H p=none):Rep (fun b=>M b\/b=p) (upd H p o) x d:=r.mono fun a u e n=>⟨by rw[ah (aq e hp)];exact e,fun z=>z.elim n (aq e hp)⟩
theorem pZ.grow(h:pZ M H o s as)(hp:H p=none):pZ (fun b=>M b\/b=p) (upd H p u) o s as:=by
 have sm:ax H (upd H p u):=ax.new hp;cases s with
 | no=>exact h
 | im d=>exact⟨h.1,let ⟨v,e,r⟩:=h.2;⟨v,e,r.grow hp⟩⟩
 | ow ds=>obtain⟨a,xs,e1,e2,e3,r⟩:=h;exact⟨a,xs,e1,e2,sm _ _ e3,r.grow hp⟩
 | bx t=>obtain⟨d,c,e1,e2,r⟩:=h;exact⟨d,c,e1,e2,r.same sm⟩
 | dk ks ds=>obtain⟨a,vs,e1,e2,e3,e4,r⟩:=h;exact⟨a,vs,e1,e2,sm _ _ e3,e4,r.grow hp⟩
 | ob R=>obtain⟨v,e,r⟩:=h;exact⟨v,e,R.st r (fun a _ o q=>sm _ _ q) fun a u q n=>⟨sm _ _ q,fun z=>z.elim n (aq q hp)⟩⟩
 | fn f=>exact h
theorem az.mX(E:az Ws M α H σ δ)(hp:H p=none)(hu: ∀xs,u≠ .tup xs)(ok:br δ i)(nb:s.cB=false)(hs:pZ (fun b=>M b\/b=p) (upd H p u) (some (.ref p)) s [p]):
  az Ws (fun b=>M b\/b=p) (α.set i [p]) (upd H p u) (σ.set i (some (.ref p))) (δ.set i s):=by
 have hi:=ok.lt;have sm:ax H (upd H p u):=ax.new hp;have np:p∉α.flatten:=fun z=>E.fresh hp (E.mu p z);obtain⟨s0,Cy,Xt⟩:=ok;refine⟨by rw[ad0,ad0,E.ls],by rw[ad0,ad0,E.la],fun j s' hj=>?_,cF E.nd (by simp) (fun x hx=>by rw[aa6.mp hx];exact np),fun a ha=>(bG ha).elim (fun z=> .inl (E.mu a z)) fun z=> .inr (aa6.mp z),fun a ha=>?_,fun W hW=>?_⟩
 . by_cases ck:i=j
   . subst ck;rw[ab9 hi] at hj;cases hj;exact⟨_,_,by rw[ab9 (by rw[E.ls];exact hi)],by rw[ab9 (by rw[E.la];exact hi)],hs⟩
   . rw[ab1 ck] at hj;obtain⟨o,as,h1,h2,h3⟩:=E.sl j s' hj;exact⟨o,as,by rw[ab1 ck];exact h1,by rw[ab1 ck];exact h2,h3.grow hp⟩
 . rcases ha with ha | ha
   . obtain⟨o,e,n⟩:=E.al a ha;exact⟨o,sm _ _ e,n⟩
   . subst ha;exact⟨u,ag,hu⟩
 . have k:=E.w W hW;have YC:W.A0 p\/W.H0 p=none:=by
    by_cases z:W.A0 p
    . exact .inl z
    . right;cases e:W.H0 p with
      | none=>rfl
      | some o=>have:=k.bs p o e z;rw[hp] at this;cases this
   refine⟨fun b o e n=>sm _ _ (k.bs b o e n),fun b n y=>k.ex b n (LW.ax.none sm y),fun a ha=>(bG ha).elim (k.fr a) fun z=>by rw[aa6.mp z];exact YC,fun a h=> .inl (k.m0 a h),fun a h=>?_,fun d c e=>?_,fun j s' as h1 h2 N9=>?_⟩
   . rcases h with h | h
     . exact k.m1 a h
     . subst h;by_cases z:W.H0 a=none
       . exact .inr z
       . exact absurd hp (k.ex a z)
   . obtain⟨t,e1,e2⟩:=k.bx d c e;have:i≠0:=fun z=>by subst z;rw[Cy] at e1;cases e1;cases Xt
     exact⟨t,by rw[ab1 this];exact e1,by rw[ab1 this];exact e2⟩
   . by_cases ck:i=j
     . subst ck;rw[ab9 (by rw[E.la];exact hi)] at h2;cases h2;exact fun a ha z=>by rw[aa6.mp ha] at z;exact E.fresh hp (k.m0 _ z)
     . rw[ab1 ck] at h1 h2;exact k.fz j s' as h1 h2 N9
theorem az.mod(E:az Ws M α H σ δ){s s':Sl}(hi:δ[i]?=some s)(ho:σ[i]?=some o)(ha:α[i]?=some as)(hb:s'.cB=s.cB)(hs:pZ M H' o s' as)(keep: ∀b u,H b=some u->b∉as->H' b=some u)(ex: ∀a∈as,∃u,H' a=some u/\ ∀xs,u≠ .tup xs):az Ws M α H' σ (δ.set i s')/\cW α H H':=by
 have dH:=(aa5.mp hi).1;have Uu: ∀a∈as,M a:=fun a h=>E.mu a (bB ha h);have rep: ∀{v:V} {d:Dt},Rep M H v d->Rep M H' v d:=fun r=>r.mono fun a u e n=>⟨keep a u e fun z=>n (Uu a z),n⟩
 have NG: ∀{v:List V} {d:List Dt},ay M H v d->ay M H' v d:=fun r=>r.mono fun a u e n=>⟨keep a u e fun z=>n (Uu a z),n⟩
 refine⟨⟨by rw[ad0,E.ls],by rw[ad0,E.la],fun j s2 hj=>?_,E.nd,E.mu,fun a h=>?_,fun W hW=>?_⟩,fun b u e n=>keep b u e fun z=>n (bB ha z)⟩
 . by_cases ck:i=j
   . subst ck;rw[ab9 dH] at hj;cases hj;exact⟨o,as,ho,ha,hs⟩
   . rw[ab1 ck] at hj;obtain⟨o2,Am,h1,h2,h3⟩:=E.sl j s2 hj;have ap: ∀x∈Am,x∉as:=fun x hx=>fX E.nd h2 ha (Ne.symm ck) hx;refine⟨o2,Am,h1,h2,?_⟩;cases s2 with
     | no=>exact h3
     | im d=>exact⟨h3.1,let ⟨v,e,r⟩:=h3.2;⟨v,e,rep r⟩⟩
     | ow ds=>obtain⟨a,xs,e1,e2,e3,r⟩:=h3;subst e1;exact⟨a,xs,rfl,e2,keep _ _ e3 (ap a (by simp)),NG r⟩
     | bx t=>
      obtain⟨d,c,e1,e2,r⟩:=h3;subst e1;refine⟨d,c,rfl,e2,keep _ _ r.dc (ap d (by simp)),?_,r.t0,r.t1⟩;obtain⟨ns,h,q⟩:=r.cs;exact⟨ns,keep _ _ h (ap c (by simp)),q⟩
     | dk ks ds=>obtain⟨a,vs,e1,e2,e3,e4,r⟩:=h3;subst e1;exact⟨a,vs,rfl,e2,keep _ _ e3 (ap a (by simp)),e4,NG r⟩
     | ob R=>obtain⟨v,e,r⟩:=h3;exact⟨v,e,R.st r (fun a ha u q=>keep _ _ q (ap a ha)) fun a u q n=>⟨keep a u q fun z=>n (Uu a z),n⟩⟩
     | fn f=>exact h3
 . by_cases z:a∈as
   . exact ex a z
   . obtain⟨u,e,n⟩:=E.al a h;exact⟨u,keep _ _ e z,n⟩
 . have k:=E.w W hW;have XI: ∀a∈as,W.A0 a\/W.H0 a=none:=fun a z=>k.fr a (bB ha z);refine⟨fun b u e n=>keep _ _ (k.bs b u e n) fun z=>?_,fun b n y=>?_,k.fr,k.m0,k.m1,fun d c e=>?_,fun j s2 Am h1 h2 nb=>?_⟩
   . rcases XI b z with q | q
     . exact n q
     . rw[q] at e;cases e
   . by_cases z:b∈as
     . obtain⟨u,e,_⟩:=ex b z;rw[e] at y;cases y
     . cases e:H b with
       | none=>exact k.ex b n e
       | some u=>rw[keep _ _ e z] at y;cases y
   . obtain⟨t,e1,e2⟩:=k.bx d c e;by_cases ck:i=0
     . subst ck;rw[hi] at e1;cases e1;cases s' with
       | bx t'=>exact⟨t',by rw[ab9 dH],e2⟩
       | _=>cases hb
     . exact⟨t,by rw[ab1 ck];exact e1,e2⟩
   . by_cases ck:i=j
     . subst ck;rw[ab9 dH] at h1;cases h1;exact k.fz i s Am hi h2 (by rw[<-hb];exact nb)
     . rw[ab1 ck] at h1;exact k.fz j s2 Am h1 h2 nb
theorem az.CO(E:az Ws M α H σ δ)(hi:δ[i]?=some (.ow ds))(ha:α[i]?=some [a]):az Ws (fun b=>M b/\b≠a) (α.set i []) H σ (δ.set i (.im (.lst ds))):=by
 have dH:=(aa5.mp hi).1;obtain⟨a',xs,h1,h2,h3,r⟩:=E.ow hi;rw[ha] at h2;cases h2;have mono: ∀{v:V} {d:Dt},Rep M H v d->Rep (fun b=>M b/\b≠a) H v d:=fun r=>r.mono fun b u e n=>⟨e,fun z=>n z.1⟩
 have nq: ∀{v:List V} {d:List Dt},ay M H v d->ay (fun b=>M b/\b≠a) H v d:=fun r=>r.mono fun b u e n=>⟨e,fun z=>n z.1⟩
 refine⟨by rw[ad0,E.ls],by rw[ad0,ad0,E.la],fun j s hj=>?_,cF E.nd ai6 (fun x hx=>absurd hx aa4),fun b hb=>?_,fun b hb=>E.al b hb.1,fun W hW=>?_⟩
 . by_cases ck:i=j
   . subst ck;rw[ab9 dH] at hj;cases hj;exact⟨some (.ref a),[],h1,by rw[ab9 (by rw[E.la];exact dH)],rfl,_,rfl,Rep.mR h3 (fun z=>z.2 rfl) (nq r)⟩
   . rw[ab1 ck] at hj;obtain⟨o2,Am,g1,g2,g3⟩:=E.sl j s hj;refine⟨o2,Am,g1,by rw[ab1 ck];exact g2,?_⟩;cases s with
     | no=>exact g3
     | im d=>exact⟨g3.1,let ⟨v,e,r⟩:=g3.2;⟨v,e,mono r⟩⟩
     | ow ds=>obtain⟨b,xs,e1,e2,e3,r⟩:=g3;exact⟨b,xs,e1,e2,e3,nq r⟩
     | bx t=>exact g3
     | dk ks ds=>obtain⟨b,vs,e1,e2,e3,e4,r⟩:=g3;exact⟨b,vs,e1,e2,e3,e4,nq r⟩
     | ob R=>obtain⟨v,e,r⟩:=g3;exact⟨v,e,R.st r (fun _ _ _ q=>q) fun b u q n=>⟨q,fun z=>n z.1⟩⟩
     | fn f=>exact g3
 . obtain⟨l,hl,hx⟩:=ao6.mp hb;obtain⟨j,hj,e⟩:=ah8 hl;have ej:(α.set i [])[j]?=some l:=by rw[aa2 hj,e]
   by_cases ck:i=j
   . subst ck;rw[ab9 (by rw[E.la];exact dH)] at ej;cases ej;exact absurd hx aa4
   . rw[ab1 ck] at ej;refine⟨E.mu b (bB ej hx),fun z=>?_⟩;subst z;exact fX E.nd ej ha (Ne.symm ck) hx (by simp)
 . have k:=E.w W hW;refine⟨k.bs,k.ex,fun b hb=>(bG hb).elim (k.fr b) fun z=>absurd z aa4,fun b z=>⟨k.m0 b z,fun y=>?_⟩,fun b z=>k.m1 b z.1,fun d c e=>?_,fun j s as g1 g2 nb=>?_⟩
   . subst y;exact k.fz i _ _ hi ha rfl b (by simp) z
   . obtain⟨t,e1,e2⟩:=k.bx d c e;have:i≠0:=fun z=>by subst z;rw[hi] at e1;cases e1
     exact⟨t,by rw[ab1 this];exact e1,by rw[ab1 this];exact e2⟩
   . by_cases ck:i=j
     . subst ck;rw[ab9 (by rw[E.la];exact dH)] at g2;cases g2;exact fun b hb=>absurd hb aa4
     . rw[ab1 ck] at g1 g2;exact k.fz j s as g1 g2 nb
theorem az.tF(E:az Ws M α H σ δ){ds:List Dt}(hi:δ[i]?=some (.ow ds)): ∃M' α',az Ws M' α' H σ (δ.set i (.im (.lst ds)))/\ ∀a,M' a->M a:=by
 obtain⟨a,xs,h1,h2,h3,r⟩:=E.ow hi;exact⟨_,_,E.CO hi h2,fun b z=>z.1⟩
theorem az.drop(E:az (W::Ws) M α H σ δ):az Ws M α H σ δ:=⟨E.ls,E.la,E.sl,E.nd,E.mu,E.al,fun W' h=>E.w W' (ab5 _ h)⟩
theorem az.loop(E:az Ws M α H σ δ):az (⟨H,M,fun _=>False,M,none⟩::Ws) M α H σ δ:=⟨E.ls,E.la,E.sl,E.nd,E.mu,E.al,fun W h=>by
 rcases ac3.mp h with e | e
 . subst e;exact⟨fun b o e _=>e,fun b n=>n,fun a h=> .inl (E.mu a h),fun a h=>h.elim,fun a h=> .inl h,fun d c e=>(by cases e),fun j s as _ _ _ a _ z=>z⟩
 . exact E.w W e⟩
end
structure cG where
 nx:List Sl->Prop
 rt:Dt->List Sl->Prop
 bk:List Sl->Prop:=fun _=>False
 ct:List Sl->Prop:=fun _=>False
abbrev kg:=cG->List Sl->Prop
structure Lk(Ws:List Wd)(D:Ends)(Δ:cG):Prop where
 nx: ∀M α H σ δ,az Ws M α H σ δ->Δ.nx δ->D.nx σ H
 rt: ∀M α H σ δ v d,az Ws M α H σ δ->Rep M H v d->Δ.rt d δ->D.rt v H
 bk: ∀M α H σ δ,az Ws M α H σ δ->Δ.bk δ->D.bk σ H
 ct: ∀M α H σ δ,az Ws M α H σ δ->Δ.ct δ->D.ct σ H
inductive lS(T:kg)(D:L2.Ends)(σ:L2.St)(H:Hp):Prop
 | mk (Ws:List Wd) (M:Addr->Prop) (α:List (List Addr)) (δ:List Sl) (Δ:cG) (h1:az Ws M α H σ δ) (h2:Lk Ws D Δ) (h3:T Δ δ)
abbrev Ex(X:Cx)(s:Stmt)(T:kg):Prop:=PS X s (lS T)
abbrev AA(X:Cx)(s:List Stmt)(T:kg):Prop:=iH X s (lS T)
section
variable{X:Cx}{st:Stmt}{rest:List Stmt}{T U:kg}{e a b c:Expr}{es:List Expr}{t ta tb:bh}{u:kj}{pos:Pos}
def IX:kg:=fun Δ δ=>Δ.nx δ
def Pp(T U:kg):kg:=fun Δ δ=>T {Δ with nx:=U Δ} δ
theorem bq:AA X [] IX:=iH.imp jD fun D σ H bZ=>(by obtain⟨Ws,M,α,δ,Δ,E,L,q⟩:=bZ;exact(L.nx _ _ _ _ _ E q))
theorem ak(h1:Ex X st T)(h2:AA X rest U):AA X (st::rest) (Pp T U):=iH.imp (aT h1 h2) fun D σ H eS=>(by obtain⟨Ws,M,α,δ,Δ,E,L,q⟩:=eS;exact(
 ⟨Ws,M,α,δ,{Δ with nx:=U Δ},E,⟨fun M α H σ δ E q=>⟨Ws,M,α,δ,Δ,E,L,q⟩,L.rt,L.bk,L.ct⟩,q⟩))
theorem aB(h1:Ex X st T):AA X [st] T:=cK h1
def Pw(t:bh):kg:=fun Δ δ=>t δ Δ.rt
theorem aD(h:Ev X e t):Ex X (.Return (some e) pos) (Pw t):=PS.imp (iZ h) fun D σ H iC=>(by obtain⟨Ws,M,α,δ,Δ,E,L,q⟩:=iC;exact(⟨Ws,M,α,δ,_,E,q,fun d δ' H' v q1 E1 c1 r1=>L.rt _ _ _ _ _ _ _ E1 r1 q1⟩))
def PH(u:kj)(T U:kg):kg:=fun Δ δ=>u δ fun b δ'=>if b=true then T Δ δ' else U Δ δ'
theorem cZ(hc:Tv X c u)(ha:AA X sa T)(hb:AA X sb U):Ex X (.If c sa sb pos) (PH u T U):=PS.imp (sJ hc ha hb) fun D σ H iS=>(by obtain⟨Ws,M,α,δ,Δ,E,L,q⟩:=iS;exact(
 ⟨Ws,M,α,δ,_,E,q,fun b δ' H' q1 E1 c1=>by
  cases b with
  | true=>rw[if_pos rfl] at q1 ⊢;exact⟨Ws,M,α,δ',Δ,E1,L,q1⟩
  | false=>rw[if_neg ac0] at q1 ⊢;exact⟨Ws,M,α,δ',Δ,E1,L,q1⟩⟩))
def PN(t:bh):kg:=fun Δ δ=>t δ fun _ δ'=>Δ.nx δ'
theorem cH(h:Ev X e t)(hs:swapsWith e none pos.line X.env=pure false:=by rfl):Ex X (.Expr e pos) (PN t):=PS.imp (Fs h hs) fun D σ H jq=>(by obtain⟨Ws,M,α,δ,Δ,E,L,q⟩:=jq;exact(⟨Ws,M,α,δ,_,E,q,fun d δ' H' v q1 E1 c1 r1=>L.nx _ _ _ _ _ E1 q1⟩))
def Ub(i:Nat)(t:bh):kg:=fun Δ δ=>t δ fun d δ'=>br δ' i/\Δ.nx (δ'.set i (.im d))
theorem bT(i:Nat)(hN:X.N.Nodup)(he:Ev X e t)(hi:X.N[i]?=some x:=by rfl)(hx:Loc X.env.scope x:=by first | exact Or.inl rfl | exact Or.inr rfl)(hs:swapsWith e (some (.Name x pos')) pos.line X.env=pure false:=by rfl)(hf:X.fn x=true\/X.env.scope.names.lookup x=some .local:=by first | exact .inl rfl | exact .inr rfl | assumption):
  Ex X (.Assign [.Name x pos'] e pos) (Ub i t):=PS.imp (cM hN hi hx he hs hf) fun D σ H mE=>(by obtain⟨Ws,M,α,δ,Δ,E,L,q⟩:=mE;exact(⟨Ws,M,α,δ,_,E,q,fun d δ' H' v rP E1 c1 r1=>(by obtain⟨ok,q1⟩:=rP;exact(L.nx _ _ _ _ _ (E1.fw r1 ok) q1))⟩))
def DC(i:Nat)(t:wB):kg:=fun Δ δ=>t δ fun ds δ'=>br δ' i/\Δ.nx (δ'.set i (.ow ds))
theorem yK{i:Nat}{t:wB}: ∀D σ H,lS (DC i t) D σ H->A8 (lO t) (cm i) D σ H:=fun D σ H mD=>(by obtain⟨Ws,M,α,δ,Δ,E,L,q⟩:=mD;exact(⟨Ws,M,α,δ,_,E,q,fun ds δ' H1 xs a gv E1 c1 r1 h1=>(by obtain⟨ok,q1⟩:=gv;exact(
 L.nx _ _ _ _ _ (E1.mX (s:= .ow ds) h1 (fun xs z=>by cases z) ok rfl ⟨a,xs,rfl,rfl,ag,r1.grow h1⟩) q1))⟩))
theorem fP(i:Nat){x:Str}{pos':Pos}{t:wB}(hN:X.N.Nodup)(he:Ov X e t)(hi:X.N[i]?=some x:=by rfl)(hx:Loc X.env.scope x:=by first | exact Or.inl rfl | exact Or.inr rfl)(hs:swapsWith e (some (.Name x pos')) pos.line X.env=pure false:=by rfl)(hf:X.fn x=true\/X.env.scope.names.lookup x=some .local:=by first | exact .inl rfl | exact .inr rfl | assumption):
  Ex X (.Assign [.Name x pos'] e pos) (DC i t):=PS.imp (cM hN hi hx he hs hf) yK
inductive LO(i:Nat)(T:kg)(Δ:cG)(δ:List Sl):Prop
 | mk (ds:_) (h1:δ[i]?=some (.ow ds)) (h2:T Δ (δ.set i (.im (.lst ds))))
theorem CN: ∀D σ H,lS (LO i T) D σ H->lS T D σ H:=fun D σ H mG=>(by obtain⟨Ws,M,α,δ,Δ,E,L,ds,h,q⟩:=mG;exact(by
 obtain⟨M',α',E',_⟩:=E.tF h;exact⟨Ws,M',α',_,Δ,E',L,q⟩))
theorem iL(i:Nat)(h:Ex X st T):Ex X st (LO i T):=PS.imp h CN
theorem xm{Ws:List Wd}{M:Addr->Prop}{α:List (List Addr)}{H:Hp}{σ:L2.St}{δ:List Sl}{i:Nat}{ds VQ:List Dt}{a:Addr}(E:az Ws M α H σ δ)(h:δ[i]?=some (.ow ds))(h1:σ[i]?=some (some (.ref a)))(h2:α[i]?=some [a])(r:ay M H RJ VQ):
  az Ws M α (upd H a (.lst RJ)) σ (δ.set i (.ow VQ))/\cW α H (upd H a (.lst RJ)):=
 E.mod h h1 h2 rfl ⟨a,RJ,rfl,rfl,ag,r.mono fun b u e n=>⟨by rw[ah (fun z=>n (by rw[z];exact E.mu a (bB h2 (by simp))))];exact e,n⟩⟩ (fun b u e n=>by rw[ah (fun z=>n (by rw[z];simp))];exact e) (fun b hb=>by rw[aa6.mp hb];exact⟨_,ag,fun xs z=>by cases z⟩)
inductive DL(i:Nat)(Q:Dt->List Sl->Prop)(es:List Dt)(δ':List Sl):Prop
 | mk (ds d:_) (h1:es= [d]) (h2:δ'[i]?=some (.ow ds)) (h3:ds.length < sizeLine) (h4:Q .aF (δ'.set i (.ow (ds++ [d]))))
def Uk(i:Nat)(t:eZ):bh:=fun δ Q=>(∃IH,δ[i]?=some (.ow IH))/\t δ fun es δ'=>DL i Q es δ'
theorem bJ(i:Nat){xp apos aY:Pos}(ho:PE X (.Name x xp) (iF i))(ha:Av X [e] tA)(fE:attributeBase (.Name x xp) "append" X.env (eval (.Name x xp) X.env)=eval (.Name x xp) X.env:=by rfl)(CF:((backTo aY (starEach [e] X.env)).all (fun x=>!x.1) && (backToKw aY (keywordEach [] X.env)).all (fun x=>x.1.isSome) && decide ([e].length+([]:List Keyword).length+(if ([]:List Keyword).isEmpty then 0 else 1) < 30))=true:=by rfl)(jJ:(apos.endLine==aY.line)=true:=by rfl)(hs:starEach [e] X.env=(false,eval e X.env)::starEach [] X.env:=by rfl)(i6:(backTo aY (starEach [] X.env)).any (·.1)=false:=by rfl):
  Ev X (.Call (.Attribute (.Name x xp) "append" apos) [e] [] aY) (Uk i tA):=
 PE.imp (HN PySem.F.plainAttrs_list PySem.F.slot_list_append PySem.F.type_list_append kC ho ha fE CF jJ hs i6) fun σ H Q bZ=>(by obtain⟨W,M,α,δ,Qd,E,⟨⟨IH,h0⟩,q⟩,k⟩:=bZ;exact(by
  obtain⟨a,WO,h1,h2,h3,r3⟩:=E.ow h0;refine⟨_,h1,.inl ⟨rfl,_,bS.of h3⟩,W,M,α,δ,_,E,q,fun es δ' H' vs iT E1 c1 r1=>?_⟩;obtain⟨ds,d,e,hd,l,q1⟩:=iT;subst e;obtain⟨y,ys,rfl,ry,rn⟩:=r1.aG;cases rn.cC;obtain⟨a',xs,xM,qS,O6,Mw⟩:=E1.ow hd;rw[h1] at xM;cases xM;refine⟨a,xs,y,rfl,rfl,O6,by rw[Mw.1];exact l,?_⟩;obtain⟨E2,c2⟩:=xm E1 hd h1 qS (Mw.append (.one ry));exact k _ _ _ _ q1 E2 (c1.tr c2) .aF))
inductive LJ(i:Nat)(Q:Dt->List Sl->Prop)(d2:Dt)(δ':List Sl):Prop
 | mk (ds k d:_) (h1:δ'[i]?=some (.ow ds)) (h2:d2= .int k) (h3:jd ds k=some d) (h4:Q d δ')
def Ud(i:Nat)(tb:bh):bh:=fun δ Q=>(∃IH,δ[i]?=some (.ow IH))/\tb δ fun d2 δ'=>LJ i Q d2 δ'
theorem pJ(i:Nat)(ho:PE X (.Name x xp) (iF i))(hb:Ev X b tb)(hs:rG b:=by exact fun _ _=>rfl):Ev X (.Subscript (.Name x xp) b pos) (Ud i tb):=
 PE.imp (BM qO ho hb hs) fun σ H Q iC=>(by obtain⟨W,M,α,δ,Qd,E,⟨⟨IH,h0⟩,q⟩,k⟩:=iC;exact(by
  obtain⟨a,WO,h1,h2,h3,r3⟩:=E.ow h0;refine⟨_,h1,W,M,α,δ,_,E,q,fun d2 δ' H' v AF E1 c1 r1=>?_⟩;obtain⟨ds,n,d,hd,e,hg,q1⟩:=AF;subst e;obtain⟨a',xs,xM,qS,O6,Mw⟩:=E1.ow hd;rw[h1] at xM;cases xM;obtain⟨y,hy,ry⟩:=rD Mw hg;exact⟨a,xs,n,y,rfl,r1.ofInt,bS.of O6,hy,k _ _ _ _ q1 E1 c1 ry⟩))
inductive Pk(i:Nat)(δ:List Sl)(Q:Dt->List Sl->Prop):Prop
 | mk (ds:_) (h1:δ[i]?=some (.ow ds)) (h2:Q (.tup ds) δ)
theorem Du(i:Nat)(hm:X.mg "tuple"=none)(ho:PE X (.Name x xp) (iF i))(hg:Gl X "tuple":=by rfl)(he:starEach [.Name x xp] X.env=(false,eval (.Name x xp) X.env)::starEach [] X.env:=by rfl)(da:(backTo pos (starEach [] X.env)).any (·.1)=false:=by rfl):
  Ev X (.Call (.Name "tuple" p) [.Name x xp] [] pos) (Pk i):=PE.imp (fB iQ hg hm bW (aj ho aE he) (by decide) (by decide) he da) fun σ H Q iS=>(by obtain⟨W,M,α,δ,Qd,E,⟨ds,hd,q⟩,k⟩:=iS;exact(by
  obtain⟨a,xs,h1,h2,h3,r3⟩:=E.ow hd;refine⟨_,h1,a,xs,rfl,.inl ⟨bS.of h3,fun l hl=>?_⟩⟩;have s:ax H (upd H l (.tup xs)):=ax.new hl;exact k _ _ _ _ q (E.same s) (cW.of s) (Rep.gy ag (E.fresh hl) (r3.same s))))
inductive G4(Q:List Dt->List Sl->Prop)(ds:List Dt)(δ':List Sl):Prop
 | mk (es:_) (h1:(ds= [.lst es]\/ds= [.tup es])) (h2:Q es δ')
def dList(t:eZ):wB:=fun δ Q=>t δ fun ds δ'=>G4 Q ds δ'
theorem Cc(hm:X.mg "list"=none)(ha:Av X [e] tA)(hg:Gl X "list":=by rfl)(he:starEach [e] X.env=(false,eval e X.env)::starEach [] X.env:=by rfl)(da:(backTo pos (starEach [] X.env)).any (·.1)=false:=by rfl):
  Ov X (.Call (.Name "list" p) [e] [] pos) (dList tA):=PE.imp (fB j5 hg hm bD ha (by decide) (by decide) he da) fun σ H Q uv=>(by obtain⟨W,M,α,δ,Qd,E,q,k⟩:=uv;exact(
 ⟨W,M,α,δ,_,E,q,fun ds δ1 H1 xs AD E1 c1 r0=>(by obtain⟨es,e,q1⟩:=AD;exact(by
  rcases e with e | e <;> subst e <;> obtain⟨x,ys,rfl,r1,r2⟩:=r0.aG <;> cases r2.cC
  . obtain⟨a,zs,rfl,ha,n,rr⟩:=r1.bV;exact⟨a,zs,rfl,.inl (bS.of ha),fun l hl=>k _ _ _ _ _ q1 E1 c1 rr hl⟩
  . obtain⟨a,zs,rfl,ha,n,rr⟩:=r1.bQ;exact⟨a,zs,rfl,.inr (dB.of ha),fun l hl=>k _ _ _ _ _ q1 E1 c1 rr hl⟩))⟩))
inductive DF(Q:List Dt->List Sl->Prop)(ds:List Dt)(δ':List Sl):Prop
 | mk (i:Int) (n:Nat) (h1:ds= [.int i,.int (i+n)]) (h2: -(2^61)<=i) (h3:i < 2^61) (h4:n<=1000) (h5:Q ((List.range n).map fun k=> .int (i+(k:Nat))) δ')
def LF(t:eZ):wB:=fun δ Q=>t δ fun ds δ'=>DF Q ds δ'
theorem FW(hc:X.calm=true)(Gm:X.mg "list"=none)(OL:X.mg "range"=none)(ha:Av X [a,b] tA)(KW:Gl X "list":=by rfl)(oA:Gl X "range":=by rfl)(Cy:starEach [.Call (.Name "range" p2) [a,b] [] u5] X.env= [(false,eval (.Call (.Name "range" p2) [a,b] [] u5) X.env)]:=by rfl)(hs:starEach [a,b] X.env= [(false,eval a X.env),(false,eval b X.env)]:=by rfl)(nE:starEach [b] X.env= [(false,eval b X.env)]:=by rfl):
  Ov X (.Call (.Name "list" p) [.Call (.Name "range" p2) [a,b] [] u5] [] pos) (LF tA):=PE.imp (BL hc KW Gm oA OL ha Cy hs nE) fun σ H Q jq=>(by obtain⟨W,M,α,δ,Qd,E,q,k⟩:=jq;exact(
 ⟨W,M,α,δ,_,E,q,fun ds δ1 H1 xs mE E1 c1 r0=>(by obtain⟨i,n,e,l1,l2,l3,q1⟩:=mE;exact(by
  subst e;obtain⟨x,ys,rfl,r1,r2⟩:=r0.aG;obtain⟨y,zs,rfl,r4,r3⟩:=r2.aG;cases r3.cC;cases r1.ofInt;cases r4.ofInt;refine⟨i,n,rfl,l1,l2,l3,fun p hp=>k _ _ _ _ _ q1 E1 c1 ⟨by simp,fun j x d h1 h2=>?_⟩ hp⟩;rw[aa8] at h1 h2;cases hj:(List.range n)[j]? with
  | none=>rw[hj] at h1;cases h1
  | some m=>rw[hj] at h1 h2;cases h1;cases h2;exact .int _))⟩))
theorem ix(r:ay M H xs ds):xs.isEmpty=ds.isEmpty:=by
 have:=r.1;cases xs <;> cases ds <;> simp at this ⊢
noncomputable def RN:Dt->Option Bool
 | .aF=>some false
 | .bl b=>some b
 | .int i=>some (i !=0)
 | .lst ds=>some (!ds.isEmpty)
 | .tup ds=>some (!ds.isEmpty)
 | _=>none
inductive Lx(Q:Bool->List Sl->Prop)(d:Dt)(δ':List Sl):Prop
 | mk (b:_) (h1:RN d=some b) (h2:Q b δ')
def T6(t:bh):kj:=fun δ Q=>t δ fun d δ'=>Lx Q d δ'
theorem HC(h:Ev X e t)(he: ∀whole,isTrue e X.env whole=(do let v<-whole;standAt e.pos;holding [v] (truthy v)):=by intro _;rfl):Tv X e (T6 t):=
 PT.imp (Bx h he) fun σ H Q Jh=>(by obtain⟨W,M,α,δ,Qd,E,q,k⟩:=Jh;exact(⟨W,M,α,δ,_,E,q,fun d δ' H' v RB E1 c1 r1=>(by obtain⟨b,hb,q1⟩:=RB;exact(⟨b,by
  cases r1 with
  | aF=>cases hb;rfl
  | bl c=>cases hb;rfl
  | int c=>cases hb;rfl
  | str c=>cases hb
  | lst h n l r=>cases hb;exact .inl ⟨_,bS.of h,by rw[ix ⟨l,r⟩]⟩
  | vV h n e l r=>cases hb
  | lN h n e l r=>cases hb
  | tup h n l r=>cases hb;exact .inr (.inl ⟨_,dB.of h,by rw[ix ⟨l,r⟩]⟩),k _ _ _ q1 E1 c1⟩))⟩))
end
def bP(S:DN):Sp:=fun vs H Q _=> ∃M ds Qd,iI M H/\ay M H vs ds/\S ds Qd/\ ∀r H' v',Qd r->ax H H'->Rep M H' v' r->Q v' H'
abbrev DB:=Int->List Dt->(Dt->Int->Prop)->Prop
def sr(S:DB):Sp:=fun vs H Q _=> ∃M d c t ws ds Qd,vs= .ref d::ws/\iI M H/\M d/\M c/\uu H d c t/\ay M H ws ds/\S t ds Qd/\ ∀r t' H' v',Qd r t'->Kp d c H H'->uu H' d c t'->Rep M H' v' r->Q v' H'
section
variable{X:Cx}{e:Expr}{es:List Expr}{pos p:Pos}{x:Str}{k:Nat}{ps:List Str}
theorem aO(h:dj X.prog X.w X.K X.mg X.base x k ps (bP S))(hr:bg k X.A)(ha:Av X (e::es) t)(hg:Gl X x:=by rfl)(gs:(x==("__debug__":Str))=false:=by decide)(he:starEach (e::es) X.env=(false,eval e X.env)::starEach es X.env:=by rfl)(da:(backTo pos (starEach es X.env)).any (·.1)=false:=by rfl):
  Ev X (.Call (.Name x p) (e::es) [] pos) (Ax S t):=PE.imp (kA h hr hg ha gs he da) fun σ H Q bZ=>(by obtain⟨W,M,α,δ,Qd,E,q,k⟩:=bZ;exact(
 ⟨W,M,α,δ,_,E,q,fun ds δ' H' vs q1 E1 c1 r1=>by
  show bP S (vs++ []) H' Q E0;rw[af0];exact⟨M,ds,_,E1.al,r1,q1,fun r H2 v2 q2 s r2=>k _ _ _ _ q2 (E1.same s) (c1.tr (cW.of s)) r2⟩⟩))
theorem az.box{i:Nat}(E:az Ws M α H σ δ)(h:δ[i]?=some (.bx t)): ∃d c,σ[i]?=some (some (.ref d))/\α[i]?=some [d,c]/\uu H d c t:=by
 obtain⟨o,as,h1,h2,d,c,rfl,rfl,r⟩:=E.sl i _ h;exact⟨d,c,h1,h2,r⟩
theorem x6(E:az Ws M α H σ δ)(h:δ[i]?=some (.bx t))(h1:σ[i]?=some (some (.ref d)))(h2:α[i]?=some [d,c])(k:Kp d c H H')(B:uu H' d c t'):
  az Ws M α H' σ (δ.set i (.bx t'))/\cW α H H':=
 E.mod h h1 h2 rfl ⟨d,c,rfl,rfl,B⟩ (fun b u e n=>k b u e (fun z=>n (by rw[z];simp)) (fun z=>n (by rw[z];simp))) (fun b hb=>by
  simp only [ac3,aa4,or_false] at hb;rcases hb with rfl | rfl
  . exact⟨_,B.dc,fun xs z=>by cases z⟩
  . obtain⟨ns,h,_⟩:=B.cs;exact⟨_,h,fun xs z=>by cases z⟩)
def PL(S:DB)(i:Nat)(t:eZ):bh:=fun δ Q=>(∃t0,δ[i]?=some (.bx t0))/\t δ fun ds δ'=> ∃t,δ'[i]?=some (.bx t)/\S t ds fun r t'=>Q r (δ'.set i (.bx t'))
theorem dJ(i:Nat)(h:dj X.prog X.w X.K X.mg X.base x k ps (sr S))(hr:bg k X.A)(ho:PE X (.Name y yp) (iF i))(ha:Av X es t)(hg:Gl X x:=by rfl)(gs:(x==("__debug__":Str))=false:=by decide)(he:starEach (.Name y yp::es) X.env=(false,eval (.Name y yp) X.env)::starEach es X.env:=by rfl)(da:(backTo pos (starEach es X.env)).any (·.1)=false:=by rfl):
  Ev X (.Call (.Name x p) (.Name y yp::es) [] pos) (PL S i t):=PE.imp (kA h hr hg (aj ho ha he) gs he da) fun σ H Q bZ=>(by obtain⟨W,M,α,δ,Qd,E,⟨⟨t0,h0⟩,q⟩,k⟩:=bZ;exact(by
  obtain⟨d,c,h1,h2,B⟩:=E.box h0;refine⟨_,h1,W,M,α,δ,_,E,q,fun ds δ' H' vs gr E1 c1 r1=>?_⟩;obtain⟨t,hd,q1⟩:=gr;obtain⟨d',c',xM,qS,B'⟩:=E1.box hd;rw[h1] at xM;cases xM;show sr S ((V.ref d::vs)++ []) H' Q E0;rw[af0];refine⟨M,d,c',t,vs,ds,_,rfl,E1.al,E1.mu d (bB qS (by simp)),E1.mu c' (bB qS (by simp)),B',r1,q1,fun r t' H2 v2 q2 kp B2 r2=>?_⟩;obtain⟨E2,c2⟩:=x6 E1 hd h1 qS kp B2;exact k _ _ _ _ q2 E2 (c1.tr c2) r2))
end
section
variable{P:Program}{w:World}{K:PySem.W.Frag}{mg:Str->Option Value}{base:Heap}
theorem iu(al:iI M H)(r:ay M H vs ds)(w: ∀W∈Ws,Q0 W M (List.replicate (ds.length+n) []) H (ds.map .im++List.replicate n .no)):
  az Ws M (List.replicate (ds.length+n) []) H (vs.map some++List.replicate n none) (ds.map .im++List.replicate n .no):=by
 have bf:(List.replicate (ds.length+n) ([]:List Addr)).flatten= []:=by simp
 refine⟨by simp [r.1],by simp,fun i s h=>?_,by rw[bf];exact ai6,fun a ha=>by rw[bf] at ha;exact absurd ha aa4,al,w⟩;have hi:=(aa5.mp h).1;rw[aa9,aa1,ah3] at hi;have ha:(List.replicate (ds.length+n) ([]:List Addr))[i]?=some []:=by rw[ac1,if_pos hi]
 by_cases hl:i < ds.length
 . rw[ad5 (by rw[aa1];exact hl),aa8,aa2 hl] at h;cases h;obtain⟨v,hv,rv⟩:=r.get (aa2 hl);exact⟨some v,[],by rw[ad5 (by rw[aa1,r.1];exact hl),aa8,hv];rfl,ha,rfl,v,rfl,rv⟩
 . rw[ae4 (by rw[aa1];omega),ac1] at h;split at h
   . rename_i hn;cases h;rw[aa1] at hn;exact⟨none,[],by rw[ae4 (by rw[aa1,r.1];omega),ac1,if_pos (by rw[aa1,r.1];exact hn)],ha,rfl⟩
   . cases h
theorem lL {x qual : Str} {st : Stmt} {k : Nat} (F : dM K x qual st f fd) (sc : aw N ps (af st)) (len : ∀ ds Qd, S ds Qd -> ds.length = ps.length) (dw : ∀ (ba : Value) (A : Around) (outer : List Env) (s : Shared) (H : Hp) (E : XK), bg k (A.deeper (envOfC qual (af st) s.heap.objs.size f ba)) ->
   ∃T,AA (fJ cX P w K mg base N qual (af st) f ba A outer s H E).Cd (bz st) T/\ ∀ds Qd,S ds Qd->T {nx:=fun _=>Qd .aF,rt:=fun d _=>Qd d} (ds.map .im++List.replicate (N.length - ps.length) .no)):
  aJ P w K mg base cX (k+1) f fd ps (bP S):=by
 refine F.ok sc (fun vs H Q E h=>?_) (fun ba A outer s H vs Q E hr h=>?_)
 . obtain⟨M,ds,Qd,al,r,q,_⟩:=h;rw[r.1];exact len ds Qd q
 . obtain⟨M,ds,Qd,al,r,q,kk⟩:=h;obtain⟨T,hT,hq⟩:=dw ba A outer s H E hr;refine⟨lS T,hT,[⟨H,fun _=>False,M,M,none⟩],M,List.replicate (ds.length+(N.length - ps.length)) [],ds.map .im++List.replicate (N.length - ps.length) .no,_,?_,?_,hq ds Qd q⟩
   . have e:L2.start N vs=vs.map some++List.replicate (N.length - ps.length) none:=by unfold L2.start;rw[r.1,len ds Qd q]
     rw[e];refine iu al r fun W hW=>?_;rw[aa6.mp hW];have bf:(List.replicate (ds.length+(N.length - ps.length)) ([]:List Addr)).flatten= []:=by simp
     refine⟨fun b o e _=>e,fun b n=>n,fun a ha=>by rw[bf] at ha;exact absurd ha aa4,fun a h=>h,fun a h=> .inl h,fun d c e=>(by cases e),fun j s as h1 h2 _ a ha=>?_⟩;rw[ac1] at h2;split at h2
     . cases h2;exact absurd ha aa4
     . cases h2
   . have same : ∀ {M' α' H' σ' δ'}, az [⟨H, fun _ => False, M, M, none⟩] M' α' H' σ' δ' -> ax H H' /\ ∀ a, M a -> M' a := fun E' => by
       have k:=E'.w _ (aa6.mpr rfl);exact⟨fun b o e=>k.bs b o e (fun z=>z),k.m0⟩
     refine⟨fun M' α' H' σ' δ' E' q=>kk _ _ _ q (same E').1 .aF,fun M' α' H' σ' δ' v d E' r' q=>kk _ _ _ q (same E').1 (r'.mono fun a o e n=>⟨e,fun z=>n ((same E').2 a z)⟩),fun _ _ _ _ _ _ z=>z.elim,fun _ _ _ _ _ _ z=>z.elim⟩
theorem vS(al:iI M H)(r:ay M H vs ds)(B:uu H d c t)(Md:M d)(Mc:M c)(h0:W=⟨H,fun a=>a=d\/a=c,M,M,some (d,c)⟩):
  az [W] M ([d,c]::List.replicate (ds.length+n) []) H (some (.ref d)::(vs.map some++List.replicate n none)) (.bx t::(ds.map .im++List.replicate n .no)):=by
 have E0:=iu (Ws:= []) (n:=n) al r (fun W hW=>absurd hW aa4);have bf:(List.replicate (ds.length+n) ([]:List Addr)).flatten= []:=by simp
 have ef:(([d,c]:List Addr)::List.replicate (ds.length+n) []).flatten= [d,c]:=by rw[ae9,bf,af0]
 refine⟨by rw[ac7,ac7,E0.ls],by rw[ac7,ac7,E0.la],fun i s h=>?_,?_,fun a ha=>?_,al,fun W' hW=>?_⟩
 . cases i with
   | zero=>cases h;exact⟨_,_,rfl,rfl,d,c,rfl,rfl,B⟩
   | succ i=>obtain⟨o,as,h1,h2,h3⟩:=E0.sl i s (by simpa using h);exact⟨o,as,by simpa using h1,by simpa using h2,h3⟩
 . rw[ef];simp [B.ne]
 . rw[ef] at ha;simp only [ac3,aa4,or_false] at ha;rcases ha with rfl | rfl <;> assumption
 . rw[aa6.mp hW,h0];refine⟨fun b o e _=>e,fun b n=>n,fun a ha=>?_,fun a h=>h,fun a h=> .inl h,fun d' c' e=>?_,fun j s as h1 h2 nb a ha=>?_⟩
   . rw[ef] at ha;simp only [ac3,aa4,or_false] at ha;exact .inl ha
   . cases e;exact⟨t,rfl,rfl⟩
   . cases j with
     | zero=>cases h1;cases nb
     | succ j=>
      rw[List.getElem?_cons_succ,ac1] at h2;split at h2
      . cases h2;exact absurd ha aa4
      . cases h2
theorem TL {x qual : Str} {st : Stmt} {k : Nat} (F : dM K x qual st f fd) (sc : aw N ps (af st)) (len : ∀ t ds Qd, S t ds Qd -> ds.length + 1 = ps.length) (dw : ∀ (ba : Value) (A : Around) (outer : List Env) (s : Shared) (H : Hp) (E : XK), bg k (A.deeper (envOfC qual (af st) s.heap.objs.size f ba)) ->
   ∃T,AA (fJ cX P w K mg base N qual (af st) f ba A outer s H E).Cd (bz st) T/\ ∀t ds Qd,S t ds Qd->T {nx:=fun δ=> ∃t',δ[0]?=some (.bx t')/\Qd .aF t',rt:=fun d δ=> ∃t',δ[0]?=some (.bx t')/\Qd d t'} (.bx t::(ds.map .im++List.replicate (N.length - ps.length) .no))):
  aJ P w K mg base cX (k+1) f fd ps (sr S):=by
 refine F.ok sc (fun vs H Q E h=>?_) (fun ba A outer s H vs Q E hr h=>?_)
 . obtain⟨M,d,c,t,ws,ds,Qd,rfl,al,md,mc,B,r,q,_⟩:=h;rw[ac7,r.1];exact len t ds Qd q
 . obtain⟨M,d,c,t,ws,ds,Qd,rfl,al,md,mc,B,r,q,kk⟩:=h;obtain⟨T,hT,hq⟩:=dw ba A outer s H E hr;refine⟨lS T,hT,[⟨H,fun a=>a=d\/a=c,M,M,some (d,c)⟩],M,[d,c]::List.replicate (ds.length+(N.length - ps.length)) [], .bx t::(ds.map .im++List.replicate (N.length - ps.length) .no),_,?_,?_,hq t ds Qd q⟩
   . have e : L2.start N (.ref d :: ws) = some (.ref d) :: (ws.map some ++ List.replicate (N.length - ps.length) none) := by
       unfold L2.start;rw[ac9,ao7,ac7,r.1,len t ds Qd q]
     rw[e];exact vS al r B md mc rfl
   . have same : ∀ {M' α' H' σ' δ' t'}, az [⟨H, fun a => a = d \/ a = c, M, M, some (d, c)⟩] M' α' H' σ' δ' -> δ'[0]? = some (.bx t') -> Kp d c H H' /\ (∀ a, M a -> M' a) /\ uu H' d c t' := fun {M' α' H' σ' δ' t'} E' ht => by
       have k:=E'.w _ (aa6.mpr rfl);refine⟨fun b o e n1 n2=>k.bs b o e (fun z=>z.elim n1 n2),k.m0,?_⟩;obtain⟨t2,e1,e2⟩:=k.bx d c rfl;obtain⟨d3,c3,e3,e4,B3⟩:=E'.box ht;rw[e2] at e4;cases e4;exact B3
     refine⟨fun M' α' H' σ' δ' E' iC=>(by obtain⟨t',ht,q⟩:=iC;exact(kk _ _ _ _ q (same E' ht).1 (same E' ht).2.2 .aF)),fun M' α' H' σ' δ' v dd E' r' iS=>(by obtain⟨t',ht,q⟩:=iS;exact(kk _ _ _ _ q (same E' ht).1 (same E' ht).2.2 (r'.mono fun a o e n=>⟨e,fun z=>n ((same E' ht).2.1 a z)⟩))),fun _ _ _ _ _ _ z=>z.elim,fun _ _ _ _ _ _ z=>z.elim⟩
end
def Kf(M:Addr->Prop)(H H1:Hp):Prop:= ∀b o,H b=some o-> ¬M b->H1 b=some o
structure Yl(M:Addr->Prop)(H:Hp)(J:It)(ao:List Dt):Prop where
 go: ∀i H1 M',Kf M H H1->iI M' H1->(∀b,H b≠none-> ¬M b-> ¬M' b)->i < ao.length->J.go i H1/\ ∀x H2,J.rR i H1 x H2->ax H1 H2/\ ∃d,ao[i]?=some d/\Rep M' H2 x d
 stop: ∀H1,Kf M H H1->J.stop ao.length H1
abbrev oO:=List Sl->(List Dt->List Sl->Prop)->Prop
inductive lI(t:oO)(σ:L2.St)(H:Hp)(R:It->Hp->Prop):Prop
 | mk (W:List Wd) (M:Addr->Prop) (α:List (List Addr)) (δ:List Sl) (Qd:List Dt->List Sl->Prop) (h1:az W M α H σ δ) (h2:t δ Qd) (h3: ∀ao δ' H' J,Qd ao δ'->az W M α H' σ δ'->cW α H H'->Yl M H' J ao->R J H')
theorem PI.imp(h:PI X tg iter t)(i: ∀σ H R,t' σ H R->t σ H R):PI X tg iter t':=fun pins s σ H R I q=>h pins s σ H R I (i _ _ _ q)
abbrev Iv(X:Cx)(tg iter:Expr)(t:oO):Prop:=PI X tg iter (lI t)
section
variable{X:Cx}{tg e a b:Expr}{ta t:bh}{tA:eZ}{p pos:Pos}
theorem rS{lo:Int}:Yl M H (Qh lo n) ((List.range n).map fun k=> .int (lo+(k:Nat))):=by
 refine⟨fun i H1 M' kf mo hb hi=>⟨?_,fun x H2 bZ=>?_⟩,fun H1 _=>?_⟩
 . rw[aa1,ad4] at hi;exact hi
 . obtain⟨e1,e2⟩:=bZ;rw[aa1,ad4] at hi;subst e1;subst e2;exact⟨fun _ _ z=>z,.int (lo+i),by rw[aa8,ah9 hi];rfl,.int _⟩
 . show n<=_;rw[aa1,ad4];exact ab2 _
inductive GY(Q:List Dt->List Sl->Prop)(ds:List Dt)(δ':List Sl):Prop
 | mk (j:Int) (h1:ds= [.int j]) (h2: -(2^62)<=j) (h3:j < 2^62) (h4:Q ((List.range j.toNat).map fun k=> .int (0+(k:Nat))) δ')
def Pt(t:eZ):oO:=fun δ Q=>t δ fun ds δ'=>GY Q ds δ'
inductive GX(Q:List Dt->List Sl->Prop)(ds:List Dt)(δ':List Sl):Prop
 | mk (i j:Int) (h1:ds= [.int i,.int j]) (h2:(-(2^62)<=i/\i < 2^62/\ -(2^62)<=j/\j < 2^62)) (h3:Q ((List.range (j - i).toNat).map fun k=> .int (i+(k:Nat))) δ')
def Pq(t:eZ):oO:=fun δ Q=>t δ fun ds δ'=>GX Q ds δ'
theorem kK(hm:X.mg "range"=none)(ha:Av X [a] tA)(hg:Gl X "range":=by rfl)(hs:starEach [a] X.env= [(false,eval a X.env)]:=by rfl):Iv X tg (.Call (.Name "range" p) [a] [] pos) (Pt tA):=PI.imp (yV hg hm ha hs) fun σ H R eS=>(by obtain⟨W,M,α,δ,Qd,E,q,k⟩:=eS;exact(
 ⟨W,M,α,δ,_,E,q,fun ds δ' H' vs gr E1 c1 r1=>(by obtain⟨j,e,l1,l2,q1⟩:=gr;exact(by
  subst e;obtain⟨x,ys,rfl,r2,r3⟩:=r1.aG;cases r3.cC;cases r2.ofInt;exact⟨j,rfl,l1,l2,k _ _ _ _ q1 E1 c1 rS⟩))⟩))
theorem gV(hm:X.mg "range"=none)(ha:Av X [a,b] tA)(hg:Gl X "range":=by rfl)(hs:starEach [a,b] X.env= [(false,eval a X.env),(false,eval b X.env)]:=by rfl)(nE:starEach [b] X.env= [(false,eval b X.env)]:=by rfl):Iv X tg (.Call (.Name "range" p) [a,b] [] pos) (Pq tA):=PI.imp (yU hg hm ha hs nE) fun σ H R iC=>(by obtain⟨W,M,α,δ,Qd,E,q,k⟩:=iC;exact(
 ⟨W,M,α,δ,_,E,q,fun ds δ' H' vs iS E1 c1 r1=>(by obtain⟨i,j,e,l,q1⟩:=iS;exact(by
  subst e;obtain⟨x,ys,rfl,r2,r3⟩:=r1.aG;obtain⟨y,zs,rfl,r4,r5⟩:=r3.aG;cases r5.cC;cases r2.ofInt;cases r4.ofInt;exact⟨i,j,rfl,l,k _ _ _ _ q1 E1 c1 rS⟩))⟩))
theorem nH(r:ay M H xs ds)(kf:Kf M H H1)(hb: ∀b,H b≠none-> ¬M b-> ¬M' b):ay M' H1 xs ds:=r.mono fun a o e n=>⟨kf a o e n,hb a (by rw[e];intro z;cases z) n⟩
theorem wI{K:PySem.W.Frag}{M:Addr->Prop}{H:Hp}{a:Addr}(h:H a=some (.lst xs))(n: ¬M a)(r:ay M H xs ds):Yl M H (UG K a) ds:=by
 refine⟨fun i H1 M' kf mo hb hi=>?_,fun H1 kf=>⟨xs,bS.of (kf _ _ h n),by rw[r.1];exact ab2 _⟩⟩;have rr:=nH r kf hb;have hx:xs[i]?=some (xs[i]'(by rw[r.1];exact hi)):=aa2 _;refine⟨⟨xs,_,bS.of (kf _ _ h n),hx⟩,fun x H2 jq=>?_⟩;obtain⟨e,y⟩:=jq;subst e;have:=y xs (bS.of (kf _ _ h n));exact⟨fun _ _ z=>z,_,aa2 hi,rr.2 i x _ this (aa2 hi)⟩
inductive LK(Q:List Dt->List Sl->Prop)(d:Dt)(δ':List Sl):Prop
 | mk (ds:_) (h1:d= .lst ds) (h2:Q ds δ')
def Ue(t:bh):oO:=fun δ Q=>t δ fun d δ'=>LK Q d δ'
theorem nD(h:Ev X e t):Iv X tg e (Ue t):=PI.imp (xi h) fun σ H R rP=>(by obtain⟨W,M,α,δ,Qd,E,q,k⟩:=rP;exact(⟨W,M,α,δ,_,E,q,fun d δ' H' v mD E1 c1 r1=>(by obtain⟨ds,e,q1⟩:=mD;exact(by
 subst e;obtain⟨a,xs,rfl,ha,n,rr⟩:=r1.bV;exact⟨a,rfl,⟨xs,bS.of ha⟩,k _ _ _ _ q1 E1 c1 (wI ha n rr)⟩))⟩))
noncomputable def aL(k:Nat)(ds:List Dt):List Dt:=ds.mapIdx fun i d=> .tup [.int ((i+k:Nat):Int),d]
theorem wJ{K:PySem.W.Frag}{M:Addr->Prop}{H:Hp}{a:Addr}{k:Nat}(h:H a=some (.tup xs))(n: ¬M a)(r:ay M H xs ds):Yl M H (MM K a k) (aL k ds):=by
 have hl:(aL k ds).length=ds.length:=by unfold aL;rw[ah6]
 refine⟨fun i H1 M' kf mo hb hi=>?_,fun H1 kf=>⟨xs,dB.of (kf _ _ h n),by rw[r.1,hl]⟩⟩;rw[hl] at hi;have rr:=nH r kf hb;have hx:xs[i]?=some (xs[i]'(by rw[r.1];exact hi)):=aa2 _;refine⟨⟨xs,_,dB.of (kf _ _ h n),hx⟩,fun x H2 mF=>?_⟩;obtain⟨pp,y,e1,e2,e3,e4⟩:=mF;subst e1;subst e3;have hy:=e4 xs (dB.of (kf _ _ h n));have s:ax H1 (upd H1 pp (.tup [.int ((i+k:Nat):Int),y])):=ax.new e2;refine⟨s,_,by unfold aL;rw[ai5,aa2 hi];rfl,Rep.gy ag (mo.fresh e2) (.cons (.int _) (.one ((rr.2 i y _ hy (aa2 hi)).same s)))⟩
inductive G6(k:Nat)(Q:List Dt->List Sl->Prop)(es:List Dt)(δ':List Sl):Prop
 | mk (ds:_) (h1:es= [.tup ds]) (h2:Q (aL k ds) δ')
def PM(k:Nat)(t:eZ):oO:=fun δ Q=>t δ fun es δ'=>G6 k Q es δ'
theorem xG{x1}(hm:X.mg "enumerate"=none)(ha:Av X [e] tA)(hg:Gl X "enumerate":=by rfl)(hs:starEach [e] X.env= [(false,eval e X.env)]:=by rfl):Iv X (.Tuple es x1 tp) (.Call (.Name "enumerate" p) [e] [] pos) (PM 0 tA):=PI.imp (BI hg hm ha hs) fun σ H R iT=>(by obtain⟨W,M,α,δ,Qd,E,q,k⟩:=iT;exact(
 ⟨W,M,α,δ,_,E,q,fun es δ' H' vs AI E1 c1 r1=>(by obtain⟨ds,e,q1⟩:=AI;exact(by
  subst e;obtain⟨x,ys,rfl,r2,r3⟩:=r1.aG;cases r3.cC;obtain⟨a,xs,rfl,ha,n,rr⟩:=r2.bQ;exact⟨a,rfl,⟨xs,dB.of ha⟩,k _ _ _ _ q1 E1 c1 (wJ ha n rr)⟩))⟩))
noncomputable def cY(xs ys:List Dt):List Dt:=List.zipWith (fun x y=> .tup [x,y]) xs ys
noncomputable def R5(b:Bool)(ds:List Dt):Dt:=if b then .tup ds else .lst ds
theorem Rep.N1{b:Bool}(h:Rep M H v (R5 b ds)): ∃a xs,v= .ref a/\oN b H a xs/\ ¬M a/\ay M H xs ds/\ ∀H1,Kf M H H1->oN b H1 a xs:=by
 cases b with
 | true=>obtain⟨a,xs,e,ha,n,r⟩:=Rep.bQ h;exact⟨a,xs,e,ha,n,r,fun H1 k=>k _ _ ha n⟩
 | false=>obtain⟨a,xs,e,ha,n,r⟩:=Rep.bV h;exact⟨a,xs,e,ha,n,r,fun H1 k=>k _ _ ha n⟩
theorem Jm(k1: ∀H1,Kf M H H1->oN b1 H1 a1 xs)(k2: ∀H1,Kf M H H1->oN b2 H1 a2 ys)(r:ay M H xs ds)(r2:ay M H ys es):Yl M H (Qg b1 b2 a1 a2) (cY ds es):=by
 have hl:(cY ds es).length=min ds.length es.length:=by unfold cY;rw[al1]
 refine⟨fun i H1 M' kf mo hb hi=>?_,fun H1 kf=>⟨xs,ys,k1 _ kf,k2 _ kf,by rw[hl,r.1,r2.1];grind⟩⟩;rw[hl] at hi;have rr:=nH r kf hb;have sA:=nH r2 kf hb;have hd:ds[i]?=some (ds[i]'(by grind)):=aa2 _;have he:es[i]?=some (es[i]'(by grind)):=aa2 _;obtain⟨x,hx,rx⟩:=rr.get hd;obtain⟨y,hy,ry⟩:=sA.get he;refine⟨⟨xs,x,ys,y,k1 _ kf,hx,k2 _ kf,hy⟩,fun v H2 AG=>?_⟩;obtain⟨pp,x',y',e1,e2,e3,e4,e5⟩:=AG;subst e1;subst e3;have h1:=e4 xs (k1 _ kf);have h2:=e5 ys (k2 _ kf);rw[hx] at h1;cases h1;rw[hy] at h2;cases h2;have s:ax H1 (upd H1 pp (.tup [x,y])):=ax.new e2;exact⟨s,_,by unfold cY;rw[ao3,hd,he],Rep.gy ag (mo.fresh e2) (.cons (rx.same s) (.one (ry.same s)))⟩
inductive Lu(Q:List Dt->List Sl->Prop)(es:List Dt)(δ':List Sl):Prop
 | mk (b1 b2 TZ QS:_) (h1:es= [R5 b1 TZ,R5 b2 QS]) (h2:Q (cY TZ QS) δ')
def T4(t:eZ):oO:=fun δ Q=>t δ fun es δ'=>Lu Q es δ'
theorem o9{x1}(ha:Av X [e,f] tA)(hp: ∀{t:TA},PA X [e,f] t->PI X (.Tuple es x1 tp) (.Call (.Name "zip" p) [e,f] [] pos) (Ow t)):Iv X (.Tuple es x1 tp) (.Call (.Name "zip" p) [e,f] [] pos) (T4 tA):=PI.imp (hp ha) fun σ H R AF=>(by obtain⟨W,M,α,δ,Qd,E,q,k⟩:=AF;exact(
 ⟨W,M,α,δ,_,E,q,fun es δ' H' vs AE E1 c1 r1=>(by obtain⟨b1,b2,TZ,QS,e,q1⟩:=AE;exact(by
  subst e;obtain⟨x,ys,rfl,r2,r3⟩:=r1.aG;obtain⟨y,zs,rfl,r4,r5⟩:=r3.aG;cases r5.cC;obtain⟨a,xs,rfl,ha,n,rr,kk⟩:=r2.N1;obtain⟨a2,Qr,rfl,YB,n2,sA,XA⟩:=r4.N1;exact⟨b1,b2,a,a2,xs,Qr,rfl,ha,YB,k _ _ _ _ q1 E1 c1 (Jm kk XA rr sA)⟩))⟩))
abbrev og:=Dt->List Sl->(List Sl->Prop)->Prop
inductive lG(g:og)(v:V)(σ:L2.St)(H:Hp)(Q:L2.St->Hp->Prop):Prop
 | mk (W:List Wd) (M:Addr->Prop) (α:List (List Addr)) (δ:List Sl) (d:Dt) (Qd:List Sl->Prop) (h1:az W M α H σ δ) (h2:Rep M H v d) (h3:g d δ Qd) (h4: ∀α' δ' σ',Qd δ'->az W M α' H σ' δ'->(∀x∈α'.flatten,x∈α.flatten)->Q σ' H)
theorem PG.imp{X:Cx}{tg:Expr}{t t':TG}(h:PG X tg t)(i: ∀v σ H Q,t' v σ H Q->t v σ H Q):PG X tg t':=fun pins s σ H v u Q I r q=>h pins s σ H v u Q I r (i _ _ _ _ q)
abbrev Gv(X:Cx)(tg:Expr)(g:og):Prop:=PG X tg (lG g)
def Dq(i:Nat):og:=fun d δ Q=>br δ i/\Q (δ.set i (.im d))
theorem cu{α:List (List Addr)}: ∀x∈(α.set i []).flatten,x∈α.flatten:=fun x h=>(bG h).elim id fun z=>absurd z aa4
theorem aX: ∀v σ H Q,lG (Dq i) v σ H Q->cm i v σ H Q:=fun v σ H Q uw=>(by obtain⟨W,M,α,δ,d,Qd,E,r,⟨ok,q⟩,k⟩:=uw;exact(k _ _ _ q (E.fw r ok) cu))
theorem g8(i:Nat)(hN:X.N.Nodup)(hi:X.N[i]?=some x:=by rfl)(hx:Loc X.env.scope x:=by first | exact Or.inl rfl | exact Or.inr rfl)(hf:X.fn x=true\/X.env.scope.names.lookup x=some .local:=by first | exact .inl rfl | exact .inr rfl | assumption):Gv X (.Name x pos) (Dq i):=PG.imp (av hN hi hx hf) aX
inductive Dp(i:Nat)(j:Nat)(d:Dt)(δ:List Sl)(Q:List Sl->Prop):Prop
 | mk (d1 d2:_) (h1:d= .tup [d1,d2]) (h2:br δ i) (h3:br (δ.set i (.im d1)) j) (h4:Q ((δ.set i (.im d1)).set j (.im d2)))
theorem bb{i j:Nat}{K:PySem.W.Frag}: ∀v σ H Q,lG (Dp i j) v σ H Q->zO K 2 (eM (cm i) (eM (cm j) vN)) v σ H Q:=fun v σ H Q uv=>(by obtain⟨W,M,α,δ,d,Qd,E,r,⟨d1,d2,e,FU,FT,q⟩,k⟩:=uv;exact(by
 subst e;obtain⟨a,xs,rfl,ha,n,rr⟩:=r.bQ;obtain⟨x,ys,rfl,r2,r3⟩:=rr.aG;obtain⟨y,zs,rfl,r4,r5⟩:=r3.aG;cases r5.cC;exact⟨a,_,rfl,dB.of ha,rfl,x,_,rfl,y,_,rfl,rfl,k _ _ _ q ((E.fw r2 FU).fw r4 FT) fun x h=>cu x (cu x h)⟩))
theorem qT(i j:Nat)(hc:X.calm=true)(hN:X.N.Nodup)(hi:X.N[i]?=some x:=by rfl)(hj:X.N[j]?=some y:=by rfl)(hx:Loc X.env.scope x:=by first | exact Or.inl rfl | exact Or.inr rfl)(hy:Loc X.env.scope y:=by first | exact Or.inl rfl | exact Or.inr rfl)(hf:X.fn x=true\/X.env.scope.names.lookup x=some .local:=by first | exact .inl rfl | exact .inr rfl | assumption)(nF:X.fn y=true\/X.env.scope.names.lookup y=some .local:=by first | exact .inl rfl | exact .inr rfl | assumption)(hn:(assignEach [.Name x px, .Name y py] X.env).length=2:=by rfl)(kh:(assignEach [.Name x px, .Name y py] X.env).findIdx? (·.1)=none:=by rfl)(h1:(assignEach [.Name x px, .Name y py] X.env).map (·.2)=assign (.Name x px) X.env::(assignEach [.Name y py] X.env).map (·.2):=by rfl)(h2:(assignEach [.Name y py] X.env).map (·.2)=assign (.Name y py) X.env::(assignEach [] X.env).map (·.2):=by rfl):
  Gv X (.Tuple [.Name x px,.Name y py] kk pos) (Dp i j):=PG.imp (cn hc (aA (av hN hi hx hf) (aA (av hN hj hy nF) bw h2) h1) hn kh) bb
end
section
variable{X:Cx}{tg iter c:Expr}{body:List Stmt}{ti:oO}{g:og}{tb:kg}{u:kj}{pos:Pos}
def PJ(ti:oO)(g:og)(tb:kg):kg:=fun Δ δ=>ti δ fun ao δ1=> ∃P:Nat->List Sl->Prop,P 0 δ1/\(∀i d δ2,ao[i]?=some d->P i δ2->g d δ2 fun δ3=>tb {Δ with nx:=P (i+1),ct:=P (i+1),bk:=Δ.nx} δ3)/\ ∀δ2,P ao.length δ2->Δ.nx δ2
theorem iM(hc:X.calm=true)(hi:Iv X tg iter ti)(hg:Gv X tg g)(hb:AA X body tb)(hp:PassesOwn (model X.prog X.w) X.A X.env X.xe)(hs: ∀x,foldedSetIterable iter X.env x=pure x:=by intro _;rfl):Ex X (.For tg iter body [] pos) (PJ ti g tb):=
 PS.imp (BA hp hc hi hg hb hs) fun D σ H bZ=>(by obtain⟨Ws,M,α,δ,Δ,E,L,q⟩:=bZ;exact(⟨Ws,M,α,δ,_,E,q,fun ao δ1 H1 J eS E1 c1 yl=>(by obtain⟨P,p0,step,fin⟩:=eS;exact(by
  refine⟨fun i m σ' H'=>m=ao.length - i/\i<=ao.length/\ ∃M' α' δ',az (⟨H1,M,fun _=>False,M,none⟩::Ws) M' α' H' σ' δ'/\P i δ',⟨ao.length,by simp,ag0 _,M,α,δ1,E1.loop,p0⟩,?_⟩;rintro i m σ' H' ⟨rfl,hi,M',α',δ',E',p'⟩
  have w:=E'.w _ ab3;have kf:Kf M H1 H':=w.bs;have hb: ∀b,H1 b≠none-> ¬M b-> ¬M' b:=fun b n z y=>(w.m1 b y).elim z n;by_cases dH:i < ao.length
  . obtain⟨go,rR⟩:=yl.go i H' M' kf E'.al hb dH;refine .inr ⟨go,fun σ2 H2=> ∃M2 α2 δ2,az (⟨H1,M,fun _=>False,M,none⟩::Ws) M2 α2 H2 σ2 δ2/\P (i+1) δ2,fun σ2 H2 z=>⟨ao.length - (i+1),by grind,rfl,dH,z⟩,fun x H2 y=>?_⟩;obtain⟨s,d,hd,rx⟩:=rR x H2 y;refine⟨_,M',α',δ',d,_,E'.same s,rx,step i d δ' hd p',fun α3 δ3 σ3 q3 E3 _=>?_⟩;refine⟨_,M',α3,δ3,{Δ with nx:=P (i+1),ct:=P (i+1),bk:=Δ.nx},E3,⟨fun M4 α4 H4 σ4 δ4 E4 q4=>⟨M4,α4,δ4,E4,q4⟩,fun M4 α4 H4 σ4 δ4 v d E4 r4 q4=>L.rt _ _ _ _ _ _ _ E4.drop r4 q4,fun M4 α4 H4 σ4 δ4 E4 q4=>L.nx _ _ _ _ _ E4.drop q4,fun M4 α4 H4 σ4 δ4 E4 q4=>⟨M4,α4,δ4,E4,q4⟩⟩,q3⟩
  . have e:i=ao.length:=by grind
    subst e;exact .inl ⟨yl.stop H' kf,L.nx _ _ _ _ _ E'.drop (fin _ p')⟩))⟩))
def DA(u:kj)(tb:kg):kg:=fun Δ δ=> ∃P:Nat->List Sl->Prop,(∃m,P m δ)/\ ∀m δ1,P m δ1->u δ1 fun b δ2=>if b=true then tb {Δ with nx:=fun δ3=> ∃m',m' < m/\P m' δ3,ct:=fun δ3=> ∃m',m' < m/\P m' δ3,bk:=Δ.nx} δ2 else Δ.nx δ2
theorem E8(hc:Tv X c u)(hb:AA X body tb)(hp:PassesOwn (model X.prog X.w) X.A X.env X.xe):Ex X (.While c body [] pos) (DA u tb):=
 PS.imp (Bz hp hc hb) fun D σ H gr=>(by obtain⟨Ws,M,α,δ,Δ,E,L,P,⟨m0,p0⟩,turn⟩:=gr;exact(by
  refine⟨fun m σ' H'=> ∃M' α' δ',az Ws M' α' H' σ' δ'/\P m δ',⟨m0,M,α,δ,E,p0⟩,?_⟩;rintro m σ' H' ⟨M',α',δ',E',p'⟩
  refine⟨Ws,M',α',δ',_,E',turn m δ' p',fun b δ2 H2 q2 E2 c2=>?_⟩;cases b with
  | true=>
   rw[if_pos rfl] at q2 ⊢;refine⟨fun σ3 H3=> ∃m',m' < m/\ ∃M3 α3 δ3,az Ws M3 α3 H3 σ3 δ3/\P m' δ3,fun σ3 H3 z=>z,?_⟩;exact⟨Ws,M',α',δ2,{Δ with nx:=fun δ3=> ∃m',m' < m/\P m' δ3,ct:=fun δ3=> ∃m',m' < m/\P m' δ3,bk:=Δ.nx},E2,⟨fun M4 α4 H4 σ4 δ4 E4 AB=>(by obtain⟨m',l,q4⟩:=AB;exact(⟨m',l,M4,α4,δ4,E4,q4⟩)),L.rt,fun M4 α4 H4 σ4 δ4 E4 q4=>L.nx _ _ _ _ _ E4 q4,fun M4 α4 H4 σ4 δ4 E4 Ji=>(by obtain⟨m',l,q4⟩:=Ji;exact(⟨m',l,M4,α4,δ4,E4,q4⟩))⟩,q2⟩
  | false=>
   rw[if_neg ac0] at q2 ⊢;exact L.nx _ _ _ _ _ E2 q2))
end
noncomputable def seen:Sl->Sl
 | .im d=> .im d
 | .fn f=> .fn f
 | _=> .no
noncomputable def cin(nt:Nat)(js:List Nat)(δ:List Sl):List Sl:=List.replicate nt .no++js.map fun j=>seen (δ.getD j .no)
theorem rq{js:List Nat}(E:az Ws M α H σ δ):az [] M (List.replicate (nt+js.length) []) H (kr nt js σ) (cin nt js δ):=by
 have bf:(List.replicate (nt+js.length) ([]:List Addr)).flatten= []:=by simp
 refine⟨by simp [kr,cin],by simp [cin],fun i s h=>?_,by rw[bf];exact ai6,fun a ha=>by rw[bf] at ha;exact absurd ha aa4,E.al,fun W hW=>absurd hW aa4⟩;have hi:=(aa5.mp h).1;have Eu:i < nt+js.length:=by simpa [cin] using hi
 have ha:(List.replicate (nt+js.length) ([]:List Addr))[i]?=some []:=by rw[ac1,if_pos Eu]
 unfold cin at h;unfold kr;by_cases hl:i < nt
 . rw[ad5 (by simpa using hl),ac1,if_pos hl] at h;cases h;exact⟨none,[],by rw[ad5 (by simpa using hl),ac1,if_pos hl],ha,rfl⟩
 . rw[ae4 (by simpa using hl),ah3,aa8] at h;cases hj:js[i - nt]? with
   | none=>rw[hj] at h;cases h
   | some j=>
    rw[hj] at h;have hs:seen (δ.getD j .no)=s:=Option.some.inj h;refine⟨(σ[j]?).join,[],by rw[ae4 (by simpa using hl),ah3,aa8,hj];rfl,ha,?_⟩;cases hd:δ[j]? with
    | none=>
     have:δ.getD j .no= .no:=by rw[List.getD,hd];rfl
     rw[this] at hs;subst hs;rfl
    | some s'=>
     have e:δ.getD j .no=s':=by rw[List.getD,hd];rfl
     rw[e] at hs;cases s' with
     | im d=>
      subst hs;obtain⟨v,h1,r⟩:=E.im hd;exact⟨rfl,v,by rw[h1];rfl,r⟩
     | fn f=>
      subst hs;obtain⟨o2,Am,h1,_,_,h3⟩:=E.sl j _ hd;exact⟨rfl,by rw[h1,h3];rfl⟩
     | _=>subst hs;rfl
section
variable{X:Cx}{N:List Str}{nt:Nat}{js:List Nat}{scope:Scope}{elt tg iter:Expr}{ifs:List Expr}{pos:Pos}{ti:oO}{g:og}{tc:kj}{te:bh}
def DK(nt:Nat)(js:List Nat)(ti:oO)(g:og)(tc:kj)(te:bh):wB:=fun δ Q=>ti δ fun ao δ1=>ao.length<=sizeLine/\ ∃(p:Dt->Bool) (f:Dt->Dt),(∀d∈ao,g d (cin nt js δ1) fun δ2=>tc δ2 fun b δ3=>b=p d/\(b=true->te δ3 fun r _=>r=f d))/\Q ((ao.filter p).map f) δ1
theorem pM(oA: ∀v σ H Q,lG g v σ H Q->gh v σ H Q)(E1:az W M α H1 σ δ1)(yl:Yl M H1 J ao)(hsz:ao.length<=sizeLine)(step: ∀d∈ao,g d (cin nt js δ1) fun δ2=>tc δ2 fun b δ3=>b=p d/\(b=true->te δ3 fun r _=>r=f d))(k: ∀H3 xs a,az W M α H3 σ δ1->cW α H1 H3->ay M H3 xs ((ao.filter p).map f)->H3 a=none->Q (.ref a) (upd H3 a (.lst xs)))(D:Addr)(hD:H1 D=none):Em nt js gh (lT tc) (lE te) σ Q D J (upd H1 D (.lst [])):=by
 have s0:ax H1 (upd H1 D (.lst [])):=ax.new hD;refine⟨fun i m acc H2=>m=ao.length - i/\i<=ao.length/\H2 D=some (.lst acc)/\ay (fun b=>M b\/b=D) H2 acc (((ao.take i).filter p).map f)/\ax H1 H2/\iI (fun b=>M b\/b=D) H2,⟨ao.length,by simp,ag0 _,ag,.nil,s0,fun a ha=>?_⟩,?_⟩
 . rcases ha with ha | ha
   . obtain⟨o,e,n⟩:=E1.al a ha;exact⟨o,s0 _ _ e,n⟩
   . subst ha;exact⟨_,ag,fun xs z=>by cases z⟩
 rintro i m acc H2 ⟨rfl,hi,zK,jC,s2,HY⟩
 have kf:Kf M H1 H2:=fun b o e _=>s2 _ _ e;by_cases dH:i < ao.length
 . have hb: ∀b,H1 b≠none-> ¬M b-> ¬(fun b=>M b\/b=D) b:=fun b n z y=>y.elim z fun w=>n (by rw[w];exact hD);obtain⟨go,rR⟩:=yl.go i H2 (fun b=>M b\/b=D) kf HY hb dH;have hlen:acc.length < sizeLine:=by
    rw[jC.1,aa1];exact an6 (ac6 (List.length_filter_le _ _) (by rw[aj1];omega)) (ac4 dH hsz)
   refine .inr ⟨go,hlen,fun bR H'=>H' D=some (.lst bR)/\ay (fun b=>M b\/b=D) H' bR (((ao.take (i+1)).filter p).map f)/\ax H1 H'/\iI (fun b=>M b\/b=D) H',fun bR H' gr=>(by obtain⟨z1,z2,z3,z4⟩:=gr;exact(⟨ao.length - (i+1),by omega,rfl,dH,z1,z2,z3,z4⟩)),fun x H3 y=>?_⟩;obtain⟨s3,d,hd,rx⟩:=rR x H3 y;have E2:az [] (fun b=>M b\/b=D) (List.replicate (nt+js.length) []) H2 (kr nt js σ) (cin nt js δ1):=by
    have su:ax (upd H1 D (.lst acc)) H2:=fun b o e=>by
     by_cases hb:b=D
     . subst hb;rw[ag] at e;cases e;exact zK
     . rw[ah hb] at e;exact s2 _ _ e
    have Ea:az [] (fun b=>M b\/b=D) α H2 σ δ1:=⟨E1.ls,E1.la,fun i s h=>let ⟨o,as,h1,h2,h3⟩:=E1.sl i s h;⟨o,as,h1,h2,(h3.grow (u:= .lst acc) hD).same su⟩,E1.nd,fun a h=> .inl (E1.mu a h),HY,fun W hW=>absurd hW aa4⟩
    exact rq Ea
   have E3:=E2.same s3;have bf:(List.replicate (nt+js.length) ([]:List Addr)).flatten= []:=by simp
   refine oA _ _ _ _ ⟨[],_,_,_,d,_,E3,rx,step d (ad2 hd),fun α4 δ4 σ4 q4 E4 hα=>?_⟩;have Ez:α4.flatten= []:=ai9.mpr fun x hx=>by have:=hα x hx;rw[bf] at this;exact absurd this aa4
   refine⟨[],_,α4,δ4,_,E4,q4,fun b δ5 H5 iC E5 c5=>?_⟩;obtain⟨hp,q5⟩:=iC;have s5:ax H3 H5:=fun b o e=>c5 b o e (by rw[Ez];exact aa4);have Fe:ax H2 H5:=fun b o e=>s5 _ _ (s3 _ _ e);have tk:ao.take (i+1)=ao.take i++ [d]:=by rw[ao1,hd];rfl
   cases b with
   | false=>
    refine bN ⟨Fe _ _ zK,?_,fun b o e=>Fe _ _ (s2 _ _ e),E5.al⟩;rw[tk,al5,ab8];simp [<-hp];exact jC.same Fe
   | true=>
    refine cS ⟨[],_,α4,δ5,_,E5,q5 rfl,fun r δ6 H6 v e6 E6 c6 r6=>?_⟩;subst e6;have s6:ax H5 H6:=fun b o e=>c6 b o e (by rw[Ez];exact aa4);have Br:ax H2 H6:=fun b o e=>s6 _ _ (Fe _ _ e);have TB:=Br _ _ zK;have up: ∀{zs:List V} {ds:List Dt},ay (fun b=>M b\/b=D) H6 zs ds->ay (fun b=>M b\/b=D) (upd H6 D (.lst (acc++ [v]))) zs ds:=fun r=>r.mono fun a o e n=>⟨by rw[ah (fun z=>n (.inr z))];exact e,n⟩
    refine⟨TB,ag,?_,fun b o e=>by rw[ah (aq e hD)];exact Br _ _ (s2 _ _ e),fun a ha=>?_⟩
    . rw[tk,al5,ab8];have e1:List.filter p [d]= [d]:=by simp [<-hp]
      rw[e1];exact up ((jC.same Br).append (.one r6))
    . by_cases hb:a=D
      . subst hb;exact⟨_,ag,fun xs z=>by cases z⟩
      . rw[ah hb];exact E6.al a ha
 . have e:i=ao.length:=by omega
   subst e;refine .inl ⟨yl.stop H2 kf,?_⟩;rw[am7] at jC;have eH:upd (fun b=>if b=D then none else H2 b) D (.lst acc)=H2:=by
    funext b
    by_cases hb:b=D
    . subst hb;rw[ag,zK]
    . rw[ah hb,if_neg hb]
   rw[<-eH];have sH:ax H1 (fun b=>if b=D then none else H2 b):=fun b o e=>by
    show(if b=D then none else H2 b)=some o;rw[if_neg (aq e hD)];exact s2 _ _ e
   refine k _ _ _ (E1.same sH) (cW.of sH) (jC.mono fun a o e n=>⟨?_,fun z=>n (.inl z)⟩) (by show(if D=D then none else H2 D)=none;rw[if_pos rfl]);show(if a=D then none else H2 a)=some o;rw[if_neg (fun z=>n (.inr z))];exact e
theorem pK(oA: ∀v σ H Q,lG g v σ H Q->gh v σ H Q): ∀σ H Q,lO (DK nt js ti g tc te) σ H Q->A7 nt js (lI ti) gh (lT tc) (lE te) σ H Q:=fun σ H Q bZ=>(by obtain⟨W,M,α,δ,Qd,E,q,k⟩:=bZ;exact(by
 refine⟨W,M,α,δ,_,E,q,fun ao δ1 H1 J eS E1 c1 yl D hD=>?_⟩;obtain⟨hsz,p,f,step,q1⟩:=eS;exact pM oA E1 yl hsz step (fun H3 xs a E3 c3 r3 h3=>k _ _ _ _ _ q1 E3 (c1.tr c3) r3 h3) D hD))
theorem cq(S:jj X N nt js scope)(hc:X.calm=true)(hi:Iv X tg iter ti)(hg: ∀s H cl C ex,PG (dA X N scope s H cl C ex) tg gh)(eE:jh nt gh)(oA: ∀v σ H Q,lG g v σ H Q->gh v σ H Q)(hf: ∀s H cl C ex,PF (dA X N scope s H cl C ex) ifs (lT tc))(he: ∀s H cl C ex,Ev (dA X N scope s H cl C ex) elt te)(hs: ∀x,foldedSetIterable iter X.env x=pure x:=by intro _;rfl):Ov X (.ListComp elt [⟨tg,iter,ifs,0⟩] scope pos) (DK nt js ti g tc te):=PE.imp (Fz S hc hi hg eE hf he hs) (pK oA)
theorem JJ(i:Nat){pos' py:Pos}(hN:X.N.Nodup)(S:jj X N nt js scope)(hc:X.calm=true)(hi:Iv X tg iter ti)(hg: ∀s H cl C ex,PG (dA X N scope s H cl C ex) tg gh)(eE:jh nt gh)(oA: ∀v σ H Q,lG g v σ H Q->gh v σ H Q)(hf: ∀s H cl C ex,PF (dA X N scope s H cl C ex) ifs (lT tc))(he: ∀s H cl C ex,Ev (dA X N scope s H cl C ex) elt te)(OT:X.N[i]?=some y:=by rfl)(hy:Loc X.env.scope y:=by first | exact Or.inl rfl | exact Or.inr rfl)(Gg:swapsWith (.ListComp elt [⟨tg,iter,ifs,0⟩] scope pos) (some (.Name y py)) pos'.line X.env=pure true:=by rfl)(hs: ∀x,foldedSetIterable iter X.env x=pure x:=by intro _;rfl)(Gr:X.fn y=true\/X.env.scope.names.lookup y=some .local:=by first | exact .inl rfl | exact .inr rfl | assumption):
  Ex X (.Assign [.Name y py] (.ListComp elt [⟨tg,iter,ifs,0⟩] scope pos) pos') (DC i (DK nt js ti g tc te)):=PS.imp (xb hN OT hy S hc hi hg eE hf he Gg hs Gr) fun D σ H h=>by
 obtain⟨Ws,M,α,δ,Δ,E,L,q⟩:=h;exact pK oA _ _ _ ⟨Ws,M,α,δ,_,E,q,fun ds δ' H1 xs a iS E1 c1 r1 h1=>(by obtain⟨ok,q1⟩:=iS;exact(L.nx _ _ _ _ _ (E1.mX (s:= .ow ds) h1 (fun xs z=>by cases z) ok rfl ⟨a,xs,rfl,rfl,ag,r1.grow h1⟩) q1))⟩
def IT:kj:=fun δ Q=>Q true δ
theorem dy:PF X [] (lT IT):=fun pins s σ H Q I jq=>(by obtain⟨W,M,α,δ,Qd,E,q,k⟩:=jq;exact(J4 pins s σ H Q I (k _ _ _ q E cW.rf)))
theorem CS(h:Tv X c t):PF X [c] (lT t):=J3 h
theorem bL{nt i j:Nat}{K:PySem.W.Frag}(hi:i < nt:=by decide)(hj:j < nt:=by decide):jh nt (zO K 2 (eM (cm i) (eM (cm j) vN))):=CK (pA hi (vM pw) (pA hj pw CL))
end
structure wz(Ws:List Wd)(M:Addr->Prop)(α:List (List Addr))(a:Addr):Prop where
 m:M a
 n:a∉α.flatten
 w: ∀W∈Ws,(W.A0 a\/W.H0 a=none)/\ ¬W.M0 a
def Wx(M:Addr->Prop)(H:Hp)(v:V)(s:Sl)(as:List Addr):Prop:=s.cB=false/\pZ M H (some v) s as
inductive uo(Ws:List Wd)(M:Addr->Prop)(α:List (List Addr))(H:Hp):List V->List Sl->List Addr->Prop where
 | nil:uo Ws M α H [] [] []
 | cons {v:V} {s:Sl} {as bs:List Addr} {vs:List V} {ss:List Sl}:Wx M H v s as->(∀a∈as,wz Ws M α a)->as.Nodup->(∀a∈as,a∉bs)->uo Ws M α H vs ss bs->uo Ws M α H (v::vs) (s::ss) (as++bs)
abbrev EC:=List Sl->(List Sl->List Sl->Prop)->Prop
inductive lH(t:EC)(σ:L2.St)(H:Hp)(Q:List V->Hp->Prop):Prop
 | mk (W:List Wd) (M:Addr->Prop) (α:List (List Addr)) (δ:List Sl) (Qd:List Sl->List Sl->Prop) (h1:az W M α H σ δ) (h2:t δ Qd) (h3: ∀ss δ' H' vs M' bs,Qd ss δ'->az W M' α H' σ δ'->cW α H H'->(∀a,M a->M' a)->(∀a,M' a->M a\/H a=none)->uo W M' α H' vs ss bs->(∀a∈bs,¬M a)->Q vs H')
abbrev Hv(X:Cx)(es:List Expr)(t:EC):Prop:=PA X es (lH t)
theorem pZ.keep(h:pZ M H o s as)(k: ∀b u,H b=some u-> ¬M b->H' b=some u/\ ¬M' b)(k2: ∀a∈as,∀u,H a=some u->H' a=some u)(nb:s.cB=false):pZ M' H' o s as:=by
 cases s with
 | no=>exact h
 | im d=>exact⟨h.1,let ⟨v,e,r⟩:=h.2;⟨v,e,r.mono k⟩⟩
 | ow ds=>obtain⟨a,xs,e1,e2,e3,r⟩:=h;subst e1;exact⟨a,xs,rfl,e2,k2 a (by simp) _ e3,r.mono k⟩
 | bx t=>cases nb
 | dk ks ds=>obtain⟨a,vs,e1,e2,e3,e4,r⟩:=h;subst e1;exact⟨a,vs,rfl,e2,k2 a (by simp) _ e3,e4,r.mono k⟩
 | ob R=>obtain⟨v,e,r⟩:=h;exact⟨v,e,R.st r (fun a ha u q=>k2 a ha _ q) k⟩
 | fn f=>exact h
section
variable{X:Cx}{e:Expr}{es:List Expr}{t:bh}{th:EC}
def Tu:EC:=fun δ Q=>Q [] δ
def YE(t:bh)(th:EC):EC:=fun δ Q=>t δ fun d δ1=>th δ1 fun ss δ2=>Q (.im d::ss) δ2
def YD(t:wB)(th:EC):EC:=fun δ Q=>t δ fun ds δ1=>th δ1 fun ss δ2=>Q (.ow ds::ss) δ2
theorem xK:Hv X [] Tu:=PA.imp aE fun σ H Q bZ=>(by obtain⟨W,M,α,δ,Qd,E,q,k⟩:=bZ;exact(k _ _ _ _ _ _ q E cW.rf (fun _ z=>z) (fun _ z=> .inl z) .nil (fun a ha=>absurd ha aa4)))
theorem zJ(ha:Ev X e t)(hr:Hv X es th)(hs:starEach (e::es) X.env=(false,eval e X.env)::starEach es X.env:=by rfl):Hv X (e::es) (YE t th):=PA.imp (aj ha hr hs) fun σ H Q eS=>(by obtain⟨W,M,α,δ,Qd,E,q,k⟩:=eS;exact(
 ⟨W,M,α,δ,_,E,q,fun d δ1 H1 x q1 E1 c1 r1=>⟨W,M,α,δ1,_,E1,q1,fun ss δ2 H2 vs M' bs q2 E2 c2 m1 m2 hh hb=>
  k _ _ _ _ _ _ q2 E2 (c1.tr c2) m1 (fun a z=>(m2 a z).elim .inl fun y=>by
   cases e:H a with
   | none=>exact .inr rfl
   | some o => by_cases hf : a ∈ α.flatten
               . exact .inl (E.mu a hf)
               . rw[c1 _ _ e hf] at y;cases y)
   (uo.cons (as:= []) ⟨rfl,rfl,x,rfl,r1.mono fun a o e n=>⟨c2 _ _ e fun z=>n (E1.mu a z),fun z=>(m2 a z).elim n fun y=>by rw[e] at y;cases y⟩⟩ (fun a ha=>absurd ha aa4) ai6 (fun a ha=>absurd ha aa4) hh) hb⟩⟩))
theorem az.hold(E:az W M α H σ δ)(hp:H p=none)(hu: ∀xs,u≠ .tup xs):az W (fun b=>M b\/b=p) α (upd H p u) σ δ/\wz W (fun b=>M b\/b=p) α p:=by
 have sm:ax H (upd H p u):=ax.new hp;have np:p∉α.flatten:=fun z=>E.fresh hp (E.mu p z);have h0: ∀W'∈W,W'.H0 p=none:=fun W' hW=>by
  cases e:W'.H0 p with
  | none=>rfl
  | some o=>exact absurd hp ((E.w W' hW).ex p (by rw[e];intro z;cases z))
 refine⟨⟨E.ls,E.la,fun j s hj=>let ⟨o,as,h1,h2,h3⟩:=E.sl j s hj;⟨o,as,h1,h2,h3.grow hp⟩,E.nd,fun a h=> .inl (E.mu a h),fun a ha=>?_,fun W' hW=>?_⟩,⟨.inr rfl,np,fun W' hW=>⟨.inr (h0 W' hW),fun z=>E.fresh hp ((E.w W' hW).m0 p z)⟩⟩⟩
 . rcases ha with ha | ha
   . obtain⟨o,e,n⟩:=E.al a ha;exact⟨o,sm _ _ e,n⟩
   . subst ha;exact⟨u,ag,hu⟩
 . have k:=E.w W' hW;exact⟨fun b o e n=>sm _ _ (k.bs b o e n),fun b n y=>k.ex b n (LW.ax.none sm y),k.fr,fun a h=> .inl (k.m0 a h),fun a h=>h.elim (k.m1 a) fun z=> .inr (by rw[z];exact h0 W' hW),k.bx,k.fz⟩
theorem zI(hp:H1 p=none)(E1:az W M α H1 σ δ1)(hd:wz W (fun b=>M b\/b=p) α p)(hs:pZ (fun b=>M b\/b=p) (upd H1 p u) (some (.ref p)) s [p])(nb:s.cB=false)(E2:az W M' α H2 σ δ2)(c2:cW α (upd H1 p u) H2)(m1: ∀a,(M a\/a=p)->M' a)(m2: ∀a,M' a->(M a\/a=p)\/(upd H1 p u) a=none)(hh:uo W M' α H2 vs ss bs)(hb: ∀a∈bs,¬(M a\/a=p)):uo W M' α H2 (.ref p::vs) (s::ss) ([p]++bs):=
 uo.cons ⟨nb,hs.keep (fun b w e n=>⟨c2 _ _ e fun z=>n (.inl (E1.mu b z)),fun z=>(m2 b z).elim n fun y=>by rw[e] at y;cases y⟩) (fun a ha w e=>c2 _ _ e (by rw[aa6.mp ha];exact hd.n)) nb⟩
  (fun a ha=>by rw[aa6.mp ha];exact⟨m1 p (.inr rfl),hd.n,hd.w⟩) (by simp) (fun a ha=>by rw[aa6.mp ha];exact fun z=>hb p z (.inr rfl)) hh
theorem Oe{α:List (List Addr)}{M M':Addr->Prop}(mu: ∀a∈α.flatten,M a)(c1:cW α H H1)(h1:H1 p=none)(m2:M' a->(M a\/a=p)\/(upd H1 p u) a=none)(z:M' a):M a\/H a=none:=by
 cases e:H a with
 | none=>exact .inr rfl
 | some o=>
  by_cases hf:a∈α.flatten
  . exact .inl (mu a hf)
  . have e1:=c1 _ _ e hf;rcases m2 z with (y | y) | y
    . exact .inl y
    . subst y;rw[h1] at e1;cases e1
    . rw[ah (aq e1 h1),e1] at y;cases y
theorem O4{t:wB}(ha:Ov X e t)(hr:Hv X es th)(hs:starEach (e::es) X.env=(false,eval e X.env)::starEach es X.env:=by rfl):Hv X (e::es) (YD t th):=PA.imp (aj ha hr hs) fun σ H Q bZ=>(by obtain⟨W,M,α,δ,Qd,E,q,k⟩:=bZ;exact(
 ⟨W,M,α,δ,_,E,q,fun ds δ1 H1 xs p q1 E1 c1 r1 h1=>by
  have sm:ax H1 (upd H1 p (.lst xs)):=ax.new h1;obtain⟨E1',hd⟩:=E1.hold (u:= .lst xs) h1 (fun xs z=>by cases z);refine⟨W,_,α,δ1,_,E1',q1,fun ss δ2 H2 vs M' bs q2 E2 c2 m1 m2 hh hb=>?_⟩;exact k _ _ _ _ _ _ q2 E2 ((c1.tr (cW.of sm)).tr c2) (fun a z=>m1 a (.inl z)) (fun a z=>Oe E.mu c1 h1 (m2 a) z) (zI (s:= .ow ds) h1 E1 hd ⟨p,xs,rfl,rfl,ag,r1.grow h1⟩ rfl E2 c2 m1 m2 hh hb)
   (fun a ha=>by
    rcases ae1.mp ha with y | y
    . rw[aa6.mp y];exact E1.fresh h1
    . exact fun z=>hb a y (.inl z))⟩))
end
theorem az.HH(E:az Ws M α H σ δ)(h:Wx M H v s as)(hh: ∀a∈as,wz Ws M α a)(nd:as.Nodup)(ok:br δ i):az Ws M (α.set i as) H (σ.set i (some v)) (δ.set i s):=by
 have hi:=ok.lt;obtain⟨s0,Cy,nb⟩:=ok;refine⟨by rw[ad0,ad0,E.ls],by rw[ad0,ad0,E.la],fun j s' hj=>?_,cF E.nd nd (fun x hx=>(hh x hx).n),fun a ha=>(bG ha).elim (E.mu a) fun z=>(hh a z).m,E.al,fun W hW=>?_⟩
 . by_cases ck:i=j
   . subst ck;rw[ab9 hi] at hj;cases hj;exact⟨some v,as,by rw[ab9 (by rw[E.ls];exact hi)],by rw[ab9 (by rw[E.la];exact hi)],h.2⟩
   . rw[ab1 ck] at hj;obtain⟨o,as,h1,h2,h3⟩:=E.sl j s' hj;exact⟨o,as,by rw[ab1 ck];exact h1,by rw[ab1 ck];exact h2,h3⟩
 . have k:=E.w W hW;refine⟨k.bs,k.ex,fun a ha=>(bG ha).elim (k.fr a) fun z=>((hh a z).w W hW).1,k.m0,k.m1,fun d c e=>?_,fun j s ZP h1 h2 N9=>?_⟩
   . obtain⟨t,e1,e2⟩:=k.bx d c e;have:i≠0:=fun z=>by subst z;rw[Cy] at e1;cases e1;cases nb
     exact⟨t,by rw[ab1 this];exact e1,by rw[ab1 this];exact e2⟩
   . by_cases ck:i=j
     . subst ck;rw[ab9 (by rw[E.la];exact hi)] at h2;cases h2;exact fun a ha=>((hh a ha).w W hW).2
     . rw[ab1 ck] at h1 h2;exact k.fz j s ZP h1 h2 N9
theorem wz.set(h:wz Ws M α a)(n:a∉as):wz Ws M (α.set i as) a:=⟨h.m,fun z=>(bG z).elim h.n n,h.w⟩
section
variable{X:Cx}{a b c:Expr}{pos:Pos}{th:EC}
inductive G0(i:Nat)(j:Nat)(Δ:cG)(ss:List Sl)(δ':List Sl):Prop
 | mk (s1 s2:_) (h1:ss= [s1,s2]) (h2:br δ' i) (h3:br (δ'.set i s1) j) (h4:Δ.nx ((δ'.set i s1).set j s2))
def Py(i j:Nat)(th:EC):kg:=fun Δ δ=>th δ fun ss δ'=>G0 i j Δ ss δ'
theorem qo(i j:Nat){kt k2 JX}(hc:X.calm=true)(hN:X.N.Nodup)(ha:Hv X [a,b] th)(hi:X.N[i]?=some x:=by rfl)(hj:X.N[j]?=some y:=by rfl)(ck:i≠j:=by decide)(hx:X.env.scope.names.lookup x=some .local:=by rfl)(hy:X.env.scope.names.lookup y=some .local:=by rfl)(hw:swappedStores [.Tuple [.Name x px, .Name y py] kt pt] (.Tuple [a,b] k2 JX) X.env=pure (some [x,y]):=by rfl)(hs:swapsWithSole [.Tuple [.Name x px, .Name y py] kt pt] (.Tuple [a,b] k2 JX) pos.line X.env=pure false:=by rfl):
  Ex X (.Assign [.Tuple [.Name x px,.Name y py] kt pt] (.Tuple [a,b] k2 JX) pos) (Py i j th):=PS.imp (JY hc hN hi hj ck hx hy ha hw hs) fun D σ H iS=>(by obtain⟨Ws,M,α,δ,Δ,E,L,q⟩:=iS;exact(
 ⟨Ws,M,α,δ,_,E,q,fun ss δ' H' vs M' bs jq E1 c1 m1 m2 hh hb=>(by obtain⟨s1,s2,e,FU,FT,q1⟩:=jq;exact(by
  subst e;cases hh with
  | cons h1 h2 h3 h4 h5=>
   cases h5 with
   | cons g1 g2 g3 g4 g5=>
    cases g5;rename_i v1 as1 v2 Am;have Ea:=E1.HH h1 h2 h3 FU;have Eb:=Ea.HH (i:=j) g1 (fun a ha=>(g2 a ha).set fun z=>h4 a z (by simpa using ha)) g3 FT;exact⟨_,_,rfl,L.nx _ _ _ _ _ Eb q1⟩))⟩))
end
noncomputable def Oq:Dt->Option Key
 | .int i=>some (.inl i)
 | .str x=>some (.inr x)
 | _=>none
theorem F9(r:Rep M H v d)(h:Oq d=some k):v=kV k:=by
 cases r <;> first | (cases h;rfl) | cases h
instance {k:Key} {ks:List Key}:Decidable (k∈ks):=decidable_of_iff ((ks.any fun x=>decide (x=k))=true) (by simp)
section
variable{X:Cx}{N:List Str}{nt:Nat}{js:List Nat}{scope:Scope}{elt tg iter e f a b:Expr}{ifs:List Expr}{pos:Pos}{ti:oO}{g:og}{tc:kj}{te t tv tb:bh}{ib jb:Nat}{gh:TG}
def Uj(t:bh)(g:og):kg:=fun Δ δ=>t δ fun d δ'=>g d δ' Δ.nx
theorem kW(he:Ev X e t)(hg:Gv X tg g)(hs:swapsWithSole [tg] e pos.line X.env=pure false:=by rfl)(hw:swappedStores [tg] e X.env=pure none:=by rfl)(h1:(assignEach [tg] X.env).map (·.2)= [assign tg X.env]:=by rfl):Ex X (.Assign [tg] e pos) (Uj t g):=
 PS.imp (qz he hg hs hw h1) fun D σ H eS=>(by obtain⟨Ws,M,α,δ,Δ,E,L,q⟩:=eS;exact(⟨Ws,M,α,δ,_,E,q,fun d δ' H' v q1 E1 c1 r1=>⟨Ws,M,α,δ',d,_,E1,r1,q1,fun α' δ2 σ2 q2 E2 _=>L.nx _ _ _ _ _ E2 q2⟩⟩))
end
def so(K:PySem.W.Frag):Sp:=fun vs H Q _=> ∃(a:Addr) (ns:List Int),vs= [.ref a]/\bS K H a (ns.map V.int)/\ns.length<=63/\ ∀H',Q (.bl true) H'
def oW:DB:=fun t ds Q=> ∃m,ds= [.int m]/\t < 1000000/\0 < m/\m < 2^64/\ ∀r,0<=r->r < m->Q (.int r) (t+1)
theorem EO(h:sr oW vs H Q E):Bb vs H Q E:=by
 obtain⟨M,d,c,t,ws,ds,Qd,rfl,al,md,mc,B,r,⟨m,rfl,t1,m0,m1,q⟩,k⟩:=h;obtain⟨x,ys,rfl,r1,r2⟩:=r.aG;cases r2.cC;cases r1.ofInt;exact⟨d,c,t,m,rfl,B,t1,m0,m1,fun r H' r0 r1 B' kp=>k _ _ _ _ (q r r0 r1) kp B' (.int r)⟩
section
variable{P:Program}{w:World}{K:PySem.W.Frag}{mg:Str->Option Value}{base:Heap}
theorem Ol {st : Stmt} {k : Nat} (F : dM K "law" "law" st f fd) (sc : aw N ["_law_script"] (af st)) (hN : 2 <= N.length) (dw : ∀ (ba : Value) (A : Around) (outer : List Env) (s : Shared) (H : Hp) (E : XK), bg k (A.deeper (envOfC "law" (af st) s.heap.objs.size f ba)) ->
   ∃s1 rest T,bz st=s1::rest/\PS (fJ cX P w K mg base N "law" (af st) f ba A outer s H E).Cd s1 (A8 (wQ (qd K) [] E0 (oX (iF 0) uJ)) (cm 1))/\AA (fJ cX P w K mg base N "law" (af st) f ba A outer s H E).Cd rest T/\
    T {nx:=fun _=>False,rt:=fun d _=>d= .bl true} (.no:: .bx 0::List.replicate (N.length - 2) .no)):aJ P w K mg base cX (k+1) f fd ["_law_script"] (so K):=by
 refine F.ok sc (fun vs H Q E h=>?_) (fun ba A outer s H vs Q E hr h=>?_)
 . obtain⟨a,ns,rfl,_⟩:=h;rfl
 . obtain⟨a,ns,rfl,hS,hlen,q⟩:=h;obtain⟨s1,rest,T,e,h1,h2,hT⟩:=dw ba A outer s H E hr;rw[e];refine⟨_,aT h1 h2,?_⟩;have es:L2.start N [V.ref a]=some (.ref a)::none::List.replicate (N.length - 2) none:=by
    unfold L2.start;rw[show N.length - [V.ref a].length=(N.length - 2)+1 by show N.length - 1=_;omega,ag5];rfl
   rw[es];refine⟨_,rfl,a,ns,rfl,hS,hlen,fun d c H1 B1 s1'=>?_⟩;have bf:(([]:List Addr):: [d,c]::List.replicate (N.length - 2) []).flatten= [d,c]:=by simp
   refine⟨[],fun b=>b=d\/b=c,[]:: [d,c]::List.replicate (N.length - 2) [],.no:: .bx 0::List.replicate (N.length - 2) .no,_,?_,?_,hT⟩
   . refine⟨by simp,by simp,fun i s' hi=>?_,by rw[bf];simp [B1.ne],fun b hb=>by rw[bf] at hb;simpa using hb,fun b hb=>?_,fun W hW=>absurd hW aa4⟩
     . match i with
       | 0=>cases hi;exact⟨_,_,rfl,rfl,rfl⟩
       | 1=>cases hi;exact⟨_,_,rfl,rfl,d,c,rfl,rfl,B1⟩
       | i+2=>
        have Eu:(List.replicate (N.length - 2) Sl.no)[i]?=some s':=by simpa using hi
        rw[ac1] at Eu;split at Eu
        . rename_i dH;cases Eu;refine⟨none,[],?_,?_,rfl⟩
          . show(List.replicate (N.length - 2) (none:Option V))[i]?=_;rw[ac1,if_pos dH]
          . show(List.replicate (N.length - 2) ([]:List Addr))[i]?=_;rw[ac1,if_pos dH]
        . cases Eu
     . rcases hb with rfl | rfl
       . exact⟨_,B1.dc,fun xs z=>by cases z⟩
       . obtain⟨ns,h,_⟩:=B1.cs;exact⟨_,h,fun xs z=>by cases z⟩
   . exact⟨fun _ _ _ _ _ _ z=>z.elim,fun M' α' H' σ' δ' v dd E' r' z=>by subst z;rw[r'.zi];exact q H',fun _ _ _ _ _ _ z=>z.elim,fun _ _ _ _ _ _ z=>z.elim⟩
end
end LD
namespace PySem.SeqAt
open MeetsSeq
theorem zR{M:Model}{A:Around}{E:Value->Shared->Prop}{s:Shared}{β:Type}{r:Std.Legacy.Range}(f:Nat->β->Sem (ForInStep β))(I:List Nat->β->Shared->Prop)(Q:β->Shared->Prop)
  (turn: ∀x rest b s,I (x::rest) b s->wpAny M A (f x b) (fun r s'=>match r with | .yield b'=>I rest b' s' | .done b'=>Q b' s') E s)
  (fin: ∀b s,I [] b s->Q b s) (b:β) (h:I (List.range' r.start r.size r.step) b s):wpAny M A (forIn r b f) Q E s:=by
 rw[Std.Legacy.Range.forIn_eq_forIn_range'];exact wpAny_forIn_list f I Q turn fin _ b h
theorem oh(l:Addr)(items:Array Value)(n:Nat)(dd:Option Addr)(sl:Array (Option Value))(x:Value)(e:Value->Bool)(j:Nat)(hj:j < items.size)(hit:e items[j]=true)(Gj: ∀m (hm:m < items.size),m < j->e items[m]=false):
  Meets (Builtin.«tuple.index» ⟨[.ref l,x],[]⟩)
   (fun A R s=>s.heap.get? l=some {cls:= .type "tuple",dict:=dd,data:= .seq items n,slots:=sl}/\(∀y,y∈items->EqAt A.in1 s y x (e y))/\R (.ok (.ret (.int j s.toks))) {s with toks:=s.toks+1}):=
 .of_wp fun prog w A R s h=>by
  obtain⟨hp,g,d,tk,os⟩:=s;obtain⟨hl,he,h⟩:=h;wp_walk using ae3 hl,zR _ (fun rest b s'=>b.1=none/\s'=⟨hp,g,d,tk,os⟩/\ ∃i,rest=List.range' i (items.size - i)/\i<=j) _
  case turn=>
   rintro y rest b s' ⟨hb,rfl,i,hr,hi⟩
   have dH:i < items.size:=by omega
   rw[show items.size - i=(items.size - (i+1))+1 by omega,ao5] at hr;obtain⟨e1,e2⟩:=List.cons.inj hr;subst e1;subst e2;rw[Array.getElem?_eq_getElem dH];refine aa0 (he _ (Array.getElem_mem dH) prog w _ _ ?_);by_cases ck:y=j
   . subst ck;rw[hit];wp_walk
     exact⟨_,rfl,h⟩
   . rw[Gj y dH (by omega)];wp_walk
     exact⟨rfl,rfl,y+1,rfl,by omega⟩
  case fin=>
   rintro⟨b1,b2⟩ s' ⟨hb,rfl,i,hr,hi⟩
   have:items.size - i=0:=by
    have:=ag1 List.length hr;simpa using this.symm
   omega
  case h=>
   exact⟨rfl,rfl,0,by simp [Std.Legacy.Range.size],ag0 _⟩
end PySem.SeqAt
namespace L2
open PySem PySem.Spec PyProof.Rows
section
variable{X:Cx}
def Fi:V->List V->Hp->VK->Prop:=fun x vs H Q=> ∃a xs y j z,x= .ref a/\vs= [y]/\H a=some (.tup xs)/\cT y=true/\xs.all cT=true/\xs[j]?=some z/\rN z y=true/\(∀m u,m < j->xs[m]?=some u->rN u y=false)/\Q (.int (j:Nat)) H
theorem Li(r:Vals xs ao)(ry:RelV y u)(fy:cT y=true)(fx:xs.all cT=true):
  ∃e:Value->Bool,(∀v∈ao,SeqAt.EqAt A s v u (e v))/\ ∀(i:Nat) x v,xs[i]?=some x->ao[i]?=some v->e v=rN x y:=by
 refine⟨fun v=>match Hh v with | some x=>rN x y | none=>false,fun v hv=>?_,fun i x v hx hv=>?_⟩
 . obtain⟨i,hi,e⟩:=ah8 hv;have hx:xs[i]?=some (xs[i]'(by rw[r.length];exact hi)):=aa2 _;obtain⟨w,hw,rM⟩:=r.get hx;rw[aa2 hi,e] at hw;cases hw;show SeqAt.EqAt A s v u (match Hh v with | some x=>rN x y | none=>false);rw[rM.abs];exact vQ rM ry (ah2.mp fx _ (ad2 hx)) fy
 . obtain⟨w,hw,rM⟩:=r.get hx;rw[hv] at hw;cases hw;show(match Hh v with | some x=>rN x y | none=>false)=_;rw[rM.abs]
theorem zr:UD X "tuple.index" Fi:=by
 intro pins s σ H x xs v us Q I rx rs h;obtain⟨a,ys,y,j,z,rfl,rfl,ha,fy,fx,hz,SI,Gj,q⟩:=h;cases rx;obtain⟨u,rfl,ru⟩:=vals1 rs;obtain⟨ao,rv,pl,_⟩:=I.tuple (dB.of ha);obtain⟨⟨cls,dd,data,sl⟩,ho,hc,n,hd⟩:=(show s.heap.IsTuple a ao.toArray from pl)
 simp only at hc hd;subst hc hd;obtain⟨e,he,hv⟩:=Li (A:=X.A.in1) (s:=s) rv ru fy fx;have hj:j < ao.length:=by rw[<-rv.length];exact(aa5.mp hz).1
 refine ao4 PySem.F.slot_tuple_index ⟨_,ho,rfl⟩ PySem.F.entry_tuple_index (PySem.F.args_tuple_index_2 _ _) (SeqAt.oh a ao.toArray n dd sl u e j (by simpa using hj) ?_ ?_) ⟨ho,fun z hz=>he z (by simpa using hz),⟨.int _,H,I.tok _,⟨_,rfl⟩,q⟩⟩
 . have:=hv j z ao[j] hz (aa2 hj);simpa using this.trans SI
 . intro m hm dH;have Et:m < ao.length:=by simpa using hm
   have hx:ys[m]?=some (ys[m]'(by rw[rv.length];exact Et)):=aa2 _;have:=hv m _ ao[m] hx (aa2 Et);simpa using this.trans (Gj m _ dH hx)
end
end L2
namespace LD
open PySem PySem.Spec L2 LB PyProof.Rows
section
variable{X:Cx}{a b c e:Expr}{es:List Expr}{ta tb tc t:bh}{tA:eZ}{pos p:Pos}
theorem ints_rep: ∀{xs:List V} {ns:List Int},ay M H xs (ns.map .int)->xs=ns.map V.int
 | [],[],_=>rfl
 | [],_::_,h=>by have:=h.1;simp at this
 | _::_,[],h=>by have:=h.1;simp at this
 | x::xs,n::ns,h=>by
  rw[ac9] at h;obtain⟨y,ys,e,r1,r2⟩:=h.aG;cases e;rw[r1.ofInt,ints_rep r2,ac9]
theorem Ak:bootBuiltins "all"=some (.builtin "all"):=by decide+kernel
theorem fR(h:ay M H xs [d]): ∃x,xs= [x]/\Rep M H x d:=by
 obtain⟨x,ys,rfl,r1,r2⟩:=h.aG;cases r2.cC;exact⟨x,rfl,r1⟩
theorem pQ: ∀{xs:List V} {ns:List Bool},ay M H xs (ns.map .bl)->xs=ns.map V.bl
 | [],[],_=>rfl
 | [],_::_,h=>by have:=h.1;simp at this
 | _::_,[],h=>by have:=h.1;simp at this
 | x::xs,n::ns,h=>by
  rw[ac9] at h;obtain⟨y,ys,e,r1,r2⟩:=h.aG;cases e;rw[r1.zi,pQ r2,ac9]
inductive Qo(ds:List Dt)(Q:Dt->Prop):Prop
 | mk (bs:List Bool) (h1:ds= [.lst (bs.map .bl)]) (h2:Q (.bl (bs.all id)))
theorem IS(hc:X.calm=true)(hm:X.mg "all"=none)(ha:Av X [e] tA)(hg:Gl X "all":=by rfl)(he:starEach [e] X.env=(false,eval e X.env)::starEach [] X.env:=by rfl)(da:(backTo pos (starEach [] X.env)).any (·.1)=false:=by rfl):
  Ev X (.Call (.Name "all" p) [e] [] pos) (Ax Qo tA):=mv (DR hc) (fun M H xs ds Qd Q al r jq k=>(by obtain⟨bs,e,q⟩:=jq;exact(by
 subst e;obtain⟨x,rfl,r1⟩:=fR r;obtain⟨a,zs,rfl,ha,n,rr⟩:=r1.bV;rw[pQ rr] at ha;exact⟨a,bs,rfl,bS.of ha,k H _ _ q (fun _ _ z=>z) (.bl _)⟩))) hg hm Ak ha (by decide) (by decide) he da
def VT(R:Dt->List Dt->(Dt->Prop)->Prop)(ta:bh)(tA:eZ):bh:=fun δ Q=>ta δ fun d δ1=>(∃ds,d= .tup ds)/\tA δ1 fun es δ2=>R d es fun r=>Q r δ2
inductive Ht(d:Dt)(es:List Dt)(Q:Dt->Prop):Prop
 | mk (ds:List Dt) (x:Dt) (j:Nat) (z:Dt) (h1:d= .tup ds) (h2:es= [x]) (h3:cw x=true) (h4:ds.all cw=true) (h5:ds[j]?=some z) (h6:C4 z x=true) (h7:(∀m u,m < j->ds[m]?=some u->C4 u x=false)) (h8:Q (.int (j:Nat)))
end
section
variable{X:Cx}{a b c e:Expr}{es:List Expr}{ta tb tc t:bh}{tA:eZ}{pos p apos aY:Pos}
theorem F1{r:V->List V->Hp->VK->Prop}{R:Dt->List Dt->(Dt->Prop)->Prop}{K:PySem.W.Frag}(hd: ∀(M:Addr->Prop) (H:Hp) (x:V) (xs:List V) (d:Dt) (ds:List Dt) (Qd:Dt->Prop) (Q:VK),iI M H->Rep M H x d->ay M H xs ds->R d ds Qd->(∀H' v d,Qd d->ax H H'->Rep M H' v d->Q v H')->r x xs H Q):
  ∀σ H Q,lE (VT R ta tA) σ H Q->UN K "tuple" r (lE ta) (lA tA) σ H Q:=fun σ H Q bZ=>(by obtain⟨W,M,α,δ,Qd,E,q,k⟩:=bZ;exact(
 ⟨W,M,α,δ,_,E,q,fun d δ1 H1 x eS E1 c1 r1=>(by obtain⟨⟨ds,e⟩,q1⟩:=eS;exact(by
  subst e;obtain⟨a,xs,rfl,ha,n,rr⟩:=r1.bQ;refine⟨.inr (.inr (.inr (.inr ⟨rfl,xs,ha⟩))),W,M,α,δ1,_,E1,q1,fun es δ2 H2 ys q2 E2 c2 r2=>?_⟩;exact hd M H2 _ ys _ es _ _ E2.al (r1.chg E1 c2) r2 q2 fun H3 v d q3 s r3=>k _ _ _ _ q3 (E2.same s) ((c1.tr c2).tr (cW.of s)) r3))⟩))
theorem GV(ha:Ev X a ta)(hA:Av X [e] tA)
  (fE:attributeBase a "index" X.env (eval a X.env)=eval a X.env:=by rfl)
  (CF:((backTo aY (starEach [e] X.env)).all (fun x=>!x.1) && (backToKw aY (keywordEach [] X.env)).all (fun x=>x.1.isSome) && decide ([e].length+([]:List Keyword).length+(if ([]:List Keyword).isEmpty then 0 else 1) < 30))=true:=by rfl)
  (jJ:(apos.endLine==aY.line)=true:=by rfl) (hs:starEach [e] X.env=(false,eval e X.env)::starEach [] X.env:=by rfl) (i6:(backTo aY (starEach [] X.env)).any (·.1)=false:=by rfl):
  Ev X (.Call (.Attribute a "index" apos) [e] [] aY) (VT Ht ta tA):=
 PE.imp (HN PySem.F.plainAttrs_tuple PySem.F.slot_tuple_index PySem.F.type_tuple_index zr ha hA fE CF jJ hs i6) (F1 fun M H x xs d ds Qd Q al r1 r2 gr k=>(by obtain⟨es,y,j,z,e1,e2,f1,f2,hz,SI,Gj,q⟩:=gr;exact(by
  subst e1;subst e2;obtain⟨a,zs,rfl,ha,n,rr⟩:=r1.bQ;obtain⟨v,rfl,rv⟩:=fR r2;obtain⟨w,hw,rM⟩:=rr.get hz;have fz:cw z=true:=ah2.mp f2 _ (ad2 hz);refine⟨a,zs,v,j,w,rfl,rfl,ha,hG rv f1,pC rr f2,hw,by rw[mq rM rv fz f1];exact SI,fun m u hm hu=>?_,k H _ _ q (fun _ _ z=>z) (.int _)⟩;have Gm:m < es.length:=by rw[<-rr.1];exact(aa5.mp hu).1
  have hd:=aa2 Gm;rw[mq (rr.2 m u _ hu hd) rv (ah2.mp f2 _ (ad2 hd)) f1];exact Gj m _ hm hd)))
inductive DG(Q:List Dt->List Sl->Prop)(es:List Dt)(ks:List Dt)(δ2:List Sl):Prop
 | mk (ds:_) (h1:es= [.tup ds]) (h2:ks= [.int 1]) (h3:Q (aL 1 ds) δ2)
def DH(tA tk:eZ):oO:=fun δ Q=>tA δ fun es δ1=>tk δ1 fun ks δ2=>DG Q es ks δ2
theorem Gf{x1}(hm:X.mg "enumerate"=none)(ha:Av X [e] tA)(hk:PK X kZ tk)(Yb: ∀σ H Q,lA W7 σ H Q->tk σ H Q)(hg:Gl X "enumerate":=by rfl)(Gn:(backToKw pos (keywordEach kZ X.env)).filterMap (·.1)=(["start"]:List Str):=by rfl)(k1:backTo pos (starEach [e] X.env)=(false,eval e X.env)::backTo pos (starEach [] X.env):=by rfl)(k2:(backTo pos (starEach [e] X.env)).any (·.1)=false:=by rfl)(k3:(backToKw pos (keywordEach kZ X.env)).all (·.1.isSome)=true:=by rfl)(k4:(backToKw pos (keywordEach kZ X.env)).any (·.1.isNone)=false:=by rfl):Iv X (.Tuple es x1 tp) (.Call (.Name "enumerate" p) [e] kZ pos) (DH tA W7):=
 PI.imp (BH hg hm ha hk Gn k1 k2 k3 k4) fun σ H R mE=>(by obtain⟨W,M,α,δ,Qd,E,q,k⟩:=mE;exact(⟨W,M,α,δ,_,E,q,fun es δ1 H1 vs q1 E1 c1 r1=>Yb _ _ _ ⟨W,M,α,δ1,_,E1,q1,fun ks δ2 H2 zs rP E2 c2 r2=>(by obtain⟨ds,e1,e2,q2⟩:=rP;exact(by
  subst e1;subst e2;obtain⟨x,rfl,rx⟩:=fR (r1.chg E1 c2);obtain⟨y,rfl,ry⟩:=fR r2;cases ry.ofInt;obtain⟨a,xs,rfl,ha,n,rr⟩:=rx.bQ;exact⟨a,rfl,rfl,⟨xs,dB.of ha⟩,k _ _ _ _ q2 E2 (c1.tr c2) (wJ ha n rr)⟩))⟩⟩))
theorem Ad: ∀σ H Q,lA (nM t DE) σ H Q->oX (lE t) uJ σ H Q:=fun σ H Q mD=>(by obtain⟨W,M,α,δ,Qd,E,q,k⟩:=mD;exact(⟨W,M,α,δ,_,E,q,fun d δ1 H1 x q1 E1 c1 r1=>k _ _ _ _ q1 E1 c1 (.one r1)⟩))
theorem xF{x1}(hm:X.mg "enumerate"=none)(ha:Av X [e] tA)(hf:Ev X f t)(hg:Gl X "enumerate":=by rfl)(Gn:(backToKw pos (keywordEach [⟨nm,f,qM⟩] X.env)).filterMap (·.1)=(["start"]:List Str):=by rfl)(k1:backTo pos (starEach [e] X.env)=(false,eval e X.env)::backTo pos (starEach [] X.env):=by rfl)(k2:(backTo pos (starEach [e] X.env)).any (·.1)=false:=by rfl)(k3:(backToKw pos (keywordEach [⟨nm,f,qM⟩] X.env)).all (·.1.isSome)=true:=by rfl)(k4:(backToKw pos (keywordEach [⟨nm,f,qM⟩] X.env)).any (·.1.isNone)=false:=by rfl):Iv X (.Tuple es x1 tp) (.Call (.Name "enumerate" p) [e] [⟨nm,f,qM⟩] pos) (DH tA (nM t DE)):=
 Gf hm ha (xg hf BE) Ad hg Gn k1 k2 k3 k4
inductive G3(neg:Bool)(Q:Dt->List Sl->Prop)(d:Dt)(δ':List Sl):Prop
 | mk (ds:_) (h1:d= .lst ds) (h2:Q (.bl (if neg then !ds.isEmpty else ds.isEmpty)) δ')
def IW(neg:Bool)(ta:bh):bh:=fun δ Q=>ta δ fun d δ'=>G3 neg Q d δ'
inductive G2(neg:Bool)(Q:Dt->List Sl->Prop)(d:Dt)(δ':List Sl):Prop
 | mk (ds:_) (h1:d= .tup ds) (h2:Q (.bl (if neg then !ds.isEmpty else ds.isEmpty)) δ')
def IV(neg:Bool)(ta:bh):bh:=fun δ Q=>ta δ fun d δ'=>G2 neg Q d δ'
theorem zq(hr: ∀(H:Hp) (Q:VK) (p q:Addr) (xs:List V),H p=some (.lst xs)->H q=some (.lst [])->Q (.bl (if neg then !xs.isEmpty else xs.isEmpty)) H->r (.ref p) (.ref q) H Q): ∀σ H Q,lE (IW neg ta) σ H Q->JD r (lE ta) (Nj uJ) σ H Q:=fun σ H Q gv=>(by obtain⟨W,M,α,δ,Qd,E,q,k⟩:=gv;exact(
 ⟨W,M,α,δ,_,E,q,fun d δ1 H1 x mG E1 c1 r1=>(by obtain⟨ds,e,q1⟩:=mG;exact(⟨ag0 _,fun p hp=>by
  subst e;obtain⟨a,xs,rfl,ha,n,rr⟩:=r1.bV;have s:ax H1 (upd H1 p (.lst [])):=ax.new hp;exact hr _ _ _ _ xs (s _ _ ha) ag (by rw[ix rr];exact k _ _ _ _ q1 (E1.same s) (c1.tr (cW.of s)) (.bl _))⟩))⟩))
theorem zo(hr: ∀(H:Hp) (Q:VK) (p q:Addr) (xs:List V),H p=some (.tup xs)->H q=some (.tup [])->Q (.bl (if neg then !xs.isEmpty else xs.isEmpty)) H->r (.ref p) (.ref q) H Q): ∀σ H Q,lE (IV neg ta) σ H Q->JD r (lE ta) (Nb uJ) σ H Q:=fun σ H Q mF=>(by obtain⟨W,M,α,δ,Qd,E,q,k⟩:=mF;exact(
 ⟨W,M,α,δ,_,E,q,fun d δ1 H1 x iT E1 c1 r1=>(by obtain⟨ds,e,q1⟩:=iT;exact(⟨ag0 _,fun p hp=>by
  subst e;obtain⟨a,xs,rfl,ha,n,rr⟩:=r1.bQ;have s:ax H1 (upd H1 p (.tup [])):=ax.new hp;exact hr _ _ _ _ xs (s _ _ ha) ag (by rw[ix rr];exact k _ _ _ _ q1 (E1.same s) (c1.tr (cW.of s)) (.bl _))⟩))⟩))
theorem Kr{K:PySem.W.Frag}: ∀(H:Hp) (Q:VK) (p q:Addr) (xs:List V),H p=some (.lst xs)->H q=some (.lst [])->Q (.bl (if true=true then !xs.isEmpty else xs.isEmpty)) H->w8 K (.ref p) (.ref q) H Q:=fun H Q p q xs h1 h2 z=>⟨p,q,xs,rfl,rfl,bS.of h1,bS.of h2,z⟩
theorem Kq{K:PySem.W.Frag}: ∀(H:Hp) (Q:VK) (p q:Addr) (xs:List V),H p=some (.tup xs)->H q=some (.tup [])->Q (.bl (if true=true then !xs.isEmpty else xs.isEmpty)) H->w6 K (.ref p) (.ref q) H Q:=fun H Q p q xs h1 h2 z=>⟨p,q,xs,rfl,rfl,dB.of h1,dB.of h2,z⟩
theorem sk(hu:X.A.units < cLine)(ha:Ev X a ta):Tv X (.Compare a [.NotEq] [.List [] p2] pos) (dT (IW true ta)):=PT.imp (l7 (yZ hu) ha (qB aE) (cQ _)) fun σ H Q h=>zq Kr _ _ _ (fh _ _ _ h)
theorem Dx(hu:X.A.units < cLine)(ha:Ev X a ta):Ev X (.Compare a [.NotEq] [.Tuple [] x1 p2] pos) (IV true ta):=PE.imp (xj (yY hu) ha (m8 aE) (cQ _)) (zo Kq)
end
end LD
namespace L2
open PySem PySem.Spec PyProof.Rows
theorem oE(it acc:Value)(env:Env):
  compTurn (.ListComp elt [⟨tg,iter,ifs,0⟩,⟨gA,iter2,c8,0⟩] scope pos) 0 it acc env=(do
   standAt iter.pos
   match<-pyNext it with
   | none=>pure (.done .next)
   | some v=>
    letOwnedTupleGo tg it v
    assign tg env v
    let mut ok:=true
    for c in ifs do
     if ok then ok<-isTrue c env (eval c env)
    if ok then
     let x<-eval iter2 env
     standAt iter2.pos
     let x<-foldedSetIterable iter2 env x
     let _<-runOwn (.compStart (.ListComp elt [⟨tg,iter,ifs,0⟩,⟨gA,iter2,c8,0⟩] scope pos) 1 (<-holding [x] (pyIter x)) acc env) env
    again (.compLoop (.ListComp elt [⟨tg,iter,ifs,0⟩,⟨gA,iter2,c8,0⟩] scope pos) 0 it acc env)):=by rfl
theorem oB(it acc:Value)(env:Env):
  compTurn (.ListComp elt [⟨tg,iter,ifs,0⟩,⟨gA,iter2,c8,0⟩] scope pos) 1 it acc env=(do
   standAt iter2.pos
   match<-pyNext it with
   | none=>pure (.done .next)
   | some v=>
    letOwnedTupleGo gA it v
    assign gA env v
    let mut ok:=true
    for c in c8 do
     if ok then ok<-isTrue c env (eval c env)
    if ok then
     (do let _<-call (.builtin "list.append") [acc,<-eval elt env])
    again (.compLoop (.ListComp elt [⟨tg,iter,ifs,0⟩,⟨gA,iter2,c8,0⟩] scope pos) 1 it acc env)):=by rfl
theorem oG (I : Nat -> Shared -> Prop) (turn : ∀ n s, I n s -> wpAny (model prog w) A (pyNext it) (fun r s₁ => match r with
   | none=>R (.ok .next) s₁
   | some v=>wpAny (model prog w) A (letOwnedTupleGo gA it v) (fun _ s₀=>wpAny (model prog w) A (assign gA env v) (fun _ s₂=>
     wpAny (model prog w) A (forIn c8 true fun c r=>if r=true then do let ok<-isTrue c env (eval c env);pure (ForInStep.yield ok) else pure (ForInStep.yield r)) (fun ok s₃=>
      if ok=true then wpAny (model prog w) A (eval elt env) (fun x s₄=>
       wpAny (model prog w) A (call (.builtin "list.append") [acc,x]) (fun _ s₅=> ∃m,m < n/\I m s₅) (fun _ _=>False) s₄) (fun _ _=>False) s₃
      else∃m,m < n/\I m s₃) (fun _ _=>False) s₂) (fun _ _=>False) s₀) (fun _ _=>False) s₁) (fun _ _=>False) s) (n:Nat) (h:I n s):codeAny (model prog w) A (.compLoop (.ListComp elt [⟨tg,iter,ifs,0⟩,⟨gA,iter2,c8,0⟩] scope pos) 1 it acc env) R s:=by
 refine codeAny_loop rfl I (fun n s hI=>?_) n h;show wpAny _ A ((compTurn (.ListComp elt [⟨tg,iter,ifs,0⟩,⟨gA,iter2,c8,0⟩] scope pos) 1 it acc env).onRaise (fun x=>do noteFrame x env;theTreesLotGoes x)) _ _ s;refine wpAny_noted ?_;rw[oB];refine aa0 (af9 (aa0 (ad1 (turn n s hI) (fun r s₁ h₁=>?_) fun _ _ h'=>h'.elim)));cases r with
 | none=>exact aa7 h₁
 | some v=>
  refine aa0 (ad1 h₁ (fun _ s₀ h₀=>?_) fun _ _ h'=>h'.elim);refine aa0 (ad1 h₀ (fun _ s₂ h₂=>aa0 (ad1 h₂ (fun ok s₃ h₃=>?_) fun _ _ h'=>h'.elim)) fun _ _ h'=>h'.elim);cases ok with
  | false=>exact aa7 ⟨rfl,h₃⟩
  | true=>
   exact aa0 (aa0 (ad1 h₃ (fun x s₄ h₄=>aa0 (ad1 h₄ (fun _ s₅ h₅=>aa7 (aa7 ⟨rfl,h₅⟩)) fun _ _ h'=>h'.elim)) fun _ _ h'=>h'.elim))
theorem nP (h0 : codeAny (model prog w) A (.compLoop (.ListComp elt [⟨tg, iter, ifs, 0⟩, ⟨gA, iter2, c8, 0⟩] scope pos) 1 it acc env) R s) (h : wpAny (model prog w) A (pyIter it) (fun SD s' => codeAny (model prog w) A (.compLoop (.ListComp elt [⟨tg, iter, ifs, 0⟩, ⟨gA, iter2, c8, 0⟩] scope pos) 1 SD acc env) R s')
   (notedBy (model prog w) A env fun x s'=>R (.error x) s') s):
  codeAny (model prog w) A (.compStart (.ListComp elt [⟨tg,iter,ifs,0⟩,⟨gA,iter2,c8,0⟩] scope pos) 1 it acc env) R s:=by
 refine codeAny_of_tree ?_;show wpAny _ _ ((compStart (.ListComp elt [⟨tg,iter,ifs,0⟩,⟨gA,iter2,c8,0⟩] scope pos) 1 it acc env).onRaise (fun x=>do noteFrame x env;standAt theWindowsPlace)) _ _ s;refine wpAny_notedAt ?_;unfold compStart;show wpAny _ _ (ask >>=_) _ _ s;refine aa0 (wpAny_askSetting (wpAny_ite ?_));split
 . first
     | exact aa0 (aa7 (aa7 (And.intro rfl h0)))
     | exact aa7 (And.intro rfl h0)
 . first
     | exact aa0 (ap9 (aa0 (af9 (aa0 (ad1 h (fun SD s' h'=>aa7 (And.intro rfl h')) fun _ _ x=>x)))))
     | (refine aa0 (ap9 ?_);show wpAny _ _ (standAt iter2.pos >>=_) _ _ s;exact aa0 (af9 (aa0 (ad1 h (fun SD s' h'=>aa7 (And.intro rfl h')) fun _ _ x=>x))))
theorem oH (I : Nat -> Shared -> Prop) (hs : ∀ x, foldedSetIterable iter2 env x = pure x) (turn : ∀ n s, I n s -> wpAny (model prog w) A (pyNext it) (fun r s₁ => match r with
   | none=>R (.ok .next) s₁
   | some v=>wpAny (model prog w) A (letOwnedTupleGo tg it v) (fun _ s₀=>wpAny (model prog w) A (assign tg env v) (fun _ s₂=>
     wpAny (model prog w) A (forIn ifs true fun c r=>if r=true then do let ok<-isTrue c env (eval c env);pure (ForInStep.yield ok) else pure (ForInStep.yield r)) (fun ok s₃=>
      if ok=true then wpAny (model prog w) A (eval iter2 env) (fun x s₄=>wpAny (model prog w) A (pyIter x) (fun SA s₅=>
       codeAny (model prog w) A (.compStart (.ListComp elt [⟨tg,iter,ifs,0⟩,⟨gA,iter2,c8,0⟩] scope pos) 1 SA acc env) (fun r s₆=>r= .ok .next/\ ∃m,m < n/\I m s₆) s₅) (fun _ _=>False) s₄) (fun _ _=>False) s₃
      else∃m,m < n/\I m s₃) (fun _ _=>False) s₂) (fun _ _=>False) s₀) (fun _ _=>False) s₁) (fun _ _=>False) s) (n:Nat) (h:I n s):codeAny (model prog w) A (.compLoop (.ListComp elt [⟨tg,iter,ifs,0⟩,⟨gA,iter2,c8,0⟩] scope pos) 0 it acc env) R s:=by
 refine codeAny_loop rfl I (fun n s hI=>?_) n h;show wpAny _ A ((compTurn (.ListComp elt [⟨tg,iter,ifs,0⟩,⟨gA,iter2,c8,0⟩] scope pos) 0 it acc env).onRaise (fun x=>do noteFrame x env;theTreesLotGoes x)) _ _ s;refine wpAny_noted ?_;rw[oE];refine aa0 (af9 (aa0 (ad1 (turn n s hI) (fun r s₁ h₁=>?_) fun _ _ h'=>h'.elim)));cases r with
 | none=>exact aa7 h₁
 | some v=>
  refine aa0 (ad1 h₁ (fun _ s₀ h₀=>?_) fun _ _ h'=>h'.elim);refine aa0 (ad1 h₀ (fun _ s₂ h₂=>aa0 (ad1 h₂ (fun ok s₃ h₃=>?_) fun _ _ h'=>h'.elim)) fun _ _ h'=>h'.elim);cases ok with
  | false=>exact aa7 ⟨rfl,h₃⟩
  | true=>
   refine aa0 (ad1 h₃ (fun x s₄ h₄=>aa0 (af9 ?_)) fun _ _ h'=>h'.elim);rw[hs];refine aa0 (aa7 ?_);refine aa0 (ag9 (ad1 h₄ (fun SA s₅ h₅=>?_) fun _ _ h'=>h'.elim));refine aa0 (wpAny_runOwn (am3 h₅ fun r s₆ h₆=>?_));obtain⟨rfl,h₆⟩:=h₆;exact aa7 ⟨rfl,h₆⟩
def D8(n1 nt:Nat)(g:TG):Prop:= ∀v σ H (Q:St->Hp->Prop),g v σ H Q->g v σ H fun σ' H'=>Q σ' H'/\σ'.length=σ.length/\ ∀k,k < n1\/nt<=k->σ'[k]?=σ[k]?
theorem zM(h1:n1<=i:=by decide)(h:i < nt:=by decide):D8 n1 nt (cm i):=fun v σ H Q q=>⟨q,by simp,fun k hk=>by rw[ab1 (by omega)]⟩
def Ww(g2:TG)(oV:TT)(te:TE)(σ:St)(B:List V->Hp->Prop)(D:Addr)(J2:It)(LY:List V)(H0:Hp):Prop:=
 ∃W2:Nat->Nat->List V->Hp->Prop,(∃m,W2 0 m LY H0)/\ ∀i m acc H,W2 i m acc H->
  (J2.stop i H/\B acc H)\/(J2.go i H/\acc.length < sizeLine/\ ∃B2:List V->Hp->Prop,(∀bR H',B2 bR H'-> ∃m',m' < m/\W2 (i+1) m' bR H')/\ ∀x H',J2.rR i H x H'->g2 x σ H' fun σ2 H2=>
   oV σ2 H2 fun b H3=>if b=true then te σ2 H3 fun v H4=>H4 D=some (.lst acc)/\B2 (acc++ [v]) (upd H4 D (.lst (acc++ [v]))) else B2 acc H3)
def El(nt:Nat)(js:List Nat)(g:TG)(tc:TT)(EI:TI)(g2:TG)(oV:TT)(te:TE)(σ:St)(Q:VK)(D:Addr)(J:It)(H0:Hp):Prop:=
 ∃W:Nat->Nat->List V->Hp->Prop,(∃m,W 0 m [] H0)/\ ∀i m acc H,W i m acc H->
  (J.stop i H/\Q (.ref D) H)\/(J.go i H/\ ∃B:List V->Hp->Prop,(∀bR H',B bR H'-> ∃m',m' < m/\W (i+1) m' bR H')/\ ∀x H',J.rR i H x H'->g x (kr nt js σ) H' fun σ2 H2=>
   tc σ2 H2 fun b H3=>if b=true then EI σ2 H3 fun J2 H4=>Ww g2 oV te σ2 B D J2 acc H4 else B acc H3)
def A6(nt:Nat)(js:List Nat)(wi:TI)(g:TG)(tc:TT)(EI:TI)(g2:TG)(oV:TT)(te:TE):TE:=fun σ H Q=>wi σ H fun J H1=> ∀D,H1 D=none->El nt js g tc EI g2 oV te σ Q D J (upd H1 D (.lst []))
theorem vA{Y:Cx}(hc:Y.calm=true)(rO:Y.xe=fun _ _=>False)(KY:PG Y gA g2)(vD:D8 n1 nt g2)(nF:PF Y c8 oV)(he:PE Y elt te)(I:Inv Y pins σ H s)(T:Turn Y.prog Y.w Y.K gA J fp it tn)(st:tn 0 s.heap)(ff: ∀b∈fp,dD Y pins H b)(aF: ∀k,n1<=k->k < nt-> ∀v,σ[k]?≠some (some v))(R:Ww g2 oV te σ B D J LY H)(fin: ∀acc H' s',Inv Y pins σ H' s'->B acc H'->RR (.ok .next) s'):
  codeAny (model Y.prog Y.w) Y.A (.compLoop (.ListComp elt [⟨tg,iter,ifs,0⟩,⟨gA,iter2,c8,0⟩] scope pos) 1 (.ref it) (.ref D) Y.env) RR s:=by
 obtain⟨W,⟨m0,w0⟩,turn⟩:=R;have uL: ∀{H':Hp},(∀b∈fp,H' b=none)-> ∀b∈fp,dD Y pins H' b:=fun hn b hb=>⟨hn b hb,(ff b hb).2⟩
 refine oG (fun n s'=> ∃i acc H',Inv Y pins σ H' s'/\tn i s'.heap/\(∀b∈fp,H' b=none)/\W i n acc H') ?_ m0 ⟨0,LY,H,I,st,fun b hb=>(ff b hb).1,w0⟩;rintro n s5 ⟨i,acc,H5,I5,uN,zQ,w5⟩
 rcases turn i n acc H5 w5 with ⟨stop,q⟩ | ⟨go,hlen,B2,hB,step⟩
 . refine aN (T.done Y rfl rfl rfl hc i pins s5 _ H5 (fun _ _=>False) I5 (uL zQ) uN stop) fun r s6 ⟨hr,I6⟩=>?_;subst hr;exact fin _ _ _ I6 q
 . refine aN (T.item Y rfl rfl rfl hc i pins s5 _ H5 (fun _ _=>False) I5 (uL zQ) uN go) fun r s6 ⟨u,hr,h6⟩=>?_;subst hr;refine aN h6 fun _ s7 gr=>?_;obtain⟨x,H7,I7,r7,y7,uM,Ld⟩:=gr;have Mj:=I7.pinned (uL Ld) (T.obj _ _ uM);have g7:=vD _ _ _ _ (step x H7 y7);have h7:=KY _ s7 _ H7 x u _ Mj r7 g7;rw[rO] at h7;refine aN h7 fun _ s8 iC=>?_;obtain⟨σ8,H8,I8,q8,l8,k8⟩:=iC;have h8:=nF _ s8 σ8 H8 _ I8 q8;rw[rO] at h8;refine aN h8 fun b s9 iS=>?_;obtain⟨H9,I9,q9⟩:=iS;have again: ∀{lz:Hp} {oa:Shared} {bR:List V},Inv Y (pins++i0 fp s7.heap) σ8 lz oa->B2 bR lz-> ∃m,m < n/\ ∃i acc H',Inv Y pins σ H' oa/\tn i oa.heap/\(∀b∈fp,H' b=none)/\W i m acc H':=fun{lz oa bR} uk PY=>by
    obtain⟨m',Et,Js⟩:=hB bR lz PY;refine⟨m',Et,i+1,bR,lz,uk.dX.weak l8.symm fun k v e=>?_,T.keep _ _ _ uM fun b hb o e=>(uk.pin (b,o) (ab4 _ (ab4 _ (bp hb e)))).1,fun b hb=>?_,Js⟩
    . by_cases hk:n1<=k/\k < nt
      . exact absurd e (aF k hk.1 hk.2 v)
      . rw[k8 k (by omega)];exact e
    . obtain⟨o,e,d⟩:=T.obj _ _ uM b hb;exact(uk.pin (b,o) (ab4 _ (ab4 _ (bp hb e)))).2.1
   cases b with
   | false=>
    rw[if_neg ac0] at q9 ⊢;exact again I9 q9
   | true=>
    rw[if_pos rfl] at q9 ⊢;have h9:=he _ s9 σ8 H9 _ I9 q9;rw[rO] at h9;refine aN h9 fun y oa jq=>?_;obtain⟨v,lz,uk,NO,Lb,JW⟩:=jq;have GA:=(kC (X:=Y) _ oa σ8 lz (.ref D) [v] (.ref D) [y] (fun _ H'=>B2 (acc++ [v]) H') uk rfl (.cons NO .nil) ⟨_,acc,v,rfl,rfl,Lb,hlen,JW⟩)
    rw[rO] at GA;refine aN GA fun _ Nz mE=>?_;obtain⟨_,EB,Hq,_,Sf⟩:=mE;exact again Hq Sf
theorem v5{elt tg iter gA iter2:Expr}{ifs c8:List Expr}{pos:Pos}{g g2:TG}{EI:TI}{tc oV:TT}{te:TE}{n1:Nat}{cl:List (Str × Addr)}{Q:VK}{E:Value->Shared->Prop}{RR:Value->Addr->Result->Shared->Prop}
  (S:jj X N nt js scope) (hc:X.calm=true)
  (hg: ∀s H cl C ex,PG (dA X N scope s H cl C ex) tg g) (eE:jh n1 g) (O8:n1<=nt) (MD: ∀s H cl C ex,PI (dA X N scope s H cl C ex) gA iter2 EI) (nE: ∀s H cl C ex x,foldedSetIterable iter2 (dA X N scope s H cl C ex).env x=pure x) (KY: ∀s H cl C ex,PG (dA X N scope s H cl C ex) gA g2) (vD:D8 n1 nt g2) (nF: ∀s H cl C ex,PF (dA X N scope s H cl C ex) c8 oV) (hf: ∀s H cl C ex,PF (dA X N scope s H cl C ex) ifs tc) (he: ∀s H cl C ex,PE (dA X N scope s H cl C ex) elt te)
  {it:Addr} {fp:List Addr} {tn:Nat->Heap->Prop} {J:It} (I:Inv X pins σ H s) (T:Turn X.prog X.w X.K tg J fp it tn) (st:tn 0 s.heap) (ff: ∀b∈fp,dD X pins H b)
  (c1: ∀x c,(x,c)∈cl->X.env.cells.lookup x=some c) (c2: ∀x,(x,NameKind.free)∈scope.names-> ∃c,(x,c)∈cl)
  (R: ∀D,H D=none->El nt js g tc EI g2 oV te σ Q D J (upd H D (.lst [])))
  (fin: ∀(D C:Addr) (s':Shared) (H':Hp),Inv X pins σ H' s'->dD X pins H' C->(∃m,s'.heap.Ns C m)->Q (.ref D) H'->RR (.ref D) C (.ok .next) s'):
  wpAny (model X.prog X.w) X.A (newList []) (fun acc s₃=>wpAny (model X.prog X.w) X.A (newFunctionEnv scope X.env.globals cl [] X.env.qual none .none (some X.env)) (fun jc s₄=>
   codeAny (model X.prog X.w) X.A (.compStart (.ListComp elt [⟨tg,iter,ifs,0⟩,⟨gA,iter2,c8,0⟩] scope pos) 0 (.ref it) acc {jc with scope:=relabel scope X.env}) (RR acc jc.locals) s₄) E s₃) E s:=by
 refine ag6 (eU fun jc tR De=>?_);rw[tR,De];dsimp only;have hD:H s.heap.objs.size=none:=I.aI.fresh (ab2 _);obtain⟨W,⟨m0,w0⟩,turn⟩:=R s.heap.objs.size hD;have kD: ∀b u,s.heap.get? b=some u->(s.heap.push {cls:= .type "list",data:= .seq ([]:List Value).toArray}).get? b=some u:=fun b u e=>aa3 _ e;have I3:Inv X pins σ (upd H s.heap.objs.size (.lst [])) {s with heap:=s.heap.push {cls:= .type "list",data:= .seq ([]:List Value).toArray},toks:=s.toks}:=
  I.laid kD (ab2 _) ⟨ag0 _,[],_,.nil,ab6 _ rfl⟩
 have fs: ∀b∈fp,b < s.heap.objs.size:=fun b hb=>by
  obtain⟨o,e,_⟩:=T.obj _ _ st b hb;exact ac2 e
 have IG: ∀b∈fp,dD X pins (upd H s.heap.objs.size (.lst [])) b:=fun b hb=>⟨by rw[ah (af4 (fs b hb))];exact(ff b hb).1,(ff b hb).2⟩
 have I4:=kQ (tk:=s.toks) S hc I3 IG (fun b hb=>by show b < (s.heap.push _).objs.size;rw[af7];exact aq4 (fs b hb)) c1 c2;dsimp only at I4;have O9:(s.heap.push {cls:= .type "list",data:= .seq ([]:List Value).toArray}).objs.size=s.heap.objs.size+1:=af7 ..;generalize hY:dA X N scope {s with heap:=s.heap.push {cls:= .type "list",data:= .seq ([]:List Value).toArray},toks:=s.toks} (upd H s.heap.objs.size (.lst [])) cl (s.heap.push {cls:= .type "list",data:= .seq ([]:List Value).toArray}).objs.size fp=Y at I4;have Vq:=hY;have nW:Y.env=nR scope cl (s.heap.push {cls:= .type "list",data:= .seq ([]:List Value).toArray}).objs.size X.env:=by rw[<-hY];rfl
 have bX:Y.prog=X.prog:=by rw[<-hY];rfl
 have Yw:Y.w=X.w:=by rw[<-hY];rfl
 have YA:Y.A=X.A:=by rw[<-hY];rfl
 have YK:Y.K=X.K:=by rw[<-hY];rfl
 have kc:Y.calm=true:=by rw[<-hY];exact hc
 have rO:Y.xe=fun _ _=>False:=by rw[<-hY];rfl
 have ue:Y.ex=fp:=by rw[<-hY];rfl
 have PZ:Y.pn= []:=by rw[<-hY];rfl
 have P1:Y.fs=fb X.stack:=by rw[<-hY];rfl
 have Jc:Y.s₀={s with heap:=s.heap.push {cls:= .type "list",data:= .seq ([]:List Value).toArray},toks:=s.toks}:=by rw[<-hY];rfl
 have P2:Y.H₀=upd H s.heap.objs.size (.lst []):=by rw[<-hY];rfl
 have OW:PG Y tg g:=by rw[<-hY];exact hg _ _ _ _ _
 have Tg:PF Y ifs tc:=by rw[<-hY];exact hf _ _ _ _ _
 have Tf:PF Y c8 oV:=by rw[<-hY];exact nF _ _ _ _ _
 have Td:PG Y gA g2:=by rw[<-hY];exact KY _ _ _ _ _
 have Ta:PI Y gA iter2 EI:=by rw[<-hY];exact MD _ _ _ _ _
 have SS: ∀x,foldedSetIterable iter2 Y.env x=pure x:=by rw[<-hY];exact nE _ _ _ _ _
 have Tn:PE Y elt te:=by rw[<-hY];exact he _ _ _ _ _
 have hm:(Y.N.length:Nat)=(kr nt js σ).length:=I4.len.symm;rw[<-nW,<-bX,<-Yw,<-YA];have CP: ∀{H':Hp} (_: ∀b∈fp,H' b=none),∀b∈fp,dD Y [] H' b:=fun{H'} hn b hb=>by
  refine⟨hn b hb,(I4.ok.GG b (by rw[ue];exact hb)).1,I4.ok.tK b (by rw[ue];exact hb),.inl (by rw[ue];exact hb),(I4.ok.GG b (by rw[ue];exact hb)).2,fun p hp=>?_⟩;rw[PZ] at hp;simp at hp
 have back: ∀{H':Hp} {s':Shared} {σ':St},Inv Y [] σ' H' s'->Inv X pins σ H' s'/\dD X pins H' Y.env.locals/\ ∃m,s'.heap.Ns Y.env.locals m:=fun{H' s' σ'} J=>by
  have hb:Un (fb X.stack) fp (upd H s.heap.objs.size (.lst [])) H' (s.heap.push {cls:= .type "list",data:= .seq ([]:List Value).toArray}) s'.heap:=by
   have:=J.base;rw[P1,ue,P2,Jc] at this;exact this
  have loc:Y.env.locals=s.heap.objs.size+1:=by rw[nW];exact O9
  have os:s'.os=s.os:=by
   have:=J.os;rw[Jc] at this;exact this
  have aI:gq X.prog X.w H' s'.heap:=by
   have:=J.aI;rw[bX,Yw] at this;exact this
  refine⟨I3.t7 (ch:=fp) os hb aI J.bare fun b hb=>⟨(ff b hb).2.2.2.1,(ff b hb).2.1,(ff b hb).2.2.2.2.1,(ff b hb).2.2.2.2.2⟩,?_,let ⟨m,q,_⟩:=J.loc;⟨m,q⟩⟩;exact I.tG (by rw[loc];exact ar2 _) J.free
 have loop:codeAny (model Y.prog Y.w) Y.A (.compLoop (.ListComp elt [⟨tg,iter,ifs,0⟩,⟨gA,iter2,c8,0⟩] scope pos) 0 (.ref it) (.ref s.heap.objs.size) Y.env) (RR (.ref s.heap.objs.size) Y.env.locals)
   {s with heap:=pushCells ((s.heap.push {cls:= .type "list",data:= .seq ([]:List Value).toArray}).push {cls:= .type "dict",data:= .dict #[]}) scope.names}:=by
  refine oH (fun n s'=> ∃i acc H',Inv Y [] (kr nt js σ) H' s'/\tn i s'.heap/\(∀b∈fp,H' b=none)/\W i n acc H') SS ?_ m0
   ⟨0,[],_,I4,T.keep _ _ _ st fun b _ o e=>ak4 _ _ b o (aa3 _ (kD b o e)),fun b hb=>(IG b hb).1,w0⟩
  rintro n s5 ⟨i,acc,H5,I5,uN,zQ,w5⟩
  rcases turn i n acc H5 w5 with ⟨stop,q⟩ | ⟨go,B,hB,step⟩
  . have hd:=T.done Y bX Yw YK kc i [] s5 _ H5 (fun _ _=>False) I5 (CP zQ) uN stop;rw[<-bX,<-Yw] at hd;refine aN hd fun r s6 rP=>?_;obtain⟨hr,I6⟩:=rP;subst hr;obtain⟨b1,b2,b3⟩:=back I6;exact fin _ _ _ _ b1 b2 b3 q
  . have hd:=T.item Y bX Yw YK kc i [] s5 _ H5 (fun _ _=>False) I5 (CP zQ) uN go;rw[<-bX,<-Yw] at hd;refine aN hd fun r s6 mD=>?_;obtain⟨u,hr,h6⟩:=mD;subst hr;refine aN h6 fun _ s7 gv=>?_;obtain⟨x,H7,I7,r7,y7,uM,Ld⟩:=gv;have Mj:=I7.pinned (CP Ld) (T.obj _ _ uM);have g7:=eE _ _ _ _ (step x H7 y7);have h7:=OW _ s7 _ H7 x u _ Mj r7 g7;rw[rO] at h7;refine aN h7 fun _ s8 mG=>?_;obtain⟨σ8,H8,I8,q8,l8,k8⟩:=mG;have h8:=Tg _ s8 σ8 H8 _ I8 q8;rw[rO] at h8;refine aN h8 fun b s9 mF=>?_;obtain⟨H9,I9,q9⟩:=mF;have again: ∀{lz:Hp} {oa:Shared} {bR:List V},Inv Y ([]++i0 fp s7.heap) σ8 lz oa->B bR lz-> ∃m,m < n/\ ∃i acc H',Inv Y [] (kr nt js σ) H' oa/\tn i oa.heap/\(∀b∈fp,H' b=none)/\W i m acc H':=fun{lz oa bR} uk PY=>by
     obtain⟨m',Et,Js⟩:=hB bR lz PY;refine⟨m',Et,i+1,bR,lz,uk.dX.weak l8.symm fun k v e=>?_,T.keep _ _ _ uM fun b hb o e=>(uk.pin (b,o) (ab4 _ (ab4 _ (bp hb e)))).1,fun b hb=>?_,Js⟩
     . by_cases hk:nt<=k
       . rw[k8 k (ac6 O8 hk)];exact e
       . exfalso;unfold kr at e;rw[ad5 (by simp;omega),ac1,if_pos (by omega)] at e;cases e
     . obtain⟨o,e,d⟩:=T.obj _ _ uM b hb;exact(uk.pin (b,o) (ab4 _ (ab4 _ (bp hb e)))).2.1
    cases b with
    | false=>
     rw[if_neg ac0] at q9 ⊢;exact again I9 q9
    | true=>
     rw[if_pos rfl] at q9 ⊢;have h9:=Ta _ s9 σ8 H9 _ I9 q9;rw[rO] at h9;refine aN h9 fun y oa GA=>aN GA fun SA Nz YI=>?_;obtain⟨i2,fp2,tn2,J2,EB,rfl,Hq,T2,Nu,TQ,R2⟩:=YI;have Sj: ∀k,n1<=k->k < nt-> ∀v,σ8[k]?≠some (some v):=fun k a1 a2 v e=>by
      rw[k8 k a1] at e;unfold kr at e;rw[ad5 (by simp;omega),ac1,if_pos (by omega)] at e;cases e
     have lp:=vA (elt:=elt) (tg:=tg) (iter:=iter) (ifs:=ifs) (iter2:=iter2) (scope:=scope) (pos:=pos) kc rO Td vD Tf Tn Hq T2 Nu TQ Sj R2 (RR:=fun r s₆=>r= .ok .next/\ ∃m,m < n/\ ∃i acc H',Inv Y [] (kr nt js σ) H' s₆/\tn i s₆.heap/\(∀b∈fp,H' b=none)/\W i m acc H') fun bR H' s' I' b'=>⟨rfl,again I' b'⟩
     exact nP lp (T2.self _ 0 _ _ _ Nu lp)
 have tQ:(s.heap.push {cls:= .type "list",data:= .seq ([]:List Value).toArray}).objs.size=Y.env.locals:=by rw[nW];rfl
 rw[tQ];exact codeAny_compStart_list (rest:= [⟨gA,iter2,c8,0⟩]) loop (by rw[bX,Yw,YA] at*;exact T.self _ 0 _ _ _ (T.keep _ _ _ st fun b _ o e=>ak4 _ _ b o (aa3 _ (kD b o e))) loop)
theorem BQ(S:jj X N nt js scope)(hc:X.calm=true)(hi:PI X tg iter wi)(hg: ∀s H cl C ex,PG (dA X N scope s H cl C ex) tg g)(eE:jh n1 g)(O8:n1<=nt)(MD: ∀s H cl C ex,PI (dA X N scope s H cl C ex) gA iter2 EI)(nE: ∀s H cl C ex x,foldedSetIterable iter2 (dA X N scope s H cl C ex).env x=pure x)(KY: ∀s H cl C ex,PG (dA X N scope s H cl C ex) gA g2)(vD:D8 n1 nt g2)(nF: ∀s H cl C ex,PF (dA X N scope s H cl C ex) c8 oV)(hf: ∀s H cl C ex,PF (dA X N scope s H cl C ex) ifs tc)(he: ∀s H cl C ex,PE (dA X N scope s H cl C ex) elt te)(hs: ∀x,foldedSetIterable iter X.env x=pure x:=by intro _;rfl):PE X (.ListComp elt [⟨tg,iter,ifs,0⟩,⟨gA,iter2,c8,0⟩] scope pos) (A6 nt js wi g tc EI g2 oV te):=by
 intro pins s σ H Q I h;obtain⟨cl,kL,c1,c2⟩:=gf (scope:=scope) (env:=X.env) fun x hx e=>I.ok.has x.1 (S.Mv x hx e);rw[eval_ListComp];refine am9 (use:=none) rfl hs kL S.kind S.names (aN (hi pins s σ H _ I h) fun v s1 h1=>aN h1 fun MA s2 h2=>?_);obtain⟨it,fp,tn,J,H2,rfl,I2,T,gk,f2,R⟩:=h2;refine v5 (RR:=fun acc C=>compPost (model X.prog X.w) X.A X.xe none (EP X pins σ Q) acc C) S hc hg eE O8 MD nE KY vD nF hf he I2 T gk f2 c1 c2 R fun D C s' H' I' fo iT q=>?_;obtain⟨m,hn⟩:=iT;refine⟨m,hn,fun h' sb=>⟨.ref D,H',?_,rfl,q⟩⟩;obtain⟨f0,f1,_,f3,f4,f5⟩:=fo;exact I'.turned (t':=s'.toks) (fun b o hb e=>(sb.2 b hb).trans e) f0 f1 f3 f4 f5
end L2
namespace LD
open PySem PySem.Spec L2 LB PyProof.Rows
theorem az.Nr(E:az [] M α H σ δ)(fl:α.flatten= [])(keep: ∀b u,H b=some u-> ¬M b->H' b=some u)(mo:iI M H'):az [] M α H' σ δ:=by
 refine⟨E.ls,E.la,fun i s h=>?_,E.nd,E.mu,mo,fun W hW=>absurd hW aa4⟩;obtain⟨o,as,h1,h2,h3⟩:=E.sl i s h;have hn:as= []:=ai9.mpr fun a ha=>by
  have:=bB h2 ha;rw[fl] at this;exact aa4 this
 subst hn;refine⟨o,[],h1,h2,h3.keep (fun b u e n=>⟨keep b u e n,n⟩) (fun a ha=>absurd ha aa4) ?_⟩;cases s with
 | bx t=>
  obtain⟨d,c,e,_⟩:=h3;first | cases e | (obtain⟨_,e,_⟩:=h3;cases e)
 | _=>rfl
section
variable{X:Cx}{N:List Str}{nt n1:Nat}{js:List Nat}{scope:Scope}{elt tg iter gA iter2:Expr}{ifs c8:List Expr}{pos:Pos}{ti Ms:oO}{g g2:og}{tc oV:kj}{te:bh}
def DJ(nt:Nat)(js:List Nat)(ti:oO)(g:og)(tc:kj)(Ms:oO)(g2:og)(oV:kj)(te:bh):wB:=fun δ Q=>ti δ fun ao δ1=> ∃F:Dt->List Dt,(ao.flatMap F).length < sizeLine/\
 (∀d∈ao,g d (cin nt js δ1) fun δ2=>tc δ2 fun b δ3=>if b=true then Ms δ3 fun cf δ4=> ∃(p:Dt->Bool) (f:Dt->Dt),(∀e∈cf,g2 e δ4 fun δ5=>oV δ5 fun b δ6=>b=p e/\(b=true->te δ6 fun r _=>r=f e))/\F d=(cf.filter p).map f else F d= [])/\Q (ao.flatMap F) δ1
theorem v8(oA: ∀v σ H Q,lG g v σ H Q->gh v σ H Q)(KU: ∀v σ H Q,lG g2 v σ H Q->QN v σ H Q): ∀σ H Q,lO (DJ nt js ti g tc Ms g2 oV te) σ H Q->A6 nt js (lI ti) gh (lT tc) (lI Ms) QN (lT oV) (lE te) σ H Q:=fun σ H Q bZ=>(by obtain⟨W,M,α,δ,Qd,E,q,k⟩:=bZ;exact(by
 refine⟨W,M,α,δ,_,E,q,fun ao δ1 H1 J eS E1 c1 yl D hD=>?_⟩;obtain⟨F,hsz,step,q1⟩:=eS;have s0:ax H1 (upd H1 D (.lst [])):=ax.new hD;refine⟨fun i m acc H2=>m=ao.length - i/\i<=ao.length/\H2 D=some (.lst acc)/\ay (fun b=>M b\/b=D) H2 acc ((ao.take i).flatMap F)/\ax H1 H2/\iI (fun b=>M b\/b=D) H2,⟨ao.length,by simp,ag0 _,ag,.nil,s0,fun a ha=>?_⟩,?_⟩
 . rcases ha with ha | ha
   . obtain⟨o,e,n⟩:=E1.al a ha;exact⟨o,s0 _ _ e,n⟩
   . subst ha;exact⟨_,ag,fun xs z=>by cases z⟩
 rintro i m acc H2 ⟨rfl,hi,zK,jC,s2,HY⟩
 have kf:Kf M H1 H2:=fun b o e _=>s2 _ _ e;by_cases dH:i < ao.length
 . have hb: ∀b,H1 b≠none-> ¬M b-> ¬(fun b=>M b\/b=D) b:=fun b n z y=>y.elim z fun w=>n (by rw[w];exact hD);obtain⟨go,rR⟩:=yl.go i H2 (fun b=>M b\/b=D) kf HY hb dH;refine .inr ⟨go,fun bR H'=>H' D=some (.lst bR)/\ay (fun b=>M b\/b=D) H' bR ((ao.take (i+1)).flatMap F)/\ax H1 H'/\iI (fun b=>M b\/b=D) H',fun bR H' gr=>(by obtain⟨z1,z2,z3,z4⟩:=gr;exact(⟨ao.length - (i+1),by grind,rfl,dH,z1,z2,z3,z4⟩)),fun x H3 y=>?_⟩;obtain⟨s3,d,hd,rx⟩:=rR x H3 y;have E2:az [] (fun b=>M b\/b=D) (List.replicate (nt+js.length) []) H2 (kr nt js σ) (cin nt js δ1):=by
    have su:ax (upd H1 D (.lst acc)) H2:=fun b o e=>by
     by_cases hb:b=D
     . subst hb;rw[ag] at e;cases e;exact zK
     . rw[ah hb] at e;exact s2 _ _ e
    have Ea:az [] (fun b=>M b\/b=D) α H2 σ δ1:=⟨E1.ls,E1.la,fun i s h=>let ⟨o,as,h1,h2,h3⟩:=E1.sl i s h;⟨o,as,h1,h2,(h3.grow (u:= .lst acc) hD).same su⟩,E1.nd,fun a h=> .inl (E1.mu a h),HY,fun W hW=>absurd hW aa4⟩
    exact rq Ea
   have E3:=E2.same s3;have bf:(List.replicate (nt+js.length) ([]:List Addr)).flatten= []:=by simp
   refine oA _ _ _ _ ⟨[],_,_,_,d,_,E3,rx,step d (ad2 hd),fun α4 δ4 σ4 q4 E4 hα=>?_⟩;have Ez:α4.flatten= []:=ai9.mpr fun x hx=>by have:=hα x hx;rw[bf] at this;exact absurd this aa4
   refine⟨[],_,α4,δ4,_,E4,q4,fun b δ5 H5 q5 E5 c5=>?_⟩;have s5:ax H3 H5:=fun b o e=>c5 b o e (by rw[Ez];exact aa4);have Fe:ax H2 H5:=fun b o e=>s5 _ _ (s3 _ _ e);have tk:ao.take (i+1)=ao.take i++ [d]:=by rw[ao1,hd];rfl
   have RQ:(ao.take (i+1)).flatMap F=(ao.take i).flatMap F++F d:=by rw[tk,List.flatMap_append];simp
   cases b with
   | false=>
    have q5:F d= []:=by simpa using q5
    refine bN ⟨Fe _ _ zK,?_,fun b o e=>Fe _ _ (s2 _ _ e),E5.al⟩;rw[RQ,q5,af0];exact jC.same Fe
   | true=>
    rw[if_pos rfl] at q5;refine cS ⟨[],_,α4,δ5,_,E5,q5,fun cf δ6 H6 J2 iC E6 c6 UK=>?_⟩;obtain⟨p,f,Nt,hF⟩:=iC;have s6:ax H5 H6:=fun b o e=>c6 b o e (by rw[Ez];exact aa4);have Br:ax H2 H6:=fun b o e=>s6 _ _ (Fe _ _ e);have Xy:((ao.take i).flatMap F).length+(F d).length<=(ao.flatMap F).length:=by
     have e:ao.flatMap F=(ao.take (i+1)).flatMap F++(ao.drop (i+1)).flatMap F:=by rw[<-List.flatMap_append,List.take_append_drop]
     rw[e,RQ,aa9,aa9];grind
    refine⟨fun i2 m2 DY H7=>m2=cf.length - i2/\i2<=cf.length/\H7 D=some (.lst DY)/\ay (fun b=>M b\/b=D) H7 DY ((ao.take i).flatMap F++((cf.take i2).filter p).map f)/\(∀b o,H6 b=some o->b≠D->H7 b=some o)/\iI (fun b=>M b\/b=D) H7,⟨cf.length,by simp,ag0 _,Br _ _ zK,by simpa using jC.same Br,fun b o e _=>e,E6.al⟩,?_⟩;rintro i2 m2 DY H7 ⟨rfl,MD,Tz,sF,k7,Sr⟩
    have Sw:Kf (fun b=>M b\/b=D) H6 H7:=fun b o e n=>k7 b o e fun z=>n (.inr z);by_cases OP:i2 < cf.length
    . obtain⟨go2,RE⟩:=UK.go i2 H7 (fun b=>M b\/b=D) Sw Sr (fun b _ n=>n) OP;have hlen:DY.length < sizeLine:=by
       rw[sF.1,aa9,aa1];have:((cf.take i2).filter p).length<=(F d).length:=by
        rw[hF,aa1];have e:cf.filter p=(cf.take i2).filter p++(cf.drop i2).filter p:=by rw[<-al5,List.take_append_drop]
        rw[e,aa9];grind
       grind
      refine .inr ⟨go2,hlen,fun bR H'=>H' D=some (.lst bR)/\ay (fun b=>M b\/b=D) H' bR ((ao.take i).flatMap F++((cf.take (i2+1)).filter p).map f)/\(∀b o,H6 b=some o->b≠D->H' b=some o)/\iI (fun b=>M b\/b=D) H',fun bR H' iS=>(by obtain⟨z1,z2,z3,z4⟩:=iS;exact(⟨cf.length - (i2+1),by grind,rfl,OP,z1,z2,z3,z4⟩)),fun x2 H8 y2=>?_⟩;obtain⟨s8,d2,hd2,Xl⟩:=RE x2 H8 y2;have E7:=(E6.Nr Ez (fun b u e n=>Sw b u e n) Sr).same s8;refine KU _ _ _ _ ⟨[],_,_,_,d2,_,E7,Xl,Nt d2 (ad2 hd2),fun α9 δ9 σ9 q9 E9 SH=>?_⟩;have VI:α9.flatten= []:=ai9.mpr fun x hx=>by have:=SH x hx;rw[Ez] at this;exact absurd this aa4
      refine⟨[],_,α9,δ9,_,E9,q9,fun b Q6 lz jq WA ZN=>?_⟩;obtain⟨hp,JW⟩:=jq;have oa:ax H8 lz:=fun b o e=>ZN b o e (by rw[VI];exact aa4);have Fd:ax H7 lz:=fun b o e=>oa _ _ (s8 _ _ e);have Eo:cf.take (i2+1)=cf.take i2++ [d2]:=by rw[ao1,hd2];rfl
      cases b with
      | false=>
       refine bN ⟨Fd _ _ Tz,?_,fun b o e n=>Fd _ _ (k7 b o e n),WA.al⟩;rw[Eo,al5,ab8];simp [<-hp];exact sF.same Fd
      | true=>
       refine cS ⟨[],_,α9,Q6,_,WA,JW rfl,fun r WC EB v TY E11 ZM Xo=>?_⟩;subst TY;have Nz:ax lz EB:=fun b o e=>ZM b o e (by rw[VI];exact aa4);have JL:ax H7 EB:=fun b o e=>Nz _ _ (Fd _ _ e);have up: ∀{zs:List V} {ds:List Dt},ay (fun b=>M b\/b=D) EB zs ds->ay (fun b=>M b\/b=D) (upd EB D (.lst (DY++ [v]))) zs ds:=fun r=>r.mono fun a o e n=>⟨by rw[ah (fun z=>n (.inr z))];exact e,n⟩
       refine⟨JL _ _ Tz,ag,?_,fun b o e n=>by rw[ah n];exact JL _ _ (k7 b o e n),fun a ha=>?_⟩
       . rw[Eo,al5,ab8,<-af3];have e1:List.filter p [d2]= [d2]:=by simp [<-hp]
         rw[e1];exact up ((sF.same JL).append (.one Xo))
       . by_cases hb:a=D
         . subst hb;exact⟨_,ag,fun xs z=>by cases z⟩
         . rw[ah hb];exact E11.al a ha
    . have e:i2=cf.length:=by grind
      subst e;refine .inl ⟨UK.stop H7 Sw,Tz,?_,fun b o e=>k7 b o (Br _ _ (s2 _ _ e)) (aq e hD),Sr⟩;rw[am7] at sF;rw[RQ,hF];exact sF
 . have e:i=ao.length:=by grind
   subst e;refine .inl ⟨yl.stop H2 kf,?_⟩;rw[am7] at jC;have eH:upd (fun b=>if b=D then none else H2 b) D (.lst acc)=H2:=by
    funext b
    by_cases hb:b=D
    . subst hb;rw[ag,zK]
    . rw[ah hb,if_neg hb]
   rw[<-eH];have sH:ax H1 (fun b=>if b=D then none else H2 b):=fun b o e=>by
    show(if b=D then none else H2 b)=some o;rw[if_neg (aq e hD)];exact s2 _ _ e
   refine k _ _ _ _ _ q1 (E1.same sH) (c1.tr (cW.of sH)) (jC.mono fun a o e n=>⟨?_,fun z=>n (.inl z)⟩) (by show(if D=D then none else H2 D)=none;rw[if_pos rfl]);show(if a=D then none else H2 a)=some o;rw[if_neg (fun z=>n (.inr z))];exact e))
theorem FZ(n1:Nat)(S:jj X N nt js scope)(hc:X.calm=true)(hi:Iv X tg iter ti)(hg: ∀s H cl C ex,PG (dA X N scope s H cl C ex) tg gh)(eE:jh n1 gh)(oA: ∀v σ H Q,lG g v σ H Q->gh v σ H Q)(hf: ∀s H cl C ex,PF (dA X N scope s H cl C ex) ifs (lT tc))(MD: ∀s H cl C ex,Iv (dA X N scope s H cl C ex) gA iter2 Ms)(KY: ∀s H cl C ex,PG (dA X N scope s H cl C ex) gA QN)(vD:D8 n1 nt QN)(KU: ∀v σ H Q,lG g2 v σ H Q->QN v σ H Q)(nF: ∀s H cl C ex,PF (dA X N scope s H cl C ex) c8 (lT oV))(he: ∀s H cl C ex,Ev (dA X N scope s H cl C ex) elt te)(O8:n1<=nt:=by decide)(hs: ∀x,foldedSetIterable iter X.env x=pure x:=by intro _;rfl)(nE: ∀s H cl C ex x,foldedSetIterable iter2 (dA X N scope s H cl C ex).env x=pure x:=by intro _ _ _ _ _ _;rfl):
  Ov X (.ListComp elt [⟨tg,iter,ifs,0⟩,⟨gA,iter2,c8,0⟩] scope pos) (DJ nt js ti g tc Ms g2 oV te):=PE.imp (BQ S hc hi hg eE O8 MD nE KY vD nF hf he hs) (v8 oA KU)
end
end LD
namespace Jf
open PySem PySem.Spec L2 PyProof.Rows
theorem nj:mroOf (.type "dict")=pure [.type "dict",.type "object"]:=by rw[mroOf_type];kernel_rfl
theorem lC:typeLookup (.type "dict") "__new__"=pure (some (.builtin "dict.__new__")):=by rw[typeLookup_type,builtinLookup_eq_fast];kernel_rfl
theorem t6:TypeCalled "dict" "dict.__new__" "dict.__init__":=
 ⟨by decide+kernel,by decide+kernel,⟨_,_,nj⟩,madeBy_type nj lC (by decide+kernel),by decide+kernel,by rw[isSubtype_type];kernel_rfl,F.slot_dict_init⟩
theorem lB(a:Value):checkTypeCall "dict" ⟨[a],[]⟩=pure ():=by kernel_rfl
theorem ni(a:Value):checkBuiltinCall "dict.__new__" ⟨[.type "dict",a],[]⟩=pure ():=by kernel_rfl
theorem nK:entryFor table "dict.__new__"=some Builtin.«dict.__new__» :=entryFor_of_tree (by kernel_rfl)
theorem gR:plainId "dict.__new__"=true:=by decide+kernel
theorem oi:isSubtype (.type "dict") (.type "dict")=pure true:=by rw[isSubtype_type];kernel_rfl
theorem oK{s:Shared}(a:Value)(h:Q₁ (.ref s.heap.objs.size) {s with heap:=s.heap.push {cls:= .type "dict",data:= .dict #[]}}):
  codeAny (model prog w) A (.call (.builtin "dict.__new__") ⟨[.type "dict",a],[]⟩) (wants Q₁ E) s:=by
 refine codeAny_of_tree ?_;show wpAny _ A.in1 (do checkBuiltinCall "dict.__new__" ⟨[.type "dict",a],[]⟩;again (.builtin "dict.__new__" ⟨[.type "dict",a],[]⟩)) _ _ s;refine aa0 (wpAny_of_eq (ni a) (aa7 ⟨ar5 gR _,ap2 nK ?_⟩));rw[Around.under_plainId gR _];have Cw:=oi;have S2:=nj;obtain⟨hp,g,d,tk,os⟩:=s;unfold Builtin.«dict.__new__»;repeat (any_goals (first | assumption | wp_step))
def JU(P:Program)(w:World):List V->Hp->VK->Prop:=fun xs H Q=> ∃l aC,xs= [.ref l]/\H l=some (.dT aC)/\aC≠ []/\(aC.map fun kv=>tupleKeyHash (aS P w) kv.1).Nodup/\ ∀d,H d=none->Q (.ref d) (upd H d (.dT aC))
theorem yz: ∀{L:List DictEntry},(L.map (·.hash)).Nodup->(∀x∈L,x.hash=h)->L.length > 1->False
 | x::y::r,nd,al,_=>by
  rw[ac9,ac9,ak5] at nd;exact nd.1 (by rw[al x ab3,al y (by simp)];exact ab3)
theorem Pe{prog:Program}{w:World}{A:Around}{E:Value->Shared->Prop}{s:Shared}{id:String}{ep:Nat}(ho:s.heap.get? d=some o)(hd:o.data= .dict es ep)(hk: ∀e∈es.toList,∃a,e.key= .ref a/\s.TypeIs (.ref a) "tuple")(hn:(es.toList.map (·.hash)).Nodup)(h:Q es s):wpAny (model prog w) A (Builtin.Dict.entriesForEmpty id d) Q E s:=by
 unfold Builtin.Dict.entriesForEmpty;refine aa0 (wpAny_dictEntries ho hd (aa0 (wpAny_forIn_array' _ (fun rest _ s'=>s'=s/\ ∀e∈rest,e∈es.toList) (fun _ s'=>wpAny (model prog w) A (pure es) Q E s') (fun e rest b s' hI=>?_) (fun b s' hI=>?_) es _ ⟨rfl,fun _ z=>z⟩)))
 . obtain⟨rfl,hm⟩:=hI;obtain⟨a,ek,hT⟩:=hk e (hm e ab3);have one: ¬(es.filter (·.hash==e.hash)).size > 1:=fun z=>by
    have nd:((es.toList.filter (·.hash==e.hash)).map (·.hash)).Nodup:=hn.sublist (List.Sublist.map _ List.filter_sublist);have al: ∀x∈es.toList.filter (·.hash==e.hash),x.hash=e.hash:=fun x hx=>by have:=(aj9.mp hx).2;rwa [aq0] at this
    rw[<-ai8,Array.toList_filter] at z;exact yz nd al z
   rw[ek];have f1:typeLookup (.type "tuple") "__eq__"=pure (some (.builtin "tuple.__eq__")):=F.slot_tuple_eq.lookup;unfold Builtin.Dict.quietEq;repeat (any_goals (first | assumption | wp_step))
   exact⟨rfl,fun e he=>hm e (ab5 _ he)⟩
 . obtain⟨rfl,_⟩:=hI;exact aa7 h
theorem tw: ∀{aC:List (List Key × V)} {xs:List (List Key × Addr × Value)},KT H aC xs->xs.map ((fun x=>x.hash) ∘ entryOfKey (tupleKind (aS P w)))=aC.map fun kv=>tupleKeyHash (aS P w) kv.1
 | _,_,.nil=>rfl
 | _,_,.cons r t=>by
  rw[ac9,ac9,tw t,r.1];rfl
theorem wa{X:Cx}(hA:X.A.handled=none):eQ X (.type "dict") (JU X.prog X.w):=by
 intro pins s σ H xs us Q I rs h;obtain⟨l,aC,rfl,hl,ne,hh,q⟩:=h;obtain⟨u,rfl,ru⟩:=vals1 rs;cases (show u=Value.ref l from ru);have hD:H s.heap.objs.size=none:=I.aI.fresh (ab2 _);refine callType_codes (Q₁:=fun obj s₁=>obj= .ref s.heap.objs.size/\s₁={s with heap:=s.heap.push {cls:= .type "dict",data:= .dict #[]}}) t6 (lB _) F.entry_dict_init (oK _ ⟨rfl,rfl⟩) fun obj s₁ h₁=>?_;obtain⟨rfl,rfl⟩:=h₁;have I0:Inv X pins σ (upd H s.heap.objs.size (.dT [])) {s with heap:=s.heap.push {cls:= .type "dict",data:= .dict #[]}}:=I.laid (a:=s.heap.objs.size) (o:= .dT []) (t':=s.toks) (fun _ _ q=>aa3 _ q) (ab2 _) (nL s.heap I.big);have nl:l≠s.heap.objs.size:=aq hl hD;have X9:(upd H s.heap.objs.size (.dT [])) l=some (.dT aC):=by rw[ah nl];exact hl
 obtain⟨zz,K3,xs,rel,ol,es,ep,SU,hex,QJ,QI,Yg,SX⟩:=xP I0.aI X9;have hS:(s.heap.push {cls:= .type "dict",data:= .dict #[]}).get? s.heap.objs.size=some {cls:= .type "dict",data:= .dict #[]}:=ab6 _ rfl;have hT:({s with heap:=s.heap.push {cls:= .type "dict",data:= .dict #[]}}:Shared).TypeIs (.ref s.heap.objs.size) "dict":=⟨_,hS,rfl⟩
 have hlT:({s with heap:=s.heap.push {cls:= .type "dict",data:= .dict #[]}}:Shared).TypeIs (.ref l) "dict":=⟨_,SU,hex.1⟩
 have qq:=q _ hD;generalize Cy:s.heap.objs.size=D at*;generalize X0:({s with heap:=s.heap.push {cls:= .type "dict",data:= .dict #[]}}:Shared)=s0 at*;have Tt:s0.heap.get? D=some {cls:= .type "dict",data:= .dict #[]}:=by rw[<-X0];exact hS
 refine⟨hT,F.args_dict_init_2 _ _,?_⟩;have sub:isSubtype (.type "dict") (.type "dict")=pure true:=by rw[isSubtype_type];kernel_rfl
 have f3:=F.slot_dict_iter.lookup;unfold Builtin.«dict.__init__»;repeat (any_goals (first | assumption | wp_step))
 have xl:xs.length=aC.length:=(Paired.length rel).symm;have Pc:es.toList.length=aC.length:=by rw[QI,aa1,xl]
 have kne:0 < aC.length:=al2.mpr ne;have Gp: ∀e∈es.toList,∃a,e.key= .ref a/\s0.TypeIs (.ref a) "tuple":=fun e he=>by
  rw[QI] at he;obtain⟨x,hx,rfl⟩:=ab7.mp he;obtain⟨o,items,n,h1,h2,h3,h4⟩:=Yg x hx;exact⟨x.2.1,rfl,o,h1,h2⟩
 have YN:(decide (es.size<=8) && es.all fun e=>(keyPart e.key).isSome)=false:=by
  rw[Bool.and_eq_false_iff];refine .inr ?_;rw[<-Array.all_toList];cases hL:es.toList with
  | nil=>rw[hL] at Pc;simp at Pc;omega
  | cons e r=>
   obtain⟨a,ea,_⟩:=Gp e (by rw[hL];exact ab3);rw[ar6,ea];rfl
 have hashes:(es.toList.map (·.hash)).Nodup:=by
  rw[QI,ad8];have:xs.map ((fun x=>x.hash) ∘ entryOfKey (tupleKind (aS X.prog X.w)))=aC.map fun kv=>tupleKeyHash (aS X.prog X.w) kv.1:=by
   exact tw rel
  rw[this];exact hh
 rw[if_neg (by rw[aq0];exact fun z=>nl z.symm)];unfold Builtin.Dict.showsAll;rw[if_neg (by rw[K3];exact ac0)];refine aa0 (aa7 (aa0 (wpAny_dictEntries SU QJ ?_)));dsimp only;rw[YN];rw[if_pos (by decide)];refine aa0 (wpAny_dictEntries Tt rfl ?_);rw[if_pos (by decide)];refine aa0 (Pe SU QJ Gp hashes ?_);have Xs:(!es.isEmpty)=true:=by
  cases hL:es.toList with
  | nil=>rw[hL] at Pc;simp at Pc;omega
  | cons e r=>rw[<-Array.isEmpty_toList,hL];rfl
 rw[if_pos Xs];have sz:es.size<=sizeLine+1:=by rw[<-ai8,Pc];omega
 refine aa0 (wpAny_updateDictKeysTo Tt rfl (aa7 ?_) sz);have sb:Heap.SameBut D s0.heap (s0.heap.update D (Obj.mapDictKeys fun _=>es)):=Heap.SameBut.update ..;have gD:(s0.heap.update D (Obj.mapDictKeys fun _=>es)).get? D=some (Obj.mapDictKeys (fun _=>es) {cls:= .type "dict",data:= .dict #[]}):=ai1 _ Tt (Obj.isFreed_of_dict (Obj.data_mapDictKeys rfl _));have Tw:upd H D (.dT []) D=some (.dT []):=ag;have I3:=iz (t':=s0.toks) I0 (by rw[Tw];exact True.intro) sb ⟨_,gD⟩ (ob:= .dT aC) ⟨zz,(xP I0.aI Tw).2.1,xs,rel.keeps fun c ys ec=>by rw[ah (xt ec Tw (fun z=>nomatch z))];exact ec,_,es,_,gD,⟨rfl,rfl,rfl⟩,Obj.data_mapDictKeys rfl _,QI,SX⟩;have XW:upd (upd H D (.dT [])) D (.dT aC)=upd H D (.dT aC):=by
  funext b
  by_cases hb:b=D
  . subst hb;rw[ag,ag]
  . rw[ah hb,ah hb,ah hb]
 rw[XW] at I3;unfold Builtin.Dict.addKeywords;repeat (any_goals (first | assumption | wp_step))
 exact⟨rfl,.ref D,_,I3,rfl,qq⟩
end Jf
namespace L2
open PySem PySem.Spec PyProof.Rows
theorem hasObj(x:aV P w H h a o): ∃u,h.get? a=some u:=by
 cases o with
 | lst xs=>obtain⟨_,_,_,_,e⟩:=x;exact⟨_,e⟩
 | tup xs=>obtain⟨_,_,_,o,e,_⟩:=x;exact⟨o,e⟩
 | dK aC=>obtain⟨_,_,_,_,o,_,_,e,_⟩:=x;exact⟨o,e⟩
 | dT aC=>obtain⟨_,_,_,_,o,_,_,e,_⟩:=x;exact⟨o,e⟩
 | set S n=>obtain⟨o,_,_,_,e,_⟩:=x;exact⟨o,e⟩
 | ins C dx fs=>obtain⟨_,_,_,e,_⟩:=x;exact⟨_,e⟩
 | own y=>exact x
 | xd fs=>obtain⟨_,⟨o,_,_,e,_⟩,_⟩:=x;exact⟨o,e⟩
 | gu lo hi=>obtain⟨_,_,_,e⟩:=x;exact⟨_,e⟩
 | tF o u=>exact⟨_,x.1⟩
 | HB ps=>exact⟨_,x⟩
 | met f y=>exact⟨_,x⟩
 | ext φ=>exact x.2.1
section
variable{P:Program}{w:World}{K:PySem.W.Frag}{mg:Str->Option Value}{base:Heap}
theorem dM.UY {CX : ED} {x qual : Str} {st : Stmt} {k : Nat} (F : dM K x qual st f fd) (S : aw N ps (af st)) (len : ∀ vs H Q E, sp vs H Q E -> vs.length = ps.length) (dw : ∀ (ba : Value) (A : Around) (outer : List Env) (s : Shared) (H : Hp) (vs : List V) (Q : VK) (E : XK), bg k (A.deeper (envOfC qual (af st) s.heap.objs.size f ba)) -> sp vs H Q E ->
   ∃t,iH (fJ CX P w K mg base N qual (af st) f ba A outer s H E) (bz st) t/\t {nx:=fun _ H'=>Q .aF H',rt:=Q} (start N vs) H):aJ P w K mg base CX (k+1) f fd ps sp:=by
 obtain⟨oc,od,kV,doc,pm,an,ba,ct,Ar,rfl,lk,jo⟩:=F.ex;exact ID lk jo S len fun A outer s H vs Q E hr h=>dw ba A outer s H vs Q E hr h
end
def ig(fs:List Addr)(H':Hp)(h h' B:Heap):Prop:= ∀b o,h'.get? b=some o->b∉fs->((H' b).isSome=true\/(h.get? b).isSome=true)->B.get? b=some o
theorem CA(x:gq P w H' h')(cv:ig fs H' h h' B)(st:B.StaysIn h2)(fr: ∀b∈fs,H' b=none):gq P w H' h2:=fun a o e=>(x a o e).fN (fun b u hb qb=>by
 have sm:(H' b).isSome=true:=by
  rcases hb with rfl | hb
  . rw[e];rfl
  . rw[hb];rfl
 refine st b u (cv b u qb (fun z=>?_) (.inl sm));rw[fr b z] at sm;cases sm) (fun _ q=>q) fun _ _ q=>q
theorem HA(u:Un fs [] H H' h h')(cv:ig fs H' h h' B)(st:B.StaysIn h2)(sl:h'.UpToSlots h2)(nf: ∀b∈fs,∀o,h.get? b=some o-> ∀vs,o.data≠ .fields vs)(th: ∀b∈fs,∀o,h'.get? b=some o-> ∃o',h2.get? b=some o'):Un fs [] H H' h h2:=by
 refine⟨fun b o e n hb hx=>st b o (cv b o (u.keep b o e n hb hx) hb (.inr (by rw[e];rfl))),fun b o e n hb hx=>?_,u.free,fun b o e hx=>?_,u.kn,u.jP,u.kq⟩
 . obtain⟨s0,k⟩:=u.slot b o e n hb hx;obtain⟨s1,k1⟩:=sl b _ k (nf b hb o e);exact⟨s1,k1⟩
 . obtain⟨o',k⟩:=u.there b o e hx;by_cases hb:b∈fs
   . exact th b hb o' k
   . exact⟨o',st b o' (cv b o' k hb (.inr (by rw[e];rfl)))⟩
end L2
namespace LX
open PySem PySem.W PySem.Spec PySem.Calls PyProof.Rows
section
variable{prog:Program}{w:World}{A:Around}{E:Value->Shared->Prop}{h:Heap}{g:Array GenState}{d:Drawn}{t:Nat}{os:OsState}{K:Frag}{x D:Addr}{ox:Obj}
theorem AW(hx:h.get? x=some ox)(hc:ox.cls= .ref D):Looks M h (typeOf (.ref x)) (.ref D):=by rw[<-hc];exact(Looks.ld hx).andThen .now
theorem GJ(X:K.In h)(hx:h.get? x=some ox)(hc:ox.cls= .ref D)(hm:mroIn K D (.type "object")=some true)(hq:R (.ok (.ret (.ref D))) ⟨h,g,d,t,os⟩):
  codeAny (model prog w) A (.call (.builtin "getset_descriptor.__get__") ⟨[.builtin "object.__class__",.ref x,.ref D],[]⟩) R ⟨h,g,d,t,os⟩:=by
 have Vr:(⟨h,g,d,t,os⟩:Shared).TypeIs (.builtin "object.__class__") "getset_descriptor":=F.typeOf_object_class;have L1: ∀{A:Around} {E:Value->Shared->Prop} {Q:Bool->Shared->Prop},Q true ⟨h,g,d,t,os⟩->wpAny (model prog w) A (isSubtype (.ref D) (.type "object")) Q E ⟨h,g,d,t,os⟩:=fun q=>(looks_mroIn (M:=model prog w) X hm).at q;refine ak7 F.slot_gs_get.plain F.entry_gs_get (F.slot_gs_get.check _ _ _ _ _ _ _ _ Vr (F.args_gs_get _ _ _) ?_);repeat (any_goals (first | assumption | (with_reducible refine ag7 hx ?_;rw[hc]) | refine L1 ?_ | wp_step))
 refine⟨ap7 _ (by decide+kernel),ap2 F.entry_object_class ?_⟩;repeat (any_goals (first | assumption | (with_reducible refine ag7 hx ?_;rw[hc]) | wp_step))
theorem zT(X:K.In h)(hx:h.get? x=some ox)(hc:ox.cls= .ref D)(kL:findIn K (.ref D) "__class__"=some (some (.builtin "object.__class__")))(hm:mroIn K D (.type "object")=some true)(hq:Q (.done (.ret (.ref D))) ⟨h,g,d,t,os⟩):wpAny (model prog w) A (Builtin.«object.__getattribute__» ⟨[.ref x,.str "__class__" tk],[]⟩) Q E ⟨h,g,d,t,os⟩:=by
 have Vr:(⟨h,g,d,t,os⟩:Shared).TypeIs (.builtin "object.__class__") "getset_descriptor":=F.typeOf_object_class;have f5:=F.typeOf_object_class;have f6:=F.slot_gs_get.lookup;have f7:=F.slot_gs_set.lookup;have L1: ∀{A:Around} {E:Value->Shared->Prop} {Q:Option Value->Shared->Prop},Q (some (.builtin "object.__class__")) ⟨h,g,d,t,os⟩->wpAny (model prog w) A (typeLookup (.ref D) "__class__") Q E ⟨h,g,d,t,os⟩:=fun q=>(ao2 (M:=model prog w) X kL).at q;repeat (any_goals (first | assumption | (with_reducible refine ag7 hx ?_;rw[hc]) | with_reducible refine L1 ?_ | wp_step))
 refine GJ X hx hc hm ?_;repeat (any_goals (first | assumption | wp_step))
theorem pF(X:K.In h)(hx:h.get? x=some ox)(hc:ox.cls= .ref D)(zG:mroIn K D (.type "BaseException")=some true)(hq:Q () ⟨h,g,d,t,os⟩):
  wpAny M A (checkBuiltinCall "BaseException.__getattribute__" ⟨[.ref x,Oa],[]⟩) Q E ⟨h,g,d,t,os⟩:=by
 have hk:builtinKind "BaseException.__getattribute__"=some .slot:=by decide+kernel
 have KP:splitId "BaseException.__getattribute__"=some ("BaseException","__getattribute__"):=by decide+kernel
 have ha:=F.args_bexc_ga (.ref x) Oa;have L0:=AW (M:=M) hx hc;have L1:=looks_mroIn (M:=M) X zG;have LI:Looks M h (isInstance (.ref x) (.type "BaseException")) true:=L0.andThen L1;simp only [checkBuiltinCall,hk,KP];refine aa0 (LI.at ?_);repeat (first | assumption | wp_step)
theorem CT(X:K.In h)(hx:h.get? x=some ox)(hc:ox.cls= .ref D)(kL:findIn K (.ref D) "__class__"=some (some (.builtin "object.__class__")))(hm:mroIn K D (.type "object")=some true)(zG:mroIn K D (.type "BaseException")=some true)(vG:Slot "BaseException" "__getattribute__" "BaseException.__getattribute__")(hq:R (.ok (.ret (.ref D))) ⟨h,g,d,t,os⟩):
  codeAny (model prog w) A (.call (.builtin "BaseException.__getattribute__") ⟨[.ref x,.str "__class__" tk],[]⟩) R ⟨h,g,d,t,os⟩:=
 ak7 vG.plain F.entry_bexc_ga (pF X hx hc zG (zT X hx hc kL hm hq))
theorem Lf{fill expr:Bool}(X:K.In h)(hx:h.get? x=some ox)(hc:ox.cls= .ref D)(kL:findIn K (.ref D) "__class__"=some (some (.builtin "object.__class__")))(hm:mroIn K D (.type "object")=some true)(zG:mroIn K D (.type "BaseException")=some true)(vG:Slot "BaseException" "__getattribute__" "BaseException.__getattribute__")(hf:findIn K (.ref D) "__getattribute__"=some (some (.builtin "BaseException.__getattribute__")))(nF:findIn K (.ref D) "__getattr__"=some none)(hq:Q (.ref D) ⟨h,g,d,t,os⟩):
  wpAny (model prog w) A (getAttrBy (.ref x) (.str "__class__" tk) fill expr) Q E ⟨h,g,d,t,os⟩:=by
 have f3:=vG.bind (.ref x);have XO:(expr && onTheHeap (Value.builtin "BaseException.__getattribute__"))=false:=by cases expr <;> rfl
 have SJ:(Value.builtin "BaseException.__getattribute__"==Value.builtin "object.__getattribute__")=false:=by decide+kernel
 have XN:(onTheHeap (Value.ref D) && Value.builtin "BaseException.__getattribute__"==Value.builtin "object.__getattribute__")=false:=by rw[SJ];rfl
 have L1: ∀{A:Around} {E:Value->Shared->Prop} {Q:Option Value->Shared->Prop},Q (some (.builtin "BaseException.__getattribute__")) ⟨h,g,d,t,os⟩->wpAny (model prog w) A (typeLookup (.ref D) "__getattribute__") Q E ⟨h,g,d,t,os⟩:=fun q=>(ao2 (M:=model prog w) X hf).at q;have L2: ∀{A:Around} {E:Value->Shared->Prop} {Q:Option Value->Shared->Prop},Q none ⟨h,g,d,t,os⟩->wpAny (model prog w) A (typeLookup (.ref D) "__getattr__") Q E ⟨h,g,d,t,os⟩:=fun q=>(ao2 (M:=model prog w) X nF).at q;repeat (any_goals (first | assumption | (with_reducible refine ag7 hx ?_;rw[hc]) | with_reducible refine L1 ?_ | with_reducible refine L2 ?_ | wp_step))
 refine CT X hx hc kL hm zG vG ?_;repeat (any_goals (first | assumption | wp_step))
theorem zU(X:K.In h)(hx:h.get? x=some ox)(hc:ox.cls= .ref D)(kL:findIn K (.ref D) "__class__"=some (some (.builtin "object.__class__")))(hm:mroIn K D (.type "object")=some true)(zG:mroIn K D (.type "BaseException")=some true)(vG:Slot "BaseException" "__getattribute__" "BaseException.__getattribute__")(hf:findIn K (.ref D) "__getattribute__"=some (some (.builtin "BaseException.__getattribute__")))(nF:findIn K (.ref D) "__getattr__"=some none)(hq:Q (some (.ref D)) ⟨h,g,d,t+1,os⟩):
  wpAny (model prog w) A (getAttr? (.ref x) "__class__") Q E ⟨h,g,d,t,os⟩:=by
 unfold getAttr? getAttrBy?;repeat (any_goals (first | assumption | with_reducible apply Lf X hx hc kL hm zG vG hf nF | wp_step))
def excAt(x D:Addr)(h:Heap):Prop:= ∃ox,h.get? x=some ox/\ox.cls= .ref D
structure Mk(K:Frag)(D:Addr):Prop where
 cl:findIn K (.ref D) "__class__"=some (some (.builtin "object.__class__"))
 ob:mroIn K D (.type "object")=some true
 be:mroIn K D (.type "BaseException")=some true
 ga:findIn K (.ref D) "__getattribute__"=some (some (.builtin "BaseException.__getattribute__"))
 gx:findIn K (.ref D) "__getattr__"=some none
 is:(clsIn K D).isSome=true
theorem Co(Y:Mk K D)(vG:Slot "BaseException" "__getattribute__" "BaseException.__getattribute__"):KitX K (.ref x) (.ref D) (excAt x D) where
 ty:=fun _ _ _ bZ=>(by obtain⟨ox,hx,hc⟩:=bZ;exact(AW hx hc))
 it:=fun _ _ X _=>by
  have Gw:=Y.is;unfold clsIn at Gw;split at Gw
  . rename_i c' d' ZL Nw ho;intro A' Q' E' s' k q;unfold isType loadHead;exact aa0 (wpAny_loadPart (k _ _ (X _ _ ho)) (aa7 q))
  . cases Gw
 ne:=fun h tp dd ao n sl X XY=>by
  have Gw:=Y.is;refine Bool.eq_false_iff.mpr fun q=>?_;have e:D=tp:=Value.ref.inj (aq0.mp q);subst e;unfold clsIn at Gw;split at Gw
  . rename_i c' d' ZL Nw ho;have z:=(X _ _ ho).symm.trans XY;cases z
  . cases Gw
 ca:=fun{_ _ _ _ _ s} X eS k=>(by obtain⟨ox,hx,hc⟩:=eS;exact(by obtain⟨h,g,d,t,os⟩:=s;exact zU X hx hc Y.cl Y.ob Y.be vG Y.ga Y.gx k))
end
end LX
namespace L2
open PySem PySem.Spec PyProof.Rows
section
variable{X:Cx}{pins:List (Addr × Obj)}{σ:St}{H H':Hp}{s s2:Shared}{ea t:Addr}{cls:Value}{B:Heap}
noncomputable abbrev Cx.marked (X:Cx) (ea:Addr):Cx:={X with A:=X.A.mark (some (.ref ea)),calm:=false,xe:=fun _ _=>False}
theorem Inv.marked(I:Inv X pins σ H s)(ea:Addr):Inv (X.marked ea) pins σ H s:=
 let ok:=I.ok
 ⟨⟨ok.mod,ok.kind,ok.glob,ok.blt,ok.above,ok.inj,ok.has,ok.MJ,fun z=>(by cases z),ok.frames,ok.Nq,ok.GG,ok.bs,ok.EA,ok.zk,ok.tK,ok.i7,ok.IC⟩,I.os,I.bare,I.base,I.loc,I.cell,I.free,I.eF,I.pin,I.aI,I.len⟩
theorem Inv.unmarked(hX:X.Ok)(I:Inv (X.marked ea) pins σ H s):Inv X pins σ H s:=
 ⟨hX,I.os,I.bare,I.base,I.loc,I.cell,I.free,I.eF,I.pin,I.aI,I.len⟩
theorem mn(I:Inv X pins σ H s)(hN:X.N.Nodup)(hi:X.N[i]?=some n)(hk:X.env.scope.names.lookup n=some .local)(h: ∀s',Inv X pins (σ.set i none) H s'->Q () s'):wpAny (model X.prog X.w) A (do bindName X.env n .none;unbindBehindTheSuite X.env n pos) Q E s:=by
 obtain⟨m,hn,hl⟩:=id I.loc;have vH:(X.env.scope.kind== .class || (X.env.scope.kind== .module && X.env.locals !=X.env.globals))=false:=by rw[I.ok.kind];rfl
 have Gq:i < σ.length:=by rw[I.len];exact(aa5.mp hi).1
 refine wpAny_nameGoes_keeps hk hn vH fun h' v MC hs=>h _ ?_;obtain⟨oL,_,_,Vi,_⟩:=id hn;have TR: ∀b o,X.s₀.heap.get? b=some o->b≠X.env.locals:=fun b o e=>af4 (ac4 (ac2 e) I.ok.above);refine⟨I.ok,I.os,I.bare,⟨fun b o e n hb hx=>(hs.2 b (TR b o e)).trans (I.base.keep b o e n hb hx),fun b o e n hb hx=>?_,I.base.free,fun b o e hx=>?_,I.base.kn,I.base.jP,I.base.kq⟩,⟨_,MC,fun j y v' e1 e2 e3=>?_⟩,fun y c e=>?_,I.free,I.eF,fun p hp=>?_,fun b ob e=>?_,by simpa using I.len⟩
 . obtain⟨sl,e1⟩:=I.base.slot b o e n hb hx;exact⟨sl,(hs.2 b (TR b o e)).trans e1⟩
 . obtain⟨o',e1⟩:=I.base.there b o e hx;exact⟨o',(hs.2 b (TR b o e)).trans e1⟩
 . have hj : j ≠ i := fun z => by
     subst z;rw[ab9 Gq] at e2;cases e2
   rw[ab1 (Ne.symm hj)] at e2;obtain⟨u',r',q⟩:=hl j y v' e1 e2 e3;refine⟨u',r',?_⟩;rcases q with ⟨k,e⟩ | ⟨k,c,e,z⟩
   . have:y≠n:=fun e=>hj (nh hN e1 (e▸hi));exact .inl ⟨k,by simp [this,e]⟩
   . exact .inr ⟨k,c,e,z.sameBut hs (I.G9 y c e)⟩
 . obtain⟨w',z⟩:=I.cell y c e;exact⟨w',z.sameBut hs (I.G9 y c e)⟩
 . obtain⟨e,n,ne,nf,d⟩:=I.pin p hp;exact⟨(hs.2 p.1 ne).trans e,n,ne,nf,d⟩
 . refine(I.aI b ob e).fN (fun c w' hc q=>(hs.2 c ?_).trans q) (fun _ q=>q) fun _ _ q=>q;rintro rfl
   rcases hc with z | hc
   . rw[<-z,I.free] at e;cases e
   . rw[I.free] at hc;cases hc
noncomputable def C9(D:Ends)(ie:Nat):Ends:={nx:=fun σ' H'=>D.nx (σ'.set ie none) H',bk:=fun σ' H'=>D.bk (σ'.set ie none) H',ct:=fun σ' H'=>D.ct (σ'.set ie none) H',rt:=D.rt}
end
open AutoSeq1 (wpAny_loadPart')
noncomputable def iw(h:Heap)(t:Addr)(k:Int):Heap:=
 (h.push {cls:= .type "list_iterator",data:= .fields #[.ref t,.int 0 0]}).push {cls:= .type "enumerate",data:= .fields #[.none,.bool false,.ref h.objs.size,rawInt k,.none,.none]}
def zW(t:Addr)(k:Int):PySem.Spec:=fun _ R s=>(∃items,s.heap.IsList t items)/\R (.ok (.ret (.ref (s.heap.push {cls:= .type "list_iterator",data:= .fields #[.ref t,.int 0 0]}).objs.size))) {s with heap:=iw s.heap t k}
theorem tT{prog:Program}{w:World}{A:Around}(hh:A.handled=none)(it t:Addr)(vC:t≠it)(ao:Array Value)(k:Nat):
  Draws prog w A it [it,t] (ao.size+k) (fun i v=>k<=i/\ao[i - k]?=some v) (fun i h=>k<=i/\h.IsListIter it t (i - k)/\h.IsList t ao) where
 live:=fun i h eS=>(by obtain⟨_,st⟩:=eS;exact((Draws.list (prog:=prog) (w:=w) (A:=A) hh it t vC ao).live _ h st))
 frame:=fun i h h' gr hk=>(by obtain⟨l,st⟩:=gr;exact(⟨l,(Draws.list (prog:=prog) (w:=w) (A:=A) hh it t vC ao).frame _ h h' st hk⟩))
 item:=fun i s Q E hi iC hQ=>(by obtain⟨l,st⟩:=iC;exact((Draws.list (prog:=prog) (w:=w) (A:=A) hh it t vC ao).item (i - k) s Q E (by lia) st fun x h' tk px Ba sb=>hQ x h' tk ⟨l,px⟩ ⟨by lia,by rw[show i+1 - k=i - k+1 by lia];exact Ba⟩ sb))
 done:=fun s Q E iS hE=>(by obtain⟨l,st⟩:=iS;exact((Draws.list (prog:=prog) (w:=w) (A:=A) hh it t vC ao).done s Q E (by rw[show ao.size+k - k=ao.size by lia] at st;exact st) hE))
section
variable{X:Cx}{pins:List (Addr × Obj)}{σ:St}{H:Hp}{s:Shared}
noncomputable def D7(K:PySem.W.Frag)(a:Addr)(k:Nat):It:=
 ⟨fun i H=> ∃xs x,bS K H a xs/\xs[i]?=some x,fun i H x H'=> ∃p y,x= .ref p/\H p=none/\H'=upd H p (.tup [.int ((i+k:Nat):Int),y])/\ ∀xs,bS K H a xs->xs[i]?=some y,fun i H=> ∃xs,bS K H a xs/\xs.length=i⟩
theorem uH{P:Program}{w:World}{K:PySem.W.Frag}{es:List Expr}{x1}{tp:Pos}(a e it:Addr)(k:Nat)(K2:e≠it):
  Turn P w K (.Tuple es x1 tp) (D7 K a k) [e,it] e (fun i h=>(∃old,IsEnum h e it ((i+k:Nat):Int) old)/\h.IsListIter it a i) where
 mem:=by simp
 obj:=fun i h st b hb=>by
  obtain⟨⟨old,mU⟩,gk⟩:=st;rcases ac3.mp hb with q | q
  . subst q;exact⟨_,mU,fun v z=>nomatch (show Data.fields _=Data.cell v from z)⟩
  . have q:b=it:=by simpa using q
    subst q;obtain⟨o,q1,q2,q3⟩:=gk;exact⟨o,q1,fun v z=>by rw[q3] at z;cases z⟩
 keep:=fun i h h' st kk=>by
  obtain⟨⟨old,mU⟩,gk⟩:=st;exact⟨⟨old,kk e (by simp) _ mU⟩,gk.at fun o q=>kk it (by simp) o q⟩
 item:=by
  intro X hP hw hK hc i pins s σ H E I hf st hg;subst hP hw hK;obtain⟨xs,x,hq,hx⟩:=hg;obtain⟨ao,rv,pl,hz⟩:=I.list hq;have p:=pl.isList;obtain⟨u,hu,ru⟩:=rv.get hx;obtain⟨⟨old,mU⟩,gk⟩:=st;have ha: ∃o,s.heap.get? a=some o:=let ⟨o,q,_⟩:=p;⟨o,q⟩;have Tq:a≠e:=by
   rintro rfl
   obtain⟨o,q1,q2,_⟩:=p;rw[mU] at q1;cases q1;injection q2 with z;exact absurd z (by decide)
  have K7:a≠it:=by
   rintro rfl
   obtain⟨o,q1,q2,_⟩:=p;obtain⟨o',r1,r2,_⟩:=gk;rw[r1] at q1;cases q1;rw[r2] at q2;injection q2 with z;exact absurd z (by decide)
  have D:=tT (prog:=X.prog) (w:=X.w) (A:=X.A.in1) (I.ok.hd hc) it a K7 ao.toArray k;have hlen:i < ao.length:=(aa5.mp hu).1;refine wpAny_pyNext_enum_itemD D mU ⟨by lia,by rw[show i+k - k=i by lia];exact gk,p⟩ (by simp;lia) K2 (by simp [K2,Ne.symm Tq]) fun y h' tk hy ho Er ht hsz hk=>?_;obtain⟨_,hy⟩:=hy;rw[show i+k - k=i by lia] at hy;have ey:y=u:=by
   have:ao[i]?=some y:=by simpa using hy
   rw[hu] at this;cases this;rfl
  subst ey;refine⟨_,rfl,?_⟩;refine wpAny_letOwnedTupleGo_enum ho fun h2 To JI=>?_;have CH:e < s.heap.objs.size:=ac2 mU;have CC:it < s.heap.objs.size:=let ⟨o,q,_⟩:=gk;ac2 q;have I1:Inv X pins σ (upd H s.heap.objs.size (.tup [.int ((i+k:Nat):Int),x])) {s with heap:=h2,toks:=tk+1}:=by
   refine I.km (ch:= [e,it]) hf (ab2 _) (fun b o hb q=>?_) ⟨by show 2<=sizeLine;decide,[.int ((i+k:Nat):Int) tk,y],.cons ⟨_,rfl⟩ (.cons ru .nil),?_⟩
   . have h1:b≠e:=fun z=>hb (by simp [z]);have qS:b≠it:=fun z=>hb (by simp [z]);exact(JI.2 b h1).trans (hk b o h1 qS q)
   . exact⟨_,(JI.2 _ (am5 CH)).trans ht,rfl,rfl,_,rfl⟩
  refine⟨.ref s.heap.objs.size,_,I1,rfl,⟨_,x,rfl,I.aI.fresh (ab2 _),rfl,fun ys hy=>by rw[I.sX hy hq];exact hx⟩,⟨⟨y,?_⟩,?_⟩,fun b hb=>?_⟩
  . rw[show((i+1+k:Nat):Int)=((i+k:Nat):Int)+1 by lia];exact To
  . obtain⟨_,q,_⟩:=Er;rw[show i+k+1 - k=i+1 by lia] at q;exact q.at fun o z=>(JI.2 it (Ne.symm K2)).trans z
  . rw[ah (fun z=>?_)]
    . exact(hf b hb).1
    . rcases ac3.mp hb with q | q
      . subst q;exact absurd (z▸CH) (ae8 _)
      . have q:b=it:=by simpa using q
        subst q;exact absurd (z▸CC) (ae8 _)
 done:=by
  intro X hP hw hK hc i pins s σ H E I hf st hg;subst hP hw hK;obtain⟨xs,hq,hx⟩:=hg;obtain⟨ao,rv,pl,hz⟩:=I.list hq;have p:=pl.isList;obtain⟨⟨old,mU⟩,gk⟩:=st;have K7:a≠it:=by
   rintro rfl
   obtain⟨o,q1,q2,_⟩:=p;obtain⟨o',r1,r2,_⟩:=gk;rw[r1] at q1;cases q1;rw[r2] at q2;injection q2 with z;exact absurd z (by decide)
  have hl:=rv.length;have D:=tT (prog:=X.prog) (w:=X.w) (A:=X.A.in1) (I.ok.hd hc) it a K7 ao.toArray k;obtain⟨f0,f1,f2,f3,f4,f5⟩:=hf it (by simp);refine wpAny_pyNext_enum_endD D mU ⟨by simp,?_,p⟩ fun h' eb=>⟨rfl,I.turned (t':=s.toks) (fun b o hb q=>eb b o hb q) f0 f1 f3 f4 f5⟩
  rw[show ao.toArray.size+k - k=i by simp;lia];exact gk
 self:=fun A i s Q E st h=>by
  obtain⟨⟨old,mU⟩,_⟩:=st;exact aq3 mU h
end
theorem qX{x1}{k:Nat}(I:Inv X pins σ H s)(q:R (D7 X.K p k) H):
  wpAny (model X.prog X.w) X.A (pyIter (.ref (s.heap.push {cls:= .type "list_iterator",data:= .fields #[.ref p,.int 0 0]}).objs.size)) (P8 X pins σ (.Tuple es x1 tp) R) E {s with heap:=iw s.heap p k,toks:=tk}:=by
 have z:(s.heap.push {cls:= .type "list_iterator",data:= .fields #[.ref p,.int 0 0]}).objs.size=s.heap.objs.size+1:=af7 ..;have he:IsEnum (iw s.heap p k) (s.heap.objs.size+1) s.heap.objs.size k .none:=by
  have:=ab6 (s.heap.push {cls:= .type "list_iterator",data:= .fields #[.ref p,.int 0 0]}) (o:={cls:= .type "enumerate",data:= .fields #[.none,.bool false,.ref s.heap.objs.size,rawInt k,.none,.none]}) rfl;rw[z] at this;exact this
 have hi:(iw s.heap p k).IsListIter s.heap.objs.size p 0:=⟨_,aa3 _ (ab6 _ rfl),rfl,rfl⟩
 rw[z];refine aq3 he ?_;refine⟨s.heap.objs.size+1,[s.heap.objs.size+1,s.heap.objs.size],_,D7 X.K p k,H,rfl,I.kept fun c o e=>aa3 _ (aa3 _ e),uH p _ _ k (Nat.succ_ne_self _),⟨⟨.none,?_⟩,hi⟩,fun c hc=>?_,q⟩
 . rw[Nat.zero_add];exact he
 . have hle : s.heap.objs.size <= c := by
     rcases ac3.mp hc with q | q
     . rw[q];exact ar2 _
     . have q:c=s.heap.objs.size:=by simpa using q
       rw[q];exact ab2 _
   exact I.tG hle (I.aI.fresh hle)
end L2
namespace LD
open PySem PySem.Spec L2 LB PyProof.Rows
theorem AK{K:PySem.W.Frag}{M:Addr->Prop}{H:Hp}{a:Addr}{k:Nat}(h:H a=some (.lst xs))(n: ¬M a)(r:ay M H xs ds):Yl M H (D7 K a k) (aL k ds):=by
 have hl:(aL k ds).length=ds.length:=by unfold aL;rw[ah6]
 refine⟨fun i H1 M' kf mo hb hi=>?_,fun H1 kf=>⟨xs,bS.of (kf _ _ h n),by rw[r.1,hl]⟩⟩;rw[hl] at hi;have rr:=nH r kf hb;have hx:xs[i]?=some (xs[i]'(by rw[r.1];exact hi)):=aa2 _;refine⟨⟨xs,_,bS.of (kf _ _ h n),hx⟩,fun x H2 mE=>?_⟩;obtain⟨pp,y,e1,e2,e3,e4⟩:=mE;subst e1;subst e3;have hy:=e4 xs (bS.of (kf _ _ h n));have s:ax H1 (upd H1 pp (.tup [.int ((i+k:Nat):Int),y])):=ax.new e2;refine⟨s,_,by unfold aL;rw[ai5,aa2 hi];rfl,Rep.gy ag (mo.fresh e2) (.cons (.int _) (.one ((rr.2 i y _ hy (aa2 hi)).same s)))⟩
end LD
namespace LD
open PySem PySem.Spec L2 LB Jf PyProof.Rows
section
variable{X:Cx}{a b e f:Expr}{ta tb t:bh}{tA:eZ}{pos p p2:Pos}
noncomputable def Vc(T:String):Dt->Option Bool
 | .aF=>some false
 | .bl _=>some (T=="bool" || T=="int")
 | .int _=>some (T=="int")
 | .str _=>some (T=="str")
 | .lst _=>some (T=="list")
 | .tup _=>some (T=="tuple")
 | _=>none
theorem Gd{b:Bool}(r:Rep M H v d)(h:Vc T d=some b):tq T H v=some b:=by
 cases r with
 | aF=>exact h
 | bl c=>exact h
 | int c=>exact h
 | str c=>exact h
 | lst e n l r=>simp only [tq,e];exact h
 | tup e n l r=>simp only [tq,e];exact h
 | vV e n k l r=>cases h
 | lN e n k l r=>cases h
inductive LM(T:String)(Q:Dt->List Sl->Prop)(d:Dt)(δ':List Sl):Prop
 | mk (b:_) (h1:Vc T d=some b) (h2:Q (.bl b) δ')
def Ug(T:String)(t:bh):bh:=fun δ Q=>t δ fun d δ'=>LM T Q d δ'
theorem Aj:bootBuiltins "isinstance"=some (.builtin "isinstance"):=by decide+kernel
theorem cx(hT:T="int"\/T="bool"\/T="tuple"\/T="list"\/T="str")(hm:X.mg "isinstance"=none)(ha:PA X [e,f] (oX (lE t) (oX (tC (.ty T)) uJ)))(hg:Gl X "isinstance":=by rfl)(he:starEach [e,f] X.env=(false,eval e X.env)::starEach [f] X.env:=by rfl)(da:(backTo pos (starEach [f] X.env)).any (·.1)=false:=by rfl):
  Ev X (.Call (.Name "isinstance" p) [e,f] [] pos) (Ug T t):=PE.imp (fC (KJ hT) hg hm Aj ha (by decide) (by decide) he da) fun σ H Q iS=>(by obtain⟨W,M,α,δ,Qd,E,q,k⟩:=iS;exact(
 ⟨W,M,α,δ,_,E,q,fun d δ' H' v jq E1 c1 r1=>(by obtain⟨b,hb,q1⟩:=jq;exact(⟨v,b,rfl,Gd r1 hb,k _ _ _ _ q1 E1 c1 (.bl _)⟩))⟩))
end
end LD
namespace L2
open PySem PySem.Spec PyProof.Rows
section
variable{X:Cx}
noncomputable def k6(H:Hp):V->Option Bool
 | .aF=>some false
 | .bl _=>some false
 | .int _=>some false
 | .str _=>some false
 | .ref a=>match H a with
  | some (.lst _)=>some true
  | some (.tup _)=>some true
  | _=>none
 | _=>none
def Nk(te:TE):TE:=fun σ H Q=>te σ H fun x H1=> ∃b,k6 H1 x=some b/\Q (.bl b) H1
theorem Fx{k}(he:PE X e te)(Tc:Gl X "isinstance")(S3:X.mg "isinstance"=none)(KW:Gl X "list")(Gm:X.mg "list"=none)(Tb:Gl X "tuple")(S0:X.mg "tuple"=none)(hs:starEach [e, .Tuple [.Name "list" p1, .Name "tuple" p2] k pt] X.env=(false,eval e X.env)::starEach [.Tuple [.Name "list" p1, .Name "tuple" p2] k pt] X.env:=by rfl):
  PE X (.Call (.Name "isinstance" p) [e,.Tuple [.Name "list" p1,.Name "tuple" p2] k pt] [] pos) (Nk te):=by
 intro pins s σ H Q I h;refine aj3 (cA I Tc S3 boot_isinstance ?_);refine PyProof.Rows.callWith_builtin1 ?_ hs rfl;rw[hs];show wpAny _ _ (spliced ((false,eval e X.env)::backTo pos (starEach [.Tuple [.Name "list" p1,.Name "tuple" p2] k pt] X.env))) _ _ s;refine al6 (aN (he pins s σ H _ I h) fun u s1 bZ=>?_);obtain⟨x,H1,I1,r1,b0,ex,q1⟩:=bZ;have h2:starEach [Expr.Tuple [.Name "list" p1,.Name "tuple" p2] k pt] X.env=(false,eval (.Tuple [.Name "list" p1,.Name "tuple" p2] k pt) X.env)::starEach [] X.env:=rfl;rw[h2];show wpAny _ _ (spliced ((false,eval (.Tuple [.Name "list" p1,.Name "tuple" p2] k pt) X.env)::backTo pos (starEach [] X.env))) _ _ s1;refine al6 (wpAny_Tuple_spliced ?_);have h3:starEach [Expr.Name "list" p1,.Name "tuple" p2] X.env=(false,eval (.Name "list" p1) X.env)::starEach [.Name "tuple" p2] X.env:=rfl;rw[h3];show wpAny _ _ (spliced ((false,eval (.Name "list" p1) X.env)::backTo pt (starEach [.Name "tuple" p2] X.env))) _ _ s1;refine al6 (cA I1 KW Gm LB.bD ?_);have h4:starEach [Expr.Name "tuple" p2] X.env=(false,eval (.Name "tuple" p2) X.env)::starEach [] X.env:=rfl;rw[h4];show wpAny _ _ (spliced ((false,eval (.Name "tuple" p2) X.env)::backTo pt (starEach [] X.env))) _ _ s1;refine al6 (cA I1 Tb S0 LB.bW ?_);refine ar0 ⟨by show 2<=sizeLine;decide,?_⟩;refine ar0 ?_;have fin: ∀(s':Shared),s'={s1 with heap:=s1.heap.push {cls:= .type "tuple",data:= .seq [Value.type "list",Value.type "tuple"].toArray}}-> ∀tk,EP X pins σ Q (.bool b0) {s' with toks:=tk}:=fun s' e tk=>by
  subst e;exact⟨.bl b0,H1,I1.kept fun b o e=>aa3 _ e,rfl,q1⟩
 cases x with
 | aF=>
  cases ex;cases (show u=Value.none from r1);exact an4 (Tx:="NoneType") (cs:= [.type "list",.type "tuple"]) (vs:= [false,false]) ⟨Answers.of_false_none (by decide) (by rfl) (by rfl),Answers.of_false_none (by decide) (by rfl) (by rfl),True.intro⟩ rfl (ab6 _ rfl) (fin _ rfl)
 | bl i=>
  cases ex;cases (show u=Value.bool i from r1);exact an4 (Tx:="bool") (cs:= [.type "list",.type "tuple"]) (vs:= [false,false]) ⟨Answers.of_false_bool (by decide) (by rfl) (by rfl),Answers.of_false_bool (by decide) (by rfl) (by rfl),True.intro⟩ rfl (ab6 _ rfl) (fin _ rfl)
 | int i=>
  cases ex;obtain⟨t,rfl⟩:=(show∃t,u=Value.int i t from r1)
  exact an4 (Tx:="int") (cs:= [.type "list",.type "tuple"]) (vs:= [false,false]) ⟨Answers.of_false_int (by decide) (by rfl) (by rfl),Answers.of_false_int (by decide) (by rfl) (by rfl),True.intro⟩ rfl (ab6 _ rfl) (fin _ rfl)
 | str i=>
  cases ex;obtain⟨t,rfl⟩:=(show∃t,u=Value.str i t from r1)
  exact an4 (Tx:="str") (cs:= [.type "list",.type "tuple"]) (vs:= [false,false]) ⟨Answers.of_false_str (by decide) (by rfl) (by rfl),Answers.of_false_str (by decide) (by rfl) (by rfl),True.intro⟩ rfl (ab6 _ rfl) (fin _ rfl)
 | ref a=>
  cases (show u=Value.ref a from r1);cases ha:H1 a with
  | none=>simp only [k6,ha] at ex;cases ex
  | some o=>
   cases o with
   | lst xs=>
    simp only [k6,ha] at ex;cases ex;obtain⟨_,_,n,_,h1⟩:=(show aV X.prog X.w H1 s1.heap a (.lst xs) from I1.aI a _ ha)
    exact an4 (Tx:="list") (cs:= [.type "list",.type "tuple"]) (vs:= [true,false]) ⟨Answers.of_true (by rfl) (by rfl),Answers.of_false_list (by decide) (by rfl) (by rfl),True.intro⟩ ⟨_,aa3 _ h1,rfl⟩ (ab6 _ rfl) (fin _ rfl)
   | tup xs=>
    simp only [k6,ha] at ex;cases ex;obtain⟨_,_,_,o,ho,hc,_⟩:=(show aV X.prog X.w H1 s1.heap a (.tup xs) from I1.aI a _ ha)
    exact an4 (Tx:="tuple") (cs:= [.type "list",.type "tuple"]) (vs:= [false,true]) ⟨Answers.of_false_tuple (by decide) (by rfl) (by rfl),Answers.of_true (by rfl) (by rfl),True.intro⟩ ⟨_,aa3 _ ho,hc⟩ (ab6 _ rfl) (fin _ rfl)
   | _=>simp only [k6,ha] at ex;cases ex
 | _=>cases ex
end
end L2
namespace LD
open PySem PySem.Spec L2 LB Jf PyProof.Rows LW
section
variable{X:Cx}{a b e f:Expr}{ta tb t t':bh}{tA:eZ}{pos p p2:Pos}
noncomputable def Ou:Dt->Option Bool
 | .vV _ _=>none
 | .lN _ _=>none
 | .lst _=>some true
 | .tup _=>some true
 | _=>some false
theorem Cs{b:Bool}(r:Rep M H v d)(h:Ou d=some b):k6 H v=some b:=by
 cases r with
 | aF=>exact h
 | bl c=>exact h
 | int c=>exact h
 | str c=>exact h
 | lst e n l r=>simp only [k6,e];exact h
 | tup e n l r=>simp only [k6,e];exact h
 | vV e n k l r=>cases h
 | lN e n k l r=>cases h
inductive G5(Q:Dt->List Sl->Prop)(d:Dt)(δ':List Sl):Prop
 | mk (b:_) (h1:Ou d=some b) (h2:Q (.bl b) δ')
def PD(t:bh):bh:=fun δ Q=>t δ fun d δ'=>G5 Q d δ'
theorem Dy{k}(he:Ev X e t)(S3:X.mg "isinstance"=none)(Gm:X.mg "list"=none)(S0:X.mg "tuple"=none)(Tc:Gl X "isinstance":=by rfl)(KW:Gl X "list":=by rfl)(Tb:Gl X "tuple":=by rfl)(hs:starEach [e, .Tuple [.Name "list" p1, .Name "tuple" p2] k pt] X.env=(false,eval e X.env)::starEach [.Tuple [.Name "list" p1, .Name "tuple" p2] k pt] X.env:=by rfl):
  Ev X (.Call (.Name "isinstance" p) [e,.Tuple [.Name "list" p1,.Name "tuple" p2] k pt] [] pos) (PD t):=PE.imp (Fx he Tc S3 KW Gm Tb S0 hs) fun σ H Q mD=>(by obtain⟨W,M,α,δ,Qd,E,q,k⟩:=mD;exact(
 ⟨W,M,α,δ,_,E,q,fun d δ' H' v gv E1 c1 r1=>(by obtain⟨b,hb,q1⟩:=gv;exact(⟨b,Cs r1 hb,k _ _ _ _ q1 E1 c1 (.bl _)⟩))⟩))
theorem ay.rev(h:ay M H xs ds):ay M H xs.reverse ds.reverse:=by
 induction xs generalizing ds with
 | nil=>
  cases ds with
  | nil=>exact .nil
  | cons=>have:=h.1;simp at this
 | cons x xs ih=>
  cases ds with
  | nil=>have:=h.1;simp at this
  | cons d ds=>
   obtain⟨y,ys,e,r1,r2⟩:=h.aG;cases e;rw[aq6,aq6];exact(ih r2).append (.one r1)
end
end LD
namespace LD
open PySem PySem.Spec L2 LB PyProof.Rows LW
section
variable{X:Cx}{tg a b c e:Expr}{es:List Expr}{ta tb tc t:bh}{tA:eZ}{pos p apos aY:Pos}
inductive Mn(ds:List Dt)(Q:Dt->Prop):Prop
 | mk (c:_) (h1:ds= [.bl c]) (h2:Q (.int (if c then 1 else 0)))
theorem vX(hm:X.mg "int"=none)(ha:Av X [e] tA)(hg:Gl X "int":=by rfl)(he:starEach [e] X.env=(false,eval e X.env)::starEach [] X.env:=by rfl)(da:(backTo pos (starEach [] X.env)).any (·.1)=false:=by rfl):
  Ev X (.Call (.Name "int" p) [e] [] pos) (Ax Mn tA):=tW Ae (fun M H xs ds Qd Q al r mD k=>(by obtain⟨c,e,q⟩:=mD;exact(by
 subst e;obtain⟨x,rfl,r1⟩:=fR r;exact .inr ⟨c,by rw[r1.zi],k H _ _ q (fun _ _ z=>z) (.int _)⟩))) hg hm kP ha (by decide) (by decide) he da
theorem GS:Ev X e (fun _ _=>False):=fun pins s σ H Q I uy=>(by obtain⟨_,_,_,_,_,_,q,_⟩:=uy;exact(q.elim))
theorem Fc{st:Stmt}:Ex X st (fun _ _=>False):=fun pins s σ H D I AH=>(by obtain⟨_,_,_,_,_,_,_,q⟩:=AH;exact(q.elim))
end
end LD
namespace LX
open PySem
theorem x8:Slot "BaseException" "__getattribute__" "BaseException.__getattribute__":=
 .of (owner:="BaseException") (n:="__getattribute__") (by rw[typeLookup_type,builtinLookup_eq_fast];kernel_rfl) (by decide+kernel) (by decide+kernel) (by decide+kernel) (by first | exact .inl (by decide+kernel) | exact .inr (by decide+kernel)) (by rw[isSubtype_type];kernel_rfl)
end LX
namespace L2
open PySem PySem.Spec PyProof.Rows
theorem oS: ∀{cs:List Addr} {ao:List Value},Vals (cs.map V.ref) ao->ao=cs.map Value.ref
 | [],_,.nil=>rfl
 | _::_,_,.cons r t=>by rw[oS t];cases r;rfl
end L2
namespace LX
open PySem PySem.W PyProof.Rows
structure Wy(K:Frag)(C C0:Addr)(others:List Addr):Prop where
 k:Mk K C
 up:exmOne K (.ref C) (.ref C0)=some true
 ve:kitOne K (.ref C) (.type "ValueError")=some true
 no:kitAny K (.ref C) (others.map .ref)=some false
end LX
namespace L2
open PySem
theorem Cp:PySem.W.kitOne K (.ref C) (.ref C)=some true:=by unfold PySem.W.kitOne;rw[if_pos (by simp)]
end L2
namespace LD
open PySem PySem.Spec L2 LB Jf PyProof.Rows
inductive Ao:Dt->Prop where
 | aF:Ao .aF
 | bl (b:Bool):Ao (.bl b)
 | int (i:Int):Ao (.int i)
 | str (x:Str):Ao (.str x)
 | tup {ds:List Dt}:(∀d∈ds,Ao d)->Ao (.tup ds)
theorem Rep.Au(r:Rep M H v d)(f:Ao d)(al:iI M' H):Rep M' H v d:=by
 induction r with
 | aF=>exact .aF
 | bl b=>exact .bl b
 | int i=>exact .int i
 | str x=>exact .str x
 | lst h n l r ih=>cases f
 | tup h n l r ih=>
  cases f with
  | tup f=>exact .tup h (al.tup h) l fun i x d h1 h2=>ih i x d h1 h2 (f d (ad2 h2))
 | vV h n e l r ih=>cases f
 | lN h n e l r ih=>cases f
theorem ay.Au(r:ay M H v d)(f: ∀x∈d,Ao x)(al:iI M' H):ay M' H v d:=⟨r.1,fun i x e h1 h2=>(r.2 i x e h1 h2).Au (f e (ad2 h2)) al⟩
inductive ym:Dt->Prop where
 | aF:ym .aF
 | bl (b:Bool):ym (.bl b)
 | int (i:Int):ym (.int i)
 | str (x:Str):ym (.str x)
theorem Rep.DW(r:Rep M H v d)(f:ym d):Rep M' H' v d:=by
 cases f <;> cases r
 . exact .aF
 . exact .bl _
 . exact .int _
 . exact .str _
theorem ay.DW(r:ay M H v d)(f: ∀x∈d,ym x):ay M' H' v d:=⟨r.1,fun i x e h1 h2=>(r.2 i x e h1 h2).DW (f e (ad2 h2))⟩
section
variable{X:Cx}{a b c e:Expr}{es:List Expr}{ta tb t:bh}{pos p:Pos}{x:Str}{k:Nat}{ps:List Str}
theorem az.PX{W:List Wd}{M:Addr->Prop}{α:List (List Addr)}{H H':Hp}{σ:L2.St}{δ:List Sl}{i:Nat}{ds:List Dt}(E:az W M α H σ δ)(hi:δ[i]?=some (.ow ds))(hs: ∀j s,j≠i->δ[j]?=some s->s= .no\/(∃d,s= .im d)\/ ∃t,s= .bx t){a:Addr}(ha:α[i]?=some [a])
  (E1:az W (fun b=>M b/\b≠a) (α.set i []) H' σ (δ.set i (.im (.lst ds)))) (c1:cW (α.set i []) H H'):az W M α H' σ δ/\cW α H H':=by
 obtain⟨a',vs,h1,h2,h3,r⟩:=E.ow hi;rw[ha] at h2;cases h2;have E':=E.CO hi ha;have sub: ∀b,b∈(α.set i []).flatten->b∈α.flatten/\b≠a:=fun b hb=>⟨(bG hb).elim id fun z=>absurd z aa4,(E'.mu b hb).2⟩
 have na:a∉(α.set i []).flatten:=fun z=>(sub a z).2 rfl;have Vp:H' a=some (.lst vs):=c1 _ _ h3 na;have cg:cW α H H':=fun b o e n=>c1 b o e fun z=>n (sub b z).1;have keep: ∀b o,H b=some o-> ¬M b->H' b=some o/\ ¬M b:=fun b o e n=>⟨cg b o e fun z=>n (E.mu b z),n⟩
 refine⟨⟨E.ls,E.la,fun j s hj=>?_,E.nd,E.mu,fun b hb=>?_,fun Wd hW=>?_⟩,cg⟩
 . by_cases ck:j=i
   . subst ck;rw[hi] at hj;cases hj;exact⟨_,_,h1,ha,a,vs,rfl,rfl,Vp,r.mono keep⟩
   . obtain⟨o,as,g1,g2,g3⟩:=E.sl j s hj;rcases hs j s ck hj with rfl | ⟨d,rfl⟩ | ⟨t,rfl⟩
     . exact⟨o,as,g1,g2,g3⟩
     . exact⟨o,as,g1,g2,g3.1,let ⟨u,e,ru⟩:=g3.2;⟨u,e,ru.mono keep⟩⟩
     . obtain⟨o2,Am,f1,f2,f3⟩:=E1.sl j (.bx t) (by rw[ab1 (Ne.symm ck)];exact hj);rw[ab1 (Ne.symm ck)] at f2;exact⟨o2,Am,f1,f2,f3⟩
 . by_cases z:b=a
   . subst z;exact⟨_,Vp,fun xs z=>by cases z⟩
   . exact E1.al b ⟨hb,z⟩
 . have k0:=E.w Wd hW;have k1:=E1.w Wd hW;exact⟨k1.bs,k1.ex,k0.fr,k0.m0,k0.m1,k0.bx,k0.fz⟩
def LH(i:Nat)(t:bh):bh:=fun δ Q=> ∃ds,δ[i]?=some (.ow ds)/\(∀j s,j≠i->δ[j]?=some s->s= .no\/(∃d,s= .im d)\/ ∃t,s= .bx t)/\t (δ.set i (.im (.lst ds))) fun d δ'=>δ'=δ.set i (.im (.lst ds))/\Ao d/\Q d δ
theorem GU(i:Nat)(h:Ev X e t):Ev X e (LH i t):=PE.imp h fun σ H Q gr=>(by obtain⟨W,M,α,δ,Qd,E,⟨ds,hi,hs,q⟩,k⟩:=gr;exact(by
 obtain⟨a,xs,h1,h2,h3,r⟩:=E.ow hi;refine⟨W,_,α.set i [],_,_,E.CO hi h2,q,fun d δ' H' v mD E1 c1 r1=>?_⟩;obtain⟨eδ,fl,q1⟩:=mD;subst eδ;obtain⟨E2,c2⟩:=E.PX hi hs h2 E1 c1;exact k _ _ _ _ q1 E2 c2 (r1.Au fl E2.al)))
end
section
variable{X:Cx}{a b e:Expr}{t ta tk:bh}{tA:eZ}{pos p apos aY:Pos}
inductive Qj(ds:List Dt)(Q:Dt->Prop):Prop
 | mk (ns:List Int) (h1:ds= [.lst (ns.map .int)]) (h2:Q (.int ns.sum))
theorem Dv(hc:X.calm=true)(hm:X.mg "sum"=none)(ha:Av X [e] tA)(hg:Gl X "sum":=by rfl)(he:starEach [e] X.env=(false,eval e X.env)::starEach [] X.env:=by rfl)(da:(backTo pos (starEach [] X.env)).any (·.1)=false:=by rfl):
  Ev X (.Call (.Name "sum" p) [e] [] pos) (Ax Qj tA):=mv (DQ hc) (fun M H xs ds Qd Q al r bZ k=>(by
 obtain⟨ns,e,q⟩:=bZ;subst e;obtain⟨x,rfl,r1⟩:=fR r;obtain⟨a,zs,rfl,ha,n,rr⟩:=r1.bV;rw[ints_rep rr] at ha;exact⟨a,ns,rfl,bS.of ha,k H _ _ q (fun _ _ z=>z) (.int _)⟩)) hg hm Ah ha (by decide) (by decide) he da
end
end LD
namespace L2
open PySem PySem.Spec PyProof.Rows
inductive wD(H:Hp):Nat->V->V->Bool->Prop
 | flat {k:Nat} {v w:V}:cT v=true->cT w=true->wD H k v w (rN v w)
 | tup {k:Nat} {p q:Addr} {xs ys:List V} {e:Nat->Bool}:H p=some (.tup xs)->H q=some (.tup ys)->(∀(j:Nat) x y,xs[j]?=some x->ys[j]?=some y->wD H k x y (e j))->wD H (k+1) (.ref p) (.ref q) ((List.range (min xs.length ys.length)).all e && xs.length==ys.length)
 | lst {k:Nat} {p q:Addr} {xs ys:List V} {e:Nat->Bool}:H p=some (.lst xs)->H q=some (.lst ys)->(∀(j:Nat) x y,xs[j]?=some x->ys[j]?=some y->wD H k x y (e j))->wD H (k+1) (.ref p) (.ref q) ((List.range (min xs.length ys.length)).all e && xs.length==ys.length)
theorem CZ(h:cT v=true):rN v v=true:=by cases v <;> first | rfl | (show(_==_)=true;exact aj0 _) | cases h
theorem uc(h: ∀j,j < n->e j=true):((List.range (min n n)).all e && n==n)=true:=by
 rw[Nat.min_self,aj0,ar7,ah2];exact fun j hj=>h j (af2.mp hj)
theorem wD.self: ∀{k:Nat} {v w:V} {b:Bool},wD H k v w b->v=w->b=true:=by
 intro k v w b h;induction h with
 | flat f1 f2=>intro e;subst e;exact CZ f1
 | tup h1 h2 _ ih=>
  intro e;cases e;rw[h1] at h2;cases h2;exact uc fun j hj=>ih j _ _ (aa2 hj) (aa2 hj) rfl
 | lst h1 h2 _ ih=>
  intro e;cases e;rw[h1] at h2;cases h2;exact uc fun j hj=>ih j _ _ (aa2 hj) (aa2 hj) rfl
theorem item_at(r:Vals xs ao)(h:j < ao.toArray.size): ∃x,xs[j]?=some x/\RelV x ao.toArray[j]:=by
 have hl:=r.length;have hj:j < ao.length:=by simpa using h
 obtain⟨u,e,ru⟩:=r.get (i:=j) (x:=xs[j]'(by lia)) (aa2 _);refine⟨_,aa2 (by lia),?_⟩;have:ao.toArray[j]=u:=by have:=(aa5.mp e).2;simpa using this
 rw[this];exact ru
theorem wD.at(I:Inv X pins σ H s): ∀{k:Nat} {v w:V} {b:Bool},wD H k v w b-> ∀{A:Around} {u u':Value},A.units+k < cLine->RelV v u->RelV w u'->SeqAt.EqAt A s u u' b:=by
 intro k v w b h;induction h with
 | flat f1 f2=>intro A u u' _ r1 r2;exact vQ r1 r2 f1 f2
 | @tup k p q xs ys e h1 h2 hc ih=>
  intro A u u' hu r1 r2;cases r1;cases r2;by_cases c:p=q
  . subst c;rw[(wD.tup h1 h2 hc).self rfl];exact SeqAt.EqAt.same _
  . obtain⟨ao,rv,pl,_⟩:=I.tuple (dB.of h1);obtain⟨cf,iY,m7,_⟩:=I.tuple (dB.of h2);have g:=SeqAt.RcAt.tuples (A:=A) (s:=s) (e:=e) (show s.heap.IsTuple p _ from pl) (show s.heap.IsTuple q _ from m7) (by lia) fun j j1 j2=>by
     obtain⟨x,hx,rx⟩:=item_at rv j1;obtain⟨y,hy,ry⟩:=item_at iY j2;exact ih j x y hx hy (by show A.units+1+k < cLine;lia) rx ry
    rw[ab0,ab0,<-rv.length,<-iY.length] at g;exact SeqAt.EqAt.of_refs c g
 | @lst k p q xs ys e h1 h2 hc ih=>
  intro A u u' hu r1 r2;cases r1;cases r2;by_cases c:p=q
  . subst c;rw[(wD.lst h1 h2 hc).self rfl];exact SeqAt.EqAt.same _
  . obtain⟨ao,rv,pl,_⟩:=I.list (bS.of h1);obtain⟨cf,iY,m7,_⟩:=I.list (bS.of h2);refine SeqAt.EqAt.of_refs c ?_;by_cases l:xs.length=ys.length
    . have g := SeqAt.RcAt.lists (A := A) (s := s) (e := e) pl.isList m7.isList (by rw[ab0, ab0, <- rv.length, <- iY.length]; exact l) (by lia) fun j j1 j2 => by
        obtain⟨x,hx,rx⟩:=item_at rv j1;obtain⟨y,hy,ry⟩:=item_at iY j2;exact ih j x y hx hy (by show A.units+1+k < cLine;lia) rx ry
      rw[ab0,<-rv.length] at g;rw[<-l,Nat.min_self,aj0,ar7];exact g
    . have n:(xs.length==ys.length)=false:=by simpa using l
      rw[n,Bool.and_false];exact SeqAt.RcAt.lists_lengths pl.isList m7.isList (by rw[ab0,ab0,<-rv.length,<-iY.length];simpa using l) (by lia)
end L2
namespace LD
open PySem PySem.Spec L2 LB PyProof.Rows
noncomputable def pG:Nat->Dt->Dt->Bool
 | k+1,.lst ds,.lst es=>(List.range (min ds.length es.length)).all (fun j=>pG k (ds.getD j .aF) (es.getD j .aF)) && ds.length==es.length
 | k+1,.tup ds,.tup es=>(List.range (min ds.length es.length)).all (fun j=>pG k (ds.getD j .aF) (es.getD j .aF)) && ds.length==es.length
 | _,d,e=>C4 d e
inductive Hj:Nat->Dt->Dt->Prop
 | flat {k:Nat} {d e:Dt}:cw d=true->cw e=true->Hj k d e
 | tup {k:Nat} {ds es:List Dt}:(∀(j:Nat) d e,ds[j]?=some d->es[j]?=some e->Hj k d e)->Hj (k+1) (.tup ds) (.tup es)
 | lst {k:Nat} {ds es:List Dt}:(∀(j:Nat) d e,ds[j]?=some d->es[j]?=some e->Hj k d e)->Hj (k+1) (.lst ds) (.lst es)
theorem CY(h:cw d=true)(h2:cw e=true):pG k d e=C4 d e:=by
 cases k with
 | zero=>unfold pG;rfl
 | succ k=>cases d <;> cases e <;> first | (unfold pG;rfl) | cases h | cases h2
theorem LQ(z:Hj k d e): ∀{v w:V},Rep M H v d->Rep M H w e->wD H k v w (pG k d e):=by
 induction z with
 | flat f1 f2=>
  intro v w r1 r2;rw[CY f1 f2,<-mq r1 r2 f1 f2];exact .flat (hG r1 f1) (hG r2 f2)
 | @tup k ds es _ ih=>
  intro v w r1 r2;obtain⟨p,xs,rfl,h1,_,rr⟩:=r1.bQ;obtain⟨q,ys,rfl,h2,_,sA⟩:=r2.bQ;show wD H (k+1) _ _ ((List.range (min ds.length es.length)).all (fun j=>pG k (ds.getD j .aF) (es.getD j .aF)) && ds.length==es.length);rw[<-rr.1,<-sA.1];refine .tup h1 h2 fun j x y hx hy=>?_;have l1:j < ds.length:=by rw[<-rr.1];exact(aa5.mp hx).1
  have l2:j < es.length:=by rw[<-sA.1];exact(aa5.mp hy).1
  rw[show ds.getD j .aF=ds[j] by simp [List.getD,l1],show es.getD j .aF=es[j] by simp [List.getD,l2]];exact ih j _ _ (aa2 l1) (aa2 l2) (rr.2 j _ _ hx (aa2 l1)) (sA.2 j _ _ hy (aa2 l2))
 | @lst k ds es _ ih=>
  intro v w r1 r2;obtain⟨p,xs,rfl,h1,_,rr⟩:=r1.bV;obtain⟨q,ys,rfl,h2,_,sA⟩:=r2.bV;show wD H (k+1) _ _ ((List.range (min ds.length es.length)).all (fun j=>pG k (ds.getD j .aF) (es.getD j .aF)) && ds.length==es.length);rw[<-rr.1,<-sA.1];refine .lst h1 h2 fun j x y hx hy=>?_;have l1:j < ds.length:=by rw[<-rr.1];exact(aa5.mp hx).1
  have l2:j < es.length:=by rw[<-sA.1];exact(aa5.mp hy).1
  rw[show ds.getD j .aF=ds[j] by simp [List.getD,l1],show es.getD j .aF=es[j] by simp [List.getD,l2]];exact ih j _ _ (aa2 l1) (aa2 l2) (rr.2 j _ _ hx (aa2 l1)) (sA.2 j _ _ hy (aa2 l2))
end LD
namespace L2
open PySem PySem.Spec LB PyProof.Rows
section
variable{X:Cx}
def JV(k:Nat)(neg:Bool):R2:=fun x y H Q=> ∃p q b,x= .ref p/\y= .ref q/\wD H (k+1) (.ref p) (.ref q) b/\Q (.bl (if neg then !b else b)) H
theorem Kd(hu:X.A.units+(k+1) < cLine):iR X (compareOp .Eq) (JV k false):=by
 intro pins s σ H x y v u Q I rx ry h;obtain⟨p,q,b,rfl,rfl,hc,hq⟩:=h;cases rx;cases ry;cases hc with
 | flat f1 _=>cases f1
 | @tup _ _ _ xs ys e h1 h2 hc=>
  obtain⟨ao,rv,pl,_⟩:=I.tuple (dB.of h1);obtain⟨cf,iY,m7,_⟩:=I.tuple (dB.of h2);have g:=SeqAt.RcAt.tuples (A:=X.A) (s:=s) (e:=e) (show s.heap.IsTuple p _ from pl) (show s.heap.IsTuple q _ from m7) (by lia) fun j j1 j2=>by
   obtain⟨x,hx,rx⟩:=item_at rv j1;obtain⟨y,hy,ry⟩:=item_at iY j2;exact(hc j x y hx hy).at I (by show X.A.units+1+k < cLine;lia) rx ry
  rw[ab0,ab0,<-rv.length,<-iY.length] at g;exact g _ _ _ _ ⟨.bl _,H,I,rfl,hq⟩
 | @lst _ _ _ xs ys e h1 h2 hc=>
  obtain⟨ao,rv,pl,_⟩:=I.list (bS.of h1);obtain⟨cf,iY,m7,_⟩:=I.list (bS.of h2);by_cases l:xs.length=ys.length
  . have g := SeqAt.RcAt.lists (A := X.A) (s := s) (e := e) pl.isList m7.isList (by rw[ab0, ab0, <- rv.length, <- iY.length]; exact l) (by lia) fun j j1 j2 => by
      obtain⟨x,hx,rx⟩:=item_at rv j1;obtain⟨y,hy,ry⟩:=item_at iY j2;exact(hc j x y hx hy).at I (by show X.A.units+1+k < cLine;lia) rx ry
    rw[ab0,<-rv.length] at g;rw[<-l,Nat.min_self,aj0,ar7] at hq;exact g _ _ _ _ ⟨.bl _,H,I,rfl,hq⟩
  . have n:(xs.length==ys.length)=false:=by simpa using l
    rw[n,Bool.and_false] at hq;exact(SeqAt.RcAt.lists_lengths pl.isList m7.isList (by rw[ab0,ab0,<-rv.length,<-iY.length];simpa using l) (by lia)) _ _ _ _ ⟨.bl _,H,I,rfl,hq⟩
theorem Kc(hu:X.A.units+(k+1) < cLine):iR X (compareOp .NotEq) (JV k true):=by
 intro pins s σ H x y v u Q I rx ry h;obtain⟨p,q,b,rfl,rfl,hc,hq⟩:=h;cases rx;cases ry;cases hc with
 | flat f1 _=>cases f1
 | @tup _ _ _ xs ys e h1 h2 hc=>
  obtain⟨ao,rv,pl,_⟩:=I.tuple (dB.of h1);obtain⟨cf,iY,m7,_⟩:=I.tuple (dB.of h2);have g:=SeqAt.RcNeAt.tuples (A:=X.A) (s:=s) (e:=e) (show s.heap.IsTuple p _ from pl) (show s.heap.IsTuple q _ from m7) (by lia) fun j j1 j2=>by
   obtain⟨x,hx,rx⟩:=item_at rv j1;obtain⟨y,hy,ry⟩:=item_at iY j2;exact(hc j x y hx hy).at I (by show X.A.units+1+k < cLine;lia) rx ry
  rw[ab0,ab0,<-rv.length,<-iY.length] at g;exact g _ _ _ _ ⟨.bl _,H,I,rfl,hq⟩
 | @lst _ _ _ xs ys e h1 h2 hc=>
  obtain⟨ao,rv,pl,_⟩:=I.list (bS.of h1);obtain⟨cf,iY,m7,_⟩:=I.list (bS.of h2);by_cases l:xs.length=ys.length
  . have g := SeqAt.RcNeAt.lists (A := X.A) (s := s) (e := e) pl.isList m7.isList (by rw[ab0, ab0, <- rv.length, <- iY.length]; exact l) (by lia) fun j j1 j2 => by
      obtain⟨x,hx,rx⟩:=item_at rv j1;obtain⟨y,hy,ry⟩:=item_at iY j2;exact(hc j x y hx hy).at I (by show X.A.units+1+k < cLine;lia) rx ry
    rw[ab0,<-rv.length] at g;rw[<-l,Nat.min_self,aj0,ar7] at hq;exact g _ _ _ _ ⟨.bl _,H,I,rfl,hq⟩
  . have n:(xs.length==ys.length)=false:=by simpa using l
    rw[n,Bool.and_false] at hq;exact(SeqAt.RcNeAt.lists_lengths pl.isList m7.isList (by rw[ab0,ab0,<-rv.length,<-iY.length];simpa using l) (by lia)) _ _ _ _ ⟨.bl _,H,I,rfl,hq⟩
end
end L2
namespace LD
open PySem PySem.Spec L2 LB PyProof.Rows
section
variable{X:Cx}{a b e:Expr}{ta tb t:bh}{tA:eZ}{pos p apos aY:Pos}
inductive Ef(k:Nat)(neg:Bool)(d1 d2:Dt)(Q:Dt->Prop):Prop
 | mk (h1:cw d1=false) (h2:Hj (k+1) d1 d2) (h3:Q (.bl (if neg then !pG (k+1) d1 d2 else pG (k+1) d1 d2)))
theorem Dg:wC (JV k neg) (Ef k neg):=fun M H x y d1 d2 Qd Q al r1 r2 zz k'=>(by
 obtain⟨h1,h2,q⟩:=zz;have c:=LQ h2 r1 r2;have rf: ∃p q,x= .ref p/\y= .ref q:=by
  cases h2 with
  | flat f1 _=>rw[f1] at h1;cases h1
  | tup _=>obtain⟨p,_,e,_⟩:=r1.bQ;obtain⟨q,_,e2,_⟩:=r2.bQ;exact⟨p,q,e,e2⟩
  | lst _=>obtain⟨p,_,e,_⟩:=r1.bV;obtain⟨q,_,e2,_⟩:=r2.bV;exact⟨p,q,e,e2⟩
 obtain⟨p,q',rfl,rfl⟩:=rf;exact⟨p,q',_,rfl,rfl,c,k' H _ _ q (fun _ _ z=>z) (.bl _)⟩)
theorem Pj(k:Nat)(hu:X.A.units+(k+1) < cLine)(ha:Ev X a ta)(hb:Ev X b tb):Ev X (.Compare a [.Eq] [b] pos) (lQ (Ef k false) ta tb):=xV (Kd hu) Dg ha hb (cQ _)
theorem M9(k:Nat)(hu:X.A.units+(k+1) < cLine)(ha:Ev X a ta)(hb:Ev X b tb):Tv X (.Compare a [.NotEq] [b] pos) (dT (lQ (Ef k true) ta tb)):=hV (Kc hu) Dg ha hb (cQ _)
end
end LD
namespace yf
open PySem PySem.Spec PyProof.Rows
def Q2(h base:Heap)(e:Addr)(cls a0:Value)(dc:Option Addr)(fl:Value):Prop:=
 ∃oe vs T oT ts,h.get? e=some oe/\oe.cls=cls/\oe.dict=dc/\vs[0]?=some a0/\oe.data= .fields vs/\vs[1]?=some (.ref T)/\base.get? T=none/\T≠e/\h.get? T=some oT/\oT.data= .fields ts/\ts[3]?=some fl
structure ML(base:Heap)(l:List Env)(e:Addr)(cls a0:Value)(dc:Option Addr)(fl:Value)(h h':Heap):Prop where
 st:base.StaysIn h'
 ff:h'.FunFrames base l
 tr:Q2 h' base e cls a0 dc fl
 sl:h.UpToSlots h'
section
variable{M:Model}{A:Around}{E:Value->Shared->Prop}{s:Shared}{base:Heap}{env:Env}{outer l:List Env}{L e:Addr}{oe:Obj}{vs:Array Value}{head cls a0 fl:Value}{dc:Option Addr}{Q:Unit->Shared->Prop}
theorem Dk(f:Array Value->Array Value)(o:Obj):(Obj.mapFields f o).dict=o.dict:=by
 unfold Obj.mapFields;split <;> rfl
theorem C8(lh:A.frames=some (env::outer))(hl:s.heap.FunFrames base (env::outer))(hf:env.frame=some L)(he:s.heap.get? e=some oe)(vE:base.StaysIn s.heap)(Ir:base.get? e=none)(hd:oe.data= .fields vs)(hsz:1 < vs.size)(h0:vs[0]?=some a0)(h: ∀h',ML base (env::outer) e oe.cls a0 oe.dict (rawInt L) s.heap h'->Q () {s with heap:=h'}):
  wpAny M A (do let a<-frameOf env;let pl<-entryPlaceOf L QM;let b<-EntryCells.newEntry head a .none (rawInt L) .none pl;setField (.ref e) 1 b) Q E s:=by
 have Tj:e∉(env::outer).filterMap (·.frame):=fun hm=>by
  obtain⟨_,o,ho,pf⟩:=hl.mem hm;rw[he] at ho;injection ho with ho;subst ho;exact pf vs hd
 refine aa0 (wpAny_frameOf_fun lh hl hf fun h₁ dG=>?_);refine aa0 (wpAny_entryPlaceOf fun pl da=>?_);unfold EntryCells.newEntry newFields;refine aa0 (ag6 ?_ (da.sizeOk5 _ _ _ _ _));have Iq:h₁.get? e=some oe:=(dG.2.1 e Tj).trans he;have Ic:base.StaysIn h₁:=fun b o vI=>(dG.2.1 b fun hm=>by rw[(hl.mem hm).1] at vI;cases vI).trans (vE b o vI);generalize Vh:({cls:= .type "traceback",dict:=none,data:= .fields ([head,.ref L,.none,rawInt L,.none]++(if pl.isEmpty then List.replicate 6 Value.none else pl)).toArray}:Obj)=ob;have Yq:ob.data= .fields ([head,.ref L,.none,rawInt L,.none]++(if pl.isEmpty then List.replicate 6 Value.none else pl)).toArray:=by rw[<-Vh]
 have Ip:=aa3 (h:=h₁) ob Iq;refine aq1 Ip hd hsz (h _ ?_);have K8:h₁.objs.size≠e:=am5 (ac2 Iq);have Iu:=an5 hd (·.setIfInBounds 1 (Value.ref h₁.objs.size));have OZ:=ai1 (Obj.mapFields (·.setIfInBounds 1 (Value.ref h₁.objs.size))) Ip (Obj.isFreed_of_fields Iu);have O5:=(af5 (h₁.push ob) (Obj.mapFields (·.setIfInBounds 1 (Value.ref h₁.objs.size))) (Ne.symm K8)).trans (ab6 h₁ (by rw[<-Vh];rfl));have keep: ∀b o,b≠e->h₁.get? b=some o->((h₁.push ob).update e (Obj.mapFields (·.setIfInBounds 1 (Value.ref h₁.objs.size)))).get? b=some o:=fun b o Gx hb=>by
  rw[af5 _ _ (Ne.symm Gx)];exact aa3 _ hb
 have dr: ∀b o,s.heap.get? b=some o->(∀vs,o.data≠ .fields vs)->b≠e:=fun b o hb pf q=>by
  rw[q,he] at hb;injection hb with hb;subst hb;exact pf vs hd
 refine⟨fun b o vI=>keep b o (fun q=>by rw[q,Ir] at vI;cases vI) (Ic b o vI),hl.of_keeps fun b o hb pf=>?_,?_,fun b o hb pf=>?_⟩
 . obtain⟨sl,hs⟩:=dG.2.2 b o hb;exact⟨_,keep b _ (dr b o hb pf) hs,rfl⟩
 . exact⟨_,_,h₁.objs.size,ob,_,OZ,Obj.cls_mapFields _ _,Dk _ _,by rw[Array.getElem?_setIfInBounds_ne (by decide)];exact h0,Iu,by simp [hsz],Ic.fresh,K8,O5,Yq,by simp⟩
 . obtain⟨sl,hs⟩:=dG.2.2 b o hb;exact⟨sl,keep b _ (dr b o hb pf) hs⟩
theorem qU(vE:base.StaysIn s.heap)(hl:s.heap.FunFrames base l)(ht:Q2 s.heap base e cls a0 dc fl)
  (h: ∀h',ML base l e cls a0 dc .none s.heap h'->Q () {s with heap:=h'}):wpAny M A (setFlight (.ref e) none) Q E s:=by
 obtain⟨oe,vs,T,oT,ts,he,vH,Gu,h0,hd,h1,QE,K8,hT,Iw,h3⟩:=ht;have OE:3 < ts.size:=(am0.mp h3).1;have other: ∀b,b≠T->(s.heap.update T (Obj.mapFields (·.setIfInBounds 3 ((none:Option Addr).elim Value.none fun f=>rawInt f)))).get? b=s.heap.get? b:=fun b hb=>af5 _ _ (Ne.symm hb);have dr: ∀b o,s.heap.get? b=some o->(∀vs,o.data≠ .fields vs)->b≠T:=fun b o hb pf q=>by
  rw[q,hT] at hb;injection hb with hb;subst hb;exact pf ts Iw
 unfold setFlight;refine aa0 (ag4 he hd h1 ?_);rw[if_pos (show(Value.ref T !=Value.none)=true from by simp)];refine aq1 hT Iw OE (h _ ⟨fun b o vI=>(other b fun q=>by rw[q,QE] at vI;cases vI).trans (vE b o vI),hl.of_keeps fun b o hb pf=>⟨o,(other b (dr b o hb pf)).trans hb,rfl⟩,?_,fun b o hb pf=>⟨o.slots,(other b (dr b o hb pf)).trans hb⟩⟩);exact⟨oe,vs,T,_,_,(other e (Ne.symm K8)).trans he,vH,Gu,h0,hd,h1,QE,K8,ai1 _ hT (Obj.isFreed_of_fields (an5 Iw _)),an5 Iw _,by simp [OE]⟩
theorem HX(lh:A.frames=some (env::outer))(hl:s.heap.FunFrames base (env::outer))(hf:env.frame=some L)(ht:Q2 s.heap base e cls a0 dc .none)(vE:base.StaysIn s.heap)(Ir:base.get? e=none)
  (h: ∀h',ML base (env::outer) e cls a0 dc (rawInt L) s.heap h'->Q () {s with heap:=h'}):wpAny M A (noteFrame (.ref e) env) Q E s:=by
 obtain⟨oe,vs,T,oT,ts,he,vH,Gu,h0,hd,h1,QE,K8,hT,Iw,h3⟩:=ht;subst vH Gu;unfold noteFrame;simp only [hf];refine aa0 (ag4 he hd h1 ?_);rw[if_pos (show(Value.ref T !=Value.none)=true from by simp)];refine aa0 (ag4 hT Iw h3 ?_);rw[if_neg (show¬((Value.none==rawInt L)=true) from by simp [rawInt])];refine aa0 (aq1 hT Iw (am0.mp h3).1 ?_);have other: ∀b,b≠T->(s.heap.update T (Obj.mapFields (·.setIfInBounds 3 Value.none))).get? b=s.heap.get? b:=fun b hb=>af5 _ _ (Ne.symm hb);have dr: ∀b o,s.heap.get? b=some o->(∀vs,o.data≠ .fields vs)->b≠T:=fun b o hb pf q=>by
  rw[q,hT] at hb;injection hb with hb;subst hb;exact pf ts Iw
 refine C8 lh (hl.of_keeps fun b o hb pf=>⟨o,(other b (dr b o hb pf)).trans hb,rfl⟩) hf ((other e (Ne.symm K8)).trans he)
  (fun b o vI=>(other b fun q=>by rw[q,QE] at vI;cases vI).trans (vE b o vI)) Ir hd (am0.mp h1).1 h0
  fun h' x=>h h' ⟨x.st,x.ff,x.tr,fun b o hb pf=>x.sl b o ((other b (dr b o hb pf)).trans hb) pf⟩
theorem Kk(lh:A.frames=some (env::outer))(hl:s.heap.FunFrames base (env::outer))(hf:env.frame=some L)
  (he:s.heap.get? e=some oe) (vE:base.StaysIn s.heap) (Ir:base.get? e=none) (hd:oe.data= .fields vs) (h1:vs[1]?=some .none) (h0:vs[0]?=some a0)
  (h: ∀h',ML base (env::outer) e oe.cls a0 oe.dict (rawInt L) s.heap h'->Q () {s with heap:=h'}):wpAny M A (noteFrame (.ref e) env) Q E s:=by
 unfold noteFrame;simp only [hf];refine aa0 (ag4 he hd h1 ?_);rw[if_neg (by decide)];exact C8 lh hl hf he vE Ir hd (am0.mp h1).1 h0 h
structure iJ(base:Heap)(l:List Env)(e:Addr)(cls a0:Value)(dc:Option Addr)(fl:Value)(h:Heap):Prop where
 st:base.StaysIn h
 nw:base.get? e=none
 ff:h.FunFrames base l
 tr:Q2 h base e cls a0 dc fl
theorem ML.QP(x:ML base l e cls a0 dc fl h h')(n:base.get? e=none):iJ base l e cls a0 dc fl h':=⟨x.st,n,x.ff,x.tr⟩
theorem iJ.up(x:iJ base (env::outer) e cls a0 dc fl h):iJ base outer e cls a0 dc fl h:=⟨x.st,x.nw,x.ff.2.2,x.tr⟩
theorem leaveX(lh:A.frames=some (env::outer))(hf:env.frame=some L)(fx:iJ base (env::outer) e cls a0 dc .none s.heap)
  (hQ: ∀h',iJ base outer e cls a0 dc .none h'->s.heap.UpToSlots h'->Q () {s with heap:=h'}):wpAny M A (leaving env (.ref e)) Q E s:=by
 unfold leaving;refine aa0 (HX lh fx.ff hf fx.tr fx.st fx.nw fun h1 x1=>?_);exact qU x1.st x1.ff x1.tr fun h2 x2=>hQ h2 (x2.QP fx.nw).up (x1.sl.trans x2.sl)
theorem F7(lh:A.frames=some (env::outer))(hf:env.frame=some L)(hl:s.heap.FunFrames base (env::outer))(he:s.heap.get? e=some oe)(vE:base.StaysIn s.heap)(Ir:base.get? e=none)(hd:oe.data= .fields vs)(h1:vs[1]?=some .none)(h0:vs[0]?=some a0)
  (hQ: ∀h',iJ base outer e oe.cls a0 oe.dict .none h'->s.heap.UpToSlots h'->Q () {s with heap:=h'}):wpAny M A (leaving env (.ref e)) Q E s:=by
 unfold leaving;refine aa0 (Kk lh hl hf he vE Ir hd h1 h0 fun h1 x1=>?_);exact qU x1.st x1.ff x1.tr fun h2 x2=>hQ h2 (x2.QP Ir).up (x1.sl.trans x2.sl)
theorem Og(lh:A.frames=some (env::outer))(hf:env.frame=some L)(fx:iJ base (env::outer) e cls a0 dc .none s.heap)
  (hQ: ∀h',iJ base (env::outer) e cls a0 dc (rawInt L) h'->s.heap.UpToSlots h'->Q () {s with heap:=h'}):wpAny M A (noteFrame (.ref e) env) Q E s:=
 HX lh fx.ff hf fx.tr fx.st fx.nw fun h1 x1=>hQ h1 (x1.QP fx.nw) x1.sl
theorem HZ(fx:iJ base l e cls a0 dc fl s.heap)(hQ: ∀h',iJ base l e cls a0 dc .none h'->s.heap.UpToSlots h'->Q () {s with heap:=h'}):wpAny M A (setFlight (.ref e) none) Q E s:=
 qU fx.st fx.ff fx.tr fun h1 x1=>hQ h1 (x1.QP fx.nw) x1.sl
end
end yf
namespace LX
open PySem PySem.W PySem.Spec PySem.Calls PyProof.Rows
section
variable{prog:Program}{w:World}{A:Around}{E:Value->Shared->Prop}{h:Heap}{g:Array GenState}{d:Drawn}{t:Nat}{os:OsState}{K:Frag}{x D dx:Addr}{ox:Obj}{mA:Str->Option Value}{name:Str}{v:Value}{cd:ClassData}
theorem sN(X:K.In h)(hx:h.get? x=some ox)(hc:ox.cls= .ref D)(jm:ox.dict=some dx)(hn:h.Ns1 dx mA)(hv:mA name=some v)(kL:findIn K (.ref D) name=some none)(jo:clsIn K D=some cd)(hh:cd.hasDict=true)(hd:ox.data= .fields fs)(hq:Q (.done (.ret v)) ⟨h,g,d,t,os⟩):wpAny (model prog w) A (Builtin.«object.__getattribute__» ⟨[.ref x,.str name tk],[]⟩) Q E ⟨h,g,d,t,os⟩:=by
 have L1: ∀{A:Around} {E:Value->Shared->Prop} {Q:Option Value->Shared->Prop},Q none ⟨h,g,d,t,os⟩->wpAny (model prog w) A (typeLookup (.ref D) name) Q E ⟨h,g,d,t,os⟩:=fun q=>(ao2 (M:=model prog w) X kL).at q;have L2: ∀{A:Around} {E:Value->Shared->Prop} {Q:ClassData->Shared->Prop},Q cd ⟨h,g,d,t,os⟩->wpAny (model prog w) A (classData D) Q E ⟨h,g,d,t,os⟩:=fun q=>(looks_clsIn (M:=model prog w) X jo).at q;repeat (any_goals (first | assumption | (with_reducible refine ag7 hx ?_;rw[hc]) | with_reducible refine L1 ?_ | with_reducible refine L2 ?_ | wp_step))
 rw[hd];show wpAny _ _ (instanceDict x false) _ _ _;unfold instanceDict;refine aa0 (ag7 hx ?_);rw[hc,jm];refine aa0 (L2 ?_);rw[hh];rw[if_neg (by decide)];refine aa7 ?_;show wpAny _ _ (Builtin.ObjectAttr.inDict name (some dx)) _ _ _;refine wpAny_nsGet hn.ns ?_;rw[hv];repeat (any_goals (first | assumption | wp_step))
theorem u7(X:K.In h)(hx:h.get? x=some ox)(hc:ox.cls= .ref D)(jm:ox.dict=some dx)(hn:h.Ns1 dx mA)(hv:mA name=some v)(kL:findIn K (.ref D) name=some none)(jo:clsIn K D=some cd)(hh:cd.hasDict=true)(hd:ox.data= .fields fs)(zG:mroIn K D (.type "BaseException")=some true)(vG:Slot "BaseException" "__getattribute__" "BaseException.__getattribute__")(hq:R (.ok (.ret v)) ⟨h,g,d,t,os⟩):
  codeAny (model prog w) A (.call (.builtin "BaseException.__getattribute__") ⟨[.ref x,.str name tk],[]⟩) R ⟨h,g,d,t,os⟩:=
 ak7 vG.plain F.entry_bexc_ga (pF X hx hc zG (sN X hx hc jm hn hv kL jo hh hd hq))
theorem BD{fill expr:Bool}(X:K.In h)(hx:h.get? x=some ox)(hc:ox.cls= .ref D)(jm:ox.dict=some dx)(hn:h.Ns1 dx mA)(hv:mA name=some v)(kL:findIn K (.ref D) name=some none)(jo:clsIn K D=some cd)(hh:cd.hasDict=true)(hd:ox.data= .fields fs)(zG:mroIn K D (.type "BaseException")=some true)(vG:Slot "BaseException" "__getattribute__" "BaseException.__getattribute__")(hf:findIn K (.ref D) "__getattribute__"=some (some (.builtin "BaseException.__getattribute__")))(nF:findIn K (.ref D) "__getattr__"=some none)(SN: ∀id,v≠ .builtin id)(hq:Q v ⟨h,g,d,t,os⟩):
  wpAny (model prog w) A (getAttrBy (.ref x) (.str name tk) fill expr) Q E ⟨h,g,d,t,os⟩:=by
 have f3:=vG.bind (.ref x);have XO:(expr && onTheHeap (Value.builtin "BaseException.__getattribute__"))=false:=by cases expr <;> rfl
 have SJ:(Value.builtin "BaseException.__getattribute__"==Value.builtin "object.__getattribute__")=false:=by decide+kernel
 have XN:(onTheHeap (Value.ref D) && Value.builtin "BaseException.__getattribute__"==Value.builtin "object.__getattribute__")=false:=by rw[SJ];rfl
 have L1: ∀{A:Around} {E:Value->Shared->Prop} {Q:Option Value->Shared->Prop},Q (some (.builtin "BaseException.__getattribute__")) ⟨h,g,d,t,os⟩->wpAny (model prog w) A (typeLookup (.ref D) "__getattribute__") Q E ⟨h,g,d,t,os⟩:=fun q=>(ao2 (M:=model prog w) X hf).at q;have L2: ∀{A:Around} {E:Value->Shared->Prop} {Q:Option Value->Shared->Prop},Q none ⟨h,g,d,t,os⟩->wpAny (model prog w) A (typeLookup (.ref D) "__getattr__") Q E ⟨h,g,d,t,os⟩:=fun q=>(ao2 (M:=model prog w) X nF).at q;repeat (any_goals (first | assumption | (with_reducible refine ag7 hx ?_;rw[hc]) | with_reducible refine L1 ?_ | with_reducible refine L2 ?_ | wp_step))
 refine u7 X hx hc jm hn hv kL jo hh hd zG vG ?_;repeat (any_goals (first | assumption | wp_step))
 split
 . rename_i id;exact absurd rfl (SN id)
 . exact aa7 hq
theorem yT(X:K.In h)(hx:h.get? x=some ox)(hc:ox.cls= .ref D)(jm:ox.dict=some dx)(hn:h.Ns1 dx mA)(hv:mA name=some v)(kL:findIn K (.ref D) name=some none)(jo:clsIn K D=some cd)(hh:cd.hasDict=true)(hd:ox.data= .fields fs)(zG:mroIn K D (.type "BaseException")=some true)(vG:Slot "BaseException" "__getattribute__" "BaseException.__getattribute__")(hf:findIn K (.ref D) "__getattribute__"=some (some (.builtin "BaseException.__getattribute__")))(nF:findIn K (.ref D) "__getattr__"=some none)(SN: ∀id,v≠ .builtin id)(hq:Q v ⟨h,g,d,t+1,os⟩):
  wpAny (model prog w) A (getAttr (.ref x) name expr) Q E ⟨h,g,d,t,os⟩:=
 aa0 (wpAny_mkText (BD X hx hc jm hn hv kL jo hh hd zG vG hf nF SN hq))
end
end LX
namespace L2
open PySem PySem.Spec PyProof.Rows yf
def oP(P:Program)(w:World):ED:=fun outer H s E e s'=> ∃(ea t dx:Addr) (cls:Value) (args:List Value) (H':Hp) (B:Heap),e= .ref ea/\s'.os=s.os/\AllBare s'.gens/\Un (fb outer) [] H H' s.heap s'.heap/\gq P w H' s'.heap/\
 iJ B outer ea cls (.ref t) (some dx) .none s'.heap/\(∀b o,s'.heap.get? b=some o->b∉fb outer->((H' b).isSome=true\/(s.heap.get? b).isSome=true)->B.get? b=some o)/\s'.heap.TupAt t args/\B.get? t=none/\H' ea=none/\E cls (some dx) H'
theorem vw(I:Inv X pins σ H s)(kh:X.stack=X.env::X.outer)(lh:X.env.frame=some X.env.locals)(hex:X.ex= [])(he:s.heap.get? ea=some oe)(kL:oe.cls=cls)(Gu:oe.dict=some dx)(QJ:oe.data= .fields #[.ref t, .none, .none, .none, .bool false, .none])(ht:s.heap.TupAt t args)(N7:H ea=none)(nt:H t=none)(YO:X.s₀.heap.get? ea=none)(ft:X.s₀.heap.get? t=none)(q:E cls (some dx) H):
  wpAny (model X.prog X.w) X.A (leaving X.env (.ref ea)) (fun _ Ff=>oP X.prog X.w X.outer X.H₀ X.s₀ E (.ref ea) Ff) E' s:=by
 have hS:s.heap.FunFrames X.base (X.env::X.outer):=by have:=I.stack;rwa [kh] at this
 have lb: ∀b∈fb (X.env::X.outer),H b=none:=by have:=I.ju;rwa [kh] at this
 have Yh: ∀env∈(X.env::X.outer),∀b,env.frame=some b->b∈ea::t::fb (X.env::X.outer):=fun env he b hb=>ab5 _ (ab5 _ (aj4.mpr ⟨env,he,hb⟩));have S9: ∀b,b∈ea::t::fb (X.env::X.outer)->H b=none:=fun b hb=>by
  rcases ac3.mp hb with rfl | hb
  . exact N7
  rcases ac3.mp hb with rfl | hb
  . exact nt
  . exact lb b hb
 have hh: ∀b∈ea::t::fb (X.env::X.outer),(PySem.W.hideAll s.heap (ea::t::fb (X.env::X.outer))).get? b=none:=fun b hb=>PySem.W.hideAll_none _ hb;refine F7 (base:=PySem.W.hideAll s.heap (ea::t::fb (X.env::X.outer))) (a0:= .ref t) (by rw[<-kh];exact I.ok.frames) lh (PySem.W.funFrames_hide hS Yh) he (fun b o e=>PySem.W.of_hideAll _ e) (hh ea ab3) QJ rfl rfl fun h' fl sl=>?_;rw[kL,Gu] at fl;have fN: ∀b o,s.heap.get? b=some o->b∉ea::t::fb (X.env::X.outer)->h'.get? b=some o:=fun b o e n=>fl.st b o (PySem.W.hideAll_get _ e n);have Kl: ∀b o,X.s₀.heap.get? b=some o->b∉fb X.outer->b∉ea::t::fb (X.env::X.outer):=fun b o e n z=>by
  rcases ac3.mp z with rfl | z
  . rw[YO] at e;cases e
  rcases ac3.mp z with rfl | z
  . rw[ft] at e;cases e
  rcases aj4.mp z with ⟨env,he,hf⟩
  rcases ac3.mp he with rfl | he
  . rw[lh] at hf;have l1:=ac2 e;have l2:=I.ok.above;have l3:X.env.locals=b:=Option.some.inj hf;rw[l3] at l2;exact absurd l1 (Nat.not_lt.mpr l2)
  . exact n (aj4.mpr ⟨env,he,hf⟩)
 have aI:gq X.prog X.w H h':=fun a o e=>(I.aI a o e).fN (fun b u hb qb=>fN b u qb fun z=>by
   rcases hb with rfl | hb
   . rw[S9 b z] at e;cases e
   . rw[S9 b z] at hb;cases hb) (fun _ q=>q) fun _ _ q=>q
 refine⟨ea,t,dx,cls,args,H,PySem.W.hideAll s.heap (ea::t::fb (X.env::X.outer)),rfl,I.os,I.bare,?_,aI,fl,fun b o e n hb=>?_,ht.of_slots sl,hh t (ab5 _ ab3),N7,q⟩
 . have nx: ∀b:Addr,b∉X.ex:=fun b z=>by rw[hex] at z;cases z
   refine⟨fun b o e n hb _=>fN b o (I.base.keep b o e n hb (nx b)) (Kl b o e hb),fun b o e n hb _=>?_,fun b o e n _=>I.base.free b o e n (nx b),fun b o e _=>?_,I.base.kn,I.base.jP,I.base.kq⟩
   . obtain⟨sl0,k⟩:=I.base.slot b o e n hb (nx b);obtain⟨_,o2,ki,hd2⟩:=I.ok.i7.mem hb;rw[e] at ki;cases ki;obtain⟨Nw,k2⟩:=sl b _ k hd2;exact⟨Nw,k2⟩
   . by_cases hb:b∈fb X.outer
     . obtain⟨_,o2,ki,_⟩:=fl.ff.mem hb;exact⟨o2,ki⟩
     . obtain⟨o',k⟩:=I.base.there b o e (nx b);exact⟨o',fN b o' k (Kl b o e hb)⟩
 . have fin : ∀ u, s.heap.get? b = some u -> b ∉ ea :: t :: fb (X.env :: X.outer) -> (PySem.W.hideAll s.heap (ea :: t :: fb (X.env :: X.outer))).get? b = some o := fun u k m => by
     have:=fN b u k m;rw[e] at this;cases this;exact PySem.W.hideAll_get _ k m
   rcases hb with hb | hb
   . obtain⟨z,hz⟩:=ag2.mp hb;obtain⟨u,k⟩:=hasObj (I.aI b z hz);exact fin u k fun y=>by rw[S9 b y] at hz;cases hz
   . obtain⟨z,hz⟩:=ag2.mp hb;have hz:X.s₀.heap.get? b=some z:=hz;obtain⟨u,k⟩:=I.base.there b z hz (by rw[hex];simp);exact fin u k (Kl b z hz n)
end L2
namespace LX
open PySem
def nJ(x C dx:Addr)(h:Heap):Prop:= ∃ox fs,h.get? x=some ox/\ox.cls= .ref C/\ox.dict=some dx/\ox.data= .fields fs
end LX
namespace L2
open PySem PySem.Spec PyProof.Rows yf
structure jk(X:Cx)(H:Hp)(s:Shared)(ea t dx:Addr)(cls:Value)(H':Hp)(B:Heap)(s2:Shared):Prop where
 un:Un (fb X.stack) [] H H' s.heap s2.heap
 aI:gq X.prog X.w H' s2.heap
 PR:ig (fb X.stack) H' s.heap s2.heap B
 fl:iJ B X.stack ea cls (.ref t) (some dx) .none s2.heap
 os:s2.os=s.os
 bare:AllBare s2.gens
section
variable{X:Cx}{pins:List (Addr × Obj)}{σ:St}{H H':Hp}{s s2:Shared}{ea t dx:Addr}{cls:Value}{B:Heap}
theorem jk.free(I:Inv X pins σ H s)(a:jk X H s ea t dx cls H' B s2): ∀b∈fb X.stack,H' b=none:=fun b hb=>by
 obtain⟨_,o,ho,_⟩:=I.stack.mem hb;exact a.un.free b o ho (I.ju b hb) (by simp)
theorem jk.move(I:Inv X pins σ H s)(a:jk X H s ea t dx cls H' B s2)(fl:iJ B X.stack ea cls (.ref t) (some dx) .none h')(sl:s2.heap.UpToSlots h'):jk X H s ea t dx cls H' B {s2 with heap:=h'}:=by
 refine⟨HA a.un a.PR fl.st sl (fun b hb o e vs=>?_) (fun b hb o _=>?_),CA a.aI a.PR fl.st (a.free I),fun b o e n hb=>?_,fl,a.os,a.bare⟩
 . obtain⟨_,o2,ki,hd2⟩:=I.stack.mem hb;rw[e] at ki;cases ki;exact hd2 vs
 . obtain⟨_,o2,ki,_⟩:=fl.ff.mem hb;exact⟨o2,ki⟩
 . have Tp : ∃ o', s2.heap.get? b = some o' := by
     rcases hb with hb | hb
     . obtain⟨z,hz⟩:=ag2.mp hb;exact hasObj (a.aI b z hz)
     . obtain⟨z,hz⟩:=ag2.mp hb;exact a.un.there b z hz (by simp)
   obtain⟨o',vB⟩:=Tp;have cb:=a.PR b o' vB n hb;have k:=fl.st b o' cb;have e:h'.get? b=some o:=e;rw[e] at k;cases k;exact cb
theorem jk.apart(a:jk X H s ea t dx cls H' B s2):ea∉fb X.stack:=fun hb=>by
 obtain⟨_,o2,ki,hd2⟩:=a.fl.ff.mem hb;obtain⟨oe,vs,_,_,_,he,_,_,_,hd,_⟩:=a.fl.tr;rw[he] at ki;cases ki;exact hd2 vs hd
theorem jk.new(a:jk X H s ea t dx cls H' B s2):s.heap.get? ea=none:=by
 cases e:s.heap.get? ea with
 | none=>rfl
 | some o=>
  obtain⟨o',vB⟩:=a.un.there ea o e (by simp);have:=a.PR ea o' vB a.apart (.inr (by rw[e];rfl));rw[a.fl.nw] at this;cases this
theorem jk.none(a:jk X H s ea t dx cls H' B s2):H' ea= .none:=by
 cases e:H' ea with
 | none=>rfl
 | some z=>
  obtain⟨o',vB⟩:=hasObj (a.aI ea z e);have:=a.PR ea o' vB a.apart (.inl (by rw[e];rfl));rw[a.fl.nw] at this;cases this
theorem jk.inv(I:Inv X pins σ H s)(a:jk X H s ea t dx (.ref C) H' B s2):Inv X pins σ (upd H' ea (.ext (LX.nJ ea C dx))) s2:=by
 obtain⟨hp,g,d,tk,My⟩:=s2;obtain rfl:My=s.os:=a.os;have hn:=a.none;have ne: ∀b z,H' b=some z->b≠ea:=fun b z e q=>by rw[q,hn] at e;cases e
 refine I.call (h':=hp) (g':=g) (d':=d) (t':=tk) (ch:= []) ⟨a.un.keep,a.un.slot,fun b o e n x=>?_,a.un.there,fun b xs e=>?_,fun b o u e=>?_,fun b ps e=>?_⟩ (fun b o e=>?_) a.bare fun b z=>absurd z (by simp)
 . have hb:b≠ea:=fun q=>by rw[q] at e;rw[a.new] at e;cases e
   rw[ah hb];exact a.un.free b o e n x
 . have:=a.un.kn b xs e;rw[ah (ne b _ this)];exact this
 . have:=a.un.jP b o u e;rw[ah (ne b _ this)];exact this
 . obtain⟨more,this⟩:=a.un.kq b ps e;exact⟨more,by rw[ah (ne b _ this)];exact this⟩
 . by_cases q:b=ea
   . subst q;rw[ag] at e;cases e;obtain⟨ob,vs,_,_,_,h1,h2,h3,_,h4,_⟩:=a.fl.tr;exact⟨⟨ob,vs,h1,h2,h3,h4⟩,⟨ob,h1⟩,fun h1 h2 bZ k=>(by obtain⟨o,fs,e1,e2⟩:=bZ;exact(⟨o,fs,k o e1,e2⟩))⟩
   . rw[ah q] at e;refine(a.aI b o e).fN (fun _ _ _ z=>z) (fun c z=>?_) fun c xs z=>?_
     . rw[ah (ne c _ z)];exact z
     . rw[ah (ne c _ z)];exact z
def xN(K:PySem.W.Frag)(C0:Addr)(ts:TS)(D:Ends)(ie:Nat)(σ:St):XK:=fun cls oe H2=> ∃dx C,cls= .ref C/\oe=some dx/\PySem.W.exmOne K (.ref C) (.ref C0)=some true/\(∀ea,H2 ea=none->ts (C9 D ie) (σ.set ie (some (.ref ea))) (upd H2 ea (.ext (LX.nJ ea C dx))))
def HD(K:PySem.W.Frag)(C0:Addr)(sp:Sp)(iy ie:Nat)(t:TA)(ts:TS):TS:=fun D σ H=>t σ H fun vs H1=>sp vs H1 (fun v H2=>D.nx (σ.set iy (some v)) H2) (xN K C0 ts D ie σ)
theorem v9{D:Ends}{ie:Nat}{n c:Str}{cp hp:Pos}{b₀:Stmt}{oY:List Stmt}{rest:List ExceptHandler}(I:Inv X pins σ H s)(hN:X.N.Nodup)(kh:X.stack=X.env::X.outer)(lh:X.env.frame=some X.env.locals)(hi:X.N[ie]?=some n)(hk:X.env.scope.names.lookup n=some .local)(OV:Gl X c)(ON:X.mg c=some (.ref C0))(hs: ∀ea,iH (X.marked ea) (b₀::oY) ts)(q:oP X.prog X.w X.stack H s (xN X.K C0 ts D ie σ) e s2)(gs:(c==("__debug__":Str))=false):
  wpAny (model X.prog X.w) X.A (noteFrame e X.env) (fun _ s₂=>wpAny (model X.prog X.w) X.A (setFlight e none) (fun _ s₃=>wpAny (model X.prog X.w) X.A (handleBy e X.env (.ExceptHandler (some (.Name c cp)) (some n) (b₀::oY) hp::rest)) (SP X pins D) E' s₃) E' s₂) E' s2:=by
 obtain⟨ea,t,dx,cls,args,H',B,rfl,os,bare,un,aI,fl,cv,tp,bt,N7,dx',C,rfl,e2,hex,q⟩:=q;cases e2;have TN:iJ B (X.env::X.outer) ea (.ref C) (.ref t) (some dx) .none s2.heap:=by rw[<-kh];exact fl
 have a0:jk X H s ea t dx (.ref C) H' B s2:=⟨un,aI,cv,fl,os,bare⟩
 refine Og (by rw[<-kh];exact I.ok.frames) lh TN fun h2 hd2 Qv=>?_;refine HZ hd2 fun h3 YM Xj=>?_;have a3:jk X H s ea t dx (.ref C) H' B {s2 with heap:=h3}:=a0.move I (by rw[kh];exact YM) (Qv.trans Xj);have I3:=a3.inv I;have Im:=I3.marked ea;refine wpAny_handleBy_cons (codeAny_handlers_test (jH Im OV ON ?_ gs)) (by intro z;cases z);obtain⟨ob,_,_,_,_,X5,ki,_⟩:=a3.fl.tr;refine(PySem.W.exm_one (M:=model X.prog X.w) I3.kJ (LX.AW X5 ki) hex).at ?_;refine codeAny_handlers_suite_as ?_;refine HZ a3.fl fun h6 YL Xi=>?_;have I6:=(a3.move I YL Xi).inv I;refine fm I6 hN hi (.inl hk) (v:= .ref ea) rfl (fun s7 I7=>?_) (.inr hk);refine ad1 (hs ea pins s7 _ _ (C9 D ie) (I7.marked ea) (q ea a0.none)) (fun f s8 q8=>?_) fun _ _ z=>z.elim;cases f with
 | next=>
  obtain⟨σ',Hx,Ix,qx⟩:=q8;exact mn (Ix.unmarked I.ok) hN hi hk fun s9 I9=>⟨_,_,I9,qx⟩
 | brk=>
  obtain⟨σ',Hx,Ix,qx⟩:=q8;exact mn (Ix.unmarked I.ok) hN hi hk fun s9 I9=>⟨_,_,I9,qx⟩
 | cont=>
  obtain⟨σ',Hx,Ix,qx⟩:=q8;exact mn (Ix.unmarked I.ok) hN hi hk fun s9 I9=>⟨_,_,I9,qx⟩
 | ret u=>
  obtain⟨v,σ',Hx,Ix,rx,qx⟩:=q8;exact mn (Ix.unmarked I.ok) hN hi hk fun s9 I9=>⟨v,_,_,I9,rx,qx⟩
theorem sI{k:Nat}{f C0:Addr}{fd:FuncData}{ps:List Str}{sp:Sp}{x y n c:Str}{iy ie:Nat}{xp yp aY apos cp hp pos:Pos}{e:Expr}{es:List Expr}{t:TA}(F:aJ X.prog X.w X.K X.mg X.base (oP X.prog X.w) k f fd ps sp)(hr:bg k X.A)(hg:Gl X x)(hm:X.mg x=some (.ref f))(Yc:PySem.W.keepIn X.K (.ref f)=true)(hb:Binds X.K fd ps [])(ha:PA X.Cd (e::es) t)(hN:X.N.Nodup)(kh:X.stack=X.env::X.outer)(lh:X.env.frame=some X.env.locals)(S7:X.N[iy]?=some y)(hy:Loc X.env.scope y)(S8:X.N[ie]?=some n)(S6:X.env.scope.names.lookup n=some .local)(OV:Gl X c)(ON:X.mg c=some (.ref C0))(hs: ∀ea,iH (X.marked ea) (b₀::oY) ts)(Te:X.fn y=true\/X.env.scope.names.lookup y=some .local:=by first | exact .inl rfl | exact .inr rfl | assumption)(gs:(x==("__debug__":Str))=false:=by decide)(Gu:(c==("__debug__":Str))=false:=by decide)(he:starEach (e::es) X.env=(false,eval e X.env)::starEach es X.env:=by rfl)(da:(backTo aY (starEach es X.env)).any (·.1)=false:=by rfl)(Gg:swapsWith (.Call (.Name x xp) (e::es) [] aY) (some (.Name y yp)) apos.line X.env=pure false:=by rfl):
  PS X (.Try [.Assign [.Name y yp] (.Call (.Name x xp) (e::es) [] aY) apos] [.ExceptHandler (some (.Name c cp)) (some n) (b₀::oY) hp] [] [] pos) (HD X.K C0 sp iy ie t ts):=by
 intro pins s σ H D I h;rw[arm_exec_Try];refine aa0 (af9 (wpAny_tryStmt_except ?_));refine wpAny_execs_cons (ad1 (Q:=fun f s1=>f= .next/\SP X pins D .next s1) (wpAny_Assign_Name ?_ Gg) (fun f s1 q=>?_) fun _ _ z=>z)
 . refine aj3 (jH I hg hm ?_ gs);refine PySem.W.callWith_K (h₀:=X.base) I.ok.mod.Oo Yc (ad1 (ha aY pins s σ H _ (I.mI _) h) (fun us s1 ⟨vs,H1,I1,r,q⟩=>⟨I1.kJ,?_⟩) fun _ _ z=>z.elim) he da;have I1:=I1.fM;have hl:us.length=ps.length:=by rw[<-r.length];exact F.len _ _ _ _ q
   refine wpAny_call (am3 (F.run X.A X.stack s1 H1 ⟨us,[]⟩ us vs _ _ hr I1.Lm (by have:=hb s1 us I1.kJ (by simpa using hl);simpa using this) r q) fun rr s' hq=>?_);cases rr with
   | error ev=>exact v9 I1 hN kh lh S8 S6 OV ON hs hq Gu
   | ok fl=>
    cases fl with
    | ret u=>
     obtain⟨v,H2,I2,r2,q2⟩:=I1.after hq;exact fm I2 hN S7 hy r2 (fun s3 I3=>⟨rfl,_,_,I3,q2⟩) Te
    | next=>exact False.elim hq
    | brk=>exact False.elim hq
    | cont=>exact False.elim hq
 . obtain⟨rfl,q⟩:=q;exact an2 (an2 q)
end
section
variable{X:Cx}{e:Expr}{f:Str}{pos:Pos}{ta:TE}
structure Ml(K:PySem.W.Frag)(D:Addr)(f:Str):Prop where
 cl:PySem.W.findIn K (.ref D) f=some none
 cd: ∃cd,PySem.W.clsIn K D=some cd/\cd.hasDict=true
 be:PySem.W.mroIn K D (.type "BaseException")=some true
 ga:PySem.W.findIn K (.ref D) "__getattribute__"=some (some (.builtin "BaseException.__getattribute__"))
 gx:PySem.W.findIn K (.ref D) "__getattr__"=some none
def JC(K:PySem.W.Frag)(f:Str)(ta:TE):TE:=fun σ H Q=>ta σ H fun x H1=> ∃ea D dx fs v,x= .ref ea/\H1 ea=some (.ext (LX.nJ ea D dx))/\H1 dx=some (.xd fs)/\fs.lookup f=some v/\Ml K D f/\Q v H1
theorem BK(he:PE X e ta)(hb:attributeBase e f X.env (eval e X.env)=eval e X.env):PE X (.Attribute e f pos) (JC X.K f ta):=by
 intro pins s σ H Q I h;refine Hd hb (aN (he pins s σ H _ I h) fun u s1 zz=>?_);obtain⟨x,H1,I1,rx,ea,D,dx,fs,v,ex,h1,h2,l,F,q⟩:=zz;subst ex;obtain rfl:u=Value.ref ea:=rx;obtain⟨⟨ox,as,o1,o2,o3,o4⟩,_⟩:=I1.aI ea _ h1;obtain⟨mA,n1,r⟩:=I1.aI dx _ h2;obtain⟨u',hu,ru⟩:=kd.some_of (v:=v) (o:=mA f) (by rw[<-l];exact r f);obtain⟨cd,jo,hh⟩:=F.cd;obtain⟨hp,g,d,tk,os⟩:=s1;refine LX.yT I1.kJ o1 o2 o3 n1 hu F.cl jo hh o4 F.be LX.x8 F.ga F.gx (fun id z=>?_) ⟨v,H1,I1.tok _,ru,q⟩;rw[z] at ru;cases v <;> first | (obtain⟨_,e⟩:=ru;cases e) | cases ru
def NM(K:PySem.W.Frag):List V->Hp->VK->Prop:=fun xs H Q=> ∃ea D dx c b,xs= [.ref ea,c]/\H ea=some (.ext (LX.nJ ea D dx))/\LX.Mk K D/\
 ((∃C,c= .ref C/\PySem.W.kitOne K (.ref D) (.ref C)=some b)\/(∃T,c= .ty T/\PySem.W.kitOne K (.ref D) (.type T)=some b)\/(∃(p:Addr) (cs:List Addr),c= .ref p/\H p=some (.tup (cs.map .ref))/\PySem.W.kitAny K (.ref D) (cs.map .ref)=some b))/\Q (.bl b) H
theorem pP:eQ X (.builtin "isinstance") (NM X.K):=by
 intro pins s σ H xs us Q I r h;obtain⟨ea,D,dx,c,b,rfl,he,Y,hc,q⟩:=h;cases r with
 | cons r1 r2=>
  cases r2 with
  | cons r2 r3=>
   cases r3;cases r1;have Z:PySem.W.KitX X.K (.ref ea) (.ref D) (LX.excAt ea D):=LX.Co Y LX.x8;obtain⟨⟨ox,_,p1,p2,_⟩,_⟩:=(show aV X.prog X.w H s.heap ea (.ext (LX.nJ ea D dx)) from I.aI ea _ he)
   have p:LX.excAt ea D s.heap:=⟨ox,p1,p2⟩
   rcases hc with ⟨C,rfl,hk⟩ | ⟨T,rfl,hk⟩ | ⟨tp,cs,rfl,ht,hk⟩
   . cases r2;exact ah1 Z I.kJ p hk (fun z=>by cases z) fun tk=>⟨.bl b,H,I.tok _,rfl,q⟩
   . cases r2;exact ah1 Z I.kJ p hk (fun z=>by cases z) fun tk=>⟨.bl b,H,I.tok _,rfl,q⟩
   . cases r2;obtain⟨_,ao,rv,o,ho,kL,MF,n,Yp⟩:=(show aV X.prog X.w H s.heap tp (.tup (cs.map .ref)) from I.aI tp _ ht)
     cases oS rv;obtain⟨oc,od,Qz,Ar⟩:=o;cases (show oc= .type "tuple" from kL);cases (show Qz= .seq (cs.map Value.ref).toArray n from Yp);exact PySem.W.kia_tup Z I.kJ p ho hk (fun z=>by cases z) fun tk=>⟨.bl b,H,I.tok _,rfl,q⟩
end
end L2
namespace yf
open PySem PySem.Spec
section
variable{prog:Program}{w:World}{A:Around}{E:Value->Shared->Prop}{h:Heap}{g:Array GenState}{d:Drawn}{t:Nat}{os:OsState}
variable{nm q:Str}{C N:Addr}{bs bm mz LS:List Value}{hdct:Bool}{sn:List Str}{sub:List Value}{ab:Bool}{col:Option Bool}{dd:Option Addr}{k0 k1 k2 k3 k5:Option Value}{B Bn newId Kn Ep i5:String}
theorem mO(Fn:ExcBaseFacts Bn newId Ep LS)(As:mz.contains (.type Bn)=true)(F:ExcBaseFacts B Kn i5 mz)(T:OwnTail h mz bm)(hC:h.get? C=some (excClassObj nm q C N bs bm hdct sn sub ab col dd k0 k1 k2 k3 k5 newId))(hn:h.Ns N mN)(hi:mN "__init__"=some (.ref fI))(OY:h.get? fI=some oI)(OX:oI.cls= .type "function")(hq: ∀h' e,Heap.MadeExcOf h h' e (.ref C) rest->wpAny (model prog w) A (call (.ref fI) (.ref e::rest)) (fun r s'=>r= .none/\Q (.done (.ret (.ref e))) s') E ⟨h',g,d,t,os⟩)(Cz:rest.length<=sizeLine):
  wpAny (model prog w) A (Builtin.«type.__call__» ⟨.ref C::rest,[]⟩) Q E ⟨h,g,d,t,os⟩:=by
 repeat (first | with_reducible refine ag7 hC ?_ | with_reducible refine wpAny_madeBy_exc hC ?_ | wp_step)
 refine codeAny_call_builtin_code (ap7 _ Fn.quiet) (wpAny_check_new_subU Fn As T hC ?_);refine codeAny_exc_new_subU Fn As F T hC ?_ Cz;show wpAny _ _ _ _ _ _;have up: ∀b o,h.get? b=some o->((h.push {cls:= .type "tuple",data:= .seq rest.toArray}).push {cls:= .ref C,data:= .fields #[.ref h.objs.size,.none,.none,.none,.bool false,.none]}).get? b=some o:=fun b o e=>aa3 _ (aa3 _ e);have Iz:=up _ _ hC;have K0:=up _ _ OY;have OJ:((h.push {cls:= .type "tuple",data:= .seq rest.toArray}).push {cls:= .ref C,data:= .fields #[.ref h.objs.size,.none,.none,.none,.bool false,.none]}).Ns N mN:=
  let ⟨o,es,ep,e,r⟩:=hn;⟨o,es,ep,up _ _ e,r⟩
 have OU:((h.push {cls:= .type "tuple",data:= .seq rest.toArray}).push
   {cls:= .ref C,data:= .fields #[.ref h.objs.size,.none,.none,.none,.bool false,.none]}).get? (h.objs.size+1)=some
   {cls:= .ref C,data:= .fields #[.ref h.objs.size,.none,.none,.none,.bool false,.none]}:=by heap_get
 have Yv:(Value.ref C::bm).contains (.ref C)=true:=by simp
 have T₁:=T.keeps up;unfold isInstance;repeat (first | with_reducible refine ag7 OU ?_ | (with_reducible refine wpAny_isSubtype_exc Iz ?_;rw[Yv]) | wp_step)
 show wpAny _ _ (typeLookup (.ref C) _) _ _ _;refine wpAny_typeLookup_tail Iz OJ T₁ F.mroIs F.init.lookup ?_;rw[hi];refine ag9 (aa0 ?_);unfold bindSpecial;refine aa0 (wpAny_typeOf (T:="function") ⟨_,K0,OX⟩ ?_);rw[if_pos (by decide)];refine aa7 (aa0 (ad1 (hq _ (h.objs.size+1) ⟨up,Heap.get?_none_of_le (ar2 _),h.objs.size,OU,Heap.get?_none_of_le (ab2 _),?_⟩) (fun r s' hr=>?_) fun _ _ x=>x))
 . exact aa3 _ (Heap.get?_push_at rfl rfl)
 . obtain⟨rfl,hQ⟩:=hr;wp_walk
   exact hQ
theorem Af(Fn:ExcBaseFacts Bn newId Ep LS)(As:mz.contains (.type Bn)=true)(F:ExcBaseFacts B Kn i5 mz)(T:OwnTail h mz bm)(hC:h.get? C=some (excClassObj nm q C N bs bm hdct sn sub ab col dd k0 k1 k2 k3 k5 newId))(hn:h.Ns N mN)(hi:mN "__init__"=some (.ref fI))(OY:h.get? fI=some oI)(OX:oI.cls= .type "function")(hq: ∀h' e,Heap.MadeExcOf h h' e (.ref C) rest->wpAny (model prog w) (A.under (.builtin "type.__call__" ⟨.ref C::rest,[]⟩)) (call (.ref fI) (.ref e::rest)) (fun r s'=>r= .none/\Q (.ref e) s') E ⟨h',g,d,t,os⟩)(Cz:rest.length<=sizeLine):
  wpAny (model prog w) A (call (.ref C) rest) Q E ⟨h,g,d,t,os⟩:=by
 have f1:=tc_lookup;have f2:=tc_bind (.ref C);have hT:(⟨h,g,d,t,os⟩:Shared).TypeIs (.ref C) "type":=⟨_,hC,rfl⟩
 refine wpAny_call (codeAny_of_tree ?_);show wpAny _ _ (callAny (.ref C) _) _ _ _;repeat (any_goals (first | assumption | with_reducible refine ag7 hC ?_ | wp_step))
 refine⟨rfl,?_⟩;refine codeAny_call_builtin_at (ap7 _ (by decide+kernel)) entry_typeCall (wpAny_check_type_call_sub hC (mO Fn As F T hC hn hi OY OX (fun h' e hm=>?_) Cz));exact hq h' e hm
end
theorem yQ(fE:bm.contains (.type "BaseException")=true)(hh:A.handled=none)(h:wpAny M A x (fun v s₁=> ∃e oe t,v= .ref e/\s₁.heap.get? C=some (excClassObj nm q C N bs bm hdct sn sub ab col dd k0 k1 k2 k3 k5 newId)/\s₁.heap.get? e=some oe/\oe.cls= .ref C/\oe.data= .fields #[.ref t, .none, .none, .none, .bool false, .none]/\E (.ref e) s₁) E s):
  wpAny M A (raiseStmt env (some x) none) Q E s:=by
 have Yx:(Value.ref C::bm).contains (.type "BaseException")=true:=by rw[List.contains_cons,fE,Bool.or_true]
 unfold raiseStmt;refine aa0 (ad1 h (fun v s₁ h₁=>?_) fun _ _ x=>x);obtain⟨e,oe,tt,rfl,hC,he,hc,hd,hE⟩:=h₁;cases oe;cases hc;cases hd;obtain⟨hp,g,d,t,os⟩:=s₁;repeat (first | with_reducible refine ag7 he ?_ | with_reducible refine ag7 hC ?_ | (with_reducible refine wpAny_isSubtype_exc hC ?_;rw[Yx]) | wp_step)
 exact wpAny_raiseNew_none hh hE
theorem wj (Fn : ExcBaseFacts Bn newId Ep LS) (As : mz.contains (.type Bn) = true) (F : ExcBaseFacts B Kn i5 mz) {oI : Obj} (fE : bm.contains (.type "BaseException") = true) (hh : A.handled = none) (i6 : (backTo aY (starEach args env)).any (·.1) = false) (hi : mN "__init__" = some (.ref fI)) (OX : oI.cls = .type "function") (h : wpAny (model prog w) A (eval (.Name x np) env) (fun f s₁ => f = .ref C /\ wpAny (model prog w) A (evalArgs (.ref C) true (backTo aY (starEach args env)) [])
   (fun a s₂=>a.kw= []/\a.pos.length<=sizeLine/\s₂.heap.get? C=some (excClassObj nm q C N bs bm hdct sn sub ab col dd k0 k1 k2 k3 k5 newId)/\s₂.heap.Ns N mN/\s₂.heap.get? fI=some oI/\OwnTail s₂.heap mz bm/\
    ∀h' e,Heap.MadeExcOf s₂.heap h' e (.ref C) a.pos->wpAny (model prog w) (A.under (.builtin "type.__call__" ⟨.ref C::a.pos,[]⟩)) (call (.ref fI) (.ref e::a.pos))
     (fun r s'=>r= .none/\s'.heap.get? C=some (excClassObj nm q C N bs bm hdct sn sub ab col dd k0 k1 k2 k3 k5 newId)/\(∃oe t,s'.heap.get? e=some oe/\oe.cls= .ref C/\oe.data= .fields #[.ref t,.none,.none,.none,.bool false,.none])/\E (.ref e) s') E {s₂ with heap:=h'}) E s₁) E s):
  wpAny (model prog w) A (exec (.Raise (some (.Call (.Name x np) args [] aY)) none pos) env) Q E s:=by
 rw[arm_exec_Raise];refine aa0 (af9 (yQ (C:=C) (nm:=nm) (q:=q) (N:=N) (bs:=bs) (bm:=bm) (hdct:=hdct) (sn:=sn) (sub:=sub) (ab:=ab) (col:=col) (dd:=dd) (k0:=k0) (k1:=k1) (k2:=k2) (k3:=k3) (k5:=k5) (newId:=newId) fE hh (aa0 (ad1 (wpAny_Call_ofName (ad1 h (fun f s₁ h₁=>?_) fun _ _ x=>x)) (fun v s₃ h₃=>aa0 (af9 (aa7 h₃))) fun _ _ x=>x))));obtain⟨rfl,h₁⟩:=h₁;unfold callWith;refine aa0 (ag9 (ad1 h₁ (fun a s₂ h₂=>aa0 (af9 ?_)) fun _ _ x=>x));obtain⟨apos,ZQ⟩:=a;obtain⟨Ya,hlen,hC,hn,OY,T,h₂⟩:=h₂;obtain rfl:ZQ= []:=Ya;obtain⟨hp,g,d,tk,os⟩:=s₂;simp only [i6];refine aa0 (wpAny_keeperOf_exc hC ?_);refine aa0 (Af Fn As F T hC hn hi OY OX (fun h' e hm=>ad1 (h₂ h' e hm) (fun r s' z=>?_) fun _ _ x=>x) hlen);obtain⟨z1,z2,⟨oe,fs,z3,z4,z6⟩,z5⟩:=z;refine⟨z1,aa0 (ag9 (wpAny_point (aa7 ⟨e,oe,fs,rfl,z2,z3,z4,z6,z5⟩)))⟩
end yf
namespace yf
open PySem PySem.Spec PySem.W PySem.Builtin PySem.Builtin.ObjectAttr
theorem uX(self:Value)(C1 C2:Addr):refuseLoop self "__setattr__" [.ref C1,.ref C2,.type "ValueError",.type "Exception",.type "BaseException",.type "object"]=pure ():=by
 rw[refuseLoop_ref,refuseLoop_ref];kernel_rfl
theorem GI (X : K.In s.heap) (I : InstAt s.heap x ox C od) (hc : clsIn K C = some cd) (hm : mroIn K C (.type "object") = some true) (ho : refuseLoop (.ref x) "__setattr__" cd.mro = pure ()) (ht : takerIn K C name = some none) (h : ∀ b, wpAny (model prog w) A.in1 (storeInOwnDict (.ref x) (.ref C) (.str name tk) name v b)
   (fun fin s'=>match fin with | .done f=>R (.ok f) s' | .again c'=>c'.quiet=true/\codeAny (model prog w) A c' R s') (fun e s'=>R (.error e) s') s):
  codeAny (model prog w) A (.call (.builtin "object.__setattr__") ⟨[.ref x,.str name tk,v],[]⟩) R s:=by
 have SF:=PySem.F.store_object;have sub:Looks (model prog w) s.heap (isInstance (.ref x) (.type "object")) true:=I.type.andThen (looks_mroIn X hm);refine ak7 SF.slot.plain SF.entry (@check_slot (model prog w) _ _ s "object.__setattr__" "object" "__setattr__" (.ref x) [.str name tk,v] [] _ SF.kind SF.split sub (SF.args (.ref x) (.str name tk) v) ?_);obtain⟨attr,ha,hr⟩:=Option.bind_eq_some_iff.mp ht;have OL:Looks (model prog w) s.heap (mroOf (.ref C)) cd.mro:=(looks_clsIn X hc).andThen .now;have L3:Looks (model prog w) s.heap (storeTaker? attr) none:=by
  cases attr with
  | none=>cases hr;exact .now
  | some a=>
   obtain⟨b,hb,e⟩:=ag8.mp hr;refine(looks_takesIn X hb).andThen ?_;cases b with
   | true=>cases e
   | false=>exact .now
 rw[osa_eq,refuse_eq];refine aa0 (aa0 (I.type.here (aa0 (OL.here ?_))));rw[ho];refine aa7 (aa0 (I.type.here (aa0 ((ao2 X ha).here (aa0 (L3.here ?_))))));exact h _
theorem zS(X:K.In s.heap)(hx:s.heap.get? x=some o)(hc:o.cls= .ref C)(MF:o.dict=none)(SY: ∀c,o.data≠ .cls c)(jo:clsIn K C=some cd)(hh:cd.hasDict=true)(hq: ∀h' Mr,h'.get? x=some {o with dict:=some s.heap.objs.size}->h'.Ns1 s.heap.objs.size (fun y=>if y=name then some v else none)->(∀b ob,b≠x->s.heap.get? b=some ob->h'.get? b=some ob)->Q (.done (.ret .none)) {s with heap:=h',toks:=Mr}):
  wpAny (model prog w) A (storeInOwnDict (.ref x) (.ref C) (.str name tk) name v b) Q E s:=by
 obtain⟨h,g,d,t,os⟩:=s;obtain⟨oc,odi,Qz,Ar⟩:=o;dsimp only at hc MF;subst hc MF;refine aa0 (aa7 (aa0 (aa0 (wpAny_loadPart hx (aa0 ((looks_clsIn X jo).here ?_))))));rw[hh];have Ii:(h.push {cls:= .type "dict",data:= .dict #[]}).get? x=some ⟨.ref C,none,Qz,Ar⟩:=aa3 _ hx;have Ve:x≠h.objs.size:=af4 (ac2 hx);dsimp only;rw[if_neg (by decide),if_neg (by simp [typeHasDict])];have Yj:((h.push {cls:= .type "dict",data:= .dict #[]}).update x fun o=>{cls:=o.cls,dict:=some h.objs.size,data:=o.data,slots:=o.slots}).get? h.objs.size=some {cls:= .type "dict",data:= .dict #[]}:=
  (Heap.get?_update_ne _ _ _ _ Ve.symm).trans (Heap.get?_push_at rfl rfl)
 have SX:((h.push {cls:= .type "dict",data:= .dict #[]}).update x fun o=>{cls:=o.cls,dict:=some h.objs.size,data:=o.data,slots:=o.slots}).Ns h.objs.size (fun _=>none):=
  ⟨_,#[],_,Yj,rfl,fun e he=>absurd he (by simp),fun _=>rfl⟩
 split
 . rename_i c;exact absurd rfl (SY c)
 refine aa0 (wpAny_alloc' ?_);refine aa0 (wpAny_update' Ii ?_);refine aa7 ?_;show wpAny _ _ (storeInDict h.objs.size (.str name tk) name v) _ _ _;unfold storeInDict newKeyGuard;refine aa0 (aa7 (aa0 (wpAny_nsSet1 (Heap.Ns1.of_empty SX) fun h' MC hs=>?_)));obtain⟨oD,esD,epD,X3,Yr,Gw⟩:=MC.count (Within.cons name v Within.nil);refine aa0 (wpAny_lookBehind X3 (by rw[Yr];exact pastItsLine_dict (ac6 Gw (by rw[ac7,ak0,sizeLine_eq];omega))) ?_);refine aa7 (hq h' _ ?_ MC fun b ob Yy hb=>(hs.2 b (af4 (ac2 hb))).trans ((Heap.get?_update_ne _ _ _ _ Yy).trans (aa3 _ hb)));refine(hs.2 x Ve).trans (ai1 _ Ii ?_);have lh:=(Heap.get?_some_iff.mp hx).2;cases Qz <;> first | rfl | exact lh
theorem GH(X:K.In s.heap)(hx:s.heap.get? x=some o)(hc:o.cls= .ref C)(MF:o.dict=none)(SY: ∀c,o.data≠ .cls c)(Gj:notCls o=true)(hs:findIn K (.ref C) "__setattr__"=some (some (.builtin "object.__setattr__")))(jo:clsIn K C=some cd)(hh:cd.hasDict=true)(hm:mroIn K C (.type "object")=some true)(ho:refuseLoop (.ref x) "__setattr__" cd.mro=pure ())(ht:takerIn K C name=some none)(hq: ∀h' Mr,h'.get? x=some {o with dict:=some s.heap.objs.size}->h'.Ns1 s.heap.objs.size (fun y=>if y=name then some v else none)->(∀b ob,b≠x->s.heap.get? b=some ob->h'.get? b=some ob)->Q () {s with heap:=h',toks:=Mr}):
  wpAny (model prog w) A (setAttr (.ref x) name v) Q E s:=by
 have I:InstAt s.heap x o C none:=⟨hx,hc,Gj,by rw[MF];trivial⟩
 refine set_plain X I hs (GI (s:={s with toks:=s.toks+1}) X I jo hm ho ht fun b=>?_);exact zS (s:={s with toks:=s.toks+1}) X hx hc MF SY jo hh fun h' Mr h1 h2 h3=>hq h' Mr h1 h2 h3
end yf
namespace LX
open PySem
def tL(x C t:Addr)(h:Heap):Prop:=h.get? x=some {cls:= .ref C,data:= .fields #[.ref t,.none,.none,.none,.bool false,.none]}
def qV(x C t dx:Addr)(h:Heap):Prop:=h.get? x=some {cls:= .ref C,dict:=some dx,data:= .fields #[.ref t,.none,.none,.none,.bool false,.none]}
end LX
namespace L2
open PySem PySem.Spec PyProof.Rows yf
theorem Inv.RI(I:Inv X pins σ H s)(e:H x=some (.ext (LX.tL x C t)))(rv:RelV v u)(h1:LX.qV x C t s.heap.objs.size h')(h2:h'.Ns1 s.heap.objs.size (fun y=>if y=f then some u else none))(h3: ∀b ob,b≠x->s.heap.get? b=some ob->h'.get? b=some ob):
  Inv X pins σ (upd (upd H s.heap.objs.size (.xd [(f,v)])) x (.ext (LX.qV x C t s.heap.objs.size))) {s with heap:=h',toks:=tk}:=by
 have old: ∀b z,H b=some z->b≠s.heap.objs.size:=fun b z hb q=>by
  obtain⟨o,ho⟩:=hasObj (I.aI b z hb);have:=ac2 ho;rw[q] at this;exact absurd this (ae8 _)
 have off: ∀b o,s.heap.get? b=some o->b≠s.heap.objs.size:=fun b o ho q=>by
  have:=ac2 ho;rw[q] at this;exact absurd this (ae8 _)
 have nx: ∀b,H b=none->b≠x:=fun b hb q=>by rw[q,e] at hb;cases hb
 have get: ∀b z,H b=some z->b≠x->upd (upd H s.heap.objs.size (.xd [(f,v)])) x (.ext (LX.qV x C t s.heap.objs.size)) b=some z:=fun b z hb hx=>by rw[ah hx,ah (old b z hb)];exact hb
 refine I.call (h':=h') (g':=s.gens) (d':=s.drawn) (t':=tk) (ch:= []) ⟨fun b o q n _ _=>h3 b o (nx b n) q,fun b o q n _ _=>⟨o.slots,h3 b o (nx b n) q⟩,fun b o q n _=>?_,fun b o q _=>?_,fun b xs q=>get b _ q fun z=>?_,fun b o w q=>get b _ q fun z=>?_,fun b ps q=>⟨#[],?_⟩⟩ (fun b o q=>?_) I.bare fun b z=>absurd z (by simp)
 . rw[ah (nx b n),ah (off b o q)];exact n
 . by_cases z:b=x
   . subst z;exact⟨_,h1⟩
   . exact⟨o,h3 b o z q⟩
 . rw[z,e] at q;cases q
 . rw[z,e] at q;cases q
 . rw[Array.append_empty];exact get b _ q fun z=>by rw[z,e] at q;cases q
 . by_cases z:b=x
   . subst z;rw[ag] at q;cases q;exact⟨h1,⟨_,h1⟩,fun a c p k=>k _ p⟩
   . rw[ah z] at q;by_cases w:b=s.heap.objs.size
     . subst w;rw[ag] at q;cases q;refine⟨_,h2,fun y=>?_⟩;by_cases c:y=f
       . subst c;simp [List.lookup,kd,rv]
       . have:(y==f)=false:=ai7.mpr c;simp [List.lookup,this,c,kd]
     . rw[ah w] at q;refine(I.aI b o q).fN (fun c ob hc k=>h3 c ob (fun y=>?_) k) (fun c k=>?_) fun c xs k=>?_
       . rcases hc with hc | hc
         . exact z (hc.symm.trans y)
         . rw[y,e] at hc;cases hc
       . exact get c _ k fun y=>by rw[y,e] at k;cases k
       . exact get c _ k fun y=>by rw[y,e] at k;cases k
structure Ap(K:PySem.W.Frag)(C:Addr)(f:Str):Prop where
 sa:PySem.W.findIn K (.ref C) "__setattr__"=some (some (.builtin "object.__setattr__"))
 cd: ∃cd C1 C2,PySem.W.clsIn K C=some cd/\cd.hasDict=true/\cd.mro= [.ref C1,.ref C2,.type "ValueError",.type "Exception",.type "BaseException",.type "object"]
 ob:PySem.W.mroIn K C (.type "object")=some true
 tk:PySem.W.takerIn K C f=some none
section
variable{X:Cx}{o value:Expr}{f:Str}{pos pos':Pos}{ta tv:TE}
def Nx(K:PySem.W.Frag)(f:Str)(ta tv:TE):TS:=fun D σ H=>tv σ H fun y H1=>ta σ H1 fun x H2=> ∃ea C t,x= .ref ea/\H2 ea=some (.ext (LX.tL ea C t))/\Ap K C f/\ ∀dx,H2 dx=none->D.nx σ (upd (upd H2 dx (.xd [(f,y)])) ea (.ext (LX.qV ea C t dx)))
theorem Fq(ha:PE X o ta)(hv:PE X value tv)(hs:swapsWith value (some (.Attribute o f pos')) pos.line X.env=pure false):PS X (.Assign [.Attribute o f pos'] value pos) (Nx X.K f ta tv):=by
 intro pins s σ H D I h;refine plainObj_wpAny_Assign_Attribute (aN (hv pins s σ H _ I h) fun u s1 zz=>?_) hs;obtain⟨y,H1,I1,ry,q⟩:=zz;refine aN (ha pins s1 σ H1 _ I1 q) fun ov s2 zz=>?_;obtain⟨x,H2,I2,rx,ea,C,t,ex,h1,F,q2⟩:=zz;subst ex;obtain rfl:ov=Value.ref ea:=rx;obtain⟨b1,_⟩:=I2.aI ea _ h1;obtain⟨cd,C1,C2,k1,k2,k3⟩:=F.cd;have nn:H2 s2.heap.objs.size=none:=by
  cases z:H2 s2.heap.objs.size with
  | none=>rfl
  | some w=>
   obtain⟨o,ho⟩:=hasObj (I2.aI _ w z);exact absurd (ac2 ho) (ae8 _)
 refine GH I2.kJ b1 rfl rfl (fun c z=>by cases z) rfl F.sa k1 k2 F.ob (by rw[k3];exact uX _ _ _) F.tk fun h' Mr e1 e2 e3=>?_;exact⟨σ,_,I2.RI h1 ry e1 e2 e3,q2 _ nn⟩
end
noncomputable def pH(H:Hp)(a:Addr):Hp:=fun b=>if b=a then none else H b
theorem cU(h:b≠a):pH H a b=H b:=if_neg h
theorem i9:pH H a a=none:=if_pos rfl
theorem fY(h:H b=none):pH H a b=none:=by
 by_cases z:b=a
 . subst z;exact i9
 . rw[cU z];exact h
end L2
namespace LX
open PySem PySem.W PyProof.Rows
theorem vi{K:Frag}(X:K.In h)(G:h.Ns N mg)(e:nsIn K N n=some (some v)):mg n=some v:=by
 obtain⟨o,es,ep,ho,hd,_,hf⟩:=G;unfold nsIn at e;split at e
 . rename_i c d QQ n' sl q;have:=X _ _ q;rw[ho] at this;cases this;cases hd;split at e
   . rename_i en he;cases e;rw[<-hf];unfold nsFind findBy;rw[<-Array.find?_toList,he];rfl
   . split at e <;> cases e
 . cases e
structure mC(x:Str)(C fI:Addr)(mz:List Value)(newId:String)(mg:Str->Option Value)(h:Heap):Prop where
 bound:mg x=some (.ref C)
 obj: ∃bm N nm q bs hdct sn sub ab col dd k0 k1 k2 k3 k5 mN,h.get? C=some (excClassObj nm q C N bs bm hdct sn sub ab col dd k0 k1 k2 k3 k5 newId)/\h.Ns N mN/\mN "__init__"=some (.ref fI)/\OwnTail h mz bm
 fn: ∃oI,h.get? fI=some oI/\oI.cls= .type "function"
theorem NT{K:Frag}{h:Heap}{mg:Str->Option Value}{x nm q:Str}{C N fI:Addr}{mz bs bm sub:List Value}{hd ab:Bool}(X:K.In h)(G:h.Ns mainGlobals mg)(e:nsIn K mainGlobals x=some (some (.ref C)))(l:K.lookup C=some (excClassObj nm q C N bs bm hd sn sub ab col dd k0 k1 k2 k3 k5 newId))(aI:nsOkIn K N=true)(SW:nsIn K N "__init__"=some (some (.ref fI)))(ht:tailIn K mz bm=true)(lf:K.lookup fI=some ⟨.type "function",od,.func fd,Ar⟩):mC x C fI mz newId mg h:=
 ⟨mg_of X G e,⟨bm,N,nm,q,bs,hd,sn,sub,ab,col,dd,k0,k1,k2,k3,k5,_,X _ _ l,.of_isNs (isNs_of_in X aI),vi X (.of_isNs (isNs_of_in X aI)) SW,tail_of_in X ht⟩,⟨_,X _ _ lf,rfl⟩⟩
end LX
namespace L2
open PySem PySem.Spec PyProof.Rows yf
section
variable{X:Cx}{pins:List (Addr × Obj)}{σ:St}{H:Hp}{s:Shared}{a:Addr}{φ:Heap->Prop}
theorem Inv.drop'(I:Inv X pins σ H s)(e:H a=some (.ext φ)):Inv X pins σ (pH H a) s:=by
 refine⟨I.ok,I.os,I.bare,⟨I.base.keep,I.base.slot,fun b o h1 h2 h3=>fY (I.base.free b o h1 h2 h3),I.base.there,fun b xs h=>?_,fun b o u h=>?_,fun b ps h=>?_⟩,I.loc,I.cell,fY I.free,fun y c h=>fY (I.eF y c h),fun p hp=>?_,fun b o h=>?_,I.len⟩
 . have:=I.base.kn b xs h;rw[cU fun z=>by rw[z,e] at this;cases this];exact this
 . have:=I.base.jP b o u h;rw[cU fun z=>by rw[z,e] at this;cases this];exact this
 . obtain⟨m,this⟩:=I.base.kq b ps h;exact⟨m,by rw[cU fun z=>by rw[z,e] at this;cases this];exact this⟩
 . obtain⟨e1,e2,e3,e4,e5⟩:=I.pin p hp;exact⟨e1,fY e2,e3,e4,e5⟩
 . have hb:b≠a:=fun q=>by rw[q,i9] at h;cases h
   rw[cU hb] at h;refine(I.aI b o h).fN (fun _ _ _ z=>z) (fun c z=>?_) fun c xs z=>?_
   . rw[cU fun q=>by rw[q,e] at z;cases z];exact z
   . rw[cU fun q=>by rw[q,e] at z;cases z];exact z
theorem Inv.RL(I:Inv X pins σ H s)(h:s.heap.get? a=none):H a=none:=by
 cases e:H a with
 | none=>rfl
 | some z=>obtain⟨o,ho⟩:=hasObj (I.aI a z e);rw[h] at ho;cases ho
theorem Inv.N6(I:Inv X pins σ H s)(hex:X.ex= [])(h:s.heap.get? a=none):X.s₀.heap.get? a=none:=by
 cases e:X.s₀.heap.get? a with
 | none=>rfl
 | some z=>obtain⟨o,ho⟩:=I.base.there a z e (by rw[hex];simp);rw[h] at ho;cases ho
theorem Inv.exc{C t:Addr}{h':Heap}{args:List Value}(I:Inv X pins σ H s)(hk: ∀b o,s.heap.get? b=some o->h'.get? b=some o)(hn:s.heap.get? a=none)(he:h'.get? a=some {cls:= .ref C,data:= .fields #[.ref t, .none, .none, .none, .bool false, .none]}):
  Inv X pins σ (upd H a (.ext (LX.tL a C t))) {s with heap:=h'}:=by
 have ha:=I.RL hn;have ne: ∀b z,H b=some z->b≠a:=fun b z h q=>by rw[q,ha] at h;cases h
 refine I.call (h':=h') (g':=s.gens) (d':=s.drawn) (t':=s.toks) (ch:= []) ⟨fun b o e _ _ _=>hk b o e,fun b o e _ _ _=>⟨o.slots,hk b o e⟩,fun b o e n _=>?_,fun b o e _=>⟨o,hk b o e⟩,fun b xs e=>?_,fun b o u e=>?_,fun b ps e=>⟨#[],?_⟩⟩ (fun b o e=>?_) I.bare fun b z=>absurd z (by simp)
 . rw[ah fun q=>by rw[q,hn] at e;cases e];exact n
 . rw[ah (ne _ _ e)];exact e
 . rw[ah (ne _ _ e)];exact e
 . rw[Array.append_empty,ah (ne _ _ e)];exact e
 . by_cases q:b=a
   . subst q;rw[ag] at e;cases e;exact⟨he,⟨_,he⟩,fun h1 h2 p k=>k _ p⟩
   . rw[ah q] at e;refine(I.aI b o e).fN (fun c u _ z=>hk c u z) (fun c z=>?_) fun c xs z=>?_
     . rw[ah (ne c _ z)];exact z
     . rw[ah (ne c _ z)];exact z
end
def mV(K:PySem.W.Frag)(f:Str):Sp:=fun vs H Q _=> ∃ea C t v,vs= [.ref ea,v]/\H ea=some (.ext (LX.tL ea C t))/\Ap K C f/\ ∀dx,H dx=none->Q .aF (upd (upd H dx (.xd [(f,v)])) ea (.ext (LX.qV ea C t dx)))
section
variable{X:Cx}
def QZ(X:Cx)(C:Addr)(Ew:Addr->Hp->Prop):Prop:= ∀(pins:List (Addr × Obj)) (σ:St) (H:Hp) (s:Shared) (ea t dx:Addr) (args:List Value),Inv X pins σ H s->LX.qV ea C t dx s.heap->s.heap.TupAt t args->H ea=none->H t=none->X.s₀.heap.get? ea=none->X.s₀.heap.get? t=none->Ew dx H->X.xe (.ref ea) s
def ET(f:Str)(Ew:Addr->Hp->Prop)(ta:TA):TS:=fun _ σ H=>ta σ H fun vs H1=> ∃v,vs= [v]/\ ∀dx,H1 dx=none->Ew dx (upd H1 dx (.xd [(f,v)]))
theorem yR(O:LX.mC x C fI mz newId X.mg X.base)(Fn:ExcBaseFacts Bn newId Ep LS)(As:mz.contains (.type Bn)=true)(FB:ExcBaseFacts B Kn i5 mz)(FI:aJ X.prog X.w X.K X.mg X.base cX k fI MH ["self",f] (mV X.K f))(hb:Binds X.K MH ["self",f] [])(S:Ap X.K C f)(hr:bg (k+1) X.A)(hc:X.calm=true)(hg:Gl X x)(ha:PA X [e₀] ta)(OC:QZ X C Ew)(hex:X.ex= [])(gs:(x==("__debug__":Str))=false:=by decide)(he:starEach [e₀] X.env= [(false,eval e₀ X.env)]:=by rfl):
  PS X (.Raise (some (.Call (.Name x np) [e₀] [] aY)) none pos) (ET f Ew ta):=by
 intro pins s σ H D I h;obtain⟨tl,N,nm,q,bs,hdct,sn,sub,ab,col,dd,k0,k1,k2,k3,k5,mN,hC,hN,SW,T⟩:=O.obj;obtain⟨oI,X2,QD⟩:=O.fn;refine wj (C:=C) (nm:=nm) (q:=q) (N:=N) (bs:=bs) (bm:=tl) (hdct:=hdct) (sn:=sn) (sub:=sub) (ab:=ab) (col:=col) (dd:=dd) (k0:=k0) (k1:=k1) (k2:=k2) (k3:=k3) (k5:=k5)
  Fn As FB (mN:=mN) (T.hasType FB.hasBase) (I.ok.hd hc) (by rw[he];rfl) SW QD (jH I hg O.bound ⟨rfl,?_⟩ (hd:=gs))
 have hh:=ha aY pins s σ H _ I h;rw[he] at hh ⊢;refine Calls.evalArgs_plain (ad1 hh (fun us s₂ h₂=>?_) fun _ _ y=>y);obtain⟨vs,H1,I1,r1,v,ev,hq⟩:=h₂;have kp:=I1.bk;subst ev;refine⟨rfl,by rw[<-r1.length];show 1<=sizeLine;decide,kp _ _ hC,hN.keeps kp,kp _ _ X2,T.keeps kp,fun h' e hm=>?_⟩;obtain⟨t,Vn,SR,QC⟩:=hm.there;have I2:=Inv.exc (args:=us) I1 hm.keeps hm.new Vn;have et:t≠e:=fun z=>by rw[z,Vn] at QC;cases QC
 have Vv:=I1.RL hm.new;have Vu:=I1.RL SR;have Xv:=I1.N6 hex hm.new;have Xu:=I1.N6 hex SR;have r2:Vals [V.ref e,v] (Value.ref e::us):= .cons rfl r1;have hl:(Value.ref e::us).length=2:=by rw[<-r2.length];rfl
 refine wpAny_call (am3 (FI.run _ X.stack _ _ ⟨Value.ref e::us,[]⟩ (Value.ref e::us) [V.ref e,v] (fun v' H'=>v'= .aF/\ ∃dx,upd H1 e (.ext (LX.tL e C t)) dx=none/\H'=upd (upd (upd H1 e (.ext (LX.tL e C t))) dx (.xd [(f,v)])) e (.ext (LX.qV e C t dx))) (fun _ _ _=>False) (hr.make C us []) (I2.Lm.make C us [])
  (by have:=hb _ (Value.ref e::us) I2.kJ (by simpa using hl);simpa using this) r2 ⟨e,C,t,v,rfl,ag,S,fun dx jm=>⟨rfl,dx,jm,rfl⟩⟩) fun rr s' OF=>?_)
 cases rr with
 | error ev=>exact OF.elim
 | ok fl=>
  cases fl with
  | next=>exact OF.elim
  | brk=>exact OF.elim
  | cont=>exact OF.elim
  | ret u=>
   have Vg:=OF;obtain⟨v',H',My,Ja,Qs,Gi,UP,⟨e1,dx,jm,eH⟩⟩:=Vg;obtain⟨v2,H2,I3,rv,⟨e2,dx2,Yo,eH2⟩⟩:=I2.after (Q:=fun v' H''=>v'= .aF/\ ∃dx,upd H1 e (.ext (LX.tL e C t)) dx=none/\H''=upd (upd (upd H1 e (.ext (LX.tL e C t))) dx (.xd [(f,v)])) e (.ext (LX.qV e C t dx))) ⟨v',H',My,Ja,Qs,Gi,UP,⟨e1,dx,jm,eH⟩⟩;subst e2;subst e1;have I3:=I2.t7 (H':=H') My Qs Gi Ja fun b z=>absurd z (by simp);have ne:dx≠e:=fun z=>by rw[z,ag] at jm;cases jm
   have Vt:H' e=some (.ext (LX.qV e C t dx)):=by rw[eH,ag]
   have tk:s'.heap.get? t=some {cls:= .type "tuple",data:= .seq us.toArray}:=by
    refine Qs.keep t _ QC (by rw[ah et];exact Vu) (fun z=>?_) (by simp);obtain⟨_,o,ho,_⟩:=I1.stack.mem z;rw[SR] at ho;cases ho
   have H't:H' t=none:=Qs.free t _ QC (by rw[ah et];exact Vu) (by simp);have I4:=I3.drop' Vt;have eD:pH H' e=upd H1 dx (.xd [(f,v)]):=by
    funext b
    by_cases z:b=e
    . subst z;rw[i9,ah (Ne.symm ne)];exact Vv.symm
    . rw[cU z,eH,ah z];by_cases y:b=dx
      . subst y;rw[ag,ag]
      . rw[ah y,ah y,ah z]
   obtain⟨b1,_⟩:=I3.aI e _ Vt;refine⟨?_,I4.bk _ _ hC,⟨_,t,b1,rfl,rfl⟩,?_⟩
   . cases UP;rfl
   . rw[eD] at I4;have MG:H1 dx=none:=by rw[ah ne] at jm;exact jm
     exact OC pins σ _ s' e t dx us I4 b1 ⟨_,_,tk,rfl,rfl⟩ (by rw[ah (Ne.symm ne)];exact Vv) (by
      have:pH H' e t=none:=by rw[cU et];exact H't
      rw[eD] at this;exact this) Xv Xu (hq dx MG)
theorem Jq{P:Program}{w:World}{K:PySem.W.Frag}:
  QZ (fJ (oP P w) P w K mg base N qual scope f cd A outer s H E) C (fun dx H'=>E (.ref C) (some dx) H'):=fun pins σ H' s' ea t dx args I he ht h1 h2 h3 h4 q=>
 vw (X:=fJ (oP P w) P w K mg base N qual scope f cd A outer s H E) I rfl rfl rfl he rfl rfl rfl ht h1 h2 h3 h4 q
end
theorem yX(I:Inv X pins σ H s)(kh:X.stack=X.env::X.outer)(lh:X.env.frame=some X.env.locals)(hex:X.ex= [])(c:oP X.prog X.w X.stack H s E e s'):
  wpAny (model X.prog X.w) X.A (leaving X.env e) (fun _ Ff=>oP X.prog X.w X.outer X.H₀ X.s₀ E e Ff) E' s':=by
 obtain⟨ea,t,dx,cls,args,H',B,rfl,os,bare,un,aI,fl,cv,tp,bt,N7,q⟩:=c;have I3:=I.t7 os un aI bare fun b z=>absurd z (by simp);have TN:iJ B (X.env::X.outer) ea cls (.ref t) (some dx) .none s'.heap:=by rw[<-kh];exact fl
 have u3:Un (fb X.outer) [] X.H₀ H' X.s₀.heap s'.heap:=by have:=I3.base;rwa [hex] at this
 have Up:ig (fb X.outer) H' X.s₀.heap s'.heap B:=fun b o e n hb=>by
  refine cv b o e (fun z=>?_) ?_
  . rw[kh] at z;unfold fb at z;rw[an1,lh] at z;rcases ac3.mp z with z | z
    . rcases hb with hb | hb
      . rw[z,I3.free] at hb;cases hb
      . obtain⟨o2,ki⟩:=ag2.mp hb;have l1:=ac2 ki;have l2:=I.ok.above;rw[z] at l1;exact absurd l1 (Nat.not_lt.mpr l2)
    . exact n z
  . rcases hb with hb | hb
    . exact .inl hb
    . obtain⟨o2,ki⟩:=ag2.mp hb;obtain⟨o3,X4⟩:=I.base.there b o2 ki (by rw[hex];simp);exact .inr (by rw[X4];rfl)
 have QO: ∀b∈fb X.outer,H' b=none:=fun b hb=>I3.ju b (by rw[kh];unfold fb;rw[an1,lh];exact ab5 _ hb);refine leaveX (by rw[<-kh];exact I.ok.frames) lh TN fun h' fx sl=>?_;refine⟨ea,t,dx,cls,args,H',B,rfl,os.trans I.os,bare,HA u3 Up fx.st sl (fun b hb o e vs=>?_) (fun b hb o _=>?_),CA aI Up fx.st QO,fx,fun b o e n hb=>?_,tp.of_slots sl,bt,N7,q⟩
 . obtain⟨_,o2,ki,hd2⟩:=I.ok.i7.mem hb;rw[e] at ki;cases ki;exact hd2 vs
 . obtain⟨_,o2,ki,_⟩:=fx.ff.mem hb;exact⟨o2,ki⟩
 . have Tp : ∃ o', s'.heap.get? b = some o' := by
     rcases hb with hb | hb
     . obtain⟨z,hz⟩:=ag2.mp hb;exact hasObj (aI b z hz)
     . obtain⟨z,hz⟩:=ag2.mp hb;exact u3.there b z hz (by simp)
   obtain⟨o',vB⟩:=Tp;have cb:=Up b o' vB n hb;have:=fx.st b o' cb;have e:h'.get? b=some o:=e;rw[e] at this;cases this;exact cb
theorem NS{P:Program}{w:World}{K:PySem.W.Frag}:
  Passes (oP P w) (fJ (oP P w) P w K mg base N qual scope f cd A outer s H E) E:=fun pins σ H' s1 e s' I c=>
 yX (X:=fJ (oP P w) P w K mg base N qual scope f cd A outer s H E) I rfl rfl rfl c
def n6(P:Program)(w:World)(K:PySem.W.Frag)(mg:Str->Option Value)(base:Heap)(x:Str)(k:Nat)(ps:List Str)(sp:Sp):Prop:=
 ∃f fd,mg x=some (.ref f)/\PySem.W.keepIn K (.ref f)=true/\Binds K fd ps []/\aJ P w K mg base (oP P w) k f fd ps sp
theorem u4{xp yp aY apos cp hp pos:Pos}(h:n6 X.prog X.w X.K X.mg X.base x k ps sp)(hr:bg k X.A)(ha:PA X.Cd (e::es) t)(hN:X.N.Nodup)(ON:X.mg c=some (.ref C0))(hs: ∀ea,iH (X.marked ea) (b₀::oY) ts)(hg:Gl X x:=by rfl)(OV:Gl X c:=by rfl)(kh:X.stack=X.env::X.outer:=by rfl)(lh:X.env.frame=some X.env.locals:=by rfl)(S7:X.N[iy]?=some y:=by rfl)(hy:Loc X.env.scope y:=by first | exact Or.inl rfl | exact Or.inr rfl)(S8:X.N[ie]?=some n:=by rfl)(S6:X.env.scope.names.lookup n=some .local:=by rfl)(Te:X.fn y=true\/X.env.scope.names.lookup y=some .local:=by first | exact .inl rfl | exact .inr rfl | assumption)(gs:(x==("__debug__":Str))=false:=by decide)(Gu:(c==("__debug__":Str))=false:=by decide)(he:starEach (e::es) X.env=(false,eval e X.env)::starEach es X.env:=by rfl)(da:(backTo aY (starEach es X.env)).any (·.1)=false:=by rfl)(Gg:swapsWith (.Call (.Name x xp) (e::es) [] aY) (some (.Name y yp)) apos.line X.env=pure false:=by rfl):
  PS X (.Try [.Assign [.Name y yp] (.Call (.Name x xp) (e::es) [] aY) apos] [.ExceptHandler (some (.Name c cp)) (some n) (b₀::oY) hp] [] [] pos) (HD X.K C0 sp iy ie t ts):=by
 obtain⟨f,fd,h1,h2,h3,h4⟩:=h;exact sI h4 hr hg h1 h2 h3 ha hN kh lh S7 hy S8 S6 OV ON hs Te gs Gu he da Gg
theorem BN(h:n6 X.prog X.w X.K X.mg X.base x k ps sp)(hr:bg k X.A)(hx:Passes (oP X.prog X.w) X E)(ha:PA X (e::es) t)(hg:Gl X x:=by rfl)(gs:(x==("__debug__":Str))=false:=by decide)(he:starEach (e::es) X.env=(false,eval e X.env)::starEach es X.env:=by rfl)(da:(backTo pos (starEach es X.env)).any (·.1)=false:=by rfl):
  PE X (.Call (.Name x p) (e::es) [] pos) (wQ sp [] E t):=by
 obtain⟨f,fd,h1,h2,h3,h4⟩:=h;exact xk h4 hr hg h1 h2 h3 .nil hx ha gs he da
end L2
namespace LD
open PySem PySem.Spec L2 LB PyProof.Rows LW
abbrev yk:=cG->(Int->List Sl->Prop)->List Sl->Prop
def ZS(f:Str)(Ws:List Wd)(Ew:Addr->Hp->Prop)(Δx:Int->List Sl->Prop):Prop:= ∀M α H σ δ n dx,az Ws M α H σ δ->Δx n δ->H dx=none->Ew dx (upd H dx (.xd [(f,.int n)]))
def lY(f:Str)(Ew:Addr->Hp->Prop)(T:yk):TS:=fun D σ H=> ∃Ws M α δ Δ Δx,az Ws M α H σ δ/\Lk Ws D Δ/\ZS f Ws Ew Δx/\T Δ Δx δ
section
variable{X:Cx}{f:Str}{Ew:Addr->Hp->Prop}{st:Stmt}{rest body:List Stmt}{T:kg}{TX UX:yk}{c e tg iter:Expr}{es:List Expr}{u:kj}{tA:eZ}{ti:oO}{g:og}{pos:Pos}
def WL(T:kg):yk:=fun Δ _ δ=>T Δ δ
def RG(T U:yk):yk:=fun Δ Δx δ=>T {Δ with nx:=U Δ Δx} Δx δ
def WM(u:kj)(T U:yk):yk:=fun Δ Δx δ=>u δ fun b δ'=>if b=true then T Δ Δx δ' else U Δ Δx δ'
def MX:yk:=fun Δ _ δ=>Δ.nx δ
def Jp(t:eZ):yk:=fun _ Δx δ=>t δ fun ds δ'=> ∃n,ds= [.int n]/\Δx n δ'
def RH(ti:oO)(g:og)(TX:yk):yk:=fun Δ Δx δ=>PJ ti g (fun Δ' δ'=>TX Δ' Δx δ') Δ δ
theorem Jn(h:Ex X st T):PS X st (lY f Ew (WL T)):=PS.imp h fun D σ H bZ=>(by obtain⟨Ws,M,α,δ,Δ,Δx,E,L,_,q⟩:=bZ;exact(⟨Ws,M,α,δ,Δ,E,L,q⟩))
theorem uB(h1:PS X st (lY f Ew TX))(h2:iH X rest (lY f Ew UX)):iH X (st::rest) (lY f Ew (RG TX UX)):=iH.imp (aT h1 h2) fun D σ H eS=>(by obtain⟨Ws,M,α,δ,Δ,Δx,E,L,LX,q⟩:=eS;exact(
 ⟨Ws,M,α,δ,{Δ with nx:=UX Δ Δx},Δx,E,⟨fun M α H σ δ E q=>⟨Ws,M,α,δ,Δ,Δx,E,L,LX,q⟩,L.rt,L.bk,L.ct⟩,LX,q⟩))
theorem AM(h1:PS X st (lY f Ew TX)):iH X [st] (lY f Ew TX):=cK h1
theorem MV:iH X [] (lY f Ew MX):=iH.imp jD fun D σ H gr=>(by obtain⟨Ws,M,α,δ,Δ,Δx,E,L,_,q⟩:=gr;exact(L.nx _ _ _ _ _ E q))
theorem RF(hc:Tv X c u)(ha:iH X sa (lY f Ew TX))(hb:iH X sb (lY f Ew UX)):PS X (.If c sa sb pos) (lY f Ew (WM u TX UX)):=PS.imp (sJ hc ha hb) fun D σ H iC=>(by obtain⟨Ws,M,α,δ,Δ,Δx,E,L,LX,q⟩:=iC;exact(
 ⟨Ws,M,α,δ,_,E,q,fun b δ' H' q1 E1 c1=>by
  cases b with
  | true=>rw[if_pos rfl] at q1 ⊢;exact⟨Ws,M,α,δ',Δ,Δx,E1,L,LX,q1⟩
  | false=>rw[if_neg ac0] at q1 ⊢;exact⟨Ws,M,α,δ',Δ,Δx,E1,L,LX,q1⟩⟩))
theorem y_raise(O:LX.mC x C fI mz newId X.mg X.base)(Fn:ExcBaseFacts Bn newId Ep LS)(As:mz.contains (.type Bn)=true)(FB:ExcBaseFacts B Kn i5 mz)(FI:aJ X.prog X.w X.K X.mg X.base cX k fI MH ["self",f] (mV X.K f))(hb:Binds X.K MH ["self",f] [])(S:Ap X.K C f)(hr:bg (k+1) X.A)(hc:X.calm=true)(ha:Av X [e] tA)(OC:QZ X C Ew)(hex:X.ex= []:=by rfl)(hg:Gl X x:=by rfl)(gs:(x==("__debug__":Str))=false:=by decide)(he:starEach [e] X.env= [(false,eval e X.env)]:=by rfl):
  PS X (.Raise (some (.Call (.Name x np) [e] [] aY)) none pos) (lY f Ew (Jp tA)):=PS.imp (yR O Fn As FB FI hb S hr hc hg ha OC hex gs he) fun D σ H iS=>(by obtain⟨Ws,M,α,δ,Δ,Δx,E,L,LX,q⟩:=iS;exact(
 ⟨Ws,M,α,δ,_,E,q,fun ds δ' H' vs jq E1 c1 r1=>(by
  obtain⟨n,e1,q1⟩:=jq;subst e1;obtain⟨v,ys,rfl,r2,r3⟩:=r1.aG;cases r3.cC;cases r2.ofInt;exact⟨_,rfl,fun dx jm=>LX _ _ _ _ _ _ _ E1 q1 jm⟩)⟩))
theorem MW(hc:X.calm=true)(hi:Iv X tg iter ti)(hg:Gv X tg g)(hb:iH X body (lY f Ew TX))(hp:PassesOwn (model X.prog X.w) X.A X.env X.xe)(hs: ∀x,foldedSetIterable iter X.env x=pure x:=by intro _;rfl):PS X (.For tg iter body [] pos) (lY f Ew (RH ti g TX)):=
 PS.imp (BA hp hc hi hg hb hs) fun D σ H bZ=>(by obtain⟨Ws,M,α,δ,Δ,Δx,E,L,LX,q⟩:=bZ;exact(⟨Ws,M,α,δ,_,E,q,fun ao δ1 H1 J eS E1 c1 yl=>(by obtain⟨P,p0,step,fin⟩:=eS;exact(by
  refine⟨fun i m σ' H'=>m=ao.length - i/\i<=ao.length/\ ∃M' α' δ',az (⟨H1,M,fun _=>False,M,none⟩::Ws) M' α' H' σ' δ'/\P i δ',⟨ao.length,by simp,ag0 _,M,α,δ1,E1.loop,p0⟩,?_⟩;rintro i m σ' H' ⟨rfl,hi,M',α',δ',E',p'⟩
  have w:=E'.w _ ab3;have kf:Kf M H1 H':=w.bs;have hb: ∀b,H1 b≠none-> ¬M b-> ¬M' b:=fun b n z y=>(w.m1 b y).elim z n;by_cases dH:i < ao.length
  . obtain⟨go,rR⟩:=yl.go i H' M' kf E'.al hb dH;refine .inr ⟨go,fun σ2 H2=> ∃M2 α2 δ2,az (⟨H1,M,fun _=>False,M,none⟩::Ws) M2 α2 H2 σ2 δ2/\P (i+1) δ2,fun σ2 H2 z=>⟨ao.length - (i+1),by grind,rfl,dH,z⟩,fun x H2 y=>?_⟩;obtain⟨s,d,hd,rx⟩:=rR x H2 y;refine⟨_,M',α',δ',d,_,E'.same s,rx,step i d δ' hd p',fun α3 δ3 σ3 q3 E3 _=>?_⟩;refine⟨_,M',α3,δ3,{Δ with nx:=P (i+1),ct:=P (i+1),bk:=Δ.nx},Δx,E3,⟨fun M4 α4 H4 σ4 δ4 E4 q4=>⟨M4,α4,δ4,E4,q4⟩,fun M4 α4 H4 σ4 δ4 v d E4 r4 q4=>L.rt _ _ _ _ _ _ _ E4.drop r4 q4,fun M4 α4 H4 σ4 δ4 E4 q4=>L.nx _ _ _ _ _ E4.drop q4,fun M4 α4 H4 σ4 δ4 E4 q4=>⟨M4,α4,δ4,E4,q4⟩⟩,fun M4 α4 H4 σ4 δ4 n dx E4 q4 h4=>LX _ _ _ _ _ _ _ E4.drop q4 h4,q3⟩
  . have e:i=ao.length:=by grind
    subst e;exact .inl ⟨yl.stop H' kf,L.nx _ _ _ _ _ E'.drop (fin _ p')⟩))⟩))
end
theorem AL{ao:List Dt}{g:og}{TX:yk}{Δ:cG}{Δx:Int->List Sl->Prop}(I:Nat->List Sl->Prop)(h0:I 0 δ1)(h: ∀i d δ2,ao[i]?=some d->I i δ2-> ∀Δ':cG,(∀δ',I (i+1) δ'->Δ'.nx δ')->(∀d δ',Δ.rt d δ'->Δ'.rt d δ')->g d δ2 fun δ3=>TX Δ' Δx δ3)(fin: ∀δ2,I ao.length δ2->Δ.nx δ2):
  ∃P:Nat->List Sl->Prop,P 0 δ1/\(∀i d δ2,ao[i]?=some d->P i δ2->g d δ2 fun δ3=>TX {Δ with nx:=P (i+1),ct:=P (i+1),bk:=Δ.nx} Δx δ3)/\ ∀δ2,P ao.length δ2->Δ.nx δ2:=
 ⟨I,h0,fun i d δ2 e hI=>h i d δ2 e hI _ (fun _ z=>z) fun _ _ z=>z,fin⟩
def yJ(f:Str)(C:Addr)(S:List Dt->(Dt->Prop)->(Int->Prop)->Prop):Sp:=fun vs H Q E=> ∃M ds Qd Ed,iI M H/\ay M H vs ds/\S ds Qd Ed/\(∀r H' v',Qd r->ax H H'->Rep M H' v' r->Q v' H')/\(∀n dx H',Ed n->ax H H'->H' dx=some (.xd [(f,.int n)])->E (.ref C) (some dx) H')
section
variable{P:Program}{w:World}{K:PySem.W.Frag}{mg:Str->Option Value}{base:Heap}
theorem TM {fl : Str} {x qual : Str} {st : Stmt} {k : Nat} (F : dM K x qual st f fd) (sc : aw N ps (af st)) (len : ∀ ds Qd Ed, S ds Qd Ed -> ds.length = ps.length) (dw : ∀ (ba : Value) (A : Around) (outer : List Env) (s : Shared) (H : Hp) (E : XK), bg k (A.deeper (envOfC qual (af st) s.heap.objs.size f ba)) -> QZ (fJ (oP P w) P w K mg base N qual (af st) f ba A outer s H E) C (fun dx H' => E (.ref C) (some dx) H') ->
   ∃T,iH (fJ (oP P w) P w K mg base N qual (af st) f ba A outer s H E) (bz st) (lY fl (fun dx H'=>E (.ref C) (some dx) H') T)/\ ∀ds Qd Ed,S ds Qd Ed->T {nx:=fun _=>Qd .aF,rt:=fun d _=>Qd d} (fun n _=>Ed n) (ds.map .im++List.replicate (N.length - ps.length) .no)):
  aJ P w K mg base (oP P w) (k+1) f fd ps (yJ fl C S):=by
 refine F.UY sc (fun vs H Q E h=>?_) (fun ba A outer s H vs Q E hr h=>?_)
 . obtain⟨M,ds,Qd,Ed,al,r,q,_⟩:=h;rw[r.1];exact len ds Qd Ed q
 . obtain⟨M,ds,Qd,Ed,al,r,q,kk,ke⟩:=h;obtain⟨T,hT,hq⟩:=dw ba A outer s H E hr Jq;refine⟨_,hT,[⟨H,fun _=>False,M,M,none⟩],M,List.replicate (ds.length+(N.length - ps.length)) [],ds.map .im++List.replicate (N.length - ps.length) .no,_,_,?_,?_,?_,hq ds Qd Ed q⟩
   . have e:L2.start N vs=vs.map some++List.replicate (N.length - ps.length) none:=by unfold L2.start;rw[r.1,len ds Qd Ed q]
     rw[e];refine iu al r fun W hW=>?_;rw[aa6.mp hW];have bf:(List.replicate (ds.length+(N.length - ps.length)) ([]:List Addr)).flatten= []:=by simp
     refine⟨fun b o e _=>e,fun b n=>n,fun a ha=>by rw[bf] at ha;exact absurd ha aa4,fun a h=>h,fun a h=> .inl h,fun d c e=>(by cases e),fun j s as h1 h2 _ a ha=>?_⟩;rw[ac1] at h2;split at h2
     . cases h2;exact absurd ha aa4
     . cases h2
   . have same : ∀ {M' α' H' σ' δ'}, az [⟨H, fun _ => False, M, M, none⟩] M' α' H' σ' δ' -> ax H H' /\ ∀ a, M a -> M' a := fun E' => by
       have k:=E'.w _ (aa6.mpr rfl);exact⟨fun b o e=>k.bs b o e (fun z=>z),k.m0⟩
     exact⟨fun M' α' H' σ' δ' E' q=>kk _ _ _ q (same E').1 .aF,fun M' α' H' σ' δ' v d E' r' q=>kk _ _ _ q (same E').1 (r'.mono fun a o e n=>⟨e,fun z=>n ((same E').2 a z)⟩),fun _ _ _ _ _ _ z=>z.elim,fun _ _ _ _ _ _ z=>z.elim⟩
   . intro M' α' H' σ' δ' n dx E' q jm;have k:=E'.w _ (aa6.mpr rfl);refine ke n dx _ q (fun b o e=>?_) ag;have:=k.bs b o e (fun z=>z);rw[ah fun z=>by rw[z,jm] at this;cases this];exact this
end
def rF(M:Addr->Prop)(H:Hp)(vs:List V)(ss:List Sl):Prop:=vs.length=ss.length/\ ∀(i:Nat) v s,vs[i]?=some v->ss[i]?=some s->pZ M H (some v) s []/\s.cB=false
theorem rF.nil:rF M H [] []:=⟨rfl,fun i v s h=>by simp at h⟩
theorem rF.cons{M:Addr->Prop}{H:Hp}{v:V}{s:Sl}{vs:List V}{ss:List Sl}(h:pZ M H (some v) s [])(nb:s.cB=false)(r:rF M H vs ss):rF M H (v::vs) (s::ss):=
 ⟨by rw[ac7,ac7,r.1],fun i y t h1 h2=>by
  cases i with
  | zero=>cases h1;cases h2;exact⟨h,nb⟩
  | succ j=>exact r.2 j y t (by simpa using h1) (by simpa using h2)⟩
abbrev DS:=List Sl->(Dt->Prop)->Prop
def spS(S:DS):Sp:=fun vs H Q _=> ∃M ss Qd,iI M H/\rF M H vs ss/\S ss Qd/\ ∀r H' v',Qd r->ax H H'->Rep M H' v' r->Q v' H'
theorem vR(al:iI M H)(r:rF M H vs ss)(w: ∀W∈Ws,Q0 W M (List.replicate (ss.length+n) []) H (ss++List.replicate n .no)):
  az Ws M (List.replicate (ss.length+n) []) H (vs.map some++List.replicate n none) (ss++List.replicate n .no):=by
 have bf:(List.replicate (ss.length+n) ([]:List Addr)).flatten= []:=by simp
 refine⟨by simp [r.1],by simp,fun i s h=>?_,by rw[bf];exact ai6,fun a ha=>by rw[bf] at ha;exact absurd ha aa4,al,w⟩;have hi:=(aa5.mp h).1;rw[aa9,ah3] at hi;have ha:(List.replicate (ss.length+n) ([]:List Addr))[i]?=some []:=by rw[ac1,if_pos hi]
 by_cases hl:i < ss.length
 . rw[ad5 hl] at h;have hv:vs[i]?=some (vs[i]'(by rw[r.1];exact hl)):=aa2 _;exact⟨_,[],by rw[ad5 (by rw[aa1,r.1];exact hl),aa8,hv];rfl,ha,(r.2 i _ s hv h).1⟩
 . rw[ae4 (by omega),ac1] at h;split at h
   . rename_i hn;cases h;exact⟨none,[],by rw[ae4 (by rw[aa1,r.1];omega),ac1,if_pos (by rw[aa1,r.1];exact hn)],ha,rfl⟩
   . cases h
theorem yu:Q0 ⟨H,fun _=>False,M,M,none⟩ M (List.replicate k []) H δ:=by
 have bf:(List.replicate k ([]:List Addr)).flatten= []:=by simp
 refine⟨fun b o e _=>e,fun b n=>n,fun a ha=>by rw[bf] at ha;exact absurd ha aa4,fun a h=>h,fun a h=> .inl h,fun d c e=>(by cases e),fun j s as h1 h2 _ a ha=>?_⟩;rw[ac1] at h2;split at h2
 . cases h2;exact absurd ha aa4
 . cases h2
section
variable{P:Program}{w:World}{K:PySem.W.Frag}{mg:Str->Option Value}{base:Heap}
theorem A9{N ps:List Str}(r:rF M H vs ss)(l:ss.length=ps.length):L2.start N vs=vs.map some++List.replicate (N.length - ps.length) none:=by unfold L2.start;rw[r.1,l]
theorem VG {x qual : Str} {st : Stmt} {k : Nat} (F : dM K x qual st f fd) (sc : aw N ps (af st)) (len : ∀ ss Qd, S ss Qd -> ss.length = ps.length) (dw : ∀ (ba : Value) (A : Around) (outer : List Env) (s : Shared) (H : Hp) (E : XK), bg k (A.deeper (envOfC qual (af st) s.heap.objs.size f ba)) ->
   ∃T,AA (fJ cX P w K mg base N qual (af st) f ba A outer s H E).Cd (bz st) T/\ ∀ss Qd,S ss Qd->T {nx:=fun _=>Qd .aF,rt:=fun d _=>Qd d} (ss++List.replicate (N.length - ps.length) .no)):
  aJ P w K mg base cX (k+1) f fd ps (spS S):=by
 refine F.ok sc (fun vs H Q E h=>?_) (fun ba A outer s H vs Q E hr h=>?_)
 . obtain⟨M,ss,Qd,al,r,q,_⟩:=h;rw[r.1];exact len ss Qd q
 . obtain⟨M,ss,Qd,al,r,q,kk⟩:=h;obtain⟨T,hT,hq⟩:=dw ba A outer s H E hr;refine⟨lS T,hT,[⟨H,fun _=>False,M,M,none⟩],M,List.replicate (ss.length+(N.length - ps.length)) [],ss++List.replicate (N.length - ps.length) .no,_,?_,?_,hq ss Qd q⟩
   . rw[A9 r (len ss Qd q)];exact vR al r fun W hW=>by rw[aa6.mp hW];exact yu
   . have same : ∀ {M' α' H' σ' δ'}, az [⟨H, fun _ => False, M, M, none⟩] M' α' H' σ' δ' -> ax H H' /\ ∀ a, M a -> M' a := fun E' => by
       have k:=E'.w _ (aa6.mpr rfl);exact⟨fun b o e=>k.bs b o e (fun z=>z),k.m0⟩
     refine⟨fun M' α' H' σ' δ' E' q=>kk _ _ _ q (same E').1 .aF,fun M' α' H' σ' δ' v d E' r' q=>kk _ _ _ q (same E').1 (r'.mono fun a o e n=>⟨e,fun z=>n ((same E').2 a z)⟩),fun _ _ _ _ _ _ z=>z.elim,fun _ _ _ _ _ _ z=>z.elim⟩
end
end LD
namespace L2
open PySem PySem.Spec PyProof.Rows
def uq(P:Program)(w:World)(K:PySem.W.Frag)(mg:Str->Option Value)(base:Heap)(f:Addr)(k:Nat)(ps:List Str)(sp:Sp):Prop:=
 ∃fd,PySem.W.keepIn K (.ref f)=true/\Binds K fd ps []/\aJ P w K mg base cX k f fd ps sp
section
variable{X:Cx}{f:Addr}{k i:Nat}{ps:List Str}{sp:Sp}{x:Str}{p pos:Pos}{e:Expr}{es:List Expr}{t:TA}
def JF(f:Addr)(sp:Sp)(i:Nat)(t:TA):TE:=fun σ H Q=>σ[i]?=some (some (.ref f))/\t σ H fun vs H1=>sp vs H1 Q E0
theorem BR(h:uq X.prog X.w X.K X.mg X.base f k ps sp)(hr:bg k X.A)(hn:PE X (.Name x p) (iF i))(ha:PA X (e::es) t)
  (he:starEach (e::es) X.env=(false,eval e X.env)::starEach es X.env:=by rfl) (da:(backTo pos (starEach es X.env)).any (·.1)=false:=by rfl):
  PE X (.Call (.Name x p) (e::es) [] pos) (JF f sp i t):=by
 obtain⟨fd,hk,hb,F⟩:=h;intro pins s σ H Q I hh;obtain⟨hσ,q⟩:=hh;refine aj3 (aN (hn pins s σ H (fun v H1=>v= .ref f/\t σ H1 fun vs H2=>sp vs H2 Q E0) I ⟨_,hσ,rfl,q⟩) fun u s1 zz=>?_);obtain⟨v,H1,I1,rv,ev,q1⟩:=zz;subst ev;obtain rfl:u=Value.ref f:=rv;refine PySem.W.callWith_K (h₀:=X.base) I.ok.mod.Oo hk (aN (ha pos pins s1 σ H1 _ I1 q1) fun us s2 eS=>?_) he da;obtain⟨vs,H2,I2,r,q2⟩:=eS;refine⟨I2.kJ,?_⟩;exact Bs (dvs:= []) (ds:= []) F hr hb .nil HP I2 r (by rw[af0];exact q2)
end
end L2
namespace LD
open PySem PySem.Spec L2 LB PyProof.Rows LW
abbrev Ei:=List Sl->(List Sl->List Sl->Prop)->Prop
inductive lW(t:Ei)(σ:L2.St)(H:Hp)(Q:List V->Hp->Prop):Prop
 | mk (W:List Wd) (M:Addr->Prop) (α:List (List Addr)) (δ:List Sl) (Qd:List Sl->List Sl->Prop) (h1:az W M α H σ δ) (h2:t δ Qd) (h3: ∀ss δ' H' vs,Qd ss δ'->az W M α H' σ δ'->cW α H H'->rF M H' vs ss->Q vs H')
abbrev Wv(X:Cx)(es:List Expr)(t:Ei):Prop:=PA X es (lW t)
section
variable{X:Cx}{e:Expr}{es:List Expr}{te:bh}{t:Ei}{tA:eZ}{y x:Str}{yp p pos:Pos}{f:Addr}{k:Nat}{ps:List Str}{S:DS}{S1:DN}
def RK:Ei:=fun δ Q=>Q [] δ
def WR(te:bh)(t:Ei):Ei:=fun δ Q=>te δ fun d δ1=>t δ1 fun ss δ2=>Q (.im d::ss) δ2
def WT(f:Addr)(i:Nat)(t:Ei):Ei:=fun δ Q=>δ[i]?=some (.fn f)/\t δ fun ss δ2=>Q (.fn f::ss) δ2
def WS(f:Addr)(t:Ei):Ei:=fun δ Q=>t δ fun ss δ2=>Q (.fn f::ss) δ2
theorem Hy:Wv X [] RK:=PA.imp aE fun σ H Q zz=>(by obtain⟨W,M,α,δ,Qd,E,q,k⟩:=zz;exact k _ _ _ _ q E cW.rf .nil)
theorem M5(he:Ev X e te)(hr:Wv X es t)(hs:starEach (e::es) X.env=(false,eval e X.env)::starEach es X.env:=by rfl):Wv X (e::es) (WR te t):=PA.imp (aj he hr hs) fun σ H Q zz=>(by
 obtain⟨W,M,α,δ,Qd,E,q,k⟩:=zz;exact⟨W,M,α,δ,_,E,q,fun d δ1 H1 v q1 E1 c1 r1=>⟨W,M,α,δ1,_,E1,q1,fun ss δ2 H2 vs q2 E2 c2 r2=>k _ _ _ _ q2 E2 (c1.tr c2) (.cons (s:= .im d) ⟨rfl,v,rfl,r1.chg E1 c2⟩ rfl r2)⟩⟩)
theorem M7(i:Nat)(ho:PE X (.Name y yp) (iF i))(hr:Wv X es t)(hs:starEach (.Name y yp::es) X.env=(false,eval (.Name y yp) X.env)::starEach es X.env:=by rfl):Wv X (.Name y yp::es) (WT f i t):=PA.imp (aj ho hr hs) fun σ H Q zz=>(by
 obtain⟨W,M,α,δ,Qd,E,⟨h,q⟩,k⟩:=zz;obtain⟨o,as,s1,s2,ea,eo⟩:=E.sl i _ h;subst eo;exact⟨_,s1,W,M,α,δ,_,E,q,fun ss δ2 H2 vs q2 E2 c2 r2=>k _ _ _ _ q2 E2 c2 (.cons (s:= .fn f) ⟨rfl,rfl⟩ rfl r2)⟩)
theorem M6(hg:Gl X x)(hm:X.mg x=some (.ref f))(hr:Wv X es t)(gs:(x==("__debug__":Str))=false:=by decide)(hs:starEach (.Name x p::es) X.env=(false,eval (.Name x p) X.env)::starEach es X.env:=by rfl):Wv X (.Name x p::es) (WS f t):=PA.imp (aj (dS (v:= .ref f) hg hm rfl gs) hr hs) fun σ H Q zz=>(by
 obtain⟨W,M,α,δ,Qd,E,q,k⟩:=zz;exact⟨W,M,α,δ,_,E,q,fun ss δ2 H2 vs q2 E2 c2 r2=>k _ _ _ _ q2 E2 c2 (.cons (s:= .fn f) ⟨rfl,rfl⟩ rfl r2)⟩)
def ZJ(S:DS)(t:Ei):bh:=fun δ Q=>t δ fun ss δ'=>S ss fun r=>Q r δ'
theorem IQ(h:dj X.prog X.w X.K X.mg X.base x k ps (spS S))(hr:bg k X.A)(ha:Wv X (e::es) t)(hg:Gl X x:=by rfl)
  (gs:(x==("__debug__":Str))=false:=by decide) (he:starEach (e::es) X.env=(false,eval e X.env)::starEach es X.env:=by rfl) (da:(backTo pos (starEach es X.env)).any (·.1)=false:=by rfl):
  Ev X (.Call (.Name x p) (e::es) [] pos) (ZJ S t):=PE.imp (kA h hr hg ha gs he da) fun σ H Q zz=>(by
 obtain⟨W,M,α,δ,Qd,E,q,k⟩:=zz;refine⟨W,M,α,δ,_,E,q,fun ss δ' H' vs q1 E1 c1 r1=>?_⟩;show spS S (vs++ []) H' Q E0;rw[af0];exact⟨M,ss,_,E1.al,r1,q1,fun r H2 v2 q2 s r2=>k _ _ _ _ q2 (E1.same s) (c1.tr (cW.of s)) r2⟩)
def Uh(f:Addr)(S1:DN)(i:Nat)(tA:eZ):bh:=fun δ Q=>δ[i]?=some (.fn f)/\tA δ fun ds δ'=>S1 ds fun r=>Q r δ'
theorem hZ(i:Nat)(h:uq X.prog X.w X.K X.mg X.base f k ps (bP S1))(hr:bg k X.A)(ho:PE X (.Name y yp) (iF i))(ha:Av X (e::es) tA)
  (he:starEach (e::es) X.env=(false,eval e X.env)::starEach es X.env:=by rfl) (da:(backTo pos (starEach es X.env)).any (·.1)=false:=by rfl):
  Ev X (.Call (.Name y yp) (e::es) [] pos) (Uh f S1 i tA):=PE.imp (BR h hr ho ha he da) fun σ H Q zz=>(by
 obtain⟨W,M,α,δ,Qd,E,⟨hf,q⟩,k⟩:=zz;obtain⟨o,as,s1,s2,ea,eo⟩:=E.sl i _ hf;subst eo;refine⟨s1,W,M,α,δ,_,E,q,fun ds δ' H' vs q1 E1 c1 r1=>?_⟩;exact⟨M,ds,_,E1.al,r1,q1,fun r H2 v2 q2 s r2=>k _ _ _ _ q2 (E1.same s) (c1.tr (cW.of s)) r2⟩)
end
noncomputable def xA:List Dt->Option (List Key)
 | []=>some []
 | d::ds=>match Oq d,xA ds with
  | some k,some ks=>some (k::ks)
  | _,_=>none
noncomputable def Ga:Dt->Option (List Key)
 | .tup ds=>xA ds
 | _=>none
theorem sZ: ∀{ds:List Dt} {vs:List V} {ks:List Key},ay M H vs ds->xA ds=some ks->vs=ks.map kV
 | [],vs,ks,r,h=>by cases h;cases r.cC;rfl
 | d::ds,vs,ks,r,h=>by
  obtain⟨x,ys,rfl,rx,ry⟩:=r.aG;unfold xA at h;split at h
  . rename_i k ks' h1 h2;cases h;rw[F9 rx h1,sZ ry h2];rfl
  . cases h
theorem nz(r:Rep M H v d)(h:Ga d=some k): ∃b,v= .ref b/\H b=some (.tup (k.map kV)):=by
 cases d with
 | tup ds=>
  obtain⟨b,xs,rfl,hb,n,rr⟩:=r.bQ;rw[sZ rr h] at hb;exact⟨b,rfl,hb⟩
 | _=>cases h
noncomputable def yy:List (List Key)->List Dt->List Key->Option Dt
 | k'::ks,d::ds,k=>if k'=k then some d else yy ks ds k
 | _,_,_=>none
theorem sd: ∀{vs:List (List Key × V)} {ds:List Dt} {d:Dt},ay M H (vs.map (·.2)) ds->yy (vs.map (·.1)) ds k=some d-> ∃v,fL vs k=some v/\Rep M H v d
 | [],ds,d,r,h=>by cases ds <;> cases h
 | (k',v)::vs,[],d,r,h=>by cases h
 | (k',v)::vs,d'::ds,d,r,h=>by
  obtain⟨x,ys,e,rx,ry⟩:=r.aG;rw[ac9] at e;injection e with e1 e2
  have e1:v=x:=e1;subst e1 e2;rw[ac9,yy] at h;by_cases c:k'=k
  . rw[if_pos c] at h;cases h;exact⟨v,by unfold fL;rw[List.find?_cons_of_pos (by simpa using c)];rfl,rx⟩
  . rw[if_neg c] at h;obtain⟨u,hu,ru⟩:=sd ry h;exact⟨u,by unfold fL at hu ⊢;rw[List.find?_cons_of_neg (by simpa using c)];exact hu,ru⟩
theorem sG [DecidableEq κ]{aC:List (κ × V)}(h:k∉aC.map (·.1)):putK aC k v=aC++ [(k,v)]:=by
 unfold putK;rw[if_neg];intro z;obtain⟨kv,m,e⟩:=List.any_eq_true.mp z;exact h (ab7.mpr ⟨kv,m,by simpa using e⟩)
noncomputable def TD(ks:List (List Key))(ds:List Dt):Wr where
 rel:=fun M H v as=> ∃a vs,as= [a]/\v= .ref a/\H a=some (.dT vs)/\vs.map (·.1)=ks/\ay M H (vs.map (·.2)) ds
 st:=fun z ka k=>by
  obtain⟨a,vs,rfl,ev,h,e,r⟩:=z;exact⟨a,vs,rfl,ev,ka a (by simp) _ h,e,r.mono k⟩
noncomputable abbrev td (ks:List (List Key)) (ds:List Dt):Sl:= .ob (TD ks ds)
section
variable{X:Cx}{a b e:Expr}{ta tb tv t:bh}{x:Str}{xp pos pos':Pos}
inductive GW(Q:Dt->List Sl->Prop)(d1 d2:Dt)(δ2:List Sl):Prop
 | mk (ks:List (List Key)) (ds:List Dt) (k:List Key) (d:Dt) (h1:d1= .lN ks ds) (h2:Ga d2=some k) (h3:yy ks ds k=some d) (h4:Q d δ2)
def Pn(ta tb:bh):bh:=fun δ Q=>ta δ fun d1 δ1=>tb δ1 fun d2 δ2=>GW Q d1 d2 δ2
theorem hU(hu:X.A.units+1 < cLine)(ha:Ev X a ta)(hb:Ev X b tb)(hs:L7 b:=by exact fun _ _=>rfl):Ev X (.Subscript a b pos) (Pn ta tb):=PE.imp (jF hu ha hb hs) fun σ H Q zz=>(by
 obtain⟨W,M,α,δ,Qd,E,q,k⟩:=zz;refine⟨W,M,α,δ,_,E,q,fun d1 δ1 H1 x q1 E1 c1 r1=>⟨W,M,α,δ1,_,E1,q1,fun d2 δ2 H2 y zz E2 c2 r2=>?_⟩⟩;obtain⟨ks,ds,kk,d,e,hk,hv,q2⟩:=zz;subst e;obtain⟨a,vs,rfl,ha,n,e2,rr⟩:=(r1.chg E1 c2).N2;subst e2;obtain⟨v,XT,rv⟩:=sd rr hv;obtain⟨kb,rfl,vE⟩:=nz r2 hk;exact⟨a,v,rfl,by rw[<-XT];exact lX.t ha vE,k _ _ _ _ q2 E2 (c1.tr c2) rv⟩)
inductive Pm(i:Nat)(Δ:cG)(δ:List Sl):Prop
 | mk (h1:br δ i) (h2:Δ.nx (δ.set i (td [] [])))
theorem Bj(i:Nat)(hN:X.N.Nodup)(hi:X.N[i]?=some x:=by rfl)(hx:Loc X.env.scope x:=by first | exact Or.inl rfl | exact Or.inr rfl)(hs:swapsWith (.Dict [] [] pos') (some (.Name x xp)) pos.line X.env=pure false:=by rfl)(hf:X.fn x=true\/X.env.scope.names.lookup x=some .local:=by first | exact .inl rfl | exact .inr rfl | assumption):
  Ex X (.Assign [.Name x xp] (.Dict [] [] pos') pos) (Pm i):=PS.imp (cM hN hi hx BO hs hf) fun D σ H zz=>(by
 obtain⟨Ws,M,α,δ,Δ,E,L,ok,q⟩:=zz;intro p hp;exact L.nx _ _ _ _ _ (E.mX (s:=td [] []) hp (fun xs z=>by cases z) ok rfl ⟨_,rfl,p,[],rfl,rfl,ag,rfl,.nil⟩) q)
theorem sj{i:Nat}(E:az W M α H σ δ)(h:δ[i]?=some (td ks ds)): ∃a vs,σ[i]?=some (some (.ref a))/\α[i]?=some [a]/\H a=some (.dT vs)/\vs.map (·.1)=ks/\ay M H (vs.map (·.2)) ds:=by
 obtain⟨o,as,s1,s2,v,rfl,a,vs,rfl,rfl,h1,h2,h3⟩:=E.sl i _ h;exact⟨a,vs,s1,s2,h1,h2,h3⟩
inductive xW(i:Nat)(Δ:cG)(d d2:Dt)(δ2:List Sl):Prop
 | mk (k:List Key) (ks:List (List Key)) (ds:List Dt) (h1:Ga d2=some k) (h2:δ2[i]?=some (td ks ds)) (h3:ks.length < sizeLine) (h4:k∉ks) (h5:Δ.nx (δ2.set i (td (ks++ [k]) (ds++ [d]))))
def Pl(i:Nat)(tb tv:bh):kg:=fun Δ δ=>tv δ fun d δ1=>(∃U9 IH,δ1[i]?=some (td U9 IH))/\tb δ1 fun d2 δ2=>xW i Δ d d2 δ2
theorem qm(i:Nat)(hu:X.A.units+1 < cLine)(ho:PE X (.Name x xp) (iF i))(hb:Ev X b tb)(hv:Ev X e tv)(hs:swapsWith e (some (.Subscript (.Name x xp) b pos')) pos.line X.env=pure false:=by rfl):
  Ex X (.Assign [.Subscript (.Name x xp) b pos'] e pos) (Pl i tb tv):=PS.imp (xa hu ho hb hv hs) fun D σ H zz=>(by
 obtain⟨Ws,M,α,δ,Δ,E,L,q⟩:=zz;refine⟨Ws,M,α,δ,_,E,q,fun d δ1 H1 v zz E1 c1 r1=>?_⟩;obtain⟨⟨U9,IH,h0⟩,q1⟩:=zz;obtain⟨a,WU,h1,h2,h3,h4,r3⟩:=sj E1 h0;refine⟨_,h1,Ws,M,α,δ1,_,E1,q1,fun d2 δ2 H2 y zz E2 c2 r2=>?_⟩;obtain⟨k,ks,ds,hk,hd,l,nk,q2⟩:=zz;obtain⟨a',vs,xM,qS,O6,YG,Mw⟩:=sj E2 hd;rw[h1] at xM;cases xM;obtain⟨kb,rfl,vE⟩:=nz r2 hk;subst YG;refine⟨a,_,rfl,n8.t O6 vE (by rw[aa1] at l;exact l),?_⟩;rw[sG nk];have ma:M a:=E2.mu a (bB qS (by simp));have mo: ∀b u,H2 b=some u-> ¬M b->upd H2 a (.dT (vs++ [(k,v)])) b=some u/\ ¬M b:=fun b u e n=>⟨by rw[ah (fun z=>n (by rw[z];exact ma))];exact e,n⟩
 obtain⟨E3,_⟩:=E2.mod (s':=td (vs.map (·.1)++ [k]) (ds++ [d])) (H':=upd H2 a (.dT (vs++ [(k,v)]))) hd h1 qS rfl ⟨_,rfl,a,vs++ [(k,v)],rfl,rfl,ag,by rw[ab8];rfl,by
   rw[ab8];exact(Mw.mono mo).append (.one ((r1.chg E1 c2).mono mo))⟩ (fun b u e n=>by rw[ah (fun z=>n (by rw[z];simp))];exact e) (fun b hb=>by rw[aa6.mp hb];exact⟨_,ag,fun xs z=>by cases z⟩)
 exact L.nx _ _ _ _ _ E3 q2)
inductive eJ:List Sl->List Sl->Prop
 | nil:eJ [] []
 | no {δ δ0:List Sl}:eJ δ δ0->eJ (.no::δ) (.no::δ0)
 | im {d:Dt} {δ δ0:List Sl}:eJ δ δ0->eJ (.im d::δ) (.im d::δ0)
 | fn {f:Addr} {δ δ0:List Sl}:eJ δ δ0->eJ (.fn f::δ) (.fn f::δ0)
 | td {ks:List (List Key)} {ds:List Dt} {δ δ0:List Sl}:eJ δ δ0->eJ (td ks ds::δ) (.im (.lN ks ds)::δ0)
theorem eJ.len(h:eJ δ δ0):δ.length=δ0.length:=by induction h <;> simp_all
theorem eJ.at(h:eJ δ δ0): ∀{i:Nat} {s0:Sl},δ0[i]?=some s0->(δ[i]?=some s0/\(s0= .no\/(∃d,s0= .im d)\/ ∃f,s0= .fn f))\/ ∃ks ds,δ[i]?=some (LD.td ks ds)/\s0= .im (.lN ks ds):=by
 induction h with
 | nil=>intro i s0 h;simp at h
 | no _ ih=>intro i s0 h;cases i with
  | zero=>cases h;exact .inl ⟨rfl,.inl rfl⟩
  | succ i=>simpa using ih (by simpa using h)
 | im _ ih=>intro i s0 h;cases i with
  | zero=>cases h;exact .inl ⟨rfl,.inr (.inl ⟨_,rfl⟩)⟩
  | succ i=>simpa using ih (by simpa using h)
 | fn _ ih=>intro i s0 h;cases i with
  | zero=>cases h;exact .inl ⟨rfl,.inr (.inr ⟨_,rfl⟩)⟩
  | succ i=>simpa using ih (by simpa using h)
 | td _ ih=>intro i s0 h;cases i with
  | zero=>cases h;exact .inr ⟨_,_,rfl,rfl⟩
  | succ i=>simpa using ih (by simpa using h)
inductive LG(t:bh)(δ:List Sl)(Q:Dt->List Sl->Prop):Prop
 | mk (δ0:List Sl) (h1:eJ δ δ0) (h2:t δ0 fun d _=>ym d/\Q d δ)
theorem zy(E:az W M α H σ δ)(h:eJ δ δ0):az [] (fun a=>M a/\a∉α.flatten) (List.replicate δ0.length []) H σ δ0:=by
 have bf:(List.replicate δ0.length ([]:List Addr)).flatten= []:=by simp
 have mo: ∀a u,H a=some u-> ¬M a->H a=some u/\ ¬(M a/\a∉α.flatten):=fun a u e n=>⟨e,fun z=>n z.1⟩
 refine⟨by rw[E.ls,h.len],by simp,fun i s0 hi=>?_,by rw[bf];exact ai6,fun a ha=>by rw[bf] at ha;exact absurd ha aa4,fun a ha=>E.al a ha.1,fun W hW=>absurd hW aa4⟩;have hl:=(aa5.mp hi).1;have ha:(List.replicate δ0.length ([]:List Addr))[i]?=some []:=by rw[ac1,if_pos hl]
 rcases h.at hi with ⟨hd,hs⟩ | ⟨ks,ds,hd,rfl⟩
 . obtain⟨o,as,h1,h2,h3⟩:=E.sl i _ hd;refine⟨o,[],h1,ha,?_⟩;rcases hs with rfl | ⟨d,rfl⟩ | ⟨f,rfl⟩
   . rfl
   . exact⟨rfl,let ⟨v,e,r⟩:=h3.2;⟨v,e,r.mono mo⟩⟩
   . exact⟨rfl,h3.2⟩
 . obtain⟨a,vs,h1,h2,h3,h4,r⟩:=sj E hd;have rm:=r.mono mo;exact⟨_,[],h1,ha,rfl,_,rfl,.lN h3 (fun z=>z.2 (bB h2 (by simp))) h4 rm.1 rm.2⟩
theorem qZ(h:Ev X e t):Ev X e (LG t):=PE.imp h fun σ H Q zz=>(by
 obtain⟨W,M,α,δ,Qd,E,⟨δ0,fr,q⟩,k⟩:=zz;refine⟨[],_,_,δ0,_,zy E fr,q,fun d δ' H' v zz E1 c1 r1=>?_⟩;obtain⟨at',q1⟩:=zz;have sm:ax H H':=fun b u e=>c1 b u e (by simp);exact k _ _ _ _ q1 (E.same sm) (cW.of sm) (r1.DW at'))
end
theorem az.TJ(E:az Ws M α H σ δ)(hi:δ[i]?=some (td ks ds)): ∃M' α',az Ws M' α' H σ (δ.set i (.im (.lN ks ds))):=by
 have dH:=(aa5.mp hi).1;obtain⟨a,xs,h1,h2,h3,h4,r⟩:=sj E hi;have mono: ∀{v:V} {d:Dt},Rep M H v d->Rep (fun b=>M b/\b≠a) H v d:=fun r=>r.mono fun b u e n=>⟨e,fun z=>n z.1⟩
 have nq: ∀{v:List V} {d:List Dt},ay M H v d->ay (fun b=>M b/\b≠a) H v d:=fun r=>r.mono fun b u e n=>⟨e,fun z=>n z.1⟩
 refine⟨fun b=>M b/\b≠a,α.set i [],⟨by rw[ad0,E.ls],by rw[ad0,ad0,E.la],fun j s hj=>?_,cF E.nd ai6 (fun x hx=>absurd hx aa4),fun b hb=>?_,fun b hb=>E.al b hb.1,fun W hW=>?_⟩⟩
 . by_cases ck:i=j
   . subst ck;rw[ab9 dH] at hj;cases hj;have rm:=nq r;exact⟨some (.ref a),[],h1,by rw[ab9 (by rw[E.la];exact dH)],rfl,_,rfl,.lN h3 (fun z=>z.2 rfl) h4 rm.1 rm.2⟩
   . rw[ab1 ck] at hj;obtain⟨o2,Am,g1,g2,g3⟩:=E.sl j s hj;refine⟨o2,Am,g1,by rw[ab1 ck];exact g2,?_⟩;cases s with
     | no=>exact g3
     | im d=>exact⟨g3.1,let ⟨v,e,r⟩:=g3.2;⟨v,e,mono r⟩⟩
     | ow ds=>obtain⟨b,xs,e1,e2,e3,r⟩:=g3;exact⟨b,xs,e1,e2,e3,nq r⟩
     | bx t=>exact g3
     | dk ks ds=>obtain⟨b,vs,e1,e2,e3,e4,r⟩:=g3;exact⟨b,vs,e1,e2,e3,e4,nq r⟩
     | ob R=>obtain⟨v,e,r⟩:=g3;exact⟨v,e,R.st r (fun _ _ _ q=>q) fun b u q n=>⟨q,fun z=>n z.1⟩⟩
     | fn f=>exact g3
 . obtain⟨l,hl,hx⟩:=ao6.mp hb;obtain⟨j,hj,e⟩:=ah8 hl;have ej:(α.set i [])[j]?=some l:=by rw[aa2 hj,e]
   by_cases ck:i=j
   . subst ck;rw[ab9 (by rw[E.la];exact dH)] at ej;cases ej;exact absurd hx aa4
   . rw[ab1 ck] at ej;refine⟨E.mu b (bB ej hx),fun z=>?_⟩;subst z;exact fX E.nd ej h2 (Ne.symm ck) hx (by simp)
 . have k:=E.w W hW;refine⟨k.bs,k.ex,fun b hb=>(bG hb).elim (k.fr b) fun z=>absurd z aa4,fun b z=>⟨k.m0 b z,fun y=>?_⟩,fun b z=>k.m1 b z.1,fun d c e=>?_,fun j s as g1 g2 nb=>?_⟩
   . subst y;exact k.fz i _ _ hi h2 rfl b (by simp) z
   . obtain⟨t,e1,e2⟩:=k.bx d c e;have:i≠0:=fun z=>by subst z;rw[hi] at e1;cases e1
     exact⟨t,by rw[ab1 this];exact e1,by rw[ab1 this];exact e2⟩
   . by_cases ck:i=j
     . subst ck;rw[ab9 (by rw[E.la];exact dH)] at g2;cases g2;exact fun b hb=>absurd hb aa4
     . rw[ab1 ck] at g1 g2;exact k.fz j s as g1 g2 nb
section
variable{X:Cx}{st:Stmt}{rest:List Stmt}{T:kg}
inductive IY(i:Nat)(T:kg)(Δ:cG)(δ:List Sl):Prop
 | mk (ks:List (List Key)) (ds:List Dt) (h1:δ[i]?=some (td ks ds)) (h2:T Δ (δ.set i (.im (.lN ks ds))))
theorem zP: ∀D σ H,lS (IY i T) D σ H->lS T D σ H:=fun D σ H bZ=>(by obtain⟨Ws,M,α,δ,Δ,E,L,ks,ds,h,q⟩:=bZ;exact(by
 obtain⟨M',α',E'⟩:=az.TJ E h;exact⟨Ws,M',α',_,Δ,E',L,q⟩))
theorem qp(i:Nat)(h:Ex X st T):Ex X st (IY i T):=PS.imp h zP
end
end LD
namespace L2
open PySem PySem.Spec PyProof.Rows
theorem oF (I : Nat -> Shared -> Prop) (turn : ∀ n s, I n s -> wpAny (model prog w) A (pyNext it) (fun r s₁ => match r with
   | none=>R (.ok .next) s₁
   | some v=>wpAny (model prog w) A (letOwnedTupleGo target it v) (fun _ s₀=>wpAny (model prog w) A (assign target env v) (fun _ s₂=>
     wpAny (model prog w) A (eval kx env) (fun kv s₄=>wpAny (model prog w) A (eval vx env) (fun vv s₅=>
       wpAny (model prog w) A (dictSet D kv vv) (fun _ s₆=> ∃m,m < n/\I m s₆) (fun _ _=>False) s₅) (fun _ _=>False) s₄) (fun _ _=>False) s₂) (fun _ _=>False) s₀) (fun _ _=>False) s₁) (fun _ _=>False) s) (n:Nat) (h:I n s):codeAny (model prog w) A (.compLoop (.DictComp kx vx [⟨target,iter,[],0⟩] scope pos) 0 it (.ref D) env) R s:=by
 refine codeAny_loop rfl I (fun n s hI=>?_) n h;show wpAny _ A ((compTurn (.DictComp kx vx [⟨target,iter,[],0⟩] scope pos) 0 it (.ref D) env).onRaise (fun x=>do noteFrame x env;theTreesLotGoes x)) _ _ s;refine wpAny_noted ?_;rw[compTurn_dict];refine aa0 (af9 (aa0 (ad1 (turn n s hI) (fun r s₁ h₁=>?_) fun _ _ h'=>h'.elim)));cases r with
 | none=>exact aa7 h₁
 | some v=>
  refine aa0 (ad1 h₁ (fun _ s₀ h₀=>?_) fun _ _ h'=>h'.elim);refine aa0 (ad1 h₀ (fun _ s₂ h₂=>aa0 (wpAny_tests_nil ?_)) fun _ _ h'=>h'.elim);refine aa0 (aa0 (ad1 h₂ (fun kv s₄ h₄=>aa0 (ag9 (ad1 h₄ (fun vv s₅ h₅=>aa0 (af9 (ag9 (ad1 h₅ (fun _ s₆ h₆=>aa7 ⟨rfl,h₆⟩) fun _ _ h'=>h'.elim)))) fun _ _ h'=>h'.elim))) fun _ _ h'=>h'.elim))
def Ek(nt:Nat)(js:List Nat)(g:TG)(tk tv:TE)(σ:St)(Q:VK)(D:Addr)(J:It)(H0:Hp):Prop:=
 ∃W:Nat->Nat->Hp->Prop,(∃m,W 0 m H0)/\ ∀i m H,W i m H->
  (J.stop i H/\Q (.ref D) H)\/(J.go i H/\ ∃B:Hp->Prop,(∀H',B H'-> ∃m',m' < m/\W (i+1) m' H')/\ ∀x H',J.rR i H x H'->g x (kr nt js σ) H' fun σ2 H2=>
   tk σ2 H2 fun kv H3=>tv σ2 H3 fun v H4=> ∃H5,n8 H4 D kv v H5/\B H5)
def A5(nt:Nat)(js:List Nat)(wi:TI)(g:TG)(tk tv:TE):TE:=fun σ H Q=>wi σ H fun J H1=> ∀D,H1 D=none->Ek nt js g tk tv σ Q D J (upd H1 D (.dT []))
theorem mH(h:Q (.ref s.heap.objs.size) {s with heap:=s.heap.push {cls:= .type "dict",data:= .dict #[]}}):wpAny M A newDict Q E s:=by
 unfold newDict;exact ag6 h
theorem Aa(hu:A.units < cLine)(I:Inv X pins σ H s)(g:n8 H a y v H')(ry:RelV y u)(rv:RelV v r)(h: ∀s',Inv X pins σ H' s'->Q () s'):
  wpAny (model X.prog X.w) A (dictSet a u r) Q E s:=by
 rcases g with ⟨aC,k,e,ey,l,eH⟩ | ⟨aC,k,b,e,ey,eb,l,eH⟩
 . subst ey eH;obtain⟨z,hd,vs,rel,dd⟩:=Di I.aI e;have hz:vs.length<=sizeLine:=by rw[<-rel.length];exact z
   have hl:(putK aC k v).length<=sizeLine:=by have:=du aC k v;lia
   refine wpAny_dictSet_pairs (hsz:=hz) (tj ry) dd fun h' Aw hs=>h _ ?_;have he: ∃q,h'.get? a=some q:=let ⟨q,_,_,hq,_⟩:=Aw;⟨q,hq⟩;exact iz I (by rw[e];exact True.intro) hs he (vU hl hd (rel.put k rv) Aw)
 . subst ey eH;cases (show u=Value.ref b from ry);obtain⟨z,hd,xs,rel,dd⟩:=xP I.aI e;have hz:xs.length<=sizeLine:=by rw[<-Paired.length rel];exact z
   have hl:(putK aC k v).length<=sizeLine:=by have:=du aC k v;lia
   refine wpAny_dictSet_heap (hsz:=hz) hu (qN I.aI eb) dd fun h' Aw hs=>h _ ?_;obtain⟨q,es,ep,hq,h2,h3,h4,_,h5⟩:=Aw;refine iz I (by rw[e];exact True.intro) hs ⟨q,hq⟩ ⟨hl,hd,_,(rel.put k eb rv).keeps fun c ys ec=>?_,q,es,ep,hq,h2,h3,h4,h5⟩;rw[ah (xt ec e (fun z=>nomatch z))];exact ec
theorem v3{kx vx tg iter:Expr}{pos:Pos}{g:TG}{tk tv:TE}{cl:List (Str × Addr)}{Q:VK}{E:Value->Shared->Prop}{RR:Value->Addr->Result->Shared->Prop}(S:jj X N nt js scope)(hc:X.calm=true)(hg: ∀s H cl C ex,PG (dA X N scope s H cl C ex) tg g)(eE:jh nt g)(hk: ∀s H cl C ex,PE (dA X N scope s H cl C ex) kx tk)(hv: ∀s H cl C ex,PE (dA X N scope s H cl C ex) vx tv)(hu:X.A.units < cLine){tn:Nat->Heap->Prop}(I:Inv X pins σ H s)(T:Turn X.prog X.w X.K tg J fp it tn)(st:tn 0 s.heap)(ff: ∀b∈fp,dD X pins H b)(c1: ∀x c,(x,c)∈cl->X.env.cells.lookup x=some c)(c2: ∀x,(x,NameKind.free)∈scope.names-> ∃c,(x,c)∈cl)(R: ∀D,H D=none->Ek nt js g tk tv σ Q D J (upd H D (.dT [])))(fin: ∀(D C:Addr) (s':Shared) (H':Hp),Inv X pins σ H' s'->dD X pins H' C->(∃m,s'.heap.Ns C m)->Q (.ref D) H'->RR (.ref D) C (.ok .next) s'):
  wpAny (model X.prog X.w) X.A newDict (fun acc s₃=>wpAny (model X.prog X.w) X.A (newFunctionEnv scope X.env.globals cl [] X.env.qual none .none (some X.env)) (fun jc s₄=>
   codeAny (model X.prog X.w) X.A (.compStart (.DictComp kx vx [⟨tg,iter,[],0⟩] scope pos) 0 (.ref it) acc {jc with scope:=relabel scope X.env}) (RR acc jc.locals) s₄) E s₃) E s:=by
 refine mH (eU fun jc tR De=>?_);rw[tR,De];dsimp only;have hD:H s.heap.objs.size=none:=I.aI.fresh (ab2 _);obtain⟨W,⟨m0,w0⟩,turn⟩:=R s.heap.objs.size hD;have kD: ∀b u,s.heap.get? b=some u->(s.heap.push {cls:= .type "dict",data:= .dict #[]}).get? b=some u:=fun b u e=>aa3 _ e;have I3:Inv X pins σ (upd H s.heap.objs.size (.dT [])) {s with heap:=s.heap.push {cls:= .type "dict",data:= .dict #[]},toks:=s.toks}:=
  I.laid kD (ab2 _) (nL s.heap I.big)
 have fs: ∀b∈fp,b < s.heap.objs.size:=fun b hb=>by
  obtain⟨o,e,_⟩:=T.obj _ _ st b hb;exact ac2 e
 have IG: ∀b∈fp,dD X pins (upd H s.heap.objs.size (.dT [])) b:=fun b hb=>⟨by rw[ah (af4 (fs b hb))];exact(ff b hb).1,(ff b hb).2⟩
 have I4:=kQ (tk:=s.toks) S hc I3 IG (fun b hb=>by show b < (s.heap.push _).objs.size;rw[af7];exact aq4 (fs b hb)) c1 c2;dsimp only at I4;have O9:(s.heap.push {cls:= .type "dict",data:= .dict #[]}).objs.size=s.heap.objs.size+1:=af7 ..;generalize hY:dA X N scope {s with heap:=s.heap.push {cls:= .type "dict",data:= .dict #[]},toks:=s.toks} (upd H s.heap.objs.size (.dT [])) cl (s.heap.push {cls:= .type "dict",data:= .dict #[]}).objs.size fp=Y at I4;have Vq:=hY;have nW:Y.env=nR scope cl (s.heap.push {cls:= .type "dict",data:= .dict #[]}).objs.size X.env:=by rw[<-hY];rfl
 have bX:Y.prog=X.prog:=by rw[<-hY];rfl
 have Yw:Y.w=X.w:=by rw[<-hY];rfl
 have YA:Y.A=X.A:=by rw[<-hY];rfl
 have YK:Y.K=X.K:=by rw[<-hY];rfl
 have kc:Y.calm=true:=by rw[<-hY];exact hc
 have rO:Y.xe=fun _ _=>False:=by rw[<-hY];rfl
 have ue:Y.ex=fp:=by rw[<-hY];rfl
 have PZ:Y.pn= []:=by rw[<-hY];rfl
 have P1:Y.fs=fb X.stack:=by rw[<-hY];rfl
 have Jc:Y.s₀={s with heap:=s.heap.push {cls:= .type "dict",data:= .dict #[]},toks:=s.toks}:=by rw[<-hY];rfl
 have P2:Y.H₀=upd H s.heap.objs.size (.dT []):=by rw[<-hY];rfl
 have OW:PG Y tg g:=by rw[<-hY];exact hg _ _ _ _ _
 have Ye:PE Y kx tk:=by rw[<-hY];exact hk _ _ _ _ _
 have XR:PE Y vx tv:=by rw[<-hY];exact hv _ _ _ _ _
 have XX:Y.A.units < cLine:=by rw[YA];exact hu
 have hm:(Y.N.length:Nat)=(kr nt js σ).length:=I4.len.symm;rw[<-nW,<-bX,<-Yw,<-YA];have CP: ∀{H':Hp} (_: ∀b∈fp,H' b=none),∀b∈fp,dD Y [] H' b:=fun{H'} hn b hb=>by
  refine⟨hn b hb,(I4.ok.GG b (by rw[ue];exact hb)).1,I4.ok.tK b (by rw[ue];exact hb),.inl (by rw[ue];exact hb),(I4.ok.GG b (by rw[ue];exact hb)).2,fun p hp=>?_⟩;rw[PZ] at hp;simp at hp
 have back: ∀{H':Hp} {s':Shared} {σ':St},Inv Y [] σ' H' s'->Inv X pins σ H' s'/\dD X pins H' Y.env.locals/\ ∃m,s'.heap.Ns Y.env.locals m:=fun{H' s' σ'} J=>by
  have hb:Un (fb X.stack) fp (upd H s.heap.objs.size (.dT [])) H' (s.heap.push {cls:= .type "dict",data:= .dict #[]}) s'.heap:=by
   have:=J.base;rw[P1,ue,P2,Jc] at this;exact this
  have loc:Y.env.locals=s.heap.objs.size+1:=by rw[nW];exact O9
  have os:s'.os=s.os:=by
   have:=J.os;rw[Jc] at this;exact this
  have aI:gq X.prog X.w H' s'.heap:=by
   have:=J.aI;rw[bX,Yw] at this;exact this
  refine⟨I3.t7 (ch:=fp) os hb aI J.bare fun b hb=>⟨(ff b hb).2.2.2.1,(ff b hb).2.1,(ff b hb).2.2.2.2.1,(ff b hb).2.2.2.2.2⟩,?_,let ⟨m,q,_⟩:=J.loc;⟨m,q⟩⟩;exact I.tG (by rw[loc];exact ar2 _) J.free
 have loop:codeAny (model Y.prog Y.w) Y.A (.compLoop (.DictComp kx vx [⟨tg,iter,[],0⟩] scope pos) 0 (.ref it) (.ref s.heap.objs.size) Y.env) (RR (.ref s.heap.objs.size) Y.env.locals)
   {s with heap:=pushCells ((s.heap.push {cls:= .type "dict",data:= .dict #[]}).push {cls:= .type "dict",data:= .dict #[]}) scope.names}:=by
  refine oF (fun n s'=> ∃i H',Inv Y [] (kr nt js σ) H' s'/\tn i s'.heap/\(∀b∈fp,H' b=none)/\W i n H') ?_ m0
   ⟨0,_,I4,T.keep _ _ _ st fun b _ o e=>ak4 _ _ b o (aa3 _ (kD b o e)),fun b hb=>(IG b hb).1,w0⟩
  rintro n s5 ⟨i,H5,I5,uN,zQ,w5⟩
  rcases turn i n H5 w5 with ⟨stop,q⟩ | ⟨go,B,hB,step⟩
  . have hd:=T.done Y bX Yw YK kc i [] s5 _ H5 (fun _ _=>False) I5 (CP zQ) uN stop;rw[<-bX,<-Yw] at hd;refine aN hd fun r s6 jq=>?_;obtain⟨hr,I6⟩:=jq;subst hr;obtain⟨b1,b2,b3⟩:=back I6;exact fin _ _ _ _ b1 b2 b3 q
  . have hd:=T.item Y bX Yw YK kc i [] s5 _ H5 (fun _ _=>False) I5 (CP zQ) uN go;rw[<-bX,<-Yw] at hd;refine aN hd fun r s6 mE=>?_;obtain⟨u,hr,h6⟩:=mE;subst hr;refine aN h6 fun _ s7 rP=>?_;obtain⟨x,H7,I7,r7,y7,uM,Ld⟩:=rP;have Mj:=I7.pinned (CP Ld) (T.obj _ _ uM);have g7:=eE _ _ _ _ (step x H7 y7);have h7:=OW _ s7 _ H7 x u _ Mj r7 g7;rw[rO] at h7;refine aN h7 fun _ s8 mD=>?_;obtain⟨σ8,H8,I8,q8,l8,k8⟩:=mD;have h8:=Ye _ s8 σ8 H8 _ I8 q8;rw[rO] at h8;refine aN h8 fun kvl s9 gv=>?_;obtain⟨kv,H9,I9,r9,q9⟩:=gv;have h9:=XR _ s9 σ8 H9 _ I9 q9;rw[rO] at h9;refine aN h9 fun vvl oa mG=>?_;obtain⟨vv,lz,uk,NO,EB,dp,JW⟩:=mG;have GA:=Aa (E:=fun _ _=>False) (Q:=fun _ s'=> ∃m,m < n/\ ∃i H',Inv Y [] (kr nt js σ) H' s'/\tn i s'.heap/\(∀b∈fp,H' b=none)/\W i m H') XX uk dp r9 NO fun Nz Hq=>by
     obtain⟨m',Et,Js⟩:=hB EB JW;refine⟨m',Et,i+1,EB,Hq.dX.weak l8.symm fun k v e=>?_,T.keep _ _ _ uM fun b hb o e=>(Hq.pin (b,o) (ab4 _ (ab4 _ (bp hb e)))).1,fun b hb=>?_,Js⟩
     . by_cases hk:nt<=k
       . rw[k8 k hk];exact e
       . exfalso;unfold kr at e;rw[ad5 (by simp;lia),ac1,if_pos (by lia)] at e;cases e
     . obtain⟨o,e,d⟩:=T.obj _ _ uM b hb;exact(Hq.pin (b,o) (ab4 _ (ab4 _ (bp hb e)))).2.1
    exact GA
 have tQ:(s.heap.push {cls:= .type "dict",data:= .dict #[]}).objs.size=Y.env.locals:=by rw[nW];rfl
 rw[tQ];exact codeAny_compStart_dict loop (by rw[bX,Yw,YA] at*;exact T.self _ 0 _ _ _ (T.keep _ _ _ st fun b _ o e=>ak4 _ _ b o (aa3 _ (kD b o e))) loop)
theorem BP(S:jj X N nt js scope)(hc:X.calm=true)(hi:PI X tg iter wi)(hg: ∀s H cl C ex,PG (dA X N scope s H cl C ex) tg g)(eE:jh nt g)(hk: ∀s H cl C ex,PE (dA X N scope s H cl C ex) kx tk)(hv: ∀s H cl C ex,PE (dA X N scope s H cl C ex) vx tv)(hu:X.A.units < cLine)(hs: ∀x,foldedSetIterable iter X.env x=pure x:=by intro _;rfl):PE X (.DictComp kx vx [⟨tg,iter,[],0⟩] scope pos) (A5 nt js wi g tk tv):=by
 intro pins s σ H Q I h;obtain⟨cl,kL,c1,c2⟩:=gf (scope:=scope) (env:=X.env) fun x hx e=>I.ok.has x.1 (S.Mv x hx e);rw[arm_eval_DictComp];refine am9 (use:=none) rfl hs kL S.kind S.names (aN (hi pins s σ H _ I h) fun v s1 h1=>aN h1 fun MA s2 h2=>?_);obtain⟨it,fp,tn,J,H2,rfl,I2,T,gk,f2,R⟩:=h2;refine v3 (RR:=fun acc C=>compPost (model X.prog X.w) X.A X.xe none (EP X pins σ Q) acc C) S hc hg eE hk hv hu I2 T gk f2 c1 c2 R fun D C s' H' I' fo iT q=>?_;obtain⟨m,hn⟩:=iT;refine⟨m,hn,fun h' sb=>⟨.ref D,H',?_,rfl,q⟩⟩;obtain⟨f0,f1,_,f3,f4,f5⟩:=fo;exact I'.turned (t':=s'.toks) (fun b o hb e=>(sb.2 b hb).trans e) f0 f1 f3 f4 f5
end L2
namespace LD
open PySem PySem.Spec L2 LB PyProof.Rows LW
abbrev Ej:=List Sl->(List (List Key)->List Dt->List Sl->Prop)->Prop
inductive U8(t:Ej)(σ:L2.St)(H:Hp)(Q:VK):Prop
 | mk (W:List Wd) (M:Addr->Prop) (α:List (List Addr)) (δ:List Sl) (Qd:List (List Key)->List Dt->List Sl->Prop) (h1:az W M α H σ δ) (h2:t δ Qd) (h3: ∀ks ds δ' H1 vs a,Qd ks ds δ'->az W M α H1 σ δ'->cW α H H1->vs.map (·.1)=ks->ay M H1 (vs.map (·.2)) ds->H1 a=none->Q (.ref a) (upd H1 a (.dT vs)))
abbrev UA(X:Cx)(e:Expr)(t:Ej):Prop:=PE X e (U8 t)
section
variable{X:Cx}{N:List Str}{nt:Nat}{js:List Nat}{scope:Scope}{kx vx tg iter e:Expr}{pos pos':Pos}{ti:oO}{g:og}{tk tv:bh}{t:Ej}{x:Str}{xp:Pos}
def Po(i:Nat)(t:Ej):kg:=fun Δ δ=>t δ fun ks ds δ'=>br δ' i/\Δ.nx (δ'.set i (td ks ds))
theorem Bk(i:Nat)(hN:X.N.Nodup)(he:UA X e t)(hi:X.N[i]?=some x:=by rfl)(hx:Loc X.env.scope x:=by first | exact Or.inl rfl | exact Or.inr rfl)(hs:swapsWith e (some (.Name x xp)) pos.line X.env=pure false:=by rfl)(hf:X.fn x=true\/X.env.scope.names.lookup x=some .local:=by first | exact .inl rfl | exact .inr rfl | assumption):
  Ex X (.Assign [.Name x xp] e pos) (Po i t):=PS.imp (cM hN hi hx he hs hf) fun D σ H zz=>(by
 obtain⟨Ws,M,α,δ,Δ,E,L,q⟩:=zz;refine⟨Ws,M,α,δ,_,E,q,fun ks ds δ' H1 vs a zz E1 c1 e1 r1 h1=>?_⟩;obtain⟨ok,q1⟩:=zz;have mo: ∀b u,H1 b=some u-> ¬M b->upd H1 a (.dT vs) b=some u/\ ¬(M b\/b=a):=fun b u e n=>⟨by rw[ah (aq e h1)];exact e,fun z=>z.elim n (aq e h1)⟩
 exact L.nx _ _ _ _ _ (E1.mX (s:=td ks ds) h1 (fun xs z=>by cases z) ok rfl ⟨_,rfl,a,vs,rfl,rfl,ag,e1,r1.mono mo⟩) q1)
def DI(nt:Nat)(js:List Nat)(ti:oO)(g:og)(tk tv:bh):Ej:=fun δ Q=>ti δ fun ao δ1=>ao.length<=sizeLine/\ ∃(fk:Dt->List Key) (fv:Dt->Dt),(∀d∈ao,g d (cin nt js δ1) fun δ2=>tk δ2 fun dk δ3=>Ga dk=some (fk d)/\tv δ3 fun r _=>r=fv d)/\(ao.map fk).Nodup/\Q (ao.map fk) (ao.map fv) δ1
theorem v7(oA: ∀v σ H Q,lG g v σ H Q->gh v σ H Q): ∀σ H Q,U8 (DI nt js ti g tk tv) σ H Q->A5 nt js (lI ti) gh (lE tk) (lE tv) σ H Q:=fun σ H Q zz=>(by
 obtain⟨W,M,α,δ,Qd,E,q,k⟩:=zz;refine⟨W,M,α,δ,_,E,q,fun ao δ1 H1 J eS E1 c1 yl D hD=>?_⟩;obtain⟨hsz,fk,fv,step,nd,q1⟩:=eS;have s0:ax H1 (upd H1 D (.dT [])):=ax.new hD;refine⟨fun i m H2=>m=ao.length - i/\i<=ao.length/\ ∃vs,H2 D=some (.dT vs)/\vs.map (·.1)=(ao.take i).map fk/\ay (fun b=>M b\/b=D) H2 (vs.map (·.2)) ((ao.take i).map fv)/\ax H1 H2/\iI (fun b=>M b\/b=D) H2,⟨ao.length,by simp,ag0 _,[],ag,rfl,.nil,s0,fun a ha=>?_⟩,?_⟩
 . rcases ha with ha | ha
   . obtain⟨o,e,n⟩:=E1.al a ha;exact⟨o,s0 _ _ e,n⟩
   . subst ha;exact⟨_,ag,fun xs z=>by cases z⟩
 rintro i m H2 ⟨rfl,hi,vs,zK,Pb,jC,s2,HY⟩
 have kf:Kf M H1 H2:=fun b o e _=>s2 _ _ e;by_cases dH:i < ao.length
 . have hb: ∀b,H1 b≠none-> ¬M b-> ¬(fun b=>M b\/b=D) b:=fun b n z y=>y.elim z fun w=>n (by rw[w];exact hD);obtain⟨go,rR⟩:=yl.go i H2 (fun b=>M b\/b=D) kf HY hb dH;refine .inr ⟨go,fun H'=> ∃vs,H' D=some (.dT vs)/\vs.map (·.1)=(ao.take (i+1)).map fk/\ay (fun b=>M b\/b=D) H' (vs.map (·.2)) ((ao.take (i+1)).map fv)/\ax H1 H'/\iI (fun b=>M b\/b=D) H',fun H' gr=>⟨ao.length - (i+1),by omega,rfl,dH,gr⟩,fun x H3 y=>?_⟩;obtain⟨s3,d,hd,rx⟩:=rR x H3 y;have E2:az [] (fun b=>M b\/b=D) (List.replicate (nt+js.length) []) H2 (kr nt js σ) (cin nt js δ1):=by
    have su:ax (upd H1 D (.dT vs)) H2:=fun b o e=>by
     by_cases hb:b=D
     . subst hb;rw[ag] at e;cases e;exact zK
     . rw[ah hb] at e;exact s2 _ _ e
    have Ea:az [] (fun b=>M b\/b=D) α H2 σ δ1:=⟨E1.ls,E1.la,fun i s h=>let ⟨o,as,h1,h2,h3⟩:=E1.sl i s h;⟨o,as,h1,h2,(h3.grow (u:= .dT vs) hD).same su⟩,E1.nd,fun a h=> .inl (E1.mu a h),HY,fun W hW=>absurd hW aa4⟩
    exact rq Ea
   have E3:=E2.same s3;have bf:(List.replicate (nt+js.length) ([]:List Addr)).flatten= []:=by simp
   refine oA _ _ _ _ ⟨[],_,_,_,d,_,E3,rx,step d (ad2 hd),fun α4 δ4 σ4 q4 E4 hα=>?_⟩;have Ez:α4.flatten= []:=ai9.mpr fun x hx=>by have:=hα x hx;rw[bf] at this;exact absurd this aa4
   refine⟨[],_,α4,δ4,_,E4,q4,fun dk δ5 H5 kv iC E5 c5 rk=>?_⟩;obtain⟨hk,q5⟩:=iC;have s5:ax H3 H5:=fun b o e=>c5 b o e (by rw[Ez];exact aa4);refine⟨[],_,α4,δ5,_,E5,q5,fun r δ6 H6 v e6 E6 c6 r6=>?_⟩;subst e6;have s6:ax H5 H6:=fun b o e=>c6 b o e (by rw[Ez];exact aa4);have Br:ax H2 H6:=fun b o e=>s6 _ _ (s5 _ _ (s3 _ _ e));have TB:=Br _ _ zK;have RP:ao.take (i+1)=ao.take i++ [d]:=by rw[ao1,hd];rfl
   obtain⟨kb,Ze,vE⟩:=nz (rk.same s6) hk;subst Ze;have nk:fk d∉vs.map (·.1):=by
    rw[Pb];have:(ao.map fk).Nodup:=nd;rw[<-List.take_append_drop (i+1) ao,RP,ab8,ab8] at this;have:=(ai0.mp (ai0.mp this).1).2.2;exact fun z=>this _ z _ ab3 rfl
   have lv:vs.length < sizeLine:=by
    have:vs.length=(ao.take i).length:=by rw[<-aa1 (f:=(·.1)),Pb,aa1]
    rw[this,aj1];exact ac4 (by omega) hsz
   refine⟨_,n8.t TB vE lv,?_⟩;rw[sG nk];have up: ∀{zs:List V} {ds:List Dt},ay (fun b=>M b\/b=D) H6 zs ds->ay (fun b=>M b\/b=D) (upd H6 D (.dT (vs++ [(fk d,v)]))) zs ds:=fun r=>r.mono fun a o e n=>⟨by rw[ah (fun z=>n (.inr z))];exact e,n⟩
   refine⟨vs++ [(fk d,v)],ag,by rw[RP,ab8,ab8,Pb];rfl,?_,fun b o e=>by rw[ah (aq e hD)];exact Br _ _ (s2 _ _ e),fun a ha=>?_⟩
   . rw[RP,ab8,ab8];exact up ((jC.same Br).append (.one r6))
   . by_cases hb:a=D
     . subst hb;exact⟨_,ag,fun xs z=>by cases z⟩
     . rw[ah hb];exact E6.al a ha
 . have e:i=ao.length:=by omega
   subst e;refine .inl ⟨yl.stop H2 kf,?_⟩;rw[am7] at jC Pb;have eH:upd (fun b=>if b=D then none else H2 b) D (.dT vs)=H2:=by
    funext b
    by_cases hb:b=D
    . subst hb;rw[ag,zK]
    . rw[ah hb,if_neg hb]
   rw[<-eH];have sH:ax H1 (fun b=>if b=D then none else H2 b):=fun b o e=>by
    show(if b=D then none else H2 b)=some o;rw[if_neg (aq e hD)];exact s2 _ _ e
   refine k _ _ _ _ _ _ q1 (E1.same sH) (c1.tr (cW.of sH)) Pb (jC.mono fun a o e n=>⟨?_,fun z=>n (.inl z)⟩) (by show(if D=D then none else H2 D)=none;rw[if_pos rfl]);show(if a=D then none else H2 a)=some o;rw[if_neg (fun z=>n (.inr z))];exact e)
theorem FY(S:jj X N nt js scope)(hc:X.calm=true)(hi:Iv X tg iter ti)(hg: ∀s H cl C ex,PG (dA X N scope s H cl C ex) tg gh)(eE:jh nt gh)(oA: ∀v σ H Q,lG g v σ H Q->gh v σ H Q)(hk: ∀s H cl C ex,Ev (dA X N scope s H cl C ex) kx tk)(hv: ∀s H cl C ex,Ev (dA X N scope s H cl C ex) vx tv)(hu:X.A.units < cLine)(hs: ∀x,foldedSetIterable iter X.env x=pure x:=by intro _;rfl):UA X (.DictComp kx vx [⟨tg,iter,[],0⟩] scope pos) (DI nt js ti g tk tv):=PE.imp (BP S hc hi hg eE hk hv hu hs) (v7 oA)
end
section
variable{X:Cx}{x:Str}{xp p pos:Pos}
noncomputable def tx(P:Program)(w:World)(k:List Key):Int:=tupleKeyHash (aS P w) k
inductive LP(P:Program)(w:World)(i:Nat)(δ:List Sl)(Q:List (List Key)->List Dt->List Sl->Prop):Prop
 | mk (ks:List (List Key)) (ds:List Dt) (h1:δ[i]?=some (td ks ds)) (h2:ks≠ []) (h3:(ks.map (tx P w)).Nodup) (h4:Q ks ds δ)
theorem wb:bootBuiltins "dict"=some (.type "dict"):=by decide+kernel
theorem FX(i:Nat)(hA:X.A.handled=none)(hm:X.mg "dict"=none)(ho:PE X (.Name x xp) (iF i))(hg:Gl X "dict":=by rfl)(he:starEach [.Name x xp] X.env=(false,eval (.Name x xp) X.env)::starEach [] X.env:=by rfl)(da:(backTo pos (starEach [] X.env)).any (·.1)=false:=by rfl):
  UA X (.Call (.Name "dict" p) [.Name x xp] [] pos) (LP X.prog X.w i):=PE.imp (fB (Jf.wa hA) hg hm wb (aj ho aE he) (by decide) (by decide) he da) fun σ H Q zz=>(by
 obtain⟨W,M,α,δ,Qd,E,⟨ks,ds,h1,h2,h3,q⟩,k⟩:=zz;obtain⟨a,vs,s1,s2,s3,s4,s5⟩:=sj E h1;subst s4;refine⟨_,s1,a,vs,rfl,s3,fun z=>h2 (by rw[z];rfl),by rw[ad8] at h3;exact h3,fun d hd=>k _ _ _ _ _ _ q E cW.rf rfl s5 hd⟩)
end
end LD
namespace L2
open PySem PySem.Spec PyProof.Rows
noncomputable def held:Option Value->Array Value
 | none=> #[]
 | some v=> #[v,v]
def wH(val:Nat->Int)(j:Nat):Option Value->Prop
 | none=>j=0
 | some v=> ∃i t,i < j/\v= .int (val i) t/\ ∀k,k < j->val k<=val i
theorem DX(a v:Value):argsOk "max" ⟨[a],[("default",v)]⟩:=by unfold argsOk;kernel_rfl
section
variable{prog:Program}{w:World}{A:Around}{R:Result->Shared->Prop}{I S:Addr}{fp wr:List Addr}{n:Nat}{P:Nat->Value->Prop}{St:Nat->Heap->Prop}{val:Nat->Int}{d:Value}
theorem zu(W:Walks prog w A.in1 I fp wr n P St)(hv: ∀i v,P i v-> ∃t,v= .int (val i) t)(hS:S∉fp): ∀(k j:Nat) (s:Shared) (b:Option Value) (c:Nat),n - j=k->j<=n->St j s.heap->wH val j b->
  s.heap.get? S=some {cls:= .type "list",dict:=none,data:= .seq (held b) c,slots:= #[]}->
  (∀b h' tk,wH val n b->(∀x o,x∉wr->x≠S->s.heap.get? x=some o->h'.get? x=some o)->R (.ok (.ret (b.getD d))) {s with heap:=h',toks:=tk})->
  codeAny (model prog w) A (.builtin "max.loop" ⟨[.ref I,.none,.ref S],[("default",d)]⟩) R s:=by
 have nw:S∉wr:=fun z=>hS (W.sub _ z);have nm:(toString "max"++toString ".loop":String)="max.loop":=by decide
 intro k;induction k with
 | zero=>
  intro j s b c e1 e2 st g hs hR;have e3:j=n:=by omega
  subst e3;refine ap2 F.entry_max_loop ?_;rw[Around.under_plainId am8 _];show wpAny _ A.in1 (seqItems? (.ref S) >>=_) _ _ s;refine aa0 (aj5 hs rfl ?_);show wpAny _ A.in1 (tryCatch (pyNext (.ref I)) _ >>=_) _ _ s;refine aa0 (wpAny_tryCatch (W.done s _ _ st fun h' tk hk=>?_));have Er:=hk S _ nw hs;cases b with
  | none=>exact aa0 (ap9 (aa7 (hR none _ tk g fun x o n1 n2 e=>hk x o n1 e)))
  | some v=>
   have nE:h'.get? S=some {cls:= .type "list",dict:=none,data:= .seq #[v,v] c,slots:= #[]}:=Er;show wpAny _ A.in1 (updateSeq S (fun _=> #[]) >>=_) _ _ _;refine aa0 (wpAny_updateSeq nE rfl (aa0 (ap1 (aa7 ?_))));exact hR (some v) _ tk g fun x o n1 n2 e=>(af5 _ _ (Ne.symm n2)).trans (hk x o n1 e)
 | succ k ih=>
  intro j s b c e1 e2 st g hs hR;have lt:j < n:=by omega
  refine ap2 F.entry_max_loop ?_;rw[Around.under_plainId am8 _];show wpAny _ A.in1 (seqItems? (.ref S) >>=_) _ _ s;refine aa0 (aj5 hs rfl ?_);show wpAny _ A.in1 (tryCatch (pyNext (.ref I)) _ >>=_) _ _ s;refine aa0 (wpAny_tryCatch (W.item j s _ _ lt st fun v h' tk hP Ba hk=>?_));have Er:=hk S _ nw hs;obtain⟨t,rfl⟩:=hv _ _ hP;cases b with
  | none=>
   have e3:j=0:=g;subst e3;show wpAny _ A.in1 (updateSeq S (fun _=> #[_,_]) >>=_) _ _ _;refine aa0 (wpAny_updateSeq Er rfl ?_);rw[nm];refine aa7 ⟨ar5 am8 _,ih 1 _ (some (.int (val 0) t)) _ (by omega) lt (W.frame _ _ _ Ba fun x hx o e=>?_) ⟨0,t,Nat.one_pos,rfl,fun k hk=>?_⟩ (ai1 _ Er rfl) fun b h2 Eo g2 k2=>?_⟩
   . exact(af5 _ _ (fun z:S=x=>hS (by rw[z];exact hx))).trans e
   . rw[show k=0 by omega];exact ar3 _
   . exact hR b h2 Eo g2 fun x o n1 n2 e=>k2 x o n1 n2 ((af5 _ _ (Ne.symm n2)).trans (hk x o n1 e))
  | some u=>
   obtain⟨i,t2,i1,rfl,i2⟩:=g;have nE:h'.get? S=some {cls:= .type "list",dict:=none,data:= .seq #[.int (val i) t2,.int (val i) t2] c,slots:= #[]}:=Er;show wpAny _ A.in1 (tryCatch (holding [_,_] (richCompare .Gt (.int (val j) t) (.int (val i) t2) >>=_)) _ >>=_) _ _ _;refine aa0 (wpAny_tryCatch (ag9 (aa0 (CmpOf.ints_gt (P:=fun i v=> ∃t,v= .int (val i) t) val (fun _ _ z=>z) j i _ _ _ _ _ ⟨t,rfl⟩ ⟨t2,rfl⟩ ?_))));refine aa0 (ag9 (aj7 ?_));refine aa0 (ap1 (aa7 ?_));by_cases c1:val j > val i
   . rw[if_pos (show(fun i j=>decide (val i > val j)) j i=true from ad6 c1)];refine aa0 (wpAny_updateSeq nE rfl (aa0 (ap1 ?_)));rw[nm];refine aa7 ⟨ar5 am8 _,ih (j+1) _ (some (.int (val j) t)) _ (by omega) lt (W.frame _ _ _ Ba fun x hx o e=>?_) ⟨j,t,Nat.lt_succ_self _,rfl,fun k hk=>?_⟩ (ai1 _ nE rfl) fun b h2 Eo g2 k2=>?_⟩
     . exact(af5 _ _ (fun z:S=x=>hS (by rw[z];exact hx))).trans e
     . rcases Nat.lt_succ_iff_lt_or_eq.mp hk with z | z
       . have:=i2 k z;omega
       . rw[z];exact ar3 _
     . exact hR b h2 Eo g2 fun x o n1 n2 e=>k2 x o n1 n2 ((af5 _ _ (Ne.symm n2)).trans (hk x o n1 e))
   . rw[if_neg (show¬(fun i j=>decide (val i > val j)) j i=true from fun z=>c1 (ad7 z))];refine aa0 (ap1 ?_);rw[nm];refine aa7 ⟨ar5 am8 _,ih (j+1) _ (some (.int (val i) t2)) c (by omega) lt Ba ⟨i,t2,by omega,rfl,fun k hk=>?_⟩ Er fun b h2 Eo g2 k2=>?_⟩
     . rcases Nat.lt_succ_iff_lt_or_eq.mp hk with z | z
       . exact i2 k z
       . rw[z];omega
     . exact hR b h2 Eo g2 fun x o n1 n2 e=>k2 x o n1 n2 (hk x o n1 e)
end
theorem zv(hh:A.handled=none)(hl:s.heap.IsList l (intItems xs))(h: ∀b h' tk,wH (numAt xs) xs.size b->(∀x o,s.heap.get? x=some o->h'.get? x=some o)->Q (b.getD d) {s with heap:=h',toks:=tk}):
  wpAny (model prog w) A (call (.builtin "max") [.ref l] [("default",d)]) Q E s:=by
 have nm:(toString "max"++toString ".loop":String)="max.loop":=by decide
 refine kmb_tree F.kind_max F.plain_max F.entry_max (DX _ _) ?_;show wpAny _ A.in1 (Builtin.Builtins.bindParams "max" ["key","default"] 0 ⟨[],[("default",d)]⟩ >>=_) _ _ s;refine aa0 (wpAny_of_eq (show Builtin.Builtins.bindParams "max" ["key","default"] 0 ⟨[],[("default",d)]⟩=pure [none,some d] from rfl) ?_);refine aa0 (aa7 ?_);refine aa0 (iter_intList hl fun s2 e st fr ne=>?_);subst e;refine aa0 (ag6 ?_);rw[nm];have hz:(intItems xs).size=xs.size:=by simp [intItems]
 have W:=Walks.list (prog:=prog) (w:=w) (A:=A.in1) hh s.heap.objs.size l ne (intItems xs);refine aa7 ⟨ar5 am8 _,zu (val:=numAt xs) W (fun _ _=>intItems_at) (fun hm=>ae8 _ (fr _ hm)) _ 0 _ none 0 rfl (ag0 _) (W.frame _ _ _ st fun x _ o e=>aa3 _ e) rfl (ab6 _ rfl) fun b h' tk g hk=>?_⟩;refine h b h' tk (hz▸g) (old_kept fun x o n e=>hk x o n (af4 (ac2 e)) (aa3 _ e))
section
variable{X:Cx}{e:Expr}{kZ:List Keyword}{t tk:TA}{p pos:Pos}
def GrD(ns:List Int)(d:V)(v:V):Prop:=(ns= []/\v=d)\/ ∃M,v= .int M/\M∈ns/\ ∀a∈ns,a<=M
def Ni(t tk:TA):TE:=fun σ H Q=>t σ H fun vs H1=>tk σ H1 fun ks H2=> ∃(a:Addr) (ns:List Int) (d:V),vs= [.ref a]/\ks= [d]/\H2 a=some (.lst (ns.map V.int))/\ ∀v,GrD ns d v->Q v H2
theorem Ai:bootBuiltins "max"=some (.builtin "max"):=by decide+kernel
theorem Fw(hc:X.calm=true)(hg:Gl X "max")(hm:X.mg "max"=none)(ha:PA X [e] t)(hk:PK X kZ tk)
  (Gn:(backToKw pos (keywordEach kZ X.env)).filterMap (·.1)=(["default"]:List Str):=by rfl) (k1:backTo pos (starEach [e] X.env)=(false,eval e X.env)::backTo pos (starEach [] X.env):=by rfl) (k2:(backTo pos (starEach [e] X.env)).any (·.1)=false:=by rfl)
  (k3:(backToKw pos (keywordEach kZ X.env)).all (·.1.isSome)=true:=by rfl) (k4:(backToKw pos (keywordEach kZ X.env)).any (·.1.isNone)=false:=by rfl):
  PE X (.Call (.Name "max" p) [e] kZ pos) (Ni t tk):=by
 intro pins s σ H Q I h;refine aj3 (cA I hg hm Ai (callWith_kw (aN (ha pos pins s σ H _ I h) fun us s1 zz=>?_) k1 k2 k3 k4));obtain⟨vs,H1,I1,r1,q1⟩:=zz;refine aN (hk pos pins s1 σ H1 _ I1 q1) fun ws s2 zz=>?_;obtain⟨zs,H2,I2,rz,q2⟩:=zz;obtain⟨a,ns,d,rfl,rfl,hq,q⟩:=q2;obtain⟨u,rfl,ru⟩:=vals1 r1;cases ru;obtain⟨ud,rfl,rd⟩:=vals1 rz;rw[Gn];obtain⟨ao,rv,pl,_⟩:=I2.list (bS.of hq);have hi:=intsAre_of rv;obtain⟨xs,hx⟩:=hi.allInts.items;have OR:s2.heap.IsList a (intItems xs):=hx▸pl.isList;have Il:ns=xs.toList.map (·.1):=by
  rw[<-nums_intItems,<-hx];exact(show numsOf ao.toArray.toList=ns from hi.numsOf).symm
 refine zv (I2.ok.hd hc) OR fun b h' tk g hk=>?_;have hlen:ns.length=xs.size:=by rw[Il,aa1,ai8]
 cases b with
 | none=>exact⟨d,H2,I2.kept hk,rd,q d (.inl ⟨List.eq_nil_of_length_eq_zero (hlen.trans g),rfl⟩)⟩
 | some v=>
  obtain⟨i,t2,g1,rfl,g2⟩:=g;refine⟨.int _,H2,I2.kept hk,⟨_,rfl⟩,q _ (.inr ⟨_,rfl,?_,fun m hm=>?_⟩)⟩
  . rw[numAt_eq,<-Il];exact getD_mem (by omega)
  . rw[Il] at hm;obtain⟨j,hj,rfl⟩:=mem_getD hm;rw[aa1,ai8] at hj;rw[<-numAt_eq];exact g2 j hj
end
end L2
namespace LD
open PySem PySem.Spec L2 LB PyProof.Rows LW
section
variable{X:Cx}{e:Expr}{tA:eZ}{p pos qM cp:Pos}{j:Nat}{nm:Option Str}
inductive Mm(ds:List Dt)(Q:Dt->Prop):Prop
 | mk (ns:List Int) (h1:ds= [.lst (ns.map .int)]) (h2:ns= []->Q .aF) (h3: ∀m,m∈ns->(∀a∈ns,a<=m)->Q (.int m))
theorem Ls(hc:X.calm=true)(hm:X.mg "max"=none)(ha:Av X [e] tA)(hg:Gl X "max":=by rfl)
  (Gn:(backToKw pos (keywordEach [⟨nm,.Constant .none j cp,qM⟩] X.env)).filterMap (·.1)=(["default"]:List Str):=by rfl) (k1:backTo pos (starEach [e] X.env)=(false,eval e X.env)::backTo pos (starEach [] X.env):=by rfl) (k2:(backTo pos (starEach [e] X.env)).any (·.1)=false:=by rfl)
  (k3:(backToKw pos (keywordEach [⟨nm,.Constant .none j cp,qM⟩] X.env)).all (·.1.isSome)=true:=by rfl) (k4:(backToKw pos (keywordEach [⟨nm,.Constant .none j cp,qM⟩] X.env)).any (·.1.isNone)=false:=by rfl):
  Ev X (.Call (.Name "max" p) [e] [⟨nm,.Constant .none j cp,qM⟩] pos) (Ax Mm tA):=PE.imp (Fw hc hg hm ha (xg qA BE) Gn k1 k2 k3 k4) fun σ H Q zz=>(by
 obtain⟨W,M,α,δ,Qd,E,q,k⟩:=zz;refine⟨W,M,α,δ,_,E,q,fun es δ1 H1 vs zz E1 c1 r1=>?_⟩;obtain⟨ns,e1,q2,q3⟩:=zz;subst e1;obtain⟨x,rfl,rx⟩:=fR r1;obtain⟨a,zs,rfl,ha,n,rr⟩:=rx.bV;rw[ints_rep rr] at ha;refine⟨a,ns,.aF,rfl,rfl,ha,fun v hv=>?_⟩;rcases hv with ⟨h1,rfl⟩ | ⟨m,rfl,h1,h2⟩
 . exact k _ _ _ _ (q2 h1) E1 c1 .aF
 . exact k _ _ _ _ (q3 m h1 h2) E1 c1 (.int _))
end
end LD
namespace PySem
open Sem (wp)
open Builtin
theorem jG:fillsNumberSlot (.type "tuple") "mul"=pure false:=
 fillsNumberSlot_seq (id:="tuple.__mul__") (r:=some (.builtin "tuple.__rmul__")) F.slot_tuple_mul.lookup (by decide+kernel) F.slot_tuple_rmul.lookup (by decide+kernel)
theorem om:seqRepeat? (.type "tuple")=pure (some (.builtin "tuple.__mul__")):=by
 unfold seqRepeat?;rw[seqSlot_of (T:="tuple") (name:="__mul__") (id:="tuple.__mul__") F.slot_tuple_mul.lookup (by decide+kernel),seqSlot_of (T:="tuple") (name:="__rmul__") (id:="tuple.__rmul__") F.slot_tuple_rmul.lookup (by decide+kernel)];rfl
theorem fD(a:Int)(t:Tok)(l:Addr)(items:Array Value)(n:Nat)(dd:Option Addr)(sl:Array (Option Value)):
  Meets (Builtin.«int.__rmul__» ⟨[.int a t,.ref l],[]⟩) (fun _ R s=>s.heap.get? l=some {cls:= .type "tuple",dict:=dd,data:= .seq items n,slots:=sl}/\R (.ok (.ret Value.notImplemented)) s):=
 .of_wp fun prog w A R s h=>by obtain⟨hp,g,d,tk,os⟩:=s;obtain⟨hl,h⟩:=h;wp_walk using ae3 hl;exact⟨_,rfl,h⟩
theorem sf(l:Addr)(items:Array Value)(n:Nat)(dd:Option Addr)(sl:Array (Option Value))(t:Tok):
  Meets (Builtin.«tuple.__mul__» ⟨[.ref l,.int 1 t],[]⟩) (fun _ R s=>s.heap.get? l=some {cls:= .type "tuple",dict:=dd,data:= .seq items n,slots:=sl}/\R (.ok (.ret (Value.ref l))) {s with heap:=s.heap,toks:=s.toks}):=
 .of_wp fun prog w A R s h=>by obtain⟨hp,g,d,tk,os⟩:=s;obtain⟨hl,h⟩:=h;have f1:=AutoSeq1.idx_int;wp_walk using ae3 hl;exact⟨_,rfl,h⟩
theorem se(l:Addr)(items:Array Value)(n:Nat)(dd:Option Addr)(sl:Array (Option Value))(k:Int)(t:Tok)(KZ: ¬(decide (k < -(2^63)) || decide (k>=2^63))=true)(h1: ¬(items.isEmpty || k==1)=true)(h0: ¬(decide (k<=0) || items.isEmpty)=true)
  (K4: ¬(items.size:Int)*k > (2^63 - 1) / 8) (OO: ¬Builtin.Tuple.tupleTooMany ((items.size:Int)*k)=true) (hsz:(List.foldl (fun x1 x2=>x1++x2) #[] (List.replicate k.toNat items)).size<=sizeLine):
  Meets (Builtin.«tuple.__mul__» ⟨[.ref l,.int k t],[]⟩) (fun _ R s=>s.heap.get? l=some {cls:= .type "tuple",dict:=dd,data:= .seq items n,slots:=sl}/\R (.ok (.ret (Value.ref s.heap.objs.size))) {s with heap:=s.heap.push {cls:=Value.type "tuple",data:=Data.seq (List.foldl (fun x1 x2=>x1++x2) #[] (List.replicate k.toNat items))},toks:=s.toks}):=
 .of_wp fun prog w A R s h=>by obtain⟨hp,g,d,tk,os⟩:=s;obtain⟨hl,h⟩:=h;have f1:=AutoSeq1.idx_int;wp_walk using ae3 hl;rw[if_neg KZ];dsimp only;wp_walk using ae3 hl;rw[if_neg K4,if_neg OO];wp_walk using ae3 hl;exact⟨_,rfl,h⟩
end PySem
namespace L2
open PySem PySem.Spec PyProof.Rows HT
section
variable{X:Cx}
def HL:R2:=fun x y H Q=> ∃l k xs,x= .ref l/\y= .int k/\H l=some (.tup xs)/\xs≠ []/\1<=k/\k < 2^63/\xs.length*k.toNat<=sizeLine/\ ∀p H',ug H (List.replicate k.toNat xs).flatten p H'->Q (.ref p) H'
theorem FC:iR X (binaryOp .Mult) HL:=by
 intro pins s σ H x y v u Q I rx ry h;obtain⟨l,k,xs,rfl,rfl,hH,vC,h1,h2,hz,q⟩:=h;cases rx;obtain⟨t,rfl⟩:=ry;obtain⟨ao,r,p1,_⟩:=I.tuple (dB.of hH);obtain⟨⟨c1,d1,t1,l1⟩,a1,a2,n1,a3⟩:=id p1;simp only at a2 a3;subst a2 a3;have hv:ao≠ []:=fun z=>vC (r.qJ.mp z);have hlen:ao.toArray.size*k.toNat<=sizeLine:=by rw[ab0,<-r.length];exact hz
 refine wpAny_binaryOp_repeat_ref (T:="tuple") (U:="int") (by decide) ⟨_,a1,rfl⟩ (fun s'=>typeIs_int s' k t) jG F.fills_int_mul F.slot_int_rmul om F.slot_int_index.lookup
  (ao4 F.slot_int_rmul (typeIs_int s k t) F.entry_int_rmul (F.args_int_rmul_2 _ _) (fD k t l ao.toArray n1 d1 l1) ⟨a1,rfl,⟨_,a1,rfl⟩,?_⟩)
 by_cases hk:k=1
 . subst hk;refine ao4 F.slot_tuple_mul ⟨_,a1,rfl⟩ F.entry_tuple_mul (F.args_tuple_mul_2 _ _) (sf l ao.toArray n1 d1 l1 t) ⟨a1,?_⟩;exact⟨.ref l,H,I,rfl,q l H (.inl ⟨rfl,by simpa using hH⟩)⟩
 . have Gk : List.foldl (fun x1 x2 => x1 ++ x2) #[] (List.replicate k.toNat ao.toArray) = (List.replicate k.toNat ao).flatten.toArray := by
     have:=foldl_rep ao k.toNat [];rw[List.nil_append] at this;exact this
   have hmul:((ao.toArray.size:Int)*k)=((ao.toArray.size*k.toNat:Nat):Int):=by
    rw[Int.natCast_mul,Int.toNat_of_nonneg (by lia)]
   have hsl:(sizeLine:Nat)<=(2^63 - 1) / 8:=by decide
   refine ao4 F.slot_tuple_mul ⟨_,a1,rfl⟩ F.entry_tuple_mul (F.args_tuple_mul_2 _ _) (se l ao.toArray n1 d1 l1 k t (by simp;lia) (by simp [hv,hk]) (by simp [hv];lia) (by rw[hmul];lia) (by rw[hmul];intro z;have z':=ad7 z;lia) (by rw[Gk,ab0,len_rep];rw[ab0,Nat.mul_comm] at hlen;exact hlen)) ⟨a1,?_⟩;rw[Gk];refine⟨.ref s.heap.objs.size,_,I.laid (t':=s.toks) (o:= .tup (List.replicate k.toNat xs).flatten) (fun b ob q=>aa3 _ q) (ab2 _) ⟨by rw[len_rep,Nat.mul_comm];exact hz,_,r.rep _,n4.new _ _⟩,rfl,q _ _ (.inr ⟨I.aI.fresh (ab2 _),rfl⟩)⟩
end
end L2
namespace LD
open PySem PySem.Spec L2 PyProof.Rows
section
variable{X:Cx}{a b:Expr}{ta tb:bh}{pos:Pos}
def D9:D2:=fun d1 d2 Q=> ∃ds k,d1= .tup ds/\d2= .int k/\ds≠ []/\1<=k/\k < 2^63/\ds.length*k.toNat<=sizeLine/\Q (.tup (List.replicate k.toNat ds).flatten)
theorem GN:wC HL D9:=fun M H x y d1 d2 Qd Q al r1 r2 bZ k=>(by obtain⟨ds,n,e1,e2,ne,h1,h2,l,q⟩:=bZ;exact(by
 subst e1;subst e2;obtain⟨a,xs,rfl,ha,nn,rr⟩:=r1.bQ;refine⟨a,n,xs,rfl,r2.ofInt,ha,fun z=>ne (by subst z;have:=rr.1;cases ds with | nil=>rfl | cons _ _=>simp at this),h1,h2,by rw[rr.1];exact l,fun p H' nt=>?_⟩;exact k H' _ _ q nt.keep (Rep.gy nt.at (al.Ko nt) ((rr.rep _).same nt.keep))))
theorem qY(ha:Ev X a ta)(hb:Ev X b tb):Ev X (.BinOp a .Mult b pos) (lQ D9 ta tb):=tV FC GN ha hb
end
section
variable{X:Cx}{pos:Pos}
def Dm(i j l:Nat):og:=fun d δ Q=> ∃d1 d2 d3,d= .tup [d1,d2,d3]/\br δ i/\br (δ.set i (.im d1)) j/\br ((δ.set i (.im d1)).set j (.im d2)) l/\Q (((δ.set i (.im d1)).set j (.im d2)).set l (.im d3))
theorem vJ{i j l:Nat}{K:PySem.W.Frag}: ∀v σ H Q,lG (Dm i j l) v σ H Q->zO K 3 (eM (cm i) (eM (cm j) (eM (cm l) vN))) v σ H Q:=fun v σ H Q eS=>(by obtain⟨W,M,α,δ,d,Qd,E,r,⟨d1,d2,d3,e,FU,FT,Sh,q⟩,k⟩:=eS;exact(by
 subst e;obtain⟨a,xs,rfl,ha,n,rr⟩:=r.bQ;obtain⟨x,ys,rfl,r2,r3⟩:=rr.aG;obtain⟨y,zs,rfl,r4,r5⟩:=r3.aG;obtain⟨z,ws,rfl,r6,r7⟩:=r5.aG;cases r7.cC;exact⟨a,_,rfl,dB.of ha,rfl,x,_,rfl,y,_,rfl,z,_,rfl,rfl,k _ _ _ q (((E.fw r2 FU).fw r4 FT).fw r6 Sh) fun x h=>cu x (cu x (cu x h))⟩))
theorem kM(i j l:Nat)(hc:X.calm=true)(hN:X.N.Nodup)(hi:X.N[i]?=some x:=by rfl)(hj:X.N[j]?=some y:=by rfl)(hl:X.N[l]?=some z:=by rfl)(hx:Loc X.env.scope x:=by first | exact Or.inl rfl | exact Or.inr rfl)(hy:Loc X.env.scope y:=by first | exact Or.inl rfl | exact Or.inr rfl)(hz:Loc X.env.scope z:=by first | exact Or.inl rfl | exact Or.inr rfl)(hf:X.fn x=true\/X.env.scope.names.lookup x=some .local:=by first | exact .inl rfl | exact .inr rfl | assumption)(nF:X.fn y=true\/X.env.scope.names.lookup y=some .local:=by first | exact .inl rfl | exact .inr rfl | assumption)(Th:X.fn z=true\/X.env.scope.names.lookup z=some .local:=by first | exact .inl rfl | exact .inr rfl | assumption)(hn:(assignEach [.Name x px, .Name y py, .Name z pz] X.env).length=3:=by rfl)(kh:(assignEach [.Name x px, .Name y py, .Name z pz] X.env).findIdx? (·.1)=none:=by rfl)(h1:(assignEach [.Name x px, .Name y py, .Name z pz] X.env).map (·.2)=assign (.Name x px) X.env::(assignEach [.Name y py, .Name z pz] X.env).map (·.2):=by rfl)(h2:(assignEach [.Name y py, .Name z pz] X.env).map (·.2)=assign (.Name y py) X.env::(assignEach [.Name z pz] X.env).map (·.2):=by rfl)(h3:(assignEach [.Name z pz] X.env).map (·.2)=assign (.Name z pz) X.env::(assignEach [] X.env).map (·.2):=by rfl):
  Gv X (.Tuple [.Name x px,.Name y py,.Name z pz] kk pos) (Dm i j l):=PG.imp (cn hc (aA (av hN hi hx hf) (aA (av hN hj hy nF) (aA (av hN hl hz Th) bw h3) h2) h1) hn kh) vJ
end
end LD
namespace LD
open PySem PySem.Spec L2 LB PyProof.Rows LW
section
variable{X:Cx}{a b e f:Expr}{ta tb:bh}{tA:eZ}{p pos:Pos}
inductive Ee(ds:List Dt)(Q:Dt->Prop):Prop
 | mk (i j:Int) (h1:ds= [.int i,.int j]) (h2:0 < j) (h3:j < 2^64) (h4:Q (.tup [.int (i / j),.int (i % j)]))
theorem rB:bootBuiltins "divmod"=some (.builtin "divmod"):=by decide+kernel
theorem Dz(hm:X.mg "divmod"=none)(ha:Av X [e,f] tA)(hg:Gl X "divmod":=by rfl)(he:starEach [e,f] X.env=(false,eval e X.env)::starEach [f] X.env:=by rfl)(da:(backTo pos (starEach [f] X.env)).any (·.1)=false:=by rfl):
  Ev X (.Call (.Name "divmod" p) [e,f] [] pos) (Ax Ee tA):=mv j7 (fun M H xs ds Qd Q al r zz k=>(by
 obtain⟨i,j,e1,h2,h3,q⟩:=zz;subst e1;obtain⟨x,ys,rfl,r2,r3⟩:=r.aG;obtain⟨y,zs,rfl,r4,r5⟩:=r3.aG;cases r5.cC;cases r2.ofInt;cases r4.ofInt;refine⟨i,j,rfl,⟨h2,h3⟩,fun q1 hq=>?_⟩;exact k _ _ _ q (ax.new hq) (Rep.gy ag (al.fresh hq) (.cons (.int _) (.cons (.int _) .nil))))) hg hm rB ha (by decide) (by decide) he da
end
section
variable{X:Cx}{pos:Pos}
inductive Dn(i j l m:Nat)(d:Dt)(δ:List Sl)(Q:List Sl->Prop):Prop
 | mk (d1 d2 d3 d4:Dt) (h1:d= .tup [d1,d2,d3,d4]) (h2:br δ i) (h3:br (δ.set i (.im d1)) j) (h4:br ((δ.set i (.im d1)).set j (.im d2)) l) (h5:br (((δ.set i (.im d1)).set j (.im d2)).set l (.im d3)) m) (h6:Q ((((δ.set i (.im d1)).set j (.im d2)).set l (.im d3)).set m (.im d4)))
theorem vK{i j l m:Nat}{K:PySem.W.Frag}: ∀v σ H Q,lG (Dn i j l m) v σ H Q->zO K 4 (eM (cm i) (eM (cm j) (eM (cm l) (eM (cm m) vN)))) v σ H Q:=fun v σ H Q zz=>(by
 obtain⟨W,M,α,δ,d,Qd,E,r,⟨d1,d2,d3,d4,e,FU,FT,Sh,Xp,q⟩,k⟩:=zz;subst e;obtain⟨a,xs,rfl,ha,n,rr⟩:=r.bQ;obtain⟨x,ys,rfl,r2,r3⟩:=rr.aG;obtain⟨y,zs,rfl,r4,r5⟩:=r3.aG;obtain⟨z,ws,rfl,r6,r7⟩:=r5.aG;obtain⟨u,us,rfl,r8,r9⟩:=r7.aG;cases r9.cC;exact⟨a,_,rfl,dB.of ha,rfl,x,_,rfl,y,_,rfl,z,_,rfl,u,_,rfl,rfl,k _ _ _ q ((((E.fw r2 FU).fw r4 FT).fw r6 Sh).fw r8 Xp) fun x h=>cu x (cu x (cu x (cu x h)))⟩)
theorem Lc(i j l m:Nat)(hc:X.calm=true)(hN:X.N.Nodup)(hi:X.N[i]?=some x:=by rfl)(hj:X.N[j]?=some y:=by rfl)(hl:X.N[l]?=some z:=by rfl)(hm:X.N[m]?=some u:=by rfl)(hx:Loc X.env.scope x:=by first | exact Or.inl rfl | exact Or.inr rfl)(hy:Loc X.env.scope y:=by first | exact Or.inl rfl | exact Or.inr rfl)(hz:Loc X.env.scope z:=by first | exact Or.inl rfl | exact Or.inr rfl)(hu:Loc X.env.scope u:=by first | exact Or.inl rfl | exact Or.inr rfl)(hf:X.fn x=true\/X.env.scope.names.lookup x=some .local:=by first | exact .inl rfl | exact .inr rfl | assumption)(nF:X.fn y=true\/X.env.scope.names.lookup y=some .local:=by first | exact .inl rfl | exact .inr rfl | assumption)(Th:X.fn z=true\/X.env.scope.names.lookup z=some .local:=by first | exact .inl rfl | exact .inr rfl | assumption)(Ym:X.fn u=true\/X.env.scope.names.lookup u=some .local:=by first | exact .inl rfl | exact .inr rfl | assumption)(hn:(assignEach [.Name x px, .Name y py, .Name z pz, .Name u pu] X.env).length=4:=by rfl)(kh:(assignEach [.Name x px, .Name y py, .Name z pz, .Name u pu] X.env).findIdx? (·.1)=none:=by rfl)(h1:(assignEach [.Name x px, .Name y py, .Name z pz, .Name u pu] X.env).map (·.2)=assign (.Name x px) X.env::(assignEach [.Name y py, .Name z pz, .Name u pu] X.env).map (·.2):=by rfl)(h2:(assignEach [.Name y py, .Name z pz, .Name u pu] X.env).map (·.2)=assign (.Name y py) X.env::(assignEach [.Name z pz, .Name u pu] X.env).map (·.2):=by rfl)(h3:(assignEach [.Name z pz, .Name u pu] X.env).map (·.2)=assign (.Name z pz) X.env::(assignEach [.Name u pu] X.env).map (·.2):=by rfl)(h4:(assignEach [.Name u pu] X.env).map (·.2)=assign (.Name u pu) X.env::(assignEach [] X.env).map (·.2):=by rfl):
  Gv X (.Tuple [.Name x px,.Name y py,.Name z pz,.Name u pu] kk pos) (Dn i j l m):=PG.imp (cn hc (aA (av hN hi hx hf) (aA (av hN hj hy nF) (aA (av hN hl hz Th) (aA (av hN hm hu Ym) bw h4) h3) h2) h1) hn kh) vK
end
section
variable{X:Cx}
inductive Pu(i:Nat)(δ:List Sl)(Q:Dt->List Sl->Prop):Prop
 | mk (ds:List Dt) (h1:δ[i]?=some (.ow ds)) (h2:Q .aF (δ.set i (.ow ds.reverse)))
theorem pI(i:Nat){xp apos aY:Pos}(ho:PE X (.Name x xp) (iF i))(fE:attributeBase (.Name x xp) "reverse" X.env (eval (.Name x xp) X.env)=eval (.Name x xp) X.env:=by rfl)(jJ:(apos.endLine==aY.line)=true:=by rfl):
  Ev X (.Call (.Attribute (.Name x xp) "reverse" apos) [] [] aY) (Pu i):=
 PE.imp (J8 PySem.F.plainAttrs_list PySem.F.slot_list_reverse PySem.F.type_list_reverse vk ho fE jJ) fun σ H Q zz=>(by
  obtain⟨W,M,α,δ,Qd,E,⟨ds,hd,q⟩,k⟩:=zz;obtain⟨a,xs,h1,h2,h3,r3⟩:=E.ow hd;refine⟨_,h1,.inl ⟨rfl,_,bS.of h3⟩,a,xs,rfl,rfl,h3,?_⟩;obtain⟨E2,c2⟩:=xm E hd h1 h2 r3.rev;exact k _ _ _ _ q E2 c2 .aF)
end
end LD
namespace jg
open PySem PySem.Spec L2 LB LD PyProof.Rows
abbrev Pr:=Nat × Nat
noncomputable def eP(n:Nat):List Pr:=(List.range (n - 1)).flatMap fun k=>(List.range (n - (k+1))).map fun j=>(j+1,j+1+(k+1))
theorem fS:p∈eP n↔1<=p.1/\p.1 < p.2/\p.2<=n:=by
 unfold eP;constructor
 . intro h;obtain⟨k,hk,h⟩:=ae0.mp h;obtain⟨j,hj,rfl⟩:=ab7.mp h;have:=af2.mp hk;have:=af2.mp hj;exact⟨by dsimp only;lia,by dsimp only;lia,by dsimp only;lia⟩
 . rintro⟨h1,h2,h3⟩
   refine ae0.mpr ⟨p.2 - p.1 - 1,af2.mpr (by lia),ab7.mpr ⟨p.1 - 1,af2.mpr (by lia),?_⟩⟩;obtain⟨a,b⟩:=p;simp only at h1 h2 h3 ⊢;rw[show a - 1+1=a by lia,show a+(b - a - 1+1)=b by lia]
def lo(p q:Pr):Prop:=p.2 - p.1 < q.2 - q.1\/(p.2 - p.1=q.2 - q.1/\p.1 < q.1)
theorem DT(n:Nat):(eP n).Pairwise lo:=by
 unfold eP;rw[List.pairwise_flatMap];refine⟨fun k _=>?_,?_⟩
 . rw[List.pairwise_map];refine List.pairwise_lt_range.imp fun h=> .inr ⟨?_,?_⟩
   . show _+1+(k+1) - (_+1)=_+1+(k+1) - (_+1);lia
   . show _+1 < _+1;lia
 . refine List.pairwise_lt_range.imp fun h x hx y hy=> .inl ?_;obtain⟨j,_,rfl⟩:=ab7.mp hx;obtain⟨i,_,rfl⟩:=ab7.mp hy;show _+1+(_+1) - (_+1) < _+1+(_+1) - (_+1);lia
theorem t9(h:(eP n)[i]?=some p)(hq:q∈eP n)(l:q.2 - q.1 < p.2 - p.1):q∈(eP n).take i:=by
 obtain⟨j,hj,rfl⟩:=ah8 hq;obtain⟨hi,rfl⟩:=aa5.mp h;have lt:j < i:=by
  rcases Nat.lt_trichotomy j i with c | c | c
  . exact c
  . subst c;lia
  . have:=ap3.mp (DT n) i j hi hj c;unfold lo at this;lia
 exact List.mem_take_iff_getElem.mpr ⟨j,by lia,rfl⟩
theorem rA(h:(eP n)[i]?=some p):p∉(eP n).take i:=fun z=>by
 obtain⟨hi,rfl⟩:=aa5.mp h;obtain⟨j,hj,e⟩:=List.mem_take_iff_getElem.mp z;have:=ap3.mp (DT n) j i (by lia) hi (by lia);rw[e] at this;unfold lo at this;lia
noncomputable def pk(p:Pr):List Key:= [.inl (p.1:Int),.inl (p.2:Int)]
theorem BF(h:pk p=pk q):p=q:=by
 unfold pk at h;injection h with h1 h2
 injection h2 with h2 _
 injection h1 with h1
 injection h2 with h2
 exact Prod.ext (by lia) (by lia)
theorem dQ: ∀{L:List Pr},p∈L->yy (L.map pk) (L.map g) (pk p)=some (g p)
 | q::L,h=>by
  rw[ac9,ac9,yy];by_cases c:pk q=pk p
  . rw[if_pos c,BF c]
  . rw[if_neg c];exact dQ ((ac3.mp h).elim (fun z=>absurd (by rw[z]) c) id)
theorem J0{p:Pr}{L:List Pr}(h:p∉L):pk p∉L.map pk:=fun z=>by
 obtain⟨q,hq,e⟩:=ab7.mp z;exact h (BF e▸hq)
noncomputable def dg(n:Nat):List Pr:=(List.range' 1 n).map fun i=>(i,i)
theorem qK:p∈dg n↔p.1=p.2/\1<=p.1/\p.1<=n:=by
 unfold dg;constructor
 . intro h;obtain⟨i,hi,rfl⟩:=ab7.mp h;have:=ad3.mp hi;exact⟨rfl,by simp;lia,by simp;lia⟩
 . rintro⟨h1,h2,h3⟩
   exact ab7.mpr ⟨p.1,ad3.mpr ⟨by lia,by lia⟩,Prod.ext rfl h1⟩
theorem Dl(h:(eP n)[i]?=some p):p∉dg n++(eP n).take i:=fun z=>by
 have:=fS.mp (ad2 h);rcases ae1.mp z with z | z
 . have:=qK.mp z;lia
 . exact rA h z
theorem yb(e:(eP n)[i]?=some (l,h))(h1:l<=a)(h2:a<=b)(h3:b<=h)(h4:b - a < h - l):(a,b)∈dg n++(eP n).take i:=by
 have m:=fS.mp (ad2 e);simp only at m;by_cases c:a=b
 . exact ae2 _ (qK.mpr ⟨c,by simp;lia,by simp;lia⟩)
 . exact ab4 _ (t9 e (fS.mpr ⟨by simp;lia,by simp;lia,by simp;lia⟩) h4)
theorem Ut(e:(eP n)[i]?=some (l,h))(h1:l<=a)(h2:a < b)(h3:b<=h)(h4:b - a < h - l):(a,b)∈(eP n).take i:=by
 have m:=fS.mp (ad2 e);simp only at m;exact t9 e (fS.mpr ⟨by simp;lia,by simp;lia,by simp;lia⟩) h4
theorem take_snoc(h:(eP n)[i]?=some p):(eP n).take (i+1)=(eP n).take i++ [p]:=by rw[ao1,h];rfl
noncomputable def hk(i:Nat):Int:=reduceHash (Builtin.Tuple.tupleHashOf [hashInt (i:Int),hashInt (i:Int)])
theorem Gy(P:Program)(w:World)(i:Nat):tx P w (pk (i,i))=hk i:=by rfl
theorem CB:((List.range' 1 12).map hk).Nodup:=by decide+kernel
theorem zm{f:Nat->Int}(Vw:((List.range' 1 m).map f).Nodup)(h:n<=m):((List.range' 1 n).map f).Nodup:=by
 have e:List.range' 1 m=List.range' 1 n++List.range' (1+n) (m - n):=by
  rw[ah7,Nat.add_sub_cancel' h]
 rw[e,ab8] at Vw;exact Vw.sublist (List.sublist_append_left _ _)
theorem Lq(f:List Key->Int)(n:Nat):((dg n).map pk).map f=(List.range' 1 n).map fun i=>f (pk (i,i)):=by
 unfold dg;rw[ad8,ad8];rfl
theorem xQ(P:Program)(w:World)(h:n<=12):(((dg n).map pk).map (tx P w)).Nodup:=by
 have e1:=Lq (tx P w) n;have e2:((List.range' 1 n).map fun i=>tx P w (pk (i,i)))=(List.range' 1 n).map hk:=ac8 fun i _=>Gy P w i;exact(e1.trans e2)▸zm CB h
section
variable{α:Type}
noncomputable def oq(jn:List α->α)(rg lf:Nat->Nat->α)(l h:Nat):List α:=(List.range' l (h - l)).map fun a=>jn [rg l a,lf (a+1) h]
noncomputable def JS(jn:List α->α)(rg rt:Nat->Nat->α)(l h:Nat):List α:=(List.range' (l+1) (h - l)).map fun a=>jn [rt l a,rg a h]
noncomputable def Kw(jn:List α->α)(lf lt:Nat->Nat->α)(l h:Nat):List α:=(List.range' l (h - l)).map fun a=>jn [lf l a,lt a h]
noncomputable def toV(jn:List α->α)(w lf rg:Nat->Nat->α)(n:Nat):List α:=(List.range' 1 n).map fun t=>jn [w t 0,lf 1 t,rg t n]
structure Uz(oJ oC:List α->Prop)(jn ch:List α->α)(n:Nat)(w rg rt lf lt:Nat->Nat->α):Prop where
 j0:oJ []
 r0: ∀l,rg l l=jn []
 l0: ∀l,lf l l=jn []
 ji: ∀l a h,1<=l->l<=a->a < h->h<=n->oJ [rg l a,lf (a+1) h]
 ci: ∀l h,1<=l->l < h->h<=n->oC (oq jn rg lf l h)
 jr: ∀l h,1<=l->l < h->h<=n->oJ [w h l,ch (oq jn rg lf l h)]
 er: ∀l h,1<=l->l < h->h<=n->rt l h=jn [w h l,ch (oq jn rg lf l h)]
 jl: ∀l h,1<=l->l < h->h<=n->oJ [w l h,ch (oq jn rg lf l h)]
 el: ∀l h,1<=l->l < h->h<=n->lt l h=jn [w l h,ch (oq jn rg lf l h)]
 jR: ∀l a h,1<=l->l < a->a<=h->h<=n->oJ [rt l a,rg a h]
 cR: ∀l h,1<=l->l < h->h<=n->oC (JS jn rg rt l h)
 eR: ∀l h,1<=l->l < h->h<=n->rg l h=ch (JS jn rg rt l h)
 jL: ∀l a h,1<=l->l<=a->a < h->h<=n->oJ [lf l a,lt a h]
 cL: ∀l h,1<=l->l < h->h<=n->oC (Kw jn lf lt l h)
 eL: ∀l h,1<=l->l < h->h<=n->lf l h=ch (Kw jn lf lt l h)
 jt: ∀t,1<=t->t<=n->oJ [w t 0,lf 1 t,rg t n]
 ct:oC (toV jn w lf rg n)
variable (D:α->Dt)
def pB(ok:List α->Prop)(f:List α->α):DN:=fun ds Q=> ∃L:List α,ds= [.lst (L.map D)]/\ok L/\Q (D (f L))
noncomputable def GR(L:List Pr)(f:Nat->Nat->α):Dt:= .lN (L.map pk) (L.map fun p=>D (f p.1 p.2))
noncomputable def sC(n:Nat)(w:Nat->Nat->α)(i:Nat):Dt:= .tup ((List.range (n+1)).map fun o=>D (w i o))
noncomputable def Jz(n:Nat)(w:Nat->Nat->α):Dt:= .tup ((List.range' 1 n).map (sC D n w))
theorem qy{n:Nat}{w:Nat->Nat->α}{i x:Nat}(h:x<=n):jd ((List.range (n+1)).map fun o=>D (w i o)) (x:Int)=some (D (w i x)):=
 bc (j:=x) (by rw[aa8,ah9 (by omega)];rfl)
theorem wN{n:Nat}{w:Nat->Nat->α}{x:Nat}(h1:1<=x)(h:x<=n):jd ((List.range' 1 n).map (sC D n w)) ((x:Int) - 1)=some (sC D n w x):=by
 rw[show(x:Int) - 1=((x - 1:Nat):Int) by omega];exact bc (j:=x - 1) (by rw[aa8,ai4 (by omega),show 1+1*(x - 1)=x by omega];rfl)
end
end jg
namespace LD
open PySem PySem.Spec L2 LB PyProof.Rows
theorem CW{ts us:List Str}:pG 1 (.lst (ts.map .str)) (.lst (us.map .str))=decide (ts=us):=by
 unfold pG;rw[ak6,decide_eq_true_eq,af8,ah2,aq0,aa1,aa1];constructor
 . rintro⟨h,l⟩
   refine List.ext_getElem l fun i h1 h2=>?_;have:=h i (af2.mpr (by lia));rw[show(ts.map Dt.str).getD i .aF= .str ts[i] by simp [List.getD,h1],show(us.map Dt.str).getD i .aF= .str us[i] by simp [List.getD,h2]] at this;unfold pG at this;exact eq_of_beq this
 . rintro rfl
   refine⟨fun i hi=>?_,rfl⟩;have h1:i < ts.length:=by have:=af2.mp hi;lia
   rw[show(ts.map Dt.str).getD i .aF= .str ts[i] by simp [List.getD,h1]];unfold pG;exact aj0 _
theorem Bf{ts us:List Str}:Hj 1 (.lst (ts.map .str)) (.lst (us.map .str)):= .lst fun j d e h1 h2=>by
 rw[aa8] at h1 h2;obtain⟨x,_,rfl⟩:=ag8.mp h1;obtain⟨y,_,rfl⟩:=ag8.mp h2;exact .flat rfl rfl
theorem yw{Δ:cG}(I:Nat->List Sl->Prop)(h0: ∃m,I m δ)(h: ∀m δ,I m δ-> ∀Δ':cG,(∀m' δ',m' < m->I m' δ'->Δ'.nx δ')->(∀d δ',Δ.rt d δ'->Δ'.rt d δ')->u δ fun b δ1=>if b=true then tb Δ' δ1 else Δ.nx δ1):DA u tb Δ δ:=
 ⟨I,h0,fun m δ hI=>h m δ hI _ (fun m' δ' hm hi=>⟨m',hm,hi⟩) fun _ _ z=>z⟩
theorem di{ao:List Dt}{g:og}{tb:kg}{Δ:cG}(I:Nat->List Sl->Prop)(h0:I 0 δ1)(h: ∀i d δ2,ao[i]?=some d->I i δ2-> ∀Δ':cG,(∀δ',I (i+1) δ'->Δ'.nx δ')->(∀d δ',Δ.rt d δ'->Δ'.rt d δ')->g d δ2 fun δ3=>tb Δ' δ3)(fin: ∀δ2,I ao.length δ2->Δ.nx δ2):
  ∃P:Nat->List Sl->Prop,P 0 δ1/\(∀i d δ2,ao[i]?=some d->P i δ2->g d δ2 fun δ3=>tb {Δ with nx:=P (i+1),ct:=P (i+1),bk:=Δ.nx} δ3)/\ ∀δ2,P ao.length δ2->Δ.nx δ2:=
 ⟨I,h0,fun i d δ2 e hI=>h i d δ2 e hI _ (fun _ z=>z) fun _ _ z=>z,fin⟩
end LD
namespace ly
abbrev Wo:=Option Int
noncomputable def ad:Wo->Wo->Wo
 | some a,some b=>some (a+b)
 | _,_=>none
noncomputable def mx:Wo->Wo->Wo
 | some a,some b=>some (max a b)
 | some a,none=>some a
 | none,y=>y
noncomputable def iE:List Wo->Wo
 | []=>some 0
 | x::xs=>ad x (iE xs)
noncomputable def fF:List Wo->Wo
 | []=>none
 | x::xs=>mx x (fF xs)
theorem nV(x y z:Wo):ad (ad x y) z=ad x (ad y z):=by cases x <;> cases y <;> cases z <;> simp [ad,Int.add_assoc]
theorem mB(x y:Wo):ad x y=ad y x:=by cases x <;> cases y <;> simp [ad,Int.add_comm]
theorem Hg(x:Wo):ad (some 0) x=x:=by cases x <;> simp [ad]
theorem nU(x:Wo):ad x (some 0)=x:=by cases x <;> simp [ad]
theorem yc(x:Wo):ad x none=none:=by cases x <;> rfl
theorem xu(x:Wo):mx x none=x:=by cases x <;> rfl
theorem Cg(x y z:Wo):mx (mx x y) z=mx x (mx y z):=by cases x <;> cases y <;> cases z <;> simp [mx] <;> lia
theorem Jb(x y z:Wo):ad x (mx y z)=mx (ad x y) (ad x z):=by cases x <;> cases y <;> cases z <;> simp [ad,mx] <;> lia
theorem Ob(x y z:Wo):ad (mx y z) x=mx (ad y x) (ad z x):=by rw[mB,Jb,mB x y,mB x z]
theorem EN(l m:List Wo):iE (l++m)=ad (iE l) (iE m):=by
 induction l with
 | nil=>simp [iE,Hg]
 | cons x xs ih=>show ad x (iE (xs++m))=_;rw[ih,iE,nV]
theorem GF(l m:List Wo):fF (l++m)=mx (fF l) (fF m):=by
 induction l with
 | nil=>rfl
 | cons x xs ih=>show mx x (fF (xs++m))=_;rw[ih,fF,Cg]
theorem A1{l m:List Wo}(h:l.Perm m):iE l=iE m:=by
 induction h with
 | nil=>rfl
 | cons x _ ih=>rw[iE,iE,ih]
 | swap x y l=>rw[iE,iE,iE,iE,<-nV,<-nV,mB y x]
 | trans _ _ i1 i2=>rw[i1,i2]
theorem jK:fF l=none↔ ∀x∈l,x=none:=by
 induction l with
 | nil=>simp [fF]
 | cons x xs ih=>
  cases x with
  | none=>
   show fF xs=none↔_;rw[ih];exact⟨fun h y hy=>(ac3.mp hy).elim id (h y),fun h y hy=>h y (ab5 _ hy)⟩
  | some a=>
   refine⟨fun h=>?_,fun h=>?_⟩
   . cases e:fF xs with
     | none=>rw[fF,e] at h;cases h
     | some b=>rw[fF,e] at h;cases h
   . have:=h _ ab3;cases this
theorem ml: ∀{l:List Wo} {v:Int},fF l=some v->some v∈l
 | x::xs,v,h=>by
  cases x with
  | none=>exact ab5 _ (ml (by simpa [fF,mx] using h))
  | some a=>
   cases e:fF xs with
   | none=>rw[fF,e] at h;cases h;exact ab3
   | some b=>
    rw[fF,e] at h;have hv:max a b=v:=Option.some.inj h;by_cases c:a<=b
    . have:b=v:=by lia
      rw[this] at e;exact ab5 _ (ml e)
    . have:a=v:=by lia
      rw[this];exact ab3
theorem CJ: ∀{l:List Wo} {v u:Int},fF l=some v->some u∈l->u<=v
 | x::xs,v,u,h,hu=>by
  rcases ac3.mp hu with e | hu
  . subst e;cases e:fF xs with
    | none=>rw[fF,e] at h;cases h;exact ar3 _
    | some b=>rw[fF,e] at h;have:max u b=v:=Option.some.inj h;lia
  . cases e:fF xs with
    | none=>have:=jK.mp e _ hu;cases this
    | some b=>
     have i:=CJ e hu;cases x with
     | none=>rw[fF,e] at h;cases h;exact i
     | some a=>rw[fF,e] at h;have:max a b=v:=Option.some.inj h;lia
theorem bF{α β:Type}{f g:α->List β}: ∀{l:List α},(∀a∈l,f a=g a)->l.flatMap f=l.flatMap g
 | [],_=>rfl
 | a::l,h=>by rw[aq9,aq9,h a ab3,bF fun b hb=>h b (ab5 _ hb)]
abbrev Way:=List (Nat × Nat)
noncomputable def wt(w:Nat->Nat->Wo)(a:Way):Wo:=iE (a.map fun p=>w p.1 p.2)
noncomputable def ev(w:Nat->Nat->Wo)(S:List Way):Wo:=fF (S.map (wt w))
noncomputable def pr(S T:List Way):List Way:=S.flatMap fun a=>T.map fun b=>a++b
theorem Jr(w:Nat->Nat->Wo)(a b:Way):wt w (a++b)=ad (wt w a) (wt w b):=by unfold wt;rw[ab8,EN]
theorem CV(w:Nat->Nat->Wo)(S T:List Way):ev w (S++T)=mx (ev w S) (ev w T):=by unfold ev;rw[ab8,GF]
theorem GK(w:Nat->Nat->Wo)(a:Way)(T:List Way):ev w (T.map fun b=>a++b)=ad (wt w a) (ev w T):=by
 induction T with
 | nil=>exact(yc _).symm
 | cons b T ih=>
  show mx (wt w (a++b)) (ev w (T.map fun b=>a++b))=ad (wt w a) (mx (wt w b) (ev w T));rw[ih,Jr,Jb]
theorem lj(w:Nat->Nat->Wo)(S T:List Way):ev w (pr S T)=ad (ev w S) (ev w T):=by
 induction S with
 | nil=>rfl
 | cons a S ih=>
  show ev w ((T.map fun b=>a++b)++pr S T)=ad (mx (wt w a) (ev w S)) (ev w T);rw[CV,GK,ih,Ob]
theorem jS(w:Nat->Nat->Wo)(L:List Nat)(f:Nat->List Way):ev w (L.flatMap f)=fF (L.map fun x=>ev w (f x)):=by
 induction L with
 | nil=>rfl
 | cons x L ih=>rw[aq9,CV,ih];rfl
theorem Lh(w:Nat->Nat->Wo)(a:Way):ev w [a]=wt w a:=xu _
theorem qW(w:Nat->Nat->Wo)(i o:Nat):ev w [[(i,o)]]=w i o:=by rw[Lh];exact nU _
structure wk where
 rg:List Way
 rt:List Way
 lf:List Way
 lt:List Way
noncomputable def oo(q:Nat->Nat->wk)(l h:Nat):List Way:=(List.range' l (h - l)).flatMap fun at'=>pr (q l at').rg (q (at'+1) h).lf
noncomputable def Ss(q:Nat->Nat->wk)(rt:List Way)(l h:Nat):List Way:=(List.range' (l+1) (h - l)).flatMap fun a=>pr (if a=h then rt else(q l a).rt) (if a=h then [[]] else(q a h).rg)
noncomputable def Su(q:Nat->Nat->wk)(lt:List Way)(l h:Nat):List Way:=(List.range' l (h - l)).flatMap fun a=>pr (if a=l then [[]] else(q l a).lf) (if a=l then lt else(q a h).lt)
noncomputable def Oc(q:Nat->Nat->wk)(l h:Nat):wk:=⟨Ss q (pr [[(h,l)]] (oo q l h)) l h,pr [[(h,l)]] (oo q l h),Su q (pr [[(l,h)]] (oo q l h)) l h,pr [[(l,h)]] (oo q l h)⟩
noncomputable def sp:Nat->Nat->Nat->wk
 | 0,_,_=>⟨[[]],[],[[]],[]⟩
 | d+1,l,h=>if h<=l+d then sp d l h else Oc (sp d) l h
noncomputable def Q(l h:Nat):wk:=sp (h - l) l h
theorem HG: ∀(d l h:Nat),h<=l+d->sp d l h=Q l h
 | 0,l,h,hd=>by unfold Q;rw[show h - l=0 by lia]
 | d+1,l,h,hd=>by
  by_cases c:h<=l+d
  . rw[sp,if_pos c];exact HG d l h c
  . unfold Q;rw[show h - l=d+1 by lia]
theorem ic(l:Nat):Q l l=⟨[[]],[],[[]],[]⟩:=by unfold Q;rw[am4];rfl
theorem zt(e: ∀a b,l<=a->b<=h->b - a < h - l->q a b=r a b):Oc q l h=Oc r l h:=by
 have ei:oo q l h=oo r l h:=by
  unfold oo;refine bF fun a ha=>?_;have:=ad3.mp ha;rw[e l a (by lia) (by lia) (by lia),e (a+1) h (by lia) (by lia) (by lia)]
 have er: ∀x,Ss q x l h=Ss r x l h:=fun x=>bF fun a ha=>by
  have:=ad3.mp ha;by_cases c:a=h
  . rw[if_pos c,if_pos c,if_pos c,if_pos c]
  . rw[if_neg c,if_neg c,if_neg c,if_neg c,e l a (by lia) (by lia) (by lia),e a h (by lia) (by lia) (by lia)]
 have el: ∀x,Su q x l h=Su r x l h:=fun x=>bF fun a ha=>by
  have:=ad3.mp ha;by_cases c:a=l
  . rw[if_pos c,if_pos c,if_pos c,if_pos c]
  . rw[if_neg c,if_neg c,if_neg c,if_neg c,e l a (by lia) (by lia) (by lia),e a h (by lia) (by lia) (by lia)]
 unfold Oc;rw[ei,er,el]
theorem bO(lt:l < h):Q l h=Oc Q l h:=by
 obtain⟨d,e⟩: ∃d,h - l=d+1:=⟨h - l - 1,by lia⟩
 unfold Q;rw[e,sp,if_neg (by lia)];exact zt fun a b h1 h2 h3=>HG d a b (by lia)
theorem JM(w:Nat->Nat->Wo)(lt:l < h):ev w (Q l h).rt=ad (w h l) (fF ((List.range' l (h - l)).map fun a=>ad (ev w (Q l a).rg) (ev w (Q (a+1) h).lf))):=by
 rw[bO lt];show ev w (pr [[(h,l)]] (oo Q l h))=_;rw[lj,qW];unfold oo;rw[jS];congr 2
 exact ac8 fun a _=>lj _ _ _
theorem Kt(w:Nat->Nat->Wo)(lt:l < h):ev w (Q l h).lt=ad (w l h) (fF ((List.range' l (h - l)).map fun a=>ad (ev w (Q l a).rg) (ev w (Q (a+1) h).lf))):=by
 rw[bO lt];show ev w (pr [[(l,h)]] (oo Q l h))=_;rw[lj,qW];unfold oo;rw[jS];congr 2
 exact ac8 fun a _=>lj _ _ _
theorem JR(w:Nat->Nat->Wo)(lt:l < h):ev w (Q l h).rg=fF ((List.range' (l+1) (h - l)).map fun a=>ad (ev w (Q l a).rt) (ev w (Q a h).rg)):=by
 have er:(Q l h).rg=(List.range' (l+1) (h - l)).flatMap fun a=>pr (Q l a).rt (Q a h).rg:=by
  conv=>lhs;rw[bO lt]
  show(List.range' (l+1) (h - l)).flatMap _=_;refine bF fun a ha=>?_;by_cases c:a=h
  . subst c;rw[if_pos rfl,if_pos rfl,ic];congr 1
    rw[bO lt];rfl
  . rw[if_neg c,if_neg c]
 rw[er,jS];congr 1
 exact ac8 fun a _=>lj _ _ _
theorem Kv(w:Nat->Nat->Wo)(lt:l < h):ev w (Q l h).lf=fF ((List.range' l (h - l)).map fun a=>ad (ev w (Q l a).lf) (ev w (Q a h).lt)):=by
 have er:(Q l h).lf=(List.range' l (h - l)).flatMap fun a=>pr (Q l a).lf (Q a h).lt:=by
  conv=>lhs;rw[bO lt]
  show(List.range' l (h - l)).flatMap _=_;refine bF fun a ha=>?_;by_cases c:a=l
  . subst c;rw[if_pos rfl,if_pos rfl,ic];congr 1
    rw[bO lt];rfl
  . rw[if_neg c,if_neg c]
 rw[er,jS];congr 1
 exact ac8 fun a _=>lj _ _ _
noncomputable def ws(a:Way):List Nat:=a.map (·.1)
structure ig(S:List Way)(lo n m:Nat):Prop where
 c: ∀a∈S,(ws a).Perm (List.range' lo n)/\ ∀p∈a,p.2<=m
theorem ja(h1:ig S lo n m)(h2:ig T (lo+n) k m):ig (pr S T) lo (n+k) m:=⟨fun a ha=>by
 obtain⟨x,hx,ha⟩:=ae0.mp ha;obtain⟨y,hy,rfl⟩:=ab7.mp ha;refine⟨?_,fun p hp=>(ae1.mp hp).elim ((h1.c x hx).2 p) ((h2.c y hy).2 p)⟩;unfold ws;rw[ab8,<-ah7];exact(h1.c x hx).1.append (h2.c y hy).1⟩
theorem j3{L:List Nat}{f:Nat->List Way}{lo n m:Nat}(h: ∀x∈L,ig (f x) lo n m):ig (L.flatMap f) lo n m:=⟨fun a ha=>by
 obtain⟨x,hx,ha⟩:=ae0.mp ha;exact(h x hx).c a ha⟩
theorem mw:ig [[]] lo 0 m:=⟨fun a ha=>by rw[aa6.mp ha];exact⟨.nil,fun p hp=>absurd hp aa4⟩⟩
theorem jZ(h:o<=m):ig [[(i,o)]] i 1 m:=⟨fun a ha=>by
 rw[aa6.mp ha];exact⟨.refl _,fun p hp=>by rw[aa6.mp hp];exact h⟩⟩
theorem ig.cast(h:ig S lo n m)(e1:lo=Xx)(e2:n=n'):ig S Xx n' m:=by subst e1;subst e2;exact h
theorem DM(h1:ig S (lo+k) n m)(h2:ig T lo k m):ig (pr S T) lo (n+k) m:=⟨fun a ha=>by
 obtain⟨x,hx,ha⟩:=ae0.mp ha;obtain⟨y,hy,rfl⟩:=ab7.mp ha;refine⟨?_,fun p hp=>(ae1.mp hp).elim ((h1.c x hx).2 p) ((h2.c y hy).2 p)⟩;unfold ws;rw[ab8,Nat.add_comm n k,<-ah7];exact List.perm_append_comm.trans ((h2.c y hy).1.append (h1.c x hx).1)⟩
theorem gn: ∀(d l h:Nat),h - l=d->l<=h->h<=m->ig (Q l h).rg (l+1) (h - l) m/\ig (Q l h).lf l (h - l) m/\(l < h->ig (Q l h).rt (l+1) (h - l) m/\ig (Q l h).lt l (h - l) m):=fun d=>by
 induction d using Nat.strongRecOn with
 | _ d ih=>
  intro l h hd hl hm;by_cases c:l=h
  . subst c;rw[ic,am4];exact⟨mw,mw,fun z=>absurd z (ae8 _)⟩
  have lt:l < h:=by lia
  have hi:ig (oo Q l h) (l+1) (h - l - 1) m:=j3 fun a ha=>by
   have:=ad3.mp ha;have h1:=(ih (a - l) (by lia) l a rfl (by lia) (by lia)).1;have h2:=(ih (h - (a+1)) (by lia) (a+1) h rfl (by lia) (by lia)).2.1;exact(ja h1 (h2.cast (by lia) rfl)).cast rfl (by lia)
  have Es:ig (Q l h).rt (l+1) (h - l) m:=by
   rw[bO lt];show ig (pr [[(h,l)]] (oo Q l h)) _ _ _;have h1:ig [[(h,l)]] (l+1+(h - l - 1)) 1 m:=(jZ (by lia)).cast (by lia) rfl;exact(DM h1 hi).cast rfl (by lia)
  have dH:ig (Q l h).lt l (h - l) m:=by
   rw[bO lt];show ig (pr [[(l,h)]] (oo Q l h)) _ _ _;exact(ja (jZ (by lia)) hi).cast rfl (by lia)
  refine⟨?_,?_,fun _=>⟨Es,dH⟩⟩
  . rw[bO lt];refine j3 fun a ha=>?_;have:=ad3.mp ha;by_cases e:a=h
    . rw[if_pos e,if_pos e];rw[bO lt] at Es;exact(ja Es mw).cast rfl (by lia)
    . rw[if_neg e,if_neg e];have h1:=((ih (a - l) (by lia) l a rfl (by lia) (by lia)).2.2 (by lia)).1;have h2:=(ih (h - a) (by lia) a h rfl (by lia) hm).1;exact(ja h1 (h2.cast (by lia) rfl)).cast rfl (by lia)
  . rw[bO lt];refine j3 fun a ha=>?_;have:=ad3.mp ha;by_cases e:a=l
    . rw[if_pos e,if_pos e];rw[bO lt] at dH;exact(ja mw dH).cast rfl (by lia)
    . rw[if_neg e,if_neg e];have h1:=(ih (a - l) (by lia) l a rfl (by lia) (by lia)).2.1;have h2:=((ih (h - a) (by lia) a h rfl (by lia) hm).2.2 (by lia)).2;exact(ja h1 (h2.cast (by lia) rfl)).cast rfl (by lia)
noncomputable def Ay(n:Nat):List Way:=(List.range' 1 n).flatMap fun t=>pr [[(t,0)]] (pr (Q 1 t).lf (Q t n).rg)
theorem EM(w:Nat->Nat->Wo)(n:Nat):ev w (Ay n)=fF ((List.range' 1 n).map fun t=>ad (w t 0) (ad (ev w (Q 1 t).lf) (ev w (Q t n).rg))):=by
 unfold Ay;rw[jS];congr 1
 exact ac8 fun t _=>by rw[lj,qW,lj]
theorem xX(n:Nat): ∀a∈Ay n,(ws a).Perm (List.range' 1 n)/\ ∀p∈a,p.2<=n:=fun a ha=>by
 obtain⟨t,ht,ha⟩:=ae0.mp ha;have:=ad3.mp ht;have h1:=(gn (m:=n) (t - 1) 1 t rfl (by lia) (by lia)).2.1;have h2:=(gn (m:=n) (n - t) t n rfl (by lia) (ab2 _)).1;have h3:ig [[(t,0)]] t 1 n:=jZ (ag0 _);obtain⟨x,hx,ha⟩:=ae0.mp ha;obtain⟨y,hy,rfl⟩:=ab7.mp ha;obtain⟨u,hu,hy⟩:=ae0.mp hy;obtain⟨v,hv,rfl⟩:=ab7.mp hy;refine⟨?_,fun p hp=>?_⟩
 . have p1:=(h1.c u hu).1;have p2:=(h2.c v hv).1;have p3:=(h3.c x hx).1;unfold ws at p1 p2 p3 ⊢;rw[ab8,ab8];have e:List.range' 1 n=List.range' 1 (t - 1)++(List.range' t 1++List.range' (t+1) (n - t)):=by
    have a1:List.range' t 1++List.range' (t+1) (n - t)=List.range' t (1+(n - t)):=ah7 ..;have a2:List.range' 1 (t - 1)++List.range' (1+(t - 1)) (1+(n - t))=List.range' 1 ((t - 1)+(1+(n - t))):=ah7 ..;rw[a1];rw[show(1:Nat)+(t - 1)=t by lia] at a2;rw[a2];congr 1
    lia
   rw[e];refine(p3.append (p1.append p2)).trans ?_;rw[<-af3,<-af3];exact List.perm_append_comm.append_right _
 . rcases ae1.mp hp with hp | hp
   . exact(h3.c x hx).2 p hp
   . rcases ae1.mp hp with hp | hp
     . exact(h1.c u hu).2 p hp
     . exact(h2.c v hv).2 p hp
noncomputable def dW(w:Nat->Nat->Wo):Nat->List Nat->Wo
 | _,[]=>some 0
 | i,x::xs=>ad (w i x) (dW w (i+1) xs)
noncomputable abbrev iD (w:Nat->Nat->Wo) (h:List Nat):Wo:=dW w 1 h
noncomputable def lk(a:Way)(i:Nat):Nat:=(a.lookup i).getD 0
noncomputable def Gz(n:Nat)(a:Way):List Nat:=(List.range' 1 n).map (lk a)
theorem rT(w:Nat->Nat->Wo)(f:Nat->Nat): ∀(n i:Nat),dW w i ((List.range' i n).map f)=iE ((List.range' i n).map fun j=>w j (f j))
 | 0,_=>rfl
 | n+1,i=>by rw[ao5,ac9,ac9,dW,iE,rT w f n (i+1)]
theorem lookup_mem: ∀{a:Way} {p:Nat × Nat},(ws a).Nodup->p∈a->a.lookup p.1=some p.2
 | q::a,p,nd,h=>by
  unfold ws at nd;rw[ac9,ak5] at nd;obtain⟨qa,qb⟩:=q;rcases ac3.mp h with e | h
  . subst e;simp [ae6]
  . have ne:p.1≠qa:=fun z=>nd.1 (by rw[<-z];exact ab7.mpr ⟨p,h,rfl⟩);have:(p.1==qa)=false:=ai7.mpr ne;rw[ae6,this];exact lookup_mem nd.2 h
theorem EG(w:Nat->Nat->Wo)(h:(ws a).Perm (List.range' 1 n)):wt w a=iD w (Gz n a):=by
 have nd:(ws a).Nodup:=h.nodup_iff.mpr aq7;unfold iD Gz;rw[rT];have e:a.map (fun p=>w p.1 p.2)=(ws a).map fun j=>w j (lk a j):=by
  unfold ws;rw[ad8];refine ac8 fun p hp=>?_;show w p.1 p.2=w p.1 (lk a p.1);unfold lk;rw[lookup_mem nd hp];rfl
 unfold wt;rw[e];exact A1 (h.map _)
noncomputable def gg(n:Nat):List (List Nat):=(Ay n).map (Gz n)
theorem rW(w:Nat->Nat->Wo)(n:Nat):ev w (Ay n)=fF ((gg n).map (iD w)):=by
 unfold ev gg;rw[ad8];congr 1
 exact ac8 fun a ha=>EG w (xX n a ha).1
theorem bA(m:h∈gg n):h.length=n:=by
 obtain⟨a,_,rfl⟩:=ab7.mp m;unfold Gz;rw[aa1,ac5]
theorem zw{a:Way}:a.lookup i=some x->(i,x)∈a:=by
 induction a with
 | nil=>intro h;cases h
 | cons p a ih=>
  intro h;obtain⟨pa,pb⟩:=p;rw[ae6] at h;by_cases c:i=pa
  . subst c;simp at h;subst h;exact ab3
  . have:(i==pa)=false:=ai7.mpr c;rw[this] at h;exact ab5 _ (ih h)
theorem fK(m:h∈gg n): ∀x∈h,x<=n:=by
 obtain⟨a,ha,rfl⟩:=ab7.mp m;intro x hx;obtain⟨i,_,rfl⟩:=ab7.mp hx;unfold lk;cases e:a.lookup i with
 | none=>exact ag0 _
 | some y=>exact(xX n a ha).2 _ (zw e)
noncomputable def code(B:Nat):List Nat->Int
 | []=>0
 | x::xs=>(x:Int)*(B:Int)^xs.length+code B xs
theorem sM{B:Nat}(h:0 < B)(n:Nat):0 < (B:Int)^n:=Int.pow_pos (by lia)
theorem my: ∀{h:List Nat},(∀x∈h,x < B)->0<=code B h/\code B h < (B:Int)^h.length
 | [],_=>⟨ar3 _,by show(0:Int) < 1;decide⟩
 | x::xs,hx=>by
  have x1:=hx x ab3;obtain⟨a,b⟩:=my (h:=xs) fun y hy=>hx y (ab5 _ hy);have p:=sM (B:=B) (by lia) xs.length;unfold code;rw[ac7,Int.pow_succ];generalize (B:Int)^xs.length=P at*;have e1:0<=(x:Int)*P:=Int.mul_nonneg (by lia) (by lia);have e2:((x:Int)+1)*P<=(B:Int)*P:=ak8 (by lia) (by lia);rw[ar4,Int.one_mul] at e2;rw[Int.mul_comm P];exact⟨by lia,by lia⟩
theorem pN(B:Nat): ∀(h:List Nat) (x:Nat),code B (h++ [x])=code B h*(B:Int)+(x:Int)
 | [],x=>by simp [code]
 | y::ys,x=>by
  rw[ao7,code,code,pN B ys x,aa9,List.length_singleton,Int.pow_succ,ar4,Int.mul_assoc,Int.add_assoc]
theorem code_inj: ∀{h g:List Nat},h.length=g.length->(∀x∈h,x < B)->(∀x∈g,x < B)->code B h=code B g->h=g
 | [],[],_,_,_,_=>rfl
 | x::xs,y::ys,l,hx,hy,e=>by
  have l':xs.length=ys.length:=by simpa using l
  obtain⟨a1,a2⟩:=my (h:=xs) fun z hz=>hx z (ab5 _ hz);obtain⟨b1,b2⟩:=my (h:=ys) fun z hz=>hy z (ab5 _ hz);have p:=sM (B:=B) (by have:=hx x ab3;lia) xs.length;unfold code at e;rw[<-l'] at b2 e;have c:x=y:=by
   generalize (B:Int)^xs.length=P at*;rcases Nat.lt_trichotomy x y with d | d | d
   . have e2:((x:Int)+1)*P<=(y:Int)*P:=ak8 (by lia) (by lia);rw[ar4,Int.one_mul] at e2;lia
   . exact d
   . have e2:((y:Int)+1)*P<=(x:Int)*P:=ak8 (by lia) (by lia);rw[ar4,Int.one_mul] at e2;lia
  subst c;rw[code_inj l' (fun z hz=>hx z (ab5 _ hz)) (fun z hz=>hy z (ab5 _ hz)) (by lia)]
noncomputable def wr(n:Nat)(w:Nat->Nat->Wo)(i o:Nat):Wo:=(w i o).map fun v=>v*((n:Int)+1)^n - (o:Int)*((n:Int)+1)^(n - i)
theorem lZ(n:Nat)(w:Nat->Nat->Wo): ∀(h:List Nat) (i:Nat),i+h.length=n+1->1<=i->dW (wr n w) i h=(dW w i h).map fun v=>v*((n:Int)+1)^n - code (n+1) h
 | [],i,e,_=>by simp [dW,code]
 | x::xs,i,e,i1=>by
  have e':i+1+xs.length=n+1:=by rw[ac7] at e;lia
  rw[dW,dW,lZ n w xs (i+1) e' (by lia)];unfold wr;rw[show n - i=xs.length by lia];have ec:code (n+1) (x::xs)=(x:Int)*((n:Int)+1)^xs.length+code (n+1) xs:=by
   rw[code];push_cast
   rfl
  rw[ec];cases w i x with
  | none=>rfl
  | some a=>
   cases dW w (i+1) xs with
   | none=>rfl
   | some b=>
    show some ((a*((n:Int)+1)^n - (x:Int)*((n:Int)+1)^xs.length)+(b*((n:Int)+1)^n - code (n+1) xs))=some ((a+b)*((n:Int)+1)^n - ((x:Int)*((n:Int)+1)^xs.length+code (n+1) xs));congr 1
    rw[ar4];generalize a*((n:Int)+1)^n=p;generalize b*((n:Int)+1)^n=q;generalize (x:Int)*((n:Int)+1)^xs.length=r;lia
inductive kS(n:Nat)(w:Nat->Nat->Wo):Option (Int × List Nat)->Prop
 | no (h: ∀g∈gg n,iD w g=none):kS n w none
 | yes (v:Int) (h:List Nat) (m:h∈gg n) (e:iD w h=some v) (b: ∀g∈gg n,∀u,iD w g=some u->u < v\/(u=v/\code (n+1) h<=code (n+1) g)):kS n w (some (v,h))
theorem Fh{v u c d P:Int}(c0:0<=c)(cP:c < P)(d0:0<=d)(dP:d < P)(h:u*P - d<=v*P - c):u < v\/(u=v/\c<=d):=by
 rcases Int.lt_trichotomy u v with z | z | z
 . exact .inl z
 . subst z;exact .inr ⟨rfl,by lia⟩
 . have e2:(v+1)*P<=u*P:=ak8 (by lia) (by lia);rw[ar4,Int.one_mul] at e2;lia
theorem oR(m:h∈gg n):0<=code (n+1) h/\code (n+1) h < ((n:Int)+1)^n:=by
 have:=my (B:=n+1) (h:=h) fun x hx=>aq5 (fK m x hx);rw[bA m] at this;push_cast at this
 exact this
theorem pY(h:ev (wr n w) (Ay n)=none):kS n w none:= .no fun g m=>by
 rw[rW] at h;have:=jK.mp h _ (ab7.mpr ⟨g,m,rfl⟩);unfold iD at this;rw[lZ n w g 1 (by rw[bA m];lia) (by decide)] at this;cases e:iD w g with
 | none=>rfl
 | some v=>unfold iD at e;rw[e] at this;cases this
theorem pX(h:ev (wr n w) (Ay n)=some T): ∃v g,kS n w (some (v,g))/\T=v*((n:Int)+1)^n - code (n+1) g:=by
 rw[rW] at h;obtain⟨g,m,e⟩:=ab7.mp (ml h);unfold iD at e;rw[lZ n w g 1 (by rw[bA m];lia) (by decide)] at e;cases ew:iD w g with
 | none=>unfold iD at ew;rw[ew] at e;cases e
 | some v=>
  have VM:=ew;unfold iD at VM;rw[VM] at e;have eT:v*((n:Int)+1)^n - code (n+1) g=T:=Option.some.inj e;refine⟨v,g,.yes v g m ew fun g' m' u eu=>?_,eT.symm⟩;have hm:some (u*((n:Int)+1)^n - code (n+1) g')∈(gg n).map (iD (wr n w)):=ab7.mpr ⟨g',m',by
   unfold iD at eu ⊢;rw[lZ n w g' 1 (by rw[bA m'];lia) (by decide),eu];rfl⟩
  have:=CJ h hm;rw[<-eT] at this;obtain⟨a,b⟩:=oR m;obtain⟨c,d⟩:=oR m';exact Fh a b c d this
abbrev Rs:=Int × List Nat
structure Z7(n:Nat)(r:Rs):Prop where
 l:r.2.length=n
 b: ∀x∈r.2,x<=n
theorem Hc(h:kS n w (some r)):Z7 n r:=by
 cases h with
 | yes v h m e b=>exact⟨bA m,fK m⟩
theorem pW(h:kS n w r)(h':kS n w r'):r=r':=by
 cases h with
 | no h=>cases h' with
  | no _=>rfl
  | yes v g m e b=>rw[h g m] at e;cases e
 | yes v g m e b=>cases h' with
  | no h=>rw[h g m] at e;cases e
  | yes v' g' m' e' b'=>
   have z1:=b g' m' v' e';have z2:=b' g m v e;have ev:v=v':=by lia
   subst ev;have ec:code (n+1) g=code (n+1) g':=by lia
   rw[code_inj (by rw[bA m,bA m']) (fun x hx=>aq5 (fK m x hx)) (fun x hx=>aq5 (fK m' x hx)) ec]
noncomputable def lM(B:Int):Nat->Int->List Int
 | 0,_=> []
 | k+1,x=>x % B::lM B k (x / B)
theorem pE(hB:0 < B)(v:Int): ∀(n:Nat) (h:List Nat),h.length=n->(∀x∈h,x < B)->lM B n (code B h - v*(B:Int)^n)=h.reverse.map Int.ofNat
 | 0,[],_,_=>rfl
 | n+1,h,l,hx=>by
  have ne:h≠ []:=fun z=>by rw[z] at l;cases l
  obtain⟨hs,x,e⟩: ∃hs x,h=hs++ [x]:=⟨h.dropLast,h.getLast ne,(ai2 ne).symm⟩
  subst e;have l':hs.length=n:=by rw[aa9] at l;simpa using l
  have xB:=hx x (by simp);have e1:code B (hs++ [x]) - v*(B:Int)^(n+1)=(x:Int)+(code B hs - v*(B:Int)^n)*(B:Int):=by
   rw[pN,Int.pow_succ,Int.sub_mul,Int.mul_assoc];lia
  have b0:(B:Int)≠0:=by lia
  rw[lM,e1,Int.add_mul_emod_self_right,Int.emod_eq_of_lt (by lia) (by lia),Int.add_mul_ediv_right _ _ b0,Int.ediv_eq_zero_of_lt (by lia) (by lia),Int.zero_add,pE hB v n hs l' fun y hy=>hx y (ae2 _ hy)];simp
abbrev LL:=List (List Nat)
noncomputable def JZ(S T:LL):LL:=S.flatMap fun a=>T.map fun b=>a++b
theorem mi:x∈JZ S T↔ ∃a b,a∈S/\b∈T/\x=a++b:=by
 unfold JZ;rw[ae0];constructor
 . rintro⟨a,ha,h⟩
   obtain⟨b,hb,e⟩:=ab7.mp h;exact⟨a,b,ha,hb,e.symm⟩
 . rintro⟨a,b,ha,hb,e⟩
   exact⟨a,ha,ab7.mpr ⟨b,hb,e.symm⟩⟩
noncomputable def ft:Nat->(Nat->Nat->Nat->LL) × (Nat->Nat->Nat->LL)
 | 0=>(fun _ _ _=> [[]],fun _ _ _=> [])
 | d+1=>(fun f m on=>if m=0 then [[]] else(List.range m).flatMap fun e=>JZ ((ft d).2 f (e+1) on) ((ft d).1 (f+e+1) (m - (e+1)) on),
   fun f m on=>(List.range m).flatMap fun k=>JZ ((ft d).1 f k (f+k)) (((ft d).1 (f+k+1) (m - (k+1)) (f+k)).map fun b=>on::b))
noncomputable def Fo(f m on:Nat):LL:=(ft (2*m+1)).1 f m on
noncomputable def Tr(f m on:Nat):LL:=(ft (2*m)).2 f m on
theorem g9: ∀(d d':Nat),(∀f m on,2*m<=d->2*m<=d'->(2*m+1<=d->2*m+1<=d'->(ft d).1 f m on=(ft d').1 f m on)/\(ft d).2 f m on=(ft d').2 f m on)
 | 0,0=>fun f m on _ _=>⟨fun _ _=>rfl,rfl⟩
 | 0,d'+1=>fun f m on h _=>by
  have:m=0:=by lia
  subst this;exact⟨fun h=>absurd h (by lia),rfl⟩
 | d+1,0=>fun f m on _ h=>by
  have:m=0:=by lia
  subst this;exact⟨fun _ h=>absurd h (by lia),rfl⟩
 | d+1,d'+1=>fun f m on h h'=>by
  refine⟨fun k k'=>?_,?_⟩
  . show(if m=0 then [[]] else _)=(if m=0 then [[]] else _)
    by_cases c:m=0
    . rw[if_pos c,if_pos c]
    . rw[if_neg c,if_neg c];refine bF fun e he=>?_;have:=af2.mp he;rw[(g9 d d' f (e+1) on (by lia) (by lia)).2,(g9 d d' (f+e+1) (m - (e+1)) on (by lia) (by lia)).1 (by lia) (by lia)]
  . show(List.range m).flatMap _=(List.range m).flatMap _;refine bF fun e he=>?_;have:=af2.mp he;rw[(g9 d d' f e (f+e) (by lia) (by lia)).1 (by lia) (by lia),(g9 d d' (f+e+1) (m - (e+1)) (f+e) (by lia) (by lia)).1 (by lia) (by lia)]
theorem Hr(f on:Nat):Fo f 0 on= [[]]:=rfl
theorem Hs(h:0 < m):Fo f m on=(List.range m).flatMap fun e=>JZ (Tr f (e+1) on) (Fo (f+e+1) (m - (e+1)) on):=by
 unfold Fo Tr;show(if m=0 then [[]] else _)=_;rw[if_neg (by lia)];refine bF fun e he=>?_;have:=af2.mp he;rw[(g9 (2*m) (2*(e+1)) f (e+1) on (by lia) (by lia)).2,(g9 (2*m) (2*(m - (e+1))+1) (f+e+1) (m - (e+1)) on (by lia) (by lia)).1 (by lia) (by lia)]
theorem Hi:Tr f m on=(List.range m).flatMap fun k=>JZ (Fo f k (f+k)) ((Fo (f+k+1) (m - (k+1)) (f+k)).map fun b=>on::b):=by
 unfold Fo Tr;cases m with
 | zero=>rfl
 | succ m=>
  rw[show 2*(m+1)=(2*m+1)+1 by lia];show(List.range (m+1)).flatMap (fun k=>JZ ((ft (2*m+1)).1 f k (f+k)) (((ft (2*m+1)).1 (f+k+1) (m+1 - (k+1)) (f+k)).map fun b=>on::b))=_;refine bF fun e he=>?_;have:=af2.mp he;rw[(g9 (2*m+1) (2*e+1) f e (f+e) (by lia) (by lia)).1 (by lia) (by lia),(g9 (2*m+1) (2*(m+1 - (e+1))+1) (f+e+1) (m+1 - (e+1)) (f+e) (by lia) (by lia)).1 (by lia) (by lia)]
theorem fU(h:0 < m):x∈Fo f m on↔ ∃e t r,e < m/\t∈Tr f (e+1) on/\r∈Fo (f+e+1) (m - (e+1)) on/\x=t++r:=by
 rw[Hs h,ae0];constructor
 . rintro⟨e,he,hx⟩
   obtain⟨t,r,h1,h2,h3⟩:=mi.mp hx;exact⟨e,t,r,af2.mp he,h1,h2,h3⟩
 . rintro⟨e,t,r,he,h1,h2,h3⟩
   exact⟨e,af2.mpr he,mi.mpr ⟨t,r,h1,h2,h3⟩⟩
theorem fT:x∈Tr f m on↔ ∃k a b,k < m/\a∈Fo f k (f+k)/\b∈Fo (f+k+1) (m - (k+1)) (f+k)/\x=a++on::b:=by
 rw[Hi,ae0];constructor
 . rintro⟨e,he,hx⟩
   obtain⟨a,c,h1,h2,h3⟩:=mi.mp hx;obtain⟨b,hb,rfl⟩:=ab7.mp h2;exact⟨e,a,b,af2.mp he,h1,hb,h3⟩
 . rintro⟨e,a,b,he,h1,h2,h3⟩
   exact⟨e,af2.mpr he,mi.mpr ⟨a,on::b,h1,ab7.mpr ⟨b,h2,rfl⟩,h3⟩⟩
theorem dh:x∈Fo f 0 on↔x= []:=by rw[Hr,aa6]
theorem kH: ∀(m:Nat),(∀f on x,x∈Fo f m on->x.length=m)/\ ∀f on x,x∈Tr f m on->x.length=m:=fun m=>by
 induction m using Nat.strongRecOn with
 | _ m ih=>
  have hT: ∀f on x,x∈Tr f m on->x.length=m:=fun f on x hx=>by
   obtain⟨k,a,b,hk,ha,hb,rfl⟩:=fT.mp hx;have h1:=(ih k (by lia)).1 _ _ _ ha;have h2:=(ih (m - (k+1)) (by lia)).1 _ _ _ hb;rw[aa9,ac7,h1,h2];lia
  refine⟨fun f on x hx=>?_,hT⟩;by_cases c:m=0
  . subst c;rw[dh.mp hx];rfl
  . obtain⟨e,t,r,he,ht,hr,rfl⟩:=(fU (by lia)).mp hx;have h2:=(ih (m - (e+1)) (by lia)).1 _ _ _ hr;have h1:t.length=e+1:=by
     by_cases d:e+1=m
     . rw[d] at ht ⊢;exact hT _ _ _ ht
     . exact(ih (e+1) (by lia)).2 _ _ _ ht
    rw[aa9,h1,h2];lia
theorem F8: ∀(m f on:Nat) (x:List Nat),0 < m->x∈Fo f m on-> ∃e a t,e < m/\a∈Fo f e on/\t∈Tr (f+e) (m - e) on/\x=a++t:=fun m=>by
 induction m using Nat.strongRecOn with
 | _ m ih=>
  intro f on x hm hx;obtain⟨e,t,r,he,ht,hr,rfl⟩:=(fU hm).mp hx;by_cases c:m - (e+1)=0
  . rw[c] at hr;rw[dh.mp hr];exact⟨0,[],t,hm,dh.mpr rfl,by rw[show m - 0=e+1 by lia];exact ht,by rw[af0];rfl⟩
  . obtain⟨e',a',t',h1,h2,h3,rfl⟩:=ih (m - (e+1)) (by lia) (f+e+1) on r (by lia) hr;refine⟨e+1+e',t++a',t',by lia,(fU (by lia)).mpr ⟨e,t,a',by lia,ht,by rw[show e+1+e' - (e+1)=e' by lia];exact h2,rfl⟩,?_,by rw[af3]⟩;rw[show f+(e+1+e')=f+e+1+e' by lia,show m - (e+1+e')=m - (e+1) - e' by lia];exact h3
theorem xr: ∀(e m f on:Nat) (a t:List Nat),e < m->a∈Fo f e on->t∈Tr (f+e) (m - e) on->a++t∈Fo f m on:=fun e=>by
 induction e using Nat.strongRecOn with
 | _ e ih=>
  intro m f on a t h ha ht;by_cases c:e=0
  . subst c;rw[dh.mp ha];exact(fU (by lia)).mpr ⟨m - 1,t,[],by lia,by rw[show m - 1+1=m - 0 by lia];exact ht,by rw[show m - (m - 1+1)=0 by lia];exact dh.mpr rfl,by rw[af0];rfl⟩
  . obtain⟨e0,t0,r0,h1,h2,h3,rfl⟩:=(fU (by lia)).mp ha;have:=ih (e - (e0+1)) (by lia) (m - (e0+1)) (f+e0+1) on r0 t (by lia) h3 (by
     rw[show f+e0+1+(e - (e0+1))=f+e by lia,show m - (e0+1) - (e - (e0+1))=m - e by lia];exact ht)
    exact(fU (by lia)).mpr ⟨e0,t0,r0++t,by lia,h2,this,by rw[af3]⟩
noncomputable def hg(lo n:Nat)(a:Way):List Nat:=(List.range' lo n).map (lk a)
theorem ny(nd:(ws a).Nodup)(h:(i,x)∈a):lk a i=x:=by
 unfold lk;rw[show a.lookup i=some x from lookup_mem (p:=(i,x)) nd h];rfl
theorem AN(h:i∈ws a): ∃x,(i,x)∈a:=by
 obtain⟨p,hp,rfl⟩:=ab7.mp h;exact⟨p.2,hp⟩
def Om(S:List Way)(lo n:Nat)(x:List Nat):Prop:= ∃a∈S,x=hg lo n a
theorem gY{a b c:Way}(ha:(ws a).Perm (List.range' lo n))(hb:(ws b).Perm (List.range' (lo+n) k))(hc:c.Perm (a++b)):hg lo (n+k) c=hg lo n a++hg (lo+n) k b:=by
 have wc:(ws c).Perm (List.range' lo (n+k)):=by
  rw[<-ah7];refine(hc.map _).trans ?_;rw[ab8];exact ha.append hb
 have nc:(ws c).Nodup:=wc.nodup_iff.mpr aq7;unfold hg;rw[<-ah7,ab8];congr 1
 . refine ac8 fun i hi=>?_;obtain⟨x,hx⟩:=AN (ha.mem_iff.mpr hi);rw[ny (ha.nodup_iff.mpr aq7) hx,ny nc (hc.mem_iff.mpr (ae2 _ hx))]
 . refine ac8 fun i hi=>?_;obtain⟨x,hx⟩:=AN (hb.mem_iff.mpr hi);rw[ny (hb.nodup_iff.mpr aq7) hx,ny nc (hc.mem_iff.mpr (ab4 _ hx))]
theorem xo(h1:ig S lo n m)(h2:ig T (lo+n) k m):Om (pr S T) lo (n+k) x↔ ∃y z,Om S lo n y/\Om T (lo+n) k z/\x=y++z:=by
 constructor
 . rintro⟨c,hc,rfl⟩
   obtain⟨a,ha,hc⟩:=ae0.mp hc;obtain⟨b,hb,rfl⟩:=ab7.mp hc;exact⟨_,_,⟨a,ha,rfl⟩,⟨b,hb,rfl⟩,gY (h1.c a ha).1 (h2.c b hb).1 (.refl _)⟩
 . rintro⟨y,z,⟨a,ha,rfl⟩,⟨b,hb,rfl⟩,rfl⟩
   exact⟨a++b,ae0.mpr ⟨a,ha,ab7.mpr ⟨b,hb,rfl⟩⟩,(gY (h1.c a ha).1 (h2.c b hb).1 (.refl _)).symm⟩
theorem FG(h1:ig S (lo+k) n m)(h2:ig T lo k m):Om (pr S T) lo (k+n) x↔ ∃y z,Om T lo k y/\Om S (lo+k) n z/\x=y++z:=by
 constructor
 . rintro⟨c,hc,rfl⟩
   obtain⟨a,ha,hc⟩:=ae0.mp hc;obtain⟨b,hb,rfl⟩:=ab7.mp hc;exact⟨_,_,⟨b,hb,rfl⟩,⟨a,ha,rfl⟩,gY (h2.c b hb).1 (h1.c a ha).1 List.perm_append_comm⟩
 . rintro⟨y,z,⟨b,hb,rfl⟩,⟨a,ha,rfl⟩,rfl⟩
   exact⟨a++b,ae0.mpr ⟨a,ha,ab7.mpr ⟨b,hb,rfl⟩⟩,(gY (h2.c b hb).1 (h1.c a ha).1 List.perm_append_comm).symm⟩
theorem mf{L:List Nat}:Om (L.flatMap g) lo n x↔ ∃j∈L,Om (g j) lo n x:=by
 constructor
 . rintro⟨c,hc,rfl⟩
   obtain⟨j,hj,h⟩:=ae0.mp hc;exact⟨j,hj,c,h,rfl⟩
 . rintro⟨j,hj,c,h,rfl⟩
   exact⟨c,ae0.mpr ⟨j,hj,h⟩,rfl⟩
theorem BU:Om [[]] lo 0 x↔x= []:=by
 constructor
 . rintro⟨c,hc,rfl⟩;rfl
 . rintro rfl;exact⟨[],aa6.mpr rfl,rfl⟩
theorem qE:Om [[(i,o)]] i 1 x↔x= [o]:=by
 have e:hg i 1 [(i,o)]= [o]:=by
  show [lk [(i,o)] i]= [o]
  rw[ny (x:=o) (by simp [ws]) (aa6.mpr rfl)]
 constructor
 . rintro⟨c,hc,rfl⟩;rw[aa6.mp hc];exact e
 . rintro rfl;exact⟨_,aa6.mpr rfl,e.symm⟩
theorem qF(lt:l < h):Om (oo Q l h) (l+1) (h - l - 1) x↔ ∃m u v,l<=m/\m < h/\Om (Q l m).rg (l+1) (m - l) u/\Om (Q (m+1) h).lf (m+1) (h - (m+1)) v/\x=u++v:=by
 unfold oo;rw[mf];have one: ∀m,l<=m->m < h-> ∀x,Om (pr (Q l m).rg (Q (m+1) h).lf) (l+1) (h - l - 1) x↔ ∃u v,Om (Q l m).rg (l+1) (m - l) u/\Om (Q (m+1) h).lf (m+1) (h - (m+1)) v/\x=u++v:=fun m h1 h2 x=>by
  have c1:=(gn (m:=h) (m - l) l m rfl h1 (by lia)).1;have c2:=(gn (m:=h) (h - (m+1)) (m+1) h rfl (by lia) (ab2 _)).2.1;have:=xo c1 (c2.cast (show m+1=l+1+(m - l) by lia) rfl) (x:=x);rw[show m - l+(h - (m+1))=h - l - 1 by lia,show l+1+(m - l)=m+1 by lia] at this;exact this
 constructor
 . rintro⟨m,hm,hx⟩
   have:=ad3.mp hm;obtain⟨u,v,h1,h2,h3⟩:=(one m (by lia) (by lia) x).mp hx;exact⟨m,u,v,by lia,by lia,h1,h2,h3⟩
 . rintro⟨m,u,v,a1,a2,h1,h2,h3⟩
   exact⟨m,ad3.mpr ⟨a1,by lia⟩,(one m a1 a2 x).mpr ⟨u,v,h1,h2,h3⟩⟩
theorem xY(lt:l < h)(hm:h<=m):ig (oo Q l h) (l+1) (h - l - 1) m:=j3 fun a ha=>by
 have:=ad3.mp ha;have h1:=(gn (m:=m) (a - l) l a rfl (by lia) (by lia)).1;have h2:=(gn (m:=m) (h - (a+1)) (a+1) h rfl (by lia) (by lia)).2.1;exact(ja h1 (h2.cast (by lia) rfl)).cast rfl (by lia)
theorem HV(lt:l < h):Om (Q l h).rt (l+1) (h - l) x↔ ∃y,Om (oo Q l h) (l+1) (h - l - 1) y/\x=y++ [l]:=by
 rw[bO lt];show Om (pr [[(h,l)]] (oo Q l h)) _ _ _↔_;have c1:ig [[(h,l)]] (l+1+(h - l - 1)) 1 h:=(jZ (by lia)).cast (by lia) rfl;have:=FG c1 (xY lt (ab2 _)) (x:=x);rw[show h - l - 1+1=h - l by lia,show l+1+(h - l - 1)=h by lia] at this;rw[this];constructor
 . rintro⟨y,z,h1,h2,h3⟩
   rw[qE.mp h2] at h3;exact⟨y,h1,h3⟩
 . rintro⟨y,h1,h3⟩
   exact⟨y,[l],h1,qE.mpr rfl,h3⟩
theorem HW(lt:l < h):Om (Q l h).lt l (h - l) x↔ ∃y,Om (oo Q l h) (l+1) (h - l - 1) y/\x=h::y:=by
 rw[bO lt];show Om (pr [[(l,h)]] (oo Q l h)) _ _ _↔_;have:=xo (lo:=l) (n:=1) (jZ (m:=h) (ab2 _)) (xY lt (ab2 _)) (x:=x);rw[show 1+(h - l - 1)=h - l by lia] at this;rw[this];constructor
 . rintro⟨y,z,h1,h2,h3⟩
   rw[qE.mp h1] at h3;exact⟨z,h2,h3⟩
 . rintro⟨y,h1,h3⟩
   exact⟨[h],y,qE.mpr rfl,h1,h3⟩
theorem NY(lt:l < h):Om (Q l h).rg (l+1) (h - l) x↔ ∃a y z,l < a/\a<=h/\Om (Q l a).rt (l+1) (a - l) y/\Om (Q a h).rg (a+1) (h - a) z/\x=y++z:=by
 have er:(Q l h).rg=(List.range' (l+1) (h - l)).flatMap fun a=>pr (Q l a).rt (Q a h).rg:=by
  conv=>lhs;rw[bO lt]
  show(List.range' (l+1) (h - l)).flatMap _=_;refine bF fun a ha=>?_;by_cases c:a=h
  . subst c;rw[if_pos rfl,if_pos rfl,ic];congr 1
    rw[bO lt];rfl
  . rw[if_neg c,if_neg c]
 rw[er,mf];have one: ∀a,l < a->a<=h-> ∀x,Om (pr (Q l a).rt (Q a h).rg) (l+1) (h - l) x↔ ∃y z,Om (Q l a).rt (l+1) (a - l) y/\Om (Q a h).rg (a+1) (h - a) z/\x=y++z:=fun a h1 h2 x=>by
  have c1:=((gn (m:=h) (a - l) l a rfl (by lia) (by lia)).2.2 h1).1;have c2:=(gn (m:=h) (h - a) a h rfl (by lia) (ab2 _)).1;have:=xo c1 (c2.cast (show a+1=l+1+(a - l) by lia) rfl) (x:=x);rw[show a - l+(h - a)=h - l by lia,show l+1+(a - l)=a+1 by lia] at this;exact this
 constructor
 . rintro⟨a,ha,hx⟩
   have:=ad3.mp ha;obtain⟨u,v,h1,h2,h3⟩:=(one a (by lia) (by lia) x).mp hx;exact⟨a,u,v,by lia,by lia,h1,h2,h3⟩
 . rintro⟨a,u,v,a1,a2,h1,h2,h3⟩
   exact⟨a,ad3.mpr ⟨a1,by lia⟩,(one a a1 a2 x).mpr ⟨u,v,h1,h2,h3⟩⟩
theorem NZ(lt:l < h):Om (Q l h).lf l (h - l) x↔ ∃a y z,l<=a/\a < h/\Om (Q l a).lf l (a - l) y/\Om (Q a h).lt a (h - a) z/\x=y++z:=by
 have er:(Q l h).lf=(List.range' l (h - l)).flatMap fun a=>pr (Q l a).lf (Q a h).lt:=by
  conv=>lhs;rw[bO lt]
  show(List.range' l (h - l)).flatMap _=_;refine bF fun a ha=>?_;by_cases c:a=l
  . subst c;rw[if_pos rfl,if_pos rfl,ic];congr 1
    rw[bO lt];rfl
  . rw[if_neg c,if_neg c]
 rw[er,mf];have one: ∀a,l<=a->a < h-> ∀x,Om (pr (Q l a).lf (Q a h).lt) l (h - l) x↔ ∃y z,Om (Q l a).lf l (a - l) y/\Om (Q a h).lt a (h - a) z/\x=y++z:=fun a h1 h2 x=>by
  have c1:=(gn (m:=h) (a - l) l a rfl (by lia) (by lia)).2.1;have c2:=((gn (m:=h) (h - a) a h rfl (by lia) (ab2 _)).2.2 h2).2;have:=xo c1 (c2.cast (show a=l+(a - l) by lia) rfl) (x:=x);rw[show a - l+(h - a)=h - l by lia,show l+(a - l)=a by lia] at this;exact this
 constructor
 . rintro⟨a,ha,hx⟩
   have:=ad3.mp ha;obtain⟨u,v,h1,h2,h3⟩:=(one a (by lia) (by lia) x).mp hx;exact⟨a,u,v,by lia,by lia,h1,h2,h3⟩
 . rintro⟨a,u,v,a1,a2,h1,h2,h3⟩
   exact⟨a,ad3.mpr ⟨a1,by lia⟩,(one a a1 a2 x).mpr ⟨u,v,h1,h2,h3⟩⟩
theorem qG: ∀(d l h:Nat),h - l=d->l<=h->(∀x,Om (Q l h).rg (l+1) (h - l) x↔x∈Fo (l+1) (h - l) l)/\ ∀x,Om (Q l h).lf l (h - l) x↔x∈Fo l (h - l) h:=fun d=>by
 induction d using Nat.strongRecOn with
 | _ d ih=>
  intro l h hd hl;by_cases c:l=h
  . subst c;rw[ic,am4];exact⟨fun x=>by rw[dh];exact BU,fun x=>by rw[dh];exact BU⟩
  have lt:l < h:=by lia
  refine⟨fun x=>?_,fun x=>?_⟩
  . rw[NY lt];constructor
    . rintro⟨a,y,z,a1,a2,hy,hz,rfl⟩
      obtain⟨y',XM,rfl⟩:=(HV a1).mp hy;obtain⟨m,u,v,m1,m2,hu,hv,rfl⟩:=(qF a1).mp XM;have fu:=((ih (m - l) (by lia) l m rfl m1).1 u).mp hu;have fv:=((ih (a - (m+1)) (by lia) (m+1) a rfl (by lia)).2 v).mp hv;have fz:=((ih (h - a) (by lia) a h rfl a2).1 z).mp hz;have ft:v++l::z∈Tr (m+1) (h - m) l:=fT.mpr ⟨a - (m+1),v,z,by lia,by rw[show m+1+(a - (m+1))=a by lia];exact fv,by rw[show m+1+(a - (m+1))=a by lia,show h - m - (a - (m+1)+1)=h - a by lia];exact fz,rfl⟩;have:=xr (m - l) (h - l) (l+1) l u (v++l::z) (by lia) fu (by rw[show l+1+(m - l)=m+1 by lia,show h - l - (m - l)=h - m by lia];exact ft);rw[show u++v++ [l]++z=u++(v++l::z) by simp];exact this
    . intro hx;obtain⟨e,u,t,he,hu,ht,rfl⟩:=F8 (h - l) (l+1) l x (by lia) hx;obtain⟨k,v,z,hk,hv,hz,rfl⟩:=fT.mp ht;have ou:=((ih e (by lia) l (l+e) (by lia) (by lia)).1 u).mpr (by rw[show l+e - l=e by lia];exact hu);have ov:=((ih k (by lia) (l+1+e) (l+1+e+k) (by lia) (by lia)).2 v).mpr (by rw[show l+1+e+k - (l+1+e)=k by lia];exact hv);have oz:=((ih (h - (l+1+e+k)) (by lia) (l+1+e+k) h rfl (by lia)).1 z).mpr (by rw[show h - (l+1+e+k)=h - l - e - (k+1) by lia];exact hz);refine⟨l+1+e+k,u++v++ [l],z,by lia,by lia,(HV (by lia)).mpr ⟨u++v,(qF (by lia)).mpr ⟨l+e,u,v,by lia,by lia,ou,?_,rfl⟩,rfl⟩,oz,by simp⟩;rw[show l+e+1=l+1+e by lia];exact ov
  . rw[NZ lt];constructor
    . rintro⟨a,y,z,a1,a2,hy,hz,rfl⟩
      obtain⟨z',XJ,rfl⟩:=(HW a2).mp hz;obtain⟨m,u,v,m1,m2,hu,hv,rfl⟩:=(qF a2).mp XJ;have fy:=((ih (a - l) (by lia) l a rfl a1).2 y).mp hy;have fu:=((ih (m - a) (by lia) a m rfl m1).1 u).mp hu;have fv:=((ih (h - (m+1)) (by lia) (m+1) h rfl (by lia)).2 v).mp hv;have ft:y++h::u∈Tr l (m - l+1) h:=fT.mpr ⟨a - l,y,u,by lia,by rw[show l+(a - l)=a by lia];exact fy,by rw[show l+(a - l)=a by lia,show m - l+1 - (a - l+1)=m - a by lia];exact fu,rfl⟩;refine(fU (by lia)).mpr ⟨m - l,y++h::u,v,by lia,ft,by rw[show l+(m - l)+1=m+1 by lia,show h - l - (m - l+1)=h - (m+1) by lia];exact fv,by simp⟩
    . intro hx;obtain⟨e,t,v,he,ht,hv,rfl⟩:=(fU (by lia)).mp hx;obtain⟨k,y,u,hk,hy,hu,rfl⟩:=fT.mp ht;have oy:=((ih k (by lia) l (l+k) (by lia) (by lia)).2 y).mpr (by rw[show l+k - l=k by lia];exact hy);have ou:=((ih (e - k) (by lia) (l+k) (l+e) (by lia) (by lia)).1 u).mpr (by rw[show l+e - (l+k)=e+1 - (k+1) by lia];exact hu);have ov:=((ih (h - (l+e+1)) (by lia) (l+e+1) h rfl (by lia)).2 v).mpr (by rw[show h - (l+e+1)=h - l - (e+1) by lia];exact hv);exact⟨l+k,y,h::(u++v),by lia,by lia,oy,(HW (by lia)).mpr ⟨u++v,(qF (by lia)).mpr ⟨l+e,u,v,by lia,by lia,ou,ov,rfl⟩,rfl⟩,by simp⟩
theorem Ci:g∈gg n↔g∈Tr 1 n 0:=by
 have e:g∈gg n↔Om (Ay n) 1 n g:=by
  unfold gg Om;rw[ab7];exact⟨fun⟨a,h,z⟩=>⟨a,h,z.symm⟩,fun⟨a,h,z⟩=>⟨a,h,z.symm⟩⟩
 rw[e];unfold Ay;rw[mf];have one: ∀t,1<=t->t<=n->(Om (pr [[(t,0)]] (pr (Q 1 t).lf (Q t n).rg)) 1 n g↔ ∃y z,y∈Fo 1 (t - 1) t/\z∈Fo (t+1) (n - t) t/\g=y++0::z):=fun t t1 tn=>by
  have c1:=(gn (m:=n) (t - 1) 1 t rfl t1 tn).2.1;have c2:=(gn (m:=n) (n - t) t n rfl tn (ab2 _)).1;constructor
  . rintro⟨c,hc,rfl⟩
    obtain⟨a,ha,hc⟩:=ae0.mp hc;obtain⟨b,hb,rfl⟩:=ab7.mp hc;cases aa6.mp ha;obtain⟨u,hu,hb⟩:=ae0.mp hb;obtain⟨v,hv,rfl⟩:=ab7.mp hb;have p1:=(c1.c u hu).1;have p2:=(c2.c v hv).1;have p3:(ws [(t,0)]).Perm (List.range' t 1):= .refl _;have s1:=gY (lo:=t) (n:=1) (k:=n - t) (a:= [(t,0)]) (b:=v) p3 p2 (.refl _);have p4:(ws ([(t,0)]++v)).Perm (List.range' (1+(t - 1)) (1+(n - t))):=by
     rw[show 1+(t - 1)=t by lia,<-ah7];show(ws [(t,0)]++ws v).Perm _;exact p3.append p2
    have s2:=gY (lo:=1) (n:=t - 1) (k:=1+(n - t)) (a:=u) (b:= [(t,0)]++v) (c:= [(t,0)]++(u++v)) p1 p4 (by
     show((t,0)::(u++v)).Perm (u++(t,0)::v);exact List.perm_middle.symm)
    rw[show t - 1+(1+(n - t))=n by lia,show 1+(t - 1)=t by lia,s1] at s2;refine⟨hg 1 (t - 1) u,hg (t+1) (n - t) v,((qG (t - 1) 1 t rfl t1).2 _).mp ⟨u,hu,rfl⟩,((qG (n - t) t n rfl tn).1 _).mp ⟨v,hv,rfl⟩,?_⟩;rw[s2];have:hg t 1 [(t,0)]= [0]:=by
     show [lk [(t,0)] t]= [0]
     rw[ny (x:=0) (by simp [ws]) (aa6.mpr rfl)]
    rw[this];rfl
  . rintro⟨y,z,hy,hz,rfl⟩
    obtain⟨u,hu,rfl⟩:=((qG (t - 1) 1 t rfl t1).2 _).mpr hy;obtain⟨v,hv,rfl⟩:=((qG (n - t) t n rfl tn).1 _).mpr hz;have p1:=(c1.c u hu).1;have p2:=(c2.c v hv).1;have p3:(ws [(t,0)]).Perm (List.range' t 1):= .refl _;have s1:=gY (lo:=t) (n:=1) (k:=n - t) (a:= [(t,0)]) (b:=v) p3 p2 (.refl _);have p4:(ws ([(t,0)]++v)).Perm (List.range' (1+(t - 1)) (1+(n - t))):=by
     rw[show 1+(t - 1)=t by lia,<-ah7];show(ws [(t,0)]++ws v).Perm _;exact p3.append p2
    have s2:=gY (lo:=1) (n:=t - 1) (k:=1+(n - t)) (a:=u) (b:= [(t,0)]++v) (c:= [(t,0)]++(u++v)) p1 p4 (by
     show((t,0)::(u++v)).Perm (u++(t,0)::v);exact List.perm_middle.symm)
    rw[show t - 1+(1+(n - t))=n by lia,show 1+(t - 1)=t by lia,s1] at s2;refine⟨[(t,0)]++(u++v),ae0.mpr ⟨_,aa6.mpr rfl,ab7.mpr ⟨u++v,ae0.mpr ⟨u,hu,ab7.mpr ⟨v,hv,rfl⟩⟩,rfl⟩⟩,?_⟩;rw[s2];have:hg t 1 [(t,0)]= [0]:=by
     show [lk [(t,0)] t]= [0]
     rw[ny (x:=0) (by simp [ws]) (aa6.mpr rfl)]
    rw[this];rfl
 rw[fT];constructor
 . rintro⟨t,ht,h⟩
   have:=ad3.mp ht;obtain⟨y,z,hy,hz,rfl⟩:=(one t (by lia) (by lia)).mp h;exact⟨t - 1,y,z,by lia,by rw[show 1+(t - 1)=t by lia];exact hy,by rw[show 1+(t - 1)=t by lia,show n - (t - 1+1)=n - t by lia];exact hz,rfl⟩
 . rintro⟨k,y,z,hk,hy,hz,rfl⟩
   refine⟨1+k,ad3.mpr ⟨by lia,by lia⟩,(one (1+k) (by lia) (by lia)).mpr ⟨y,z,by rw[show 1+k - 1=k by lia];exact hy,by rw[show n - (1+k)=n - (k+1) by lia];exact hz,rfl⟩⟩
end ly
namespace aW
open PySem L2 LB LD PyProof.Rows
noncomputable def top(i:Nat):Stmt:=PySem.Challenge.pw_hungwords_k37_slips_of_many_steps.main.body.getD i (.Pass ⟨0,0,0,0⟩)
noncomputable abbrev gN:Stmt:=top 11
noncomputable abbrev iV:Stmt:=top 12
noncomputable abbrev qw:Stmt:=top 13
noncomputable abbrev ky:Stmt:=top 15
noncomputable abbrev fA:Stmt:=top 16
noncomputable abbrev gH:Stmt:=top 17
noncomputable abbrev jw:Stmt:=top 18
noncomputable abbrev uT:Stmt:=top 19
noncomputable abbrev m5:Stmt:=top 20
noncomputable abbrev iX:Stmt:=top 22
noncomputable abbrev gO:Stmt:=top 23
noncomputable abbrev gP:Stmt:=top 24
noncomputable abbrev gI:Stmt:=top 25
noncomputable abbrev fQ:Stmt:=top 27
noncomputable abbrev gQ:Stmt:=top 29
noncomputable abbrev dZ:Stmt:=top 30
noncomputable abbrev jz:Stmt:=top 31
noncomputable abbrev iW:Stmt:=top 32
noncomputable abbrev uU:Stmt:=top 33
noncomputable abbrev Bq:Stmt:=top 34
noncomputable abbrev Bl:Stmt:=top 35
noncomputable abbrev mZ:Stmt:=top 36
noncomputable abbrev qv:Stmt:=top 38
noncomputable abbrev qt:Stmt:=top 39
noncomputable abbrev gK:Stmt:=top 40
noncomputable abbrev Bm:Stmt:=top 41
noncomputable abbrev m4:Stmt:=top 42
noncomputable abbrev Bo:Stmt:=top 43
noncomputable abbrev qr:Stmt:=top 44
noncomputable abbrev qu:Stmt:=top 45
noncomputable abbrev jx:Stmt:=top 46
noncomputable abbrev uV:Stmt:=top 48
noncomputable abbrev jy:Stmt:=top 49
noncomputable abbrev gL:Stmt:=top 50
noncomputable abbrev JK:Stmt:=top 51
structure Txt(mg:Str->Option Value):Prop where
 lJ:mg "isinstance"=none
 len:mg "len"=none
 MI:mg "enumerate"=none
 tup:mg "tuple"=none
 int:mg "int"=none
 bool:mg "bool"=none
 gu:mg "range"=none
 lst:mg "list"=none
 VP:mg "divmod"=none
 all:mg "all"=none
 str:mg "str"=none
 sum:mg "sum"=none
 zip:mg "zip"=none
 max:mg "max"=none
 QT:mg "dict"=none
theorem qk:aw ["n"] ["n"] (af gN):=⟨rfl,rfl,rfl,by decide+kernel,rfl,by decide+kernel,by decide+kernel⟩
theorem gE:aw ["stand","pile","ahead","ons","found"] ["stand"] (af iV):=⟨rfl,rfl,rfl,by decide+kernel,rfl,by decide+kernel,by decide+kernel⟩
theorem jv:aw ["stand","word","pile","ahead","ons","high","on"] ["stand","word"] (af qw):=⟨rfl,rfl,rfl,by decide+kernel,rfl,by decide+kernel,by decide+kernel⟩
theorem uQ:aw ["worths"] ["worths"] (af ky):=⟨rfl,rfl,rfl,by decide+kernel,rfl,by decide+kernel,by decide+kernel⟩
theorem uS:aw ["worths"] ["worths"] (af fA):=⟨rfl,rfl,rfl,by decide+kernel,rfl,by decide+kernel,by decide+kernel⟩
theorem yM:aw ["w","h"] ["w","h"] (af gH):=⟨rfl,rfl,rfl,by decide+kernel,rfl,by decide+kernel,by decide+kernel⟩
theorem sv:aw ["w","scale"] ["w"] (af jw):=⟨rfl,rfl,rfl,by decide+kernel,rfl,by decide+kernel,by decide+kernel⟩
theorem qj:aw ["base","many","scale","place"] ["base","many"] (af uT):=⟨rfl,rfl,rfl,by decide+kernel,rfl,by decide+kernel,by decide+kernel⟩
theorem ik:aw ["number","base","many","found","place","figure"] ["number","base","many"] (af m5):=⟨rfl,rfl,rfl,by decide+kernel,rfl,by decide+kernel,by decide+kernel⟩
theorem gG:aw ["w","total","h"] ["w"] (af iX):=⟨rfl,rfl,rfl,by decide+kernel,rfl,by decide+kernel,by decide+kernel⟩
theorem iU:aw ["w","joined","chosen","right","left","right_tied","left_tied","low","high","inner"] ["w","joined","chosen"] (af gO):=⟨rfl,rfl,rfl,by decide+kernel,rfl,by decide+kernel,by decide+kernel⟩
theorem yN:aw ["n"] ["n"] (af gP):=⟨rfl,rfl,rfl,by decide+kernel,rfl,by decide+kernel,by decide+kernel⟩
theorem o5:aw ["w","joined","chosen","right","right_tied","left","left_tied"] ["w","joined","chosen"] (af gI):=⟨rfl,rfl,rfl,by decide+kernel,rfl,by decide+kernel,by decide+kernel⟩
theorem eV:aw ["n","steps","found","place","word"] ["n","steps"] (af fQ):=⟨rfl,rfl,rfl,by decide+kernel,rfl,by decide+kernel,by decide+kernel⟩
theorem yO:aw ["stand"] ["stand"] (af gQ):=⟨rfl,rfl,rfl,by decide+kernel,rfl,by decide+kernel,by decide+kernel⟩
theorem eK:aw ["stand","word","pile","ahead","ons","bottomed","coming"] ["stand","word"] (af dZ):=⟨rfl,rfl,rfl,by decide+kernel,rfl,by decide+kernel,by decide+kernel⟩
theorem Bh:aw ["w","lists"] ["w","lists"] (af jz):=⟨rfl,rfl,rfl,by decide+kernel,rfl,by decide+kernel,by decide+kernel⟩
theorem sy:aw ["w","stand"] ["w","stand"] (af iW):=⟨rfl,rfl,rfl,by decide+kernel,rfl,by decide+kernel,by decide+kernel⟩
theorem wV:aw ["w","stand","best"] ["w","stand"] (af uU):=⟨rfl,rfl,rfl,by decide+kernel,rfl,by decide+kernel,by decide+kernel⟩
theorem JH:aw ["w","stand","step"] ["w","stand","step"] (af Bq):=⟨rfl,rfl,rfl,by decide+kernel,rfl,by decide+kernel,by decide+kernel⟩
theorem JG:aw ["before","after"] ["before","after"] (af Bl):=⟨rfl,rfl,rfl,by decide+kernel,rfl,by decide+kernel,by decide+kernel⟩
theorem wW:aw ["w","steps","worths"] ["w","steps"] (af mZ):=⟨rfl,rfl,rfl,by decide+kernel,rfl,by decide+kernel,by decide+kernel⟩
theorem mY:aw ["_law_script","_law_cells"] ["_law_script"] (af qv):=⟨rfl,rfl,rfl,by decide+kernel,rfl,by decide+kernel,by decide+kernel⟩
theorem fO:aw ["_law_state","_law_many","_law_turn","_law_place","_law_cell","_law_digit","_law_stirred"] ["_law_state","_law_many"] (af qt):=⟨rfl,rfl,rfl,by decide+kernel,rfl,by decide+kernel,by decide+kernel⟩
theorem wX:aw ["_law_found","_law_due"] ["_law_found","_law_due"] (af gK):=⟨rfl,rfl,rfl,by decide+kernel,rfl,by decide+kernel,by decide+kernel⟩
theorem uR:aw ["_law_stand","_law_pile","_law_coming","_law_ons","_law_more"] ["_law_stand"] (af Bm):=⟨rfl,rfl,rfl,by decide+kernel,rfl,by decide+kernel,by decide+kernel⟩
theorem ku:aw ["_law_stand","_law_word","_law_pile","_law_coming","_law_ons","_law_on"] ["_law_stand","_law_word"] (af m4):=⟨rfl,rfl,rfl,by decide+kernel,rfl,by decide+kernel,by decide+kernel⟩
theorem Bg:aw ["_law_stand","_law_pile","_law_coming","_law_ons"] ["_law_stand"] (af Bo):=⟨rfl,rfl,rfl,by decide+kernel,rfl,by decide+kernel,by decide+kernel⟩
theorem gF:aw ["_law_state","_law_many","_law_most","_law_stand","_law_steps","_law_turn","_law_some"] ["_law_state","_law_many","_law_most"] (af qr):=⟨rfl,rfl,rfl,by decide+kernel,rfl,by decide+kernel,by decide+kernel⟩
theorem dY:aw ["_law_state","_law_many","_law_way","_law_none","_law_rows","_law_word","_law_row","_law_on","_law_some"] ["_law_state","_law_many"] (af qu):=⟨rfl,rfl,rfl,by decide+kernel,rfl,by decide+kernel,by decide+kernel⟩
theorem sx:aw ["_law_w","_law_h","_law_some"] ["_law_w","_law_h"] (af jx):=⟨rfl,rfl,rfl,by decide+kernel,rfl,by decide+kernel,by decide+kernel⟩
theorem ij:aw ["_law_w","_law_steps","_law_told_here","_law_caught","error","_law_others"] ["_law_w","_law_steps"] (af uV):=⟨rfl,rfl,rfl,by decide+kernel,rfl,by decide+kernel,by decide+kernel⟩
theorem dq:aw ["_law_w","_law_steps","_law_stand","_law_due","_law_word","_law_kept","_law_again","_law_found","_law_h"] ["_law_w","_law_steps"] (af jy):=⟨rfl,rfl,rfl,by decide+kernel,rfl,by decide+kernel,by decide+kernel⟩
theorem bC:aw ["_law_state","_law_w","_law_steps","_law_at","_law_odd","_law_some","_law_stand","_law_place","_law_word"] ["_law_state","_law_w","_law_steps"] (af gL):=⟨rfl,rfl,rfl,by decide+kernel,rfl,by decide+kernel,by decide+kernel⟩
theorem kU:aw ["_law_script","_law_state","_law_turn","_law_many","_law_whole","_law_w","_law_stand","_law_steps","_law_some"] ["_law_script"] (af JK):=⟨rfl,rfl,rfl,by decide+kernel,rfl,by decide+kernel,by decide+kernel⟩
end aW
namespace aW
open PySem PySem.Spec L2 LB LD PyProof.Rows ly
theorem gU{c A B:Prop} [Decidable c](hc:c)(h:A):if c then A else B:=by rw[if_pos hc];exact h
theorem fW{c A B:Prop} [Decidable c](hc: ¬c)(h:B):if c then A else B:=by rw[if_neg hc];exact h
noncomputable def bo:Wo->Dt
 | none=> .aF
 | some v=> .int v
def ko:DN:=fun ds Q=> ∃L:List Wo,ds= [.lst (L.map bo)]/\Q (bo (iE L))
def pq:DN:=fun ds Q=> ∃L:List Wo,ds= [.lst (L.map bo)]/\L.length<=sizeLine/\Q (bo (fF L))
theorem wL(L:List Wo):(L.map bo).all cw=true:=by
 induction L with
 | nil=>rfl
 | cons x xs ih=>rw[ac9,ar6,ih,ar7];cases x <;> rfl
theorem Hu(L:List Wo):inD .aF (L.map bo)=decide (none∈L):=by
 induction L with
 | nil=>rfl
 | cons x xs ih=>
  unfold inD at ih ⊢;rw[ac9,al8,ih];cases x with
  | none=>simp [bo,C4]
  | some v=>simp [bo,C4]
theorem mP: ∀{L:List Wo},none∈L->iE L=none
 | x::xs,h=>by
  rcases ac3.mp h with e | e
  . rw[<-e];rfl
  . rw[iE,mP e,yc]
theorem mQ: ∀(L:List Wo),none∉L-> ∃ns:List Int,L=ns.map some/\iE L=some ns.sum
 | [],_=>⟨[],rfl,rfl⟩
 | none::xs,h=>absurd ab3 h
 | some v::xs,h=>by
  obtain⟨ns,e1,e2⟩:=mQ xs fun z=>h (ab5 _ z);exact⟨v::ns,by rw[e1];rfl,by rw[iE,e2];rfl⟩
theorem wK(ns:List Int):(ns.map some).map bo=ns.map Dt.int:=by rw[ad8];rfl
noncomputable def gB(L:List Wo):List Int:=L.filterMap id
noncomputable def SG:Dt->Bool
 | .aF=>false
 | _=>true
theorem AO(L:List Wo):((L.map bo).filter SG).map id=(gB L).map Dt.int:=by
 induction L with
 | nil=>rfl
 | cons x xs ih=>
  rw[List.map_id] at ih ⊢;cases x with
  | none=>exact ih
  | some v=>show Dt.int v::((xs.map bo).filter SG)=_;rw[ih];rfl
theorem GC(h:gB L= []):fF L=none:=jK.mpr fun x hx=>by
 cases x with
 | none=>rfl
 | some v=>
  have:v∈gB L:=aj4.mpr ⟨some v,hx,rfl⟩;rw[h] at this;cases this
theorem GD(h1:m∈gB L)(h2: ∀a∈gB L,a<=m):fF L=some m:=by
 induction L generalizing m with
 | nil=>cases h1
 | cons x xs ih=>
  cases x with
  | none=>exact ih h1 h2
  | some v=>
   have e:gB (some v::xs)=v::gB xs:=rfl;rw[e] at h1 h2;show mx (some v) (fF xs)=some m;cases e2:fF xs with
   | none=>
    have n:gB xs= []:=by
     cases e3:gB xs with
     | nil=>rfl
     | cons a as=>
      have hm:a∈gB xs:=by rw[e3];exact ab3
      obtain⟨y,hy,Vd⟩:=aj4.mp hm;have:=jK.mp e2 y hy;rw[this] at Vd;cases Vd
    rw[n] at h1;cases aa6.mp h1;rfl
   | some u=>
    have hu:some u∈xs:=ml e2;have SO:u∈gB xs:=aj4.mpr ⟨some u,hu,rfl⟩;show some (max v u)=some m;have a1:=h2 v ab3;have a2:=h2 u (ab5 _ SO);rcases ac3.mp h1 with z | z
    . rw[z] at a2 ⊢;congr 1;omega
    . have:=ih z fun a ha=>h2 a (ab5 _ ha);rw[e2] at this;cases this;congr 1;omega
section
variable{P:Program}{w:World}{K:PySem.W.Frag}{mg:Str->Option Value}{base:Heap}
theorem kX(F:dM K "together" "together" ky f fd)(T:Txt mg):aJ P w K mg base cX 1 f fd ["worths"] (bP ko):=by
 refine lL F uQ (fun ds Qd h=>?_) (fun ba A outer s H E hr=>⟨_,(ak (cZ (ES eG (dv 0))
 (aB (aD eG))
 bq)
 (aB (aD (Dv rfl T.sum (aa (dv 0) ae))))),fun ds Qd h=>?_⟩)
 . obtain⟨L,rfl,_⟩:=h;rfl
 . obtain⟨L,rfl,q⟩:=h;refine⟨_,rfl,⟨_, .inl rfl,rfl,wL L,?_⟩⟩;rw[Hu];by_cases c:none∈L
   . rw[ad6 c];rw[mP c] at q;exact⟨true,rfl,cS q⟩
   . rw[ae5 c];obtain⟨ns,e1,e2⟩:=mQ L c;rw[e2] at q;exact⟨false,rfl,bN ⟨_,rfl,ns,by rw[e1,wK],q⟩⟩
theorem sQ(F:dM K "greatest" "greatest" fA f fd)(T:Txt mg):aJ P w K mg base cX 1 f fd ["worths"] (bP pq):=by
 refine lL F uS (fun ds Qd h=>?_) (fun ba A outer s H E hr=>⟨_,(aB (aD (Ls rfl T.max (aa (Ov.ev (cq (N:= ["worth"]) (nt:=1) (js:= []) ⟨rfl,by decide+kernel,by decide,rfl,by decide+kernel,(by show∀x∈(_:List (Str × NameKind)),x.2=NameKind.free->(af fA).names.lookup x.1=some .cell\/(af fA).names.lookup x.1=some .free;decide+kernel)⟩ rfl (nD (dv 0)) (fun _ _ _ _ _=>av (i:=0) (show(["worth"]:List Str).Nodup by decide+kernel) rfl (by first | exact Or.inl rfl | exact Or.inr rfl)) bM aX (fun _ _ _ _ _=>CS (mT (dv 0))) (fun _ _ _ _ _=>(dv 0)))) ae)))),fun ds Qd h=>?_⟩)
 . obtain⟨L,rfl,_⟩:=h;rfl
 . obtain⟨L,rfl,l,q⟩:=h;refine⟨_,rfl,⟨_,rfl,by rw[aa1];exact l,SG,id,fun d hd=>?_,?_⟩⟩
   . obtain⟨x,_,rfl⟩:=ab7.mp hd;refine⟨⟨_,rfl,rfl⟩,?_⟩;cases x with
     | none=>exact⟨_,rfl,false,rfl,rfl,fun z=>by cases z⟩
     | some v=>exact⟨_,rfl,true,rfl,rfl,fun z=>⟨_,rfl,rfl⟩⟩
   . rw[AO];refine⟨_,rfl,fun z=>?_,fun m h1 h2=>?_⟩
     . rw[GC z] at q;exact q
     . rw[GD h1 h2] at q;exact q
end
noncomputable def jE(b:Int)(m:Nat):List Int:=(List.range (m+1)).map fun i=>b^i
def AV:DN:=fun ds Q=> ∃(b:Int) (m:Nat),ds= [.int b,.int (m:Int)]/\0<=b/\b < 2^60/\m<=60/\Q (.lst ((jE b m).reverse.map .int))
noncomputable def shr(B:Int):Nat->Int->Int
 | 0,x=>x
 | k+1,x=>shr B k x / B
theorem Be(B:Int): ∀(k:Nat) (x:Int),shr B k (x / B)=shr B (k+1) x
 | 0,_=>rfl
 | k+1,x=>by rw[shr,Be B k x];rfl
theorem pD(B:Int): ∀(k:Nat) (x:Int),lM B (k+1) x=lM B k x++ [shr B k x % B]
 | 0,_=>rfl
 | k+1,x=>by rw[lM,pD B k (x / B),Be,lM];rfl
theorem tJ(B:Int): ∀(k:Nat) (x:Int),(lM B k x).length=k
 | 0,_=>rfl
 | k+1,x=>by rw[lM,ac7,tJ B k]
def tI:DN:=fun ds Q=> ∃(x b:Int) (m:Nat),ds= [.int x,.int b,.int (m:Int)]/\0 < b/\b < 2^60/\m<=60/\Q (.lst ((lM b m x).reverse.map .int))
inductive ZU(b:Int)(m:Nat)(i:Nat)(δ:List Sl):Prop
 | mk (s:Sl) (h1:δ= [.im (.int b),.im (.int (m:Int)),.ow ((jE b i).map .int),s]) (h2:s.cB=false)
inductive FiI(x b:Int)(m:Nat)(i:Nat)(δ:List Sl):Prop
 | mk (s4 s5:Sl) (h1:δ= [.im (.int (shr b i x)),.im (.int b),.im (.int (m:Int)),.ow ((lM b i x).map .int),s4,s5]) (h2:s4.cB=false) (h3:s5.cB=false)
theorem o6(b:Int)(m:Nat):jE b (m+1)=jE b m++ [b^(m+1)]:=by
 unfold jE;rw[List.range_succ,ab8];rfl
section
variable{P:Program}{w:World}{K:PySem.W.Frag}{mg:Str->Option Value}{base:Heap}
theorem BW(F:dM K "units" "units" uT f fd)(T:Txt mg):aJ P w K mg base cX 1 f fd ["base","many"] (bP AV):=by
 refine lL F qj (fun ds Qd h=>?_) (fun ba A outer s H E hr=>⟨_,(ak (fP 2 qj.nd (iN (aa au ae)))
 (ak (iM rfl (kK T.gu (aa (dv 1) ae)) (g8 3 qj.nd)
 (aB (cH (bJ 2 (pv 2) (aa (xU (pJ 2 (pv 2) (fH au)) (dv 0)) ae)))) ai3)
 (ak (cH (pI 2 (pv 2)))
 (aB (iL 2 (aD (dv 2))))))),fun ds Qd h=>?_⟩)
 . obtain⟨b,m,rfl,_⟩:=h;rfl
 . obtain⟨b,m,rfl,b0,b1,m1,q⟩:=h;refine⟨by show 1<=sizeLine;decide,⟨_,rfl,rfl⟩,?_⟩;refine⟨_,rfl,_,rfl,by lia,by lia,?_⟩;refine di (ZU b m) ⟨.no,by rw[show jE b 0= [1] from by simp [jE]];rfl,rfl⟩ (fun i d δ hi hP Δ' pd Es=>?_) (fun δ hP=>?_)
   . obtain⟨s,rfl,hs⟩:=hP;have il:i < m:=by have:=(aa5.mp hi).1;rw[aa1,ad4] at this;lia
     refine⟨⟨_,rfl,hs⟩,?_⟩;have hl:jd ((jE b i).map Dt.int) (-1)=some (.int (b^i)):=by
      cases i with
      | zero=>rw[show jE b 0= [1] from by simp [jE]];rw[Int.pow_zero];exact nS (α:=Dt) [] _
      | succ i=>rw[o6,ab8];exact nS _ _
     refine⟨⟨_,rfl⟩,⟨_,rfl⟩,_,rfl,_,_,_,rfl,rfl,hl,_,rfl,?_⟩;refine⟨_,_,rfl,rfl,.inr ⟨by lia,by lia⟩,_,_,rfl,rfl,?_,pd _ ⟨.im d,?_,rfl⟩⟩
     . rw[aa1];exact ac4 (show(jE b i).length < 100 by rw[jE,aa1,ad4];lia) (by decide)
     . rw[o6,ab8,Int.pow_succ];rfl
   . obtain⟨s,rfl,hs⟩:=hP;rw[aa1,ad4,ah5];refine⟨_,rfl,_,rfl,?_⟩;rw[List.map_reverse] at q;exact⟨_,rfl,q⟩
theorem vf(F:dM K "figures" "figures" m5 f fd)(T:Txt mg):aJ P w K mg base cX 1 f fd ["number","base","many"] (bP tI):=by
 refine lL F ik (fun ds Qd h=>?_) (fun ba A outer s H E hr=>⟨_,(ak (fP 3 ik.nd (iN ae))
 (ak (iM rfl (kK T.gu (aa (dv 2) ae)) (g8 4 ik.nd)
 (ak (kW (Dz T.VP (aa (dv 0) (aa (dv 1) ae))) (qT 0 5 rfl ik.nd))
 (aB (cH (bJ 3 (pv 3) (aa (dv 5) ae))))) ai3)
 (ak (cH (pI 3 (pv 3)))
 (aB (iL 3 (aD (dv 3))))))),fun ds Qd h=>?_⟩)
 . obtain⟨x,b,m,rfl,_⟩:=h;rfl
 . obtain⟨x,b,m,rfl,b0,b1,m1,q⟩:=h;refine⟨by show 0<=sizeLine;decide,⟨_,rfl,rfl⟩,?_⟩;refine⟨_,rfl,_,rfl,by lia,by lia,?_⟩;refine di (FiI x b m) ⟨.no, .no,rfl,rfl,rfl⟩ (fun i d δ hi hP Δ' pd Es=>?_) (fun δ hP=>?_)
   . obtain⟨s4,s5,rfl,h4,h5⟩:=hP;have il:i < m:=by have:=(aa5.mp hi).1;rw[aa1,ad4] at this;lia
     refine⟨⟨_,rfl,h4⟩,?_⟩;refine⟨_,rfl,_,rfl,_,_,rfl,b0,by lia,_,_,rfl,⟨_,rfl,rfl⟩,⟨_,rfl,h5⟩,?_⟩;refine⟨⟨_,rfl⟩,_,rfl,_,_,rfl,rfl,?_,pd _ ⟨.im d,.im (.int (shr b i x % b)),?_,rfl,rfl⟩⟩
     . rw[aa1,tJ];exact ac4 (show i < 100 by lia) (by decide)
     . rw[pD,ab8];rfl
   . obtain⟨s4,s5,rfl,h4,h5⟩:=hP;rw[aa1,ad4,ah5];refine⟨_,rfl,_,rfl,?_⟩;rw[List.map_reverse] at q;exact⟨_,rfl,q⟩
end
noncomputable def Qx(p:Nat × Nat):Dt:= .tup [.int (p.1:Int),.int (p.2:Int)]
noncomputable def eP(n:Nat):List (Nat × Nat):=(List.range (n - 1)).flatMap fun k=>(List.range (n - (k+1))).map fun j=>(j+1,j+1+(k+1))
def t8:DN:=fun ds Q=> ∃n:Nat,ds= [.int (n:Int)]/\n<=60/\Q (.lst ((eP n).map Qx))
theorem sY{α β:Type}{f:α->List β}{c:Nat}: ∀{l:List α},(∀x∈l,(f x).length<=c)->(l.flatMap f).length<=l.length*c
 | [],_=>by simp
 | x::l,h=>by
  rw[aq9,aa9,ac7,Nat.succ_mul];have:=sY (l:=l) fun y hy=>h y (ab5 _ hy);have:=h x ab3;omega
theorem x5(h:n<=60):(eP n).length < 3601:=by
 have:=sY (f:=fun k=>(List.range (n - (k+1))).map fun j=>(j+1,j+1+(k+1))) (c:=60) (l:=List.range (n - 1)) fun x _=>by rw[aa1,ad4];omega
 rw[ad4] at this;have e:(n - 1)*60<=60*60:=Nat.mul_le_mul_right _ (by omega);unfold eP;omega
noncomputable def wF(n:Nat):Dt->List Dt
 | .int v=>(List.range (n - v.toNat)).map fun j=>Qx (j+1,j+1+v.toNat)
 | _=> []
noncomputable def WQ(v:Int):Dt->Dt
 | .int u=> .tup [.int u,.int (u+v)]
 | _=> .aF
theorem AU(n:Nat):((List.range ((n:Int) - 1).toNat).map fun k=>Dt.int (1+(k:Nat))).flatMap (wF n)=(eP n).map Qx:=by
 unfold eP;rw[List.flatMap_map,List.map_flatMap,show((n:Int) - 1).toNat=n - 1 by omega];congr 1
 funext k
 show(List.range (n - (1+(k:Int)).toNat)).map _=_;rw[show(1+(k:Int)).toNat=k+1 by omega,ad8];rfl
section
variable{P:Program}{w:World}{K:PySem.W.Frag}{mg:Str->Option Value}{base:Heap}
theorem vg(F:dM K "by_width" "by_width" gP f fd)(T:Txt mg):aJ P w K mg base cX 1 f fd ["n"] (bP t8):=by
 refine lL F yN (fun ds Qd h=>?_) (fun ba A outer s H E hr=>⟨_,(aB (aD (Ov.ev (FZ 1 (N:= ["width","low","n"]) (nt:=2) (js:= [0]) ⟨rfl,by decide+kernel,by decide,rfl,by decide+kernel,(by show∀x∈(_:List (Str × NameKind)),x.2=NameKind.free->(af gP).names.lookup x.1=some .cell\/(af gP).names.lookup x.1=some .free;decide+kernel)⟩ rfl
 (gV T.gu (aa au (aa (dv 0) ae))) (fun _ _ _ _ _=>av (i:=0) (show(["width","low","n"]:List Str).Nodup by decide+kernel) rfl (by first | exact Or.inl rfl | exact Or.inr rfl)) bM aX (fun _ _ _ _ _=>dy) (fun _ _ _ _ _=>(gV T.gu (aa au (aa (cV (fG (dv 2) (dv 0)) au) ae)))) (fun _ _ _ _ _=>av (i:=1) (show(["width","low","n"]:List Str).Nodup by decide+kernel) rfl (by first | exact Or.inl rfl | exact Or.inr rfl)) zM aX (fun _ _ _ _ _=>dy) (fun _ _ _ _ _=>(aM (aa (dv 1) (aa (cV (dv 1) (dv 0)) ae)))))))),fun ds Qd h=>?_⟩)
 . obtain⟨n,rfl,_⟩:=h;rfl
 . obtain⟨n,rfl,n1,q⟩:=h;refine⟨_,rfl,_,_,rfl,⟨by decide,by decide,by lia,by lia⟩,?_⟩;refine⟨wF n,?_,fun d hd=>?_,?_⟩
   . rw[AU,aa1];exact ac4 (x5 n1) (by decide)
   . obtain⟨k,hk,rfl⟩:=ab7.mp hd;have kl:k < n - 1:=by have:=af2.mp hk;omega
     refine⟨⟨_,rfl,rfl⟩,?_⟩;simp only [IT,if_true];refine⟨_,rfl,_,rfl,_,_,rfl,rfl,_,_,rfl,rfl,_,_,rfl,⟨by decide,by decide,by lia,by lia⟩,fun _=>true,WQ (1+(k:Int)),fun e he=>?_,?_⟩
     . obtain⟨j,_,rfl⟩:=ab7.mp he;refine⟨⟨_,rfl,rfl⟩,rfl,fun _=>?_⟩;exact⟨_,rfl,_,rfl,_,rfl,_,_,rfl,rfl,by show 2<=sizeLine;decide,rfl⟩
     . rw[ae7.mpr fun _ _=>rfl,ad8];show(List.range (n - (1+(k:Int)).toNat)).map _=_;rw[show(1+(k:Int)).toNat=k+1 by omega,show((n:Int) - (1+(k:Int))+1 - 1).toNat=n - (k+1) by omega];refine ac8 fun j _=>?_;show Dt.tup [.int ((j+1:Nat):Int),.int ((j+1+(k+1):Nat):Int)]=Dt.tup [.int (1+(j:Int)),.int (1+(j:Int)+(1+(k:Int)))];rw[show((j+1:Nat):Int)=1+(j:Int) by omega,show((j+1+(k+1):Nat):Int)=1+(j:Int)+(1+(k:Int)) by omega]
   . show Qd (.lst _);rw[AU];exact q
end
noncomputable def de(n:Nat)(w:Nat->Nat->Wo)(i:Nat):Dt:= .tup ((List.range (n+1)).map fun o=>bo (w i o))
noncomputable def cy(n:Nat)(w:Nat->Nat->Wo):Dt:= .tup ((List.range' 1 n).map (de n w))
noncomputable def xI(x:Nat):Dt:= .int (x:Int)
noncomputable def CG(h:List Nat):Dt:= .tup (h.map xI)
def rV:DN:=fun ds Q=> ∃(n:Nat) (w:Nat->Nat->Wo) (h:List Nat),ds= [cy n w,CG h]/\h.length=n/\(∀x∈h,x<=n)/\n<=60/\Q (bo (iD w h))
theorem m6{n:Nat}{w:Nat->Nat->Wo}(h:x<=n):jd ((List.range (n+1)).map fun o=>bo (w i o)) (x:Int)=some (bo (w i x)):=
 bc (j:=x) (by rw[aa8,ah9 (by omega)];rfl)
noncomputable def Ln:Dt->Dt
 | .tup [.tup ds,.int v]=>(jd ds v).getD .aF
 | _=> .aF
theorem p6: ∀{h:List Nat} {i:Nat},(∀x∈h,x<=n)->(cY ((List.range' i h.length).map (de n w)) (h.map xI)).map Ln=(List.zipWith w (List.range' i h.length) h).map bo
 | [],_,_=>rfl
 | x::h,i,hx=>by
  have ih:=p6 (n:=n) (w:=w) (h:=h) (i:=i+1) fun y hy=>hx y (ab5 _ hy);rw[ac7,ao5,ac9,ac9,an7,ac9,<-ih];unfold cY;rw[an7,ac9];congr 1
  show(jd ((List.range (n+1)).map fun o=>bo (w i o)) (x:Int)).getD .aF=_;rw[m6 (hx x ab3)];rfl
theorem uz: ∀{h:List Nat} {i:Nat} {d:Dt},d∈cY ((List.range' i h.length).map (de n w)) (h.map xI)-> ∃j x,x∈h/\d= .tup [de n w j,xI x]
 | [],_,d,hd=>by cases hd
 | x::h,i,d,hd=>by
  rw[ac7,ao5,ac9,ac9] at hd;unfold cY at hd;rw[an7] at hd;rcases ac3.mp hd with e | e
  . exact⟨i,x,ab3,e⟩
  . obtain⟨j,y,hy,e⟩:=uz (i:=i+1) e;exact⟨j,y,ab5 _ hy,e⟩
theorem p9: ∀{h:List Nat} {i:Nat},iE (List.zipWith w (List.range' i h.length) h)=dW w i h
 | [],_=>rfl
 | x::h,i=>by rw[ac7,ao5,an7,iE,p9,dW]
section
variable{P:Program}{w:World}{K:PySem.W.Frag}{mg:Str->Option Value}{base:Heap}
theorem vb(F:dM K "worth_of" "worth_of" gH f fd)(T:Txt mg)(An:dj P w K mg base "together" 1 ["worths"] (bP ko)):aJ P w K mg base cX 2 f fd ["w","h"] (bP rV):=by
 refine lL F yM (fun ds Qd h=>?_) (fun ba A outer s H E hr=>⟨_,(aB (aD (aO An (hr.mono (by decide)) (aa (Ov.ev (cq (N:= ["row","on"]) (nt:=2) (js:= []) ⟨rfl,by decide+kernel,by decide,rfl,by decide+kernel,(by show∀x∈(_:List (Str × NameKind)),x.2=NameKind.free->(af gH).names.lookup x.1=some .cell\/(af gH).names.lookup x.1=some .free;decide+kernel)⟩ rfl (o9 (aa (dv 0) (aa (dv 1) ae)) fun z=>kz (by rfl) T.zip z) (fun _ _ _ _ _=>cn rfl (aA (av (i:=0) (show(["row","on"]:List Str).Nodup by decide+kernel) rfl (by first | exact Or.inl rfl | exact Or.inr rfl)) (aA (av (i:=1) (show(["row","on"]:List Str).Nodup by decide+kernel) rfl (by first | exact Or.inl rfl | exact Or.inr rfl)) bw))) bL bb (fun _ _ _ _ _=>dy) (fun _ _ _ _ _=>(dz (dv 0) (dv 1))))) ae)))),fun ds Qd h=>?_⟩)
 . obtain⟨n,w,h,rfl,_⟩:=h;rfl
 . obtain⟨n,w,h,rfl,l,hx,n1,q⟩:=h;subst l;refine⟨_,rfl,_,rfl,true,true,_,_,rfl,?_⟩;have zl:(cY ((List.range' 1 h.length).map (de h.length w)) (h.map xI)).length<=60:=by
    unfold cY;rw[al1,aa1,aa1,ac5];omega
   refine⟨ac6 zl (by decide),fun _=>true,Ln,fun d hd=>?_,?_⟩
   . obtain⟨j,x,hm,rfl⟩:=uz hd;refine⟨_,_,rfl,⟨_,rfl,rfl⟩,⟨_,rfl,rfl⟩,rfl,fun _=>?_⟩;exact⟨_,rfl,_,rfl,_,_,_,.inr rfl,rfl,m6 (hx x hm),by show bo (w j x)=(jd _ _).getD _;rw[m6 (hx x hm)];rfl⟩
   . rw[ae7.mpr fun _ _=>rfl,p6 hx];exact⟨_,rfl,by rw[p9];exact q⟩
end
theorem uP{env:Env}: ∀x∈([]:List (Str × NameKind)),x.2= .free->env.kindOf x.1=some .cell\/env.kindOf x.1=some .free:=fun x hx=>absurd hx aa4
theorem qh{env:Env}{p:Str × NameKind}(h:p.2≠ .free)(r: ∀x∈l,x.2= .free->env.kindOf x.1=some .cell\/env.kindOf x.1=some .free): ∀x∈p::l,x.2= .free->env.kindOf x.1=some .cell\/env.kindOf x.1=some .free:=fun x hx e=>by
 rcases ac3.mp hx with z | z
 . subst z;exact absurd e h
 . exact r x z e
theorem qg{env:Env}{p:Str × NameKind}(h:env.kindOf p.1=some .cell\/env.kindOf p.1=some .free)(r: ∀x∈l,x.2= .free->env.kindOf x.1=some .cell\/env.kindOf x.1=some .free): ∀x∈p::l,x.2= .free->env.kindOf x.1=some .cell\/env.kindOf x.1=some .free:=fun x hx e=>by
 rcases ac3.mp hx with z | z
 . subst z;exact h
 . exact r x z e
def Sm(w:Nat->Nat->Wo):Prop:= ∀i o v,w i o=some v-> -(2^60) < v/\v < 2^60
def w4:DN:=fun ds Q=> ∃(n:Nat) (w:Nat->Nat->Wo),ds= [cy n w]/\n<=60/\Sm w/\Q (cy n (wr n w))
noncomputable def NF(n i:Nat):Dt->Dt
 | .tup [.int o,.int v]=> .int (v*((n:Int)+1)^n - o*((n:Int)+1)^(n - i))
 | _=> .aF
noncomputable def UQ(n:Nat):Dt->Dt
 | .tup [.int i,.tup ds]=> .tup ((aL 0 ds).map (NF n i.toNat))
 | _=> .aF
theorem mr(h:d∈aL k ds): ∃j e,ds[j]?=some e/\d= .tup [.int ((j+k:Nat):Int),e]:=by
 unfold aL at h;obtain⟨j,hj,e⟩:=List.mem_mapIdx.mp h;exact⟨j,_,aa2 hj,e.symm⟩
theorem JP(n:Nat)(w:Nat->Nat->Wo)(i:Nat):(aL 0 ((List.range (n+1)).map fun o=>bo (w i o))).map (NF n i)=(List.range (n+1)).map fun o=>bo (wr n w i o):=by
 apply ak9;intro j;unfold aL;rw[aa8,ai5,aa8,aa8];cases e:(List.range (n+1))[j]? with
 | none=>rfl
 | some o=>
  have:o=j:=by
   have:=aa5.mp e;obtain⟨h1,h2⟩:=this;rw[List.getElem_range] at h2;exact h2.symm
  subst this;show some (NF n i (.tup [.int ((o+0:Nat):Int),bo (w i o)]))=some (bo (wr n w i o));unfold wr;cases w i o <;> rfl
theorem JQ(n:Nat)(w:Nat->Nat->Wo):(aL 1 ((List.range' 1 n).map (de n w))).map (UQ n)=(List.range' 1 n).map (de n (wr n w)):=by
 apply ak9;intro j;unfold aL;rw[aa8,ai5,aa8,aa8];cases e:(List.range' 1 n)[j]? with
 | none=>rfl
 | some i=>
  have:i=j+1:=by
   obtain⟨h1,h2⟩:=aa5.mp e;rw[List.getElem_range'] at h2;omega
  subst this;show some (Dt.tup ((aL 0 _).map (NF n (((j+1:Nat):Int)).toNat)))=some (de n (wr n w) (j+1));rw[ah5,JP];rfl
theorem BC{n k:Nat}(h:k<=n):jd ((jE ((n:Int)+1) n).reverse.map Dt.int) (k:Int)=some (.int (((n:Int)+1)^(n - k))):=
 bc (j:=k) (by
  unfold jE;rw[aa8,List.getElem?_reverse (by rw[aa1,ad4];omega),aa1,ad4,aa8,ah9 (by omega)];rw[show n+1 - 1 - k=n - k by omega];rfl)
section
variable{P:Program}{w:World}{K:PySem.W.Frag}{mg:Str->Option Value}{base:Heap}
theorem zc(F:dM K "ranked" "ranked" jw f fd)(T:Txt mg)(wo:dj P w K mg base "units" 1 ["base","many"] (bP AV)):aJ P w K mg base cX 2 f fd ["w"] (bP w4):=by
 refine lL F sv (fun ds Qd h=>?_) (fun ba A outer s H E hr=>⟨_,(ak (bT 1 sv.nd (aO wo (hr.mono (by decide)) (aa (cV (bH T.len (aa (dv 0) ae)) au) (aa (bH T.len (aa (dv 0) ae)) ae))))
 (aB (aD (jV T.tup (aa (Ov.ev (cq (N:= ["word","row","scale"]) (nt:=2) (js:= [1]) ⟨rfl,by decide+kernel,by decide,rfl,by decide+kernel,(by show∀x∈(_:List (Str × NameKind)),x.2=NameKind.free->(af jw).names.lookup x.1=some .cell\/(af jw).names.lookup x.1=some .free;decide+kernel)⟩ rfl (xF T.MI (aa (dv 0) ae) au) (fun _ _ _ _ _=>cn rfl (aA (av (i:=0) (show(["word","row","scale"]:List Str).Nodup by decide+kernel) rfl (by first | exact Or.inl rfl | exact Or.inr rfl)) (aA (av (i:=1) (show(["word","row","scale"]:List Str).Nodup by decide+kernel) rfl (by first | exact Or.inl rfl | exact Or.inr rfl)) bw))) bL bb (fun _ _ _ _ _=>dy) (fun _ _ _ _ _=>(jV T.tup (aa (Ov.ev (cq (N:= ["on","worth","scale","word"]) (nt:=2) (js:= [2,0]) ⟨rfl,by decide+kernel,by decide,rfl,by decide+kernel,(by repeat (first | exact uP | refine qg (by first | exact Or.inl rfl | exact Or.inr rfl) ?_ | refine qh (fun z=>nomatch z) ?_))⟩ rfl (xG T.MI (aa (dv 1) ae)) (fun _ _ _ _ _=>cn rfl (aA (av (i:=0) (show(["on","worth","scale","word"]:List Str).Nodup by decide+kernel) rfl (by first | exact Or.inl rfl | exact Or.inr rfl)) (aA (av (i:=1) (show(["on","worth","scale","word"]:List Str).Nodup by decide+kernel) rfl (by first | exact Or.inl rfl | exact Or.inr rfl)) bw))) bL bb (fun _ _ _ _ _=>dy) (fun _ _ _ _ _=>(fZ (kT (dv 1)) eG (fG (xU (dv 1) (dz (dv 2) au)) (xU (dv 0) (dz (dv 2) (dv 3)))))))) ae))))) ae))))),fun ds Qd h=>?_⟩)
 . obtain⟨n,w,rfl,_⟩:=h;rfl
 . obtain⟨n,w,rfl,n1,sm,q⟩:=h;have hl:((List.range' 1 n).map (de n w)).length=n:=by rw[aa1,ac5]
   have QG:(aL 1 ((List.range' 1 n).map (de n w))).length=n:=by unfold aL;rw[ah6,hl]
   refine⟨_,rfl,_,.inr rfl,_,_,rfl,rfl,_,rfl,_,.inr rfl,?_⟩;rw[hl];refine⟨(n:Int)+1,n,rfl,by lia,by lia,n1,⟨_,rfl,rfl⟩,?_⟩;refine⟨_,rfl,_,rfl,rfl,by rw[QG];exact ac6 n1 (by decide),fun _=>true,UQ n,fun d hd=>?_,?_⟩
   . obtain⟨j,e,he,rfl⟩:=mr hd;have jl:j < n:=by have:=(aa5.mp he).1;rw[hl] at this;exact this
     have ee:e=de n w (j+1):=by
      rw[aa8,ai4 jl] at he;have:=(Option.some.inj he).symm;rw[this];congr 1;omega
     subst ee;have rl:(aL 0 ((List.range (n+1)).map fun o=>bo (w (j+1) o))).length=n+1:=by unfold aL;rw[ah6,aa1,ad4]
     refine⟨_,_,rfl,⟨_,rfl,rfl⟩,⟨_,rfl,rfl⟩,rfl,fun _=>?_⟩;refine⟨_,rfl,_,rfl,by rw[rl];exact ac6 (show n+1<=61 by omega) (by decide),fun _=>true,NF n (j+1),fun d hd=>?_,?_⟩
     . obtain⟨o,e,he,rfl⟩:=mr hd;have ol:o<=n:=by have:=(aa5.mp he).1;rw[aa1,ad4] at this;omega
       have ee:e=bo (w (j+1) o):=by
        rw[aa8,ah9 (by omega)] at he;exact(Option.some.inj he).symm
       subst ee;refine⟨_,_,rfl,⟨_,rfl,rfl⟩,⟨_,rfl,rfl⟩,rfl,fun _=>?_⟩;cases ew:w (j+1) o with
       | none=>exact⟨_,rfl,true,rfl,cS rfl⟩
       | some v=>
        have vs:=sm _ _ _ ew;refine⟨_,rfl,false,rfl,bN ?_⟩;have o1:wG ((o+0:Nat):Int) (((n:Int)+1)^(n - (j+1))):= .inl ⟨by lia,by lia⟩;have v1:wG v (((n:Int)+1)^(n - 0)):= .inl ⟨by lia,by lia⟩;exact⟨_,rfl,_,rfl,_,_,_,.inl rfl,rfl,BC (k:=0) (ag0 _),_,_,rfl,rfl,v1,_,rfl,_,rfl,_,rfl,_,_,_,.inl rfl,rfl,BC (k:=j+1) jl,_,_,rfl,rfl,o1,_,_,rfl,rfl,rfl⟩
     . rw[ae7.mpr fun _ _=>rfl];exact⟨_,.inl rfl,rfl⟩
   . rw[ae7.mpr fun _ _=>rfl,JQ];exact⟨_,.inl rfl,q⟩
end
noncomputable def Xm(r:Rs):Dt:= .tup [.int r.1,CG r.2]
noncomputable def UW:Option Rs->Dt
 | none=> .aF
 | some r=>Xm r
end aW
namespace aW
open PySem PySem.Spec L2 LB LD PyProof.Rows jg
theorem ND:((List.range m).map fun k=>Dt.int (1+(k:Nat)))=(List.range' 1 m).map xI:=by
 rw[an0,ad8];refine ac8 fun k _=>?_;show Dt.int _=Dt.int _;congr 1
noncomputable def fI{β:Type} [Inhabited β](g:Nat->β):Dt->β
 | .int v=>g v.toNat
 | _=>default
instance:Inhabited Dt:=⟨.aF⟩
theorem JO{l h:Nat}:((List.range ((h:Int) - (l:Int)).toNat).map fun k=>Dt.int ((l:Int)+(k:Nat)))=(List.range' l (h - l)).map xI:=by
 rw[show((h:Int) - (l:Int)).toNat=h - l by omega,an0,ad8];refine ac8 fun k _=>?_;show Dt.int _=Dt.int _;congr 1
theorem vo{L:List Nat}{g:Nat->Dt}:(((L.map xI).filter fun _=>true).map (fI g))=L.map g:=by
 rw[ae7.mpr fun _ _=>rfl,ad8];rfl
theorem xy:((List.range' 1 n).map xI).map (fI fun i=>pk (i,i))=(dg n).map pk:=by
 unfold dg;rw[ad8,ad8];rfl
theorem EK{n:Nat}{d:Dt}(h: ∀i,f (i,i)=d):((List.range' 1 n).map xI).map (fI fun _=>d)=(dg n).map f:=by
 unfold dg;rw[ad8,ad8];exact ac8 fun i _=>(h i).symm
section
variable{α:Type}(D:α->Dt)
noncomputable abbrev Jy (L:List Pr) (f:Nat->Nat->α):Sl:=td (L.map pk) (L.map fun p=>D (f p.1 p.2))
def IF(oJ oC:List α->Prop)(jn ch:List α->α)(fj fc:Addr):DS:=fun ss Q=> ∃(n:Nat) (w rg rt lf lt:Nat->Nat->α),ss= [.im (Jz D n w),.fn fj,.fn fc]/\1<=n/\n<=12/\Uz oJ oC jn ch n w rg rt lf lt/\
 Q (.tup [GR D (dg n++jg.eP n) rg,GR D (jg.eP n) rt,GR D (dg n++jg.eP n) lf,GR D (jg.eP n) lt])
def FI(n:Nat)(w rg rt lf lt:Nat->Nat->α)(fj fc:Addr)(i:Nat)(δ:List Sl):Prop:= ∃(s7 s8 s9:Sl),δ= [.im (Jz D n w),.fn fj,.fn fc,Jy D (dg n++(jg.eP n).take i) rg,Jy D (dg n++(jg.eP n).take i) lf,Jy D ((jg.eP n).take i) rt,Jy D ((jg.eP n).take i) lt,s7,s8,s9]/\s7.cB=false/\s8.cB=false/\s9.cB=false/\eJ [s9] [s9]
end
theorem w9{Δ:cG}(e2:d2=Qx (l,h))(e1:δ[i]?=some (Jy D L f))(hL:L.length<=4000)(hn:(l,h)∉L)(hd:d=D (f l h))(q:Δ.nx (δ.set i (Jy D (L++ [(l,h)]) f))):xW i Δ d d2 δ:=by
 subst e2;subst hd;refine⟨pk (l,h),_,_,rfl,e1,by rw[aa1];exact an6 hL (by decide),J0 hn,?_⟩;unfold Jy at q;rw[ab8,ab8] at q;exact q
section
variable{P:Program}{wd:World}{K:PySem.W.Frag}{mg:Str->Option Value}{base:Heap}
theorem FP(DW: ∀x,ym (D x))(hJ:uq P wd K mg base fj 1 pj (bP (pB D oJ jn)))(hC:uq P wd K mg base fc 1 pc (bP (pB D oC ch)))(F:dM K "fill" "fill" gO f fd)(T:Txt mg)(D6:dj P wd K mg base "by_width" 1 ["n"] (bP t8)):aJ P wd K mg base cX 2 f fd ["w","joined","chosen"] (spS (IF D oJ oC jn ch fj fc)):=by
 refine VG F iU (fun ss Qd h=>?_) (fun ba A outer s H E hr=>⟨_,ak (Bk 3 iU.nd (FY (N:= ["word","joined"]) (nt:=1) (js:= [1]) ⟨rfl,by decide+kernel,by decide,rfl,by decide+kernel,(by show∀x∈(_:List (Str × NameKind)),x.2=NameKind.free->(af gO).names.lookup x.1=some .cell\/(af gO).names.lookup x.1=some .free;decide+kernel)⟩ rfl (gV T.gu (aa au (aa (cV (bH T.len (aa (dv 0) ae)) au) ae))) (fun _ _ _ _ _=>av (i:=0) (show(["word","joined"]:List Str).Nodup by decide+kernel) rfl (by first | exact Or.inl rfl | exact Or.inr rfl)) bM aX (fun _ _ _ _ _=>aM (aa (dv 0) (aa (dv 0) ae))) (fun _ _ _ _ _=>hZ 1 hJ (hr.mono (by decide)) (pv 1) (aa (eI ae) ae)) (Nat.lt_of_succ_lt (eC hr))))
  (ak (Bk 4 iU.nd (FX 3 hr.hd T.QT (pv 3)))
  (ak (Bj 5 iU.nd)
  (ak (Bj 6 iU.nd)
  (ak (iM rfl (nD (aO D6 (hr.mono (by decide)) (aa (bH T.len (aa (dv 0) ae)) ae))) (qT 7 8 rfl iU.nd)
   (ak (bT 9 iU.nd (qZ (hZ 2 hC (hr.mono (by decide)) (pv 2) (aa (Ov.ev (cq (N:= ["at","joined","right","low","left","high"]) (nt:=1) (js:= [1,3,7,4,8]) ⟨rfl,by decide+kernel,by decide,rfl,by decide+kernel,(by show∀x∈(_:List (Str × NameKind)),x.2=NameKind.free->(af gO).names.lookup x.1=some .cell\/(af gO).names.lookup x.1=some .free;decide+kernel)⟩ rfl (gV T.gu (aa (dv 7) (aa (dv 8) ae))) (fun _ _ _ _ _=>av (i:=0) (show(["at","joined","right","low","left","high"]:List Str).Nodup by decide+kernel) rfl (by first | exact Or.inl rfl | exact Or.inr rfl)) bM aX (fun _ _ _ _ _=>dy) (fun _ _ _ _ _=>hZ 1 hJ (hr.mono (by decide)) (pv 1) (aa (eI (aa (hU (eC hr) (dv 2) (aM (aa (dv 3) (aa (dv 0) ae)))) (aa (hU (eC hr) (dv 4) (aM (aa (cV (dv 0) au) (aa (dv 5) ae)))) ae))) ae)))) ae))))
   (ak (qm 5 (eC hr) (pv 5) (aM (aa (dv 7) (aa (dv 8) ae))) (hZ 1 hJ (hr.mono (by decide)) (pv 1) (aa (eI (aa (dz (dz (dv 0) (fG (dv 8) au)) (dv 7)) (aa (dv 9) ae))) ae)))
   (ak (qm 6 (eC hr) (pv 6) (aM (aa (dv 7) (aa (dv 8) ae))) (hZ 1 hJ (hr.mono (by decide)) (pv 1) (aa (eI (aa (dz (dz (dv 0) (fG (dv 7) au)) (dv 8)) (aa (dv 9) ae))) ae)))
   (ak (qm 3 (eC hr) (pv 3) (aM (aa (dv 7) (aa (dv 8) ae))) (qZ (hZ 2 hC (hr.mono (by decide)) (pv 2) (aa (Ov.ev (cq (N:= ["at","joined","right_tied","low","right","high"]) (nt:=1) (js:= [1,5,7,3,8]) ⟨rfl,by decide+kernel,by decide,rfl,by decide+kernel,(by show∀x∈(_:List (Str × NameKind)),x.2=NameKind.free->(af gO).names.lookup x.1=some .cell\/(af gO).names.lookup x.1=some .free;decide+kernel)⟩ rfl (gV T.gu (aa (cV (dv 7) au) (aa (cV (dv 8) au) ae))) (fun _ _ _ _ _=>av (i:=0) (show(["at","joined","right_tied","low","right","high"]:List Str).Nodup by decide+kernel) rfl (by first | exact Or.inl rfl | exact Or.inr rfl)) bM aX (fun _ _ _ _ _=>dy) (fun _ _ _ _ _=>hZ 1 hJ (hr.mono (by decide)) (pv 1) (aa (eI (aa (hU (eC hr) (dv 2) (aM (aa (dv 3) (aa (dv 0) ae)))) (aa (hU (eC hr) (dv 4) (aM (aa (dv 0) (aa (dv 5) ae)))) ae))) ae)))) ae))))
   (aB (qm 4 (eC hr) (pv 4) (aM (aa (dv 7) (aa (dv 8) ae))) (qZ (hZ 2 hC (hr.mono (by decide)) (pv 2) (aa (Ov.ev (cq (N:= ["at","joined","left","low","left_tied","high"]) (nt:=1) (js:= [1,4,7,6,8]) ⟨rfl,by decide+kernel,by decide,rfl,by decide+kernel,(by show∀x∈(_:List (Str × NameKind)),x.2=NameKind.free->(af gO).names.lookup x.1=some .cell\/(af gO).names.lookup x.1=some .free;decide+kernel)⟩ rfl (gV T.gu (aa (dv 7) (aa (dv 8) ae))) (fun _ _ _ _ _=>av (i:=0) (show(["at","joined","left","low","left_tied","high"]:List Str).Nodup by decide+kernel) rfl (by first | exact Or.inl rfl | exact Or.inr rfl)) bM aX (fun _ _ _ _ _=>dy) (fun _ _ _ _ _=>hZ 1 hJ (hr.mono (by decide)) (pv 1) (aa (eI (aa (hU (eC hr) (dv 2) (aM (aa (dv 3) (aa (dv 0) ae)))) (aa (hU (eC hr) (dv 4) (aM (aa (dv 0) (aa (dv 5) ae)))) ae))) ae)))) ae))))))))) ai3)
  (aB (qp 3 (qp 5 (qp 4 (qp 6 (aD (aM (aa (dv 3) (aa (dv 5) (aa (dv 4) (aa (dv 6) ae))))))))))))))),fun ss Qd h=>?_⟩)
 . obtain⟨n,w,rg,rt,lf,lt,rfl,_⟩:=h;rfl
 . obtain⟨n,w,rg,rt,lf,lt,rfl,n1,gm,V,q⟩:=h;have hl:((List.range' 1 n).map (sC D n w)).length=n:=by rw[aa1,ac5]
   refine⟨_,rfl,_,.inr rfl,_,_,rfl,rfl,1,_,rfl,⟨by decide,by decide,by rw[hl];lia,by rw[hl];lia⟩,?_⟩;rw[hl,show((n:Int)+1 - 1).toNat=n by lia,ND];refine⟨by rw[aa1,ac5];exact ac6 gm (by decide),fI fun i=>pk (i,i),fI fun i=>D (jn []),fun d hd=>?_,?_,?_⟩
   . obtain⟨i,hi,rfl⟩:=ab7.mp hd;exact⟨⟨_,rfl,rfl⟩,_,rfl,_,rfl,by show 2<=sizeLine;decide,rfl,rfl,by show 0<=sizeLine;decide,[],rfl,V.j0,rfl⟩
   . rw[xy];exact List.Pairwise.of_map _ (fun a b z e=>z (ag1 _ e)) (xQ P wd gm)
   . rw[xy,show((List.range' 1 n).map xI).map (fI fun i=>D (jn []))=(dg n).map fun p=>D (rg p.1 p.2) from EK fun i=>by rw[V.r0]];refine⟨⟨_,rfl,rfl⟩,_,_,rfl,fun z=>?_,xQ _ _ gm,⟨_,rfl,rfl⟩,⟨_,rfl,rfl⟩,⟨_,rfl,rfl⟩,?_⟩
     . have:=ag1 List.length z;unfold dg at this;rw[aa1,aa1,ac5] at this;have:n=0:=this;lia
     refine⟨_,rfl,_,.inr rfl,n,by rw[hl],ac6 gm (by decide),_,rfl,?_⟩;have e0:((dg n).map fun p=>D (rg p.1 p.2))=(dg n).map fun p=>D (lf p.1 p.2):=ac8 fun p hp=>by
      have:=(qK.mp hp).1;rw[this,V.r0,V.l0]
     refine di (FI D n w rg rt lf lt fj fc) ⟨.no,.no,.no,?_,rfl,rfl,rfl,.no .nil⟩ (fun i d δ hi hP Δ' pd _=>?_) (fun δ hP=>?_)
     . rw[List.take_zero,af0];show [_,_,_,td ((dg n).map pk) ((dg n).map fun p=>D (rg p.1 p.2)),td ((dg n).map pk) ((dg n).map fun p=>D (rg p.1 p.2)),td [] [],td [] [],_,_,_]= [_,_,_,td ((dg n).map pk) ((dg n).map fun p=>D (rg p.1 p.2)),td ((dg n).map pk) ((dg n).map fun p=>D (lf p.1 p.2)),td [] [],td [] [],_,_,_]
       rw[<-e0]
     . obtain⟨s7,s8,s9,rfl,b7,b8,b9,f9⟩:=hP;rw[aa8] at hi;obtain⟨⟨l,h⟩,hp,rfl⟩:=ag8.mp hi;have hp:(jg.eP n)[i]?=some (l,h):=hp;obtain⟨m1,m2,m3⟩:=fS.mp (ad2 hp);have m1:1<=l:=m1;have m2:l < h:=m2;have m3:h<=n:=m3;have lw:(jg.eP n).length < 3601:=x5 (ac6 gm (by decide));have lt':((jg.eP n).take i).length<=3601:=by rw[aj1];lia
       have ld:(dg n++(jg.eP n).take i).length<=4000:=by
        rw[aa9];have:(dg n).length=n:=by unfold dg;rw[aa1,ac5]
        lia
       refine⟨_,_,rfl,⟨_,rfl,b7⟩,⟨_,rfl,b8⟩,?_⟩;refine⟨_,eJ.im (eJ.fn (eJ.fn (eJ.td (eJ.td (eJ.td (eJ.td (eJ.im (eJ.im f9)))))))),rfl,?_⟩;refine⟨_,rfl,_,rfl,(l:Int),(h:Int),rfl,⟨by lia,by lia,by lia,by lia⟩,?_⟩;rw[JO];refine⟨by rw[aa1,ac5];exact ac6 (show h - l<=12 by lia) (by decide),fun _=>true,fI fun a=>D (jn [rg l a,lf (a+1) h]),fun d hd=>?_,?_⟩
       . obtain⟨a,ha,rfl⟩:=ab7.mp hd;have:=ad3.mp ha;exact⟨⟨_,rfl,rfl⟩,rfl,fun _=>⟨rfl,_,rfl,_,rfl,_,rfl,by show 2<=sizeLine;decide,⟨_,_,pk (l,a),_,rfl,rfl,dQ (yb hp (by lia) (by lia) (by lia) (by lia)),_,rfl,_,rfl,_,_,rfl,rfl,_,rfl,by show 2<=sizeLine;decide,⟨_,_,pk (a+1,h),_,rfl,rfl,dQ (yb hp (by lia) (by lia) (by lia) (by lia)),by show 2<=sizeLine;decide,[rg l a,lf (a+1) h],rfl,V.ji l a h (by lia) (by lia) (by lia) (by lia),rfl⟩⟩⟩⟩
       rw[vo];refine⟨jg.oq jn rg lf l h,by rw[jg.oq,ad8];rfl,V.ci l h m1 m2 m3,DW _,⟨_,rfl,b9⟩,?_⟩;refine⟨rfl,_,rfl,_,rfl,_,_,rfl,rfl,_,_,_,.inr rfl,rfl,wN D (by lia) (by lia),_,rfl,_,_,_,.inr rfl,rfl,qy D (by lia),_,rfl,by show 2<=sizeLine;decide,[w h l,ch (jg.oq jn rg lf l h)],rfl,V.jr l h m1 m2 m3,⟨_,_,rfl⟩,_,rfl,_,rfl,by show 2<=sizeLine;decide,w9 (L:=(jg.eP n).take i) (f:=rt) rfl rfl (by lia) (rA hp) (by rw[V.er l h m1 m2 m3]) ?_⟩;refine⟨rfl,_,rfl,_,rfl,_,_,rfl,rfl,_,_,_,.inr rfl,rfl,wN D (by lia) (by lia),_,rfl,_,_,_,.inr rfl,rfl,qy D (by lia),_,rfl,by show 2<=sizeLine;decide,[w l h,ch (jg.oq jn rg lf l h)],rfl,V.jl l h m1 m2 m3,⟨_,_,rfl⟩,_,rfl,_,rfl,by show 2<=sizeLine;decide,w9 (L:=(jg.eP n).take i) (f:=lt) rfl rfl (by lia) (rA hp) (by rw[V.el l h m1 m2 m3]) ?_⟩;refine⟨_,eJ.im (eJ.fn (eJ.fn (eJ.td (eJ.td (eJ.td (eJ.td (eJ.im (eJ.im (eJ.im .nil))))))))),rfl,?_⟩;refine⟨_,rfl,_,_,rfl,rfl,_,rfl,_,_,rfl,rfl,((l+1:Nat):Int),((h+1:Nat):Int),rfl,⟨by lia,by lia,by lia,by lia⟩,?_⟩;rw[JO];have mt: ∀{a b:Nat},l<=a->a < b->b<=h->(a,b)∈(jg.eP n).take i++ [(l,h)]:=fun{a b} h1 h2 h3=>by
        by_cases c:b - a < h - l
        . exact ae2 _ (Ut hp h1 h2 h3 c)
        . exact ab4 _ (by rw[show a=l by lia,show b=h by lia];exact aa6.mpr rfl)
       refine⟨by rw[aa1,ac5];exact ac6 (show h+1 - (l+1)<=12 by lia) (by decide),fun _=>true,fI fun a=>D (jn [rt l a,rg a h]),fun d hd=>?_,?_⟩
       . obtain⟨a,ha,rfl⟩:=ab7.mp hd;have:=ad3.mp ha;exact⟨⟨_,rfl,rfl⟩,rfl,fun _=>⟨rfl,_,rfl,_,rfl,_,rfl,by show 2<=sizeLine;decide,⟨_,_,pk (l,a),_,rfl,rfl,dQ (mt (by lia) (by lia) (by lia)),_,rfl,_,rfl,_,rfl,by show 2<=sizeLine;decide,⟨_,_,pk (a,h),_,rfl,rfl,dQ (yb hp (by lia) (by lia) (by lia) (by lia)),by show 2<=sizeLine;decide,[rt l a,rg a h],rfl,V.jR l a h (by lia) (by lia) (by lia) (by lia),rfl⟩⟩⟩⟩
       rw[vo];refine⟨JS jn rg rt l h,by rw[JS,ad8,Nat.add_sub_add_right];rfl,V.cR l h m1 m2 m3,DW _,⟨_,_,rfl⟩,_,rfl,_,rfl,by show 2<=sizeLine;decide,w9 (L:=dg n++(jg.eP n).take i) (f:=rg) rfl rfl ld (Dl hp) (by rw[V.eR l h m1 m2 m3]) ?_⟩;refine⟨_,eJ.im (eJ.fn (eJ.fn (eJ.td (eJ.td (eJ.td (eJ.td (eJ.im (eJ.im (eJ.im .nil))))))))),rfl,?_⟩;refine⟨_,rfl,_,rfl,(l:Int),(h:Int),rfl,⟨by lia,by lia,by lia,by lia⟩,?_⟩;rw[JO];refine⟨by rw[aa1,ac5];exact ac6 (show h - l<=12 by lia) (by decide),fun _=>true,fI fun a=>D (jn [lf l a,lt a h]),fun d hd=>?_,?_⟩
       . obtain⟨a,ha,rfl⟩:=ab7.mp hd;have:=ad3.mp ha;exact⟨⟨_,rfl,rfl⟩,rfl,fun _=>⟨rfl,_,rfl,_,rfl,_,rfl,by show 2<=sizeLine;decide,⟨_,_,pk (l,a),_,rfl,rfl,dQ (yb hp (by lia) (by lia) (by lia) (by lia)),_,rfl,_,rfl,_,rfl,by show 2<=sizeLine;decide,⟨_,_,pk (a,h),_,rfl,rfl,dQ (mt (by lia) (by lia) (by lia)),by show 2<=sizeLine;decide,[lf l a,lt a h],rfl,V.jL l a h (by lia) (by lia) (by lia) (by lia),rfl⟩⟩⟩⟩
       rw[vo];refine⟨Kw jn lf lt l h,by rw[Kw,ad8];rfl,V.cL l h m1 m2 m3,DW _,⟨_,_,rfl⟩,_,rfl,_,rfl,by show 2<=sizeLine;decide,w9 (L:=dg n++(jg.eP n).take i) (f:=lf) rfl rfl ld (Dl hp) (by rw[V.eL l h m1 m2 m3]) ?_⟩;refine pd _ ⟨.im (.int (l:Int)),.im (.int (h:Int)),.im (D (ch (jg.oq jn rg lf l h))),?_,rfl,rfl,rfl,.im .nil⟩;rw[take_snoc hp,<-af3];rfl
     . obtain⟨s7,s8,s9,rfl,b7,b8,b9,f9⟩:=hP;rw[aa1,show(aW.eP n).length=(jg.eP n).length from rfl,am7];exact⟨_,_,rfl,_,_,rfl,_,_,rfl,_,_,rfl,_,rfl,_,rfl,_,rfl,_,rfl,by show 4<=sizeLine;decide,q⟩
end
section
variable{α:Type}(D:α->Dt)
def HQ(oJ oC:List α->Prop)(jn ch:List α->α)(fj fc:Addr):DS:=fun ss Q=> ∃(n:Nat) (w rg rt lf lt:Nat->Nat->α),ss= [.im (Jz D n w),.fn fj,.fn fc]/\1<=n/\n<=12/\Uz oJ oC jn ch n w rg rt lf lt/\Q (D (ch (toV jn w lf rg n)))
noncomputable def UM(g:Nat->Dt):Dt->Dt
 | .tup [.int v,_]=>g v.toNat
 | _=> .aF
theorem F5{n:Nat}{w:Nat->Nat->α}{g:Nat->Dt}:((aL 1 ((List.range' 1 n).map (sC D n w))).filter fun _=>true).map (UM g)=(List.range' 1 n).map g:=by
 rw[ae7.mpr fun _ _=>rfl];apply ak9;intro j;unfold aL;rw[aa8,ai5,aa8,aa8];by_cases c:j < n
 . rw[ai4 c];show some (g (((j+1:Nat):Int)).toNat)=some (g (1+1*j));rw[ah5,show 1+1*j=j+1 by lia]
 . rw[ah4 (by rw[ac5];lia)];rfl
end
section
variable{P:Program}{wd:World}{K:PySem.W.Frag}{mg:Str->Option Value}{base:Heap}
theorem vc(DW: ∀x,ym (D x))(hJ:uq P wd K mg base fj 1 pj (bP (pB D oJ jn)))(hC:uq P wd K mg base fc 1 pc (bP (pB D oC ch)))(F:dM K "over_all" "over_all" gI f fd)(T:Txt mg)(D4:dj P wd K mg base "fill" 2 ["w","joined","chosen"] (spS (IF D oJ oC jn ch fj fc))):aJ P wd K mg base cX 3 f fd ["w","joined","chosen"] (spS (HQ D oJ oC jn ch fj fc)):=by
 refine VG F o5 (fun ss Qd h=>?_) (fun ba A outer s H E hr=>⟨_,(ak (kW (IQ D4 (hr.mono (by decide)) (M5 (dv 0) (M7 (f:=fj) 1 (pv 1) (M7 (f:=fc) 2 (pv 2) Hy)))) (Lc 3 4 5 6 rfl o5.nd))
 (aB (aD (hZ 2 hC (hr.mono (by decide)) (pv 2) (aa (Ov.ev (cq (N:= ["top","row","joined","left","right","w"]) (nt:=2) (js:= [1,5,3,0]) ⟨rfl,by decide+kernel,by decide,rfl,by decide+kernel,(by show∀x∈(_:List (Str × NameKind)),x.2=NameKind.free->(af gI).names.lookup x.1=some .cell\/(af gI).names.lookup x.1=some .free;decide+kernel)⟩ rfl (xF T.MI (aa (dv 0) ae) au) (fun _ _ _ _ _=>cn rfl (aA (av (i:=0) (show(["top","row","joined","left","right","w"]:List Str).Nodup by decide+kernel) rfl (by first | exact Or.inl rfl | exact Or.inr rfl)) (aA (av (i:=1) (show(["top","row","joined","left","right","w"]:List Str).Nodup by decide+kernel) rfl (by first | exact Or.inl rfl | exact Or.inr rfl)) bw))) bL bb (fun _ _ _ _ _=>dy) (fun _ _ _ _ _=>(hZ 2 hJ (hr.mono (by decide)) (pv 2) (aa (eI (aa (dz (dv 1) au) (aa (hU (eC hr) (dv 3) (aM (aa au (aa (dv 0) ae)))) (aa (hU (eC hr) (dv 4) (aM (aa (dv 0) (aa (bH T.len (aa (dv 5) ae)) ae)))) ae)))) ae))))) ae))))),fun ss Qd h=>?_⟩)
 . obtain⟨n,w,rg,rt,lf,lt,rfl,_⟩:=h;rfl
 . obtain⟨n,w,rg,rt,lf,lt,rfl,n1,gm,V,q⟩:=h;have hl:((List.range' 1 n).map (sC D n w)).length=n:=by rw[aa1,ac5]
   have QG:(aL 1 ((List.range' 1 n).map (sC D n w))).length=n:=by unfold aL;rw[ah6,hl]
   refine⟨_,rfl,rfl,rfl,n,w,rg,rt,lf,lt,rfl,n1,gm,V,_,_,_,_,rfl,⟨_,rfl,rfl⟩,⟨_,rfl,rfl⟩,⟨_,rfl,rfl⟩,⟨_,rfl,rfl⟩,?_⟩;refine⟨rfl,_,rfl,_,rfl,rfl,by rw[QG];exact ac6 gm (by decide),fun _=>true,UM fun t=>D (jn [w t 0,lf 1 t,rg t n]),fun d hd=>?_,?_⟩
   . obtain⟨j,e,he,rfl⟩:=mr hd;have jl:j < n:=by have:=(aa5.mp he).1;rw[hl] at this;exact this
     have ee:e=sC D n w (j+1):=by
      rw[aa8,ai4 jl] at he;have:=(Option.some.inj he).symm;rw[this];congr 1;lia
     subst ee;have mL: ∀{a b:Nat},1<=a->a<=b->b<=n->(a,b)∈dg n++jg.eP n:=fun{a b} h1 h2 h3=>by
      by_cases c:a=b
      . exact ae2 _ (qK.mpr ⟨c,by dsimp only;lia,by dsimp only;lia⟩)
      . exact ab4 _ (fS.mpr ⟨by dsimp only;lia,by dsimp only;lia,by dsimp only;lia⟩)
     refine⟨_,_,rfl,⟨_,rfl,rfl⟩,⟨_,rfl,rfl⟩,rfl,fun _=>?_⟩;refine⟨rfl,_,rfl,_,_,_,.inr rfl,rfl,qy D (x:=0) (ag0 _),_,rfl,_,rfl,by show 2<=sizeLine;decide,?_⟩;refine⟨_,_,pk (1,j+1),_,rfl,rfl,dQ (mL (by lia) (by lia) (by lia)),_,rfl,_,rfl,_,rfl,_,.inr rfl,by show 2<=sizeLine;decide,?_⟩;rw[hl];exact⟨_,_,pk (j+1,n),_,rfl,rfl,dQ (mL (by lia) (by lia) (by lia)),by show 3<=sizeLine;decide,[w (j+1) 0,lf 1 (j+1),rg (j+1) n],rfl,V.jt (j+1) (by lia) (by lia),rfl⟩
   . rw[F5];exact⟨toV jn w lf rg n,by rw[toV,ad8];rfl,V.ct,q⟩
end
open ly
theorem yF:iE [a,b]=ad a b:=by show ad a (ad b (some 0))=_;rw[nU]
theorem RO:iE [a,b,c]=ad a (ad b c):=by show ad a (ad b (ad c (some 0)))=_;rw[nU]
def Sg(n:Nat)(L:List Wo):Prop:=L.length<=n
theorem CU(w:Nat->Nat->Wo):ev w [[]]=iE []:=by
 show mx (wt w []) none=iE [];exact xu _
theorem Xd{n:Nat}(w:Nat->Nat->Wo)(gm:n<=12):Uz (fun _=>True) (Sg 12) iE fF n w (fun l h=>ev w (Q l h).rg) (fun l h=>ev w (Q l h).rt) (fun l h=>ev w (Q l h).lf) (fun l h=>ev w (Q l h).lt) where
 j0:=trivial
 r0:=fun l=>by rw[ic];exact CU w
 l0:=fun l=>by rw[ic];exact CU w
 ji:=fun _ _ _ _ _ _ _=>trivial
 ci:=fun l h _ _ _=>by show(jg.oq _ _ _ _ _).length<=12;unfold jg.oq;rw[aa1,ac5];lia
 jr:=fun _ _ _ _ _=>trivial
 er:=fun l h _ lt _=>by rw[yF,JM w lt];unfold jg.oq;congr 2;exact ac8 fun a _=>yF.symm
 jl:=fun _ _ _ _ _=>trivial
 el:=fun l h _ lt _=>by rw[yF,Kt w lt];unfold jg.oq;congr 2;exact ac8 fun a _=>yF.symm
 jR:=fun _ _ _ _ _ _ _=>trivial
 cR:=fun l h _ _ _=>by show(JS _ _ _ _ _).length<=12;unfold JS;rw[aa1,ac5];lia
 eR:=fun l h _ lt _=>by rw[JR w lt];unfold JS;congr 1;exact ac8 fun a _=>yF.symm
 jL:=fun _ _ _ _ _ _ _=>trivial
 cL:=fun l h _ _ _=>by show(Kw _ _ _ _ _).length<=12;unfold Kw;rw[aa1,ac5];lia
 eL:=fun l h _ lt _=>by rw[Kv w lt];unfold Kw;congr 1;exact ac8 fun a _=>yF.symm
 jt:=fun _ _ _=>trivial
 ct:=by show(toV _ _ _ _ _).length<=12;unfold toV;rw[aa1,ac5];exact gm
theorem Jx(w:Nat->Nat->Wo)(n:Nat):fF (toV iE w (fun l h=>ev w (Q l h).lf) (fun l h=>ev w (Q l h).rg) n)=ev w (Ay n):=by
 rw[EM];unfold toV;congr 1
 exact ac8 fun t _=>RO
theorem AQ(x:Wo):ym (bo x):=by cases x <;> constructor
def DU:DN:=fun ds Q=> ∃(n:Nat) (w:Nat->Nat->Wo),ds= [cy n w]/\1<=n/\n<=12/\Sm w/\ ∀r,kS n w r->Q (UW r)
abbrev Vb:DN:=pB bo (fun _=>True) iE
abbrev Wi:DN:=pB bo (Sg 12) fF
theorem wR(h: ∀ds Q,S' ds Q->S ds Q): ∀vs H Q E,bP S' vs H Q E->bP S vs H Q E:=fun vs H Q E z=>by
 obtain⟨M,ds,Qd,al,r,q,k⟩:=z;exact⟨M,ds,Qd,al,r,h _ _ q,k⟩
theorem Ot: ∀ds Q,Vb ds Q->ko ds Q:=fun ds Q z=>by obtain⟨L,e,_,q⟩:=z;exact⟨L,e,q⟩
theorem PU: ∀ds Q,Wi ds Q->pq ds Q:=fun ds Q z=>by obtain⟨L,e,l,q⟩:=z;exact⟨L,e,ac6 l (by decide),q⟩
section
variable{P:Program}{wd:World}{K:PySem.W.Frag}{mg:Str->Option Value}{base:Heap}
theorem FQ(gJ:mg "together"=some (.ref fj))(gC:mg "greatest"=some (.ref fc))(F:dM K "best_plain" "best_plain" iX f fd)(T:Txt mg)(D1:dj P wd K mg base "over_all" 3 ["w","joined","chosen"] (spS (HQ bo (fun _=>True) (Sg 12) iE fF fj fc)))(rJ:dj P wd K mg base "ranked" 2 ["w"] (bP w4))(D5:dj P wd K mg base "figures" 1 ["number","base","many"] (bP tI))(nY:dj P wd K mg base "worth_of" 2 ["w","h"] (bP rV)):aJ P wd K mg base cX 4 f fd ["w"] (bP DU):=by
 refine lL F gG (fun ds Qd h=>?_) (fun ba A outer s H E hr=>⟨_,(ak (bT 1 gG.nd (IQ D1 (hr.mono (by decide)) (M5 (aO rJ (hr.mono (by decide)) (aa (dv 0) ae)) (M6 (by rfl) gJ (M6 (by rfl) gC Hy)))))
 (ak (cZ (kT (dv 1))
 (aB (aD eG))
 bq)
 (ak (bT 2 gG.nd (jV T.tup (aa (aO D5 (hr.mono (by decide)) (aa (fH (dv 1)) (aa (cV (bH T.len (aa (dv 0) ae)) au) (aa (bH T.len (aa (dv 0) ae)) ae)))) ae)))
 (aB (aD (aM (aa (aO nY (hr.mono (by decide)) (aa (dv 0) (aa (dv 2) ae))) (aa (dv 2) ae)))))))),fun ds Qd h=>?_⟩)
 . obtain⟨n,w,rfl,_⟩:=h;rfl
 . obtain⟨n,w,rfl,n1,gm,sm,q⟩:=h;have hl:((List.range' 1 n).map (de n w)).length=n:=by rw[aa1,ac5]
   refine⟨_,rfl,n,w,rfl,by lia,sm,n,wr n w,_,_,_,_,rfl,n1,gm,Xd (wr n w) gm,⟨_,rfl,rfl⟩,?_⟩;rw[Jx];cases e:ev (wr n w) (Ay n) with
   | none=>exact⟨_,rfl,true,rfl,cS (q none (pY e))⟩
   | some t=>
    obtain⟨v,g,B,rfl⟩:=pX e;refine⟨_,rfl,false,rfl,bN ?_⟩;have gi:=Hc B;have ef:lM ((n:Int)+1) n (-(v*((n:Int)+1)^n - code (n+1) g))=g.reverse.map Int.ofNat:=by
     have:=pE (B:=n+1) (by lia) v n g gi.l fun x hx=>aq5 (gi.b x hx);rw[show -(v*((n:Int)+1)^n - code (n+1) g)=code (n+1) g - v*((n:Int)+1)^n by lia];push_cast at this
     exact this
    refine⟨_,rfl,_,rfl,_,rfl,_,.inr rfl,_,_,rfl,rfl,_,rfl,_,.inr rfl,?_⟩;rw[hl];refine⟨_,_,n,rfl,by lia,by lia,by lia,?_⟩;rw[ef];have ew:iD w g=some v:=by cases B;assumption
    have eg:((g.reverse.map Int.ofNat).reverse.map Dt.int)=g.map xI:=by rw[<-List.map_reverse,List.reverse_reverse,ad8];rfl
    rw[eg];refine⟨_,.inl rfl,⟨_,rfl,rfl⟩,_,rfl,_,rfl,n,w,g,rfl,gi.l,gi.b,by lia,_,rfl,by show 2<=sizeLine;decide,?_⟩;rw[ew];exact q (some (v,g)) B
end
end aW
namespace aW
open PySem PySem.Spec L2 LB LD PyProof.Rows
noncomputable abbrev nI (x:Nat):Dt:= .int (x:Int)
noncomputable def oD:Option Nat->Dt
 | none=> .aF
 | some x=>nI x
structure St where
 ar:List Nat
 b:Nat
 aZ:List (Option Nat)
noncomputable def St.dt(s:St):Dt:= .tup [.tup (s.ar.map nI),nI s.b,.tup (s.aZ.map oD)]
structure lV(s:St):Prop where
 n:s.aZ.length<=1000
 p:s.ar.length<=1000
 gu: ∀w∈s.ar,1<=w/\w<=s.aZ.length
noncomputable def St.read(s:St):St:=⟨s.ar++ [s.b],s.b+1,s.aZ⟩
noncomputable def St.mS(s:St)(on:Nat):St:=⟨s.ar.dropLast,s.b,s.aZ.set (s.ar.getLastD 1 - 1) (some on)⟩
noncomputable def St.next(s:St):St:=s.mS s.b
noncomputable def St.under(s:St):St:=s.mS (s.ar.dropLast.getLastD 1)
noncomputable def a8(s:St):Bool:=decide (s.b<=s.aZ.length)
noncomputable def aQ(s:St):Bool:=a8 s && !s.ar.isEmpty
noncomputable def aP(s:St):Bool:=decide (1 < s.ar.length)
noncomputable def cc(s:St):List Dt:=(if a8 s then [Dt.str "read"] else [])++(if aQ s then [Dt.str "next"] else [])++(if aP s then [Dt.str "under"] else [])
noncomputable def first(n:Nat):St:=⟨[],1,List.replicate n none⟩
def CQ:DN:=fun ds Q=> ∃n:Nat,ds= [nI n]/\1<=n/\n<=1000/\Q (first n).dt
def vn:DN:=fun ds Q=> ∃s:St,ds= [s.dt]/\lV s/\Q (.lst (cc s))
def bE:DN:=fun ds Q=> ∃(s:St) (w:Str),ds= [s.dt,.str w]/\lV s/\((w="read"/\Q s.read.dt)\/(w="next"/\s.ar≠ []/\Q s.next.dt)\/(w="under"/\2<=s.ar.length/\Q s.under.dt))
theorem small(h:n<=3000):n<=sizeLine:=by
 have:3000<=sizeLine:=by decide
 omega
theorem IE{α:Type}(n:Nat)(x:α):(List.replicate n [x]).flatten=List.replicate n x:=by
 induction n with
 | zero=>rfl
 | succ k ih=>rw[ag5,ag5,ae9,ih];rfl
section
variable{P:Program}{w:World}{K:PySem.W.Frag}{mg:Str->Option Value}{base:Heap}
theorem B8(F:dM K "first_stand" "first_stand" gN f fd)(T:Txt mg):aJ P w K mg base cX 1 f fd ["n"] (bP CQ):=by
 refine lL F qk (fun ds Qd h=>?_) (fun ba A outer s H E hr=>⟨_,(aB (aD (aM (aa (aM ae) (aa au (aa (qY (aM (aa eG ae)) (dv 0)) ae)))))),fun ds Qd h=>?_⟩)
 . obtain⟨n,rfl,_⟩:=h;rfl
 . obtain⟨n,rfl,n1,n2,q⟩:=h;refine⟨by show 0<=sizeLine;decide,by show 1<=sizeLine;decide,_,rfl,[.aF],n,rfl,rfl,by simp,by omega,by omega,small (by simp;omega),?_⟩;refine⟨by show 3<=sizeLine;decide,?_⟩;have e:(Dt.tup (List.replicate ((n:Int)).toNat [Dt.aF]).flatten)= .tup ((List.replicate n none).map oD):=by
    rw[List.map_replicate,ah5];congr 1
    exact IE n Dt.aF
   rw[e];exact q
theorem FO(F:dM K "steps_from" "steps_from" iV f fd)(T:Txt mg):aJ P w K mg base cX 1 f fd ["stand"] (bP vn):=by
 refine lL F gE (fun ds Qd h=>?_) (fun ba A outer s H E hr=>⟨_,(ak (kW (dv 0) (kM 1 2 3 rfl gE.nd))
 (ak (fP 4 gE.nd (iN ae))
 (ak (cZ (Na (dv 2) (bH T.len (aa (dv 3) ae)))
 (ak (cH (bJ 4 (pv 4) (aa dI ae)))
 (aB (cZ (HC (dv 1))
 (aB (cH (bJ 4 (pv 4) (aa dI ae))))
 bq)))
 bq)
 (ak (cZ (RT (bH T.len (aa (dv 1) ae)) au)
 (aB (cH (bJ 4 (pv 4) (aa dI ae))))
 bq)
 (aB (iL 4 (aD (dv 4)))))))),fun ds Qd h=>?_⟩)
 . obtain⟨n,rfl,_⟩:=h;rfl
 . obtain⟨s,rfl,fi,q⟩:=h;refine⟨_,rfl,_,_,_,rfl,⟨_,rfl,rfl⟩,⟨_,rfl,rfl⟩,⟨_,rfl,rfl⟩,?_⟩;refine⟨by show 0<=sizeLine;decide,⟨_,rfl,rfl⟩,?_⟩;refine⟨_,rfl,_,rfl,_, .inr rfl,_,_,rfl,rfl,_,rfl,?_⟩;by_cases c1:s.b<=s.aZ.length
   . refine gU (ad6 (by rw[aa1];exact Int.ofNat_le.mpr c1)) ?_;refine⟨⟨_,rfl⟩,_,_,rfl,rfl,by show 0 < sizeLine;decide,_,rfl,_,rfl,?_⟩;by_cases c2:s.ar= []
     . refine fW (by rw[c2];decide) ?_;refine⟨_,rfl,_,.inr rfl,_,_,rfl,rfl,_,rfl,fW (by rw[c2];decide) ⟨_,rfl,_,rfl,?_⟩⟩;simpa [cc,a8,aQ,aP,c1,c2] using q
     . refine gU (by simpa using c2) ?_;refine⟨⟨_,rfl⟩,_,_,rfl,rfl,by show 1 < sizeLine;decide,?_⟩;refine⟨_,rfl,_, .inr rfl,_,_,rfl,rfl,_,rfl,?_⟩;by_cases c3:1 < s.ar.length
       . refine gU (ad6 (by rw[aa1];exact Int.ofNat_lt.mpr c3)) ?_;refine⟨⟨_,rfl⟩,_,_,rfl,rfl,by show 2 < sizeLine;decide,_,rfl,_,rfl,?_⟩;simpa [cc,a8,aQ,aP,c1,c2,c3] using q
       . refine fW (by rw[aa1];intro z;exact c3 (Int.ofNat_lt.mp (ad7 z))) ⟨_,rfl,_,rfl,?_⟩;simpa [cc,a8,aQ,aP,c1,c2,c3] using q
   . refine fW (by rw[aa1];intro z;exact c1 (Int.ofNat_le.mp (ad7 z))) ?_;refine⟨_,rfl,_, .inr rfl,_,_,rfl,rfl,_,rfl,?_⟩;by_cases c3:1 < s.ar.length
     . refine gU (ad6 (by rw[aa1];exact Int.ofNat_lt.mpr c3)) ?_;refine⟨⟨_,rfl⟩,_,_,rfl,rfl,by show 0 < sizeLine;decide,_,rfl,_,rfl,?_⟩;simpa [cc,a8,aQ,aP,c1,c3] using q
     . refine fW (by rw[aa1];intro z;exact c3 (Int.ofNat_lt.mp (ad7 z))) ⟨_,rfl,_,rfl,?_⟩;simpa [cc,a8,aQ,aP,c1,c3] using q
theorem Kh(F:dM K "_law_may" "_law_may" Bm f fd)(T:Txt mg):aJ P w K mg base cX 1 f fd ["_law_stand"] (bP vn):=by
 refine lL F uR (fun ds Qd h=>?_) (fun ba A outer s H E hr=>⟨_,(ak (kW (dv 0) (kM 1 2 3 rfl uR.nd))
 (ak (bT 4 uR.nd (T1 (dv 2) (bH T.len (aa (dv 3) ae))))
 (aB (aD (kO (kO (vW (eI (aa dI ae)) (vX T.int (aa (dv 4) ae))) (vW (eI (aa dI ae)) (vX T.int (aa (ia (dv 4) (jW (Dx hr.p7 (dv 1)))) ae)))) (vW (eI (aa dI ae)) (vX T.int (aa (T3 (bH T.len (aa (dv 1) ae)) au) ae)))))))),fun ds Qd h=>?_⟩)
 . obtain⟨n,rfl,_⟩:=h;rfl
 . obtain⟨s,rfl,fi,q⟩:=h;refine⟨_,rfl,_,_,_,rfl,⟨_,rfl,rfl⟩,⟨_,rfl,rfl⟩,⟨_,rfl,rfl⟩,?_⟩;refine⟨_,rfl,_,rfl,_, .inr rfl,_,_,rfl,rfl,⟨_,rfl,rfl⟩,?_⟩;have ec:decide (((s.b:Nat):Int)<=((s.aZ.map oD).length:Int))=a8 s:=by
    rw[aa1];exact decide_eq_decide.mpr Int.ofNat_le
   dsimp only;rw[ec];have eu:decide (((s.ar.map nI).length:Int) > 1)=aP s:=by
    rw[aa1];exact decide_eq_decide.mpr (Int.ofNat_lt (n:=1))
   have fin: ∀c1 c2 c3:Bool,Dt.lst (((List.replicate (if c1 then(1:Int) else 0).toNat [Dt.str "read"]).flatten++(List.replicate (if c2 then(1:Int) else 0).toNat [Dt.str "next"]).flatten)++(List.replicate (if c3 then(1:Int) else 0).toNat [Dt.str "under"]).flatten)= .lst ((if c1 then [Dt.str "read"] else [])++(if c2 then [Dt.str "next"] else [])++(if c3 then [Dt.str "under"] else [])):=by
    intro c1 c2 c3;cases c1 <;> cases c2 <;> cases c3 <;> rfl
   have sz: ∀c:Bool,[Dt.aF].length*(if c then(1:Int) else 0).toNat<=sizeLine:=fun c=>by cases c <;> decide
   have lo: ∀c:Bool,-(2^63)<=(if c then(1:Int) else 0):=fun c=>by cases c <;> decide
   have hi: ∀c:Bool,(if c then(1:Int) else 0) < 2^63:=fun c=>by cases c <;> decide
   have l1: ∀(c:Bool) (x:Dt),(List.replicate (if c then(1:Int) else 0).toNat [x]).flatten.length<=1:=fun c x=>by cases c <;> simp
   have go: ∀c2:Bool,c2=aQ s->Qd (Dt.lst (((List.replicate (if a8 s then(1:Int) else 0).toNat [Dt.str "read"]).flatten++(List.replicate (if c2 then(1:Int) else 0).toNat [Dt.str "next"]).flatten)++(List.replicate (if aP s then(1:Int) else 0).toNat [Dt.str "under"]).flatten)):=fun c2 e=>by
    subst e;rw[fin];exact q
   refine⟨by show 1<=sizeLine;decide,_,rfl,_,rfl,_,_,rfl,rfl,lo _,hi _,sz _,by show 1<=sizeLine;decide,_,rfl,_,rfl,?_⟩;have s2: ∀(c c':Bool) (x y:Dt),(List.replicate (if c then(1:Int) else 0).toNat [x]).flatten.length+(List.replicate (if c' then(1:Int) else 0).toNat [y]).flatten.length<=sizeLine:=fun c c' x y=>small (by have:=l1 c x;have:=l1 c' y;omega);have s3: ∀(c c' c2:Bool) (x y z:Dt),((List.replicate (if c then(1:Int) else 0).toNat [x]).flatten++(List.replicate (if c' then(1:Int) else 0).toNat [y]).flatten).length+(List.replicate (if c2 then(1:Int) else 0).toNat [z]).flatten.length<=sizeLine:=fun c c' c2 x y z=>small (by have:=l1 c x;have:=l1 c' y;have:=l1 c2 z;rw[aa9];omega);by_cases cr:a8 s=true
   . refine gU cr ⟨_,rfl,_,rfl,_,rfl,_,_,rfl,rfl,lo _,hi _,sz _,_,_,rfl,rfl,s2 _ _ _ _,by show 1<=sizeLine;decide,_,rfl,_,.inr rfl,_,_,rfl,rfl,_,rfl,_,_,rfl,rfl,lo _,hi _,sz _,_,_,rfl,rfl,s3 _ _ _ _ _ _,?_⟩;dsimp only;rw[eu];exact go _ (by unfold aQ;rw[cr];simp)
   . refine fW cr ⟨_,rfl,_,_,rfl,rfl,lo _,hi _,sz _,_,_,rfl,rfl,s2 _ _ _ _,by show 1<=sizeLine;decide,_,rfl,_,.inr rfl,_,_,rfl,rfl,_,rfl,_,_,rfl,rfl,lo _,hi _,sz _,_,_,rfl,rfl,s3 _ _ _ _ _ _,?_⟩;dsimp only;rw[eu];exact go _ (by unfold aQ;rw[Bool.not_eq_true] at cr;rw[cr];rfl)
end
theorem jY(ds:List Dt):LD.cutD ds none (some (-1))=ds.dropLast:=by
 unfold LD.cutD;rw[HT.gM,am2,Nat.sub_zero];have e:HT.cE ds.length ds.length (some (-1))=ds.length - 1:=by
  show(if (-1:Int) < 0 then((-1:Int)+(ds.length:Int)).toNat else min (-1:Int).toNat ds.length)=_;rw[if_pos (by decide)];omega
 rw[e,List.dropLast_eq_take]
theorem jX{os:List (Option Nat)}(w1:1<=hi)(w2:hi<=os.length)(ei:i=((hi - 1:Nat):Int))(ej:j=(hi:Int))(d:Dt)(x:Option Nat)(ed:d=oD x):LD.cutD (os.map oD) none (some i)++ [d]++LD.cutD (os.map oD) (some j) none=(os.set (hi - 1) x).map oD:=by
 subst ei;subst ej;subst ed;unfold LD.cutD;rw[HT.l6,HT.l6,HT.gM,HT.gM,aa1,Nat.min_eq_left w2,Nat.min_eq_left (by omega),am2,Nat.sub_zero,<-List.map_take,<-List.map_drop,an8 (l:=(os.drop hi).map oD) (by rw[aa1,ak1];exact ab2 _)];rw[List.set_eq_take_append_cons_drop,if_pos (by omega),ab8,ac9,af3];rw[show hi - 1+1=hi by omega];rfl
theorem nN(ds:List Dt)(lo hi:Option Int):(LD.cutD ds lo hi).length<=ds.length:=by
 unfold LD.cutD;have:=HT.Bp ds.length ds.length (ab2 _) hi;exact ac6 (List.length_take_le ..) (by omega)
theorem yE(h:ps≠ []):jd (ps.map nI) (-1)=some (nI (ps.getLastD 1)):=by
 have e:ps.map nI=ps.dropLast.map nI++ [nI (ps.getLastD 1)]:=by
  rw[<-List.map_singleton (f:=nI),<-ab8];congr 1
  rw[ak2,an9 h,al3,ai2 h]
 rw[e];exact nS _ _
theorem top2{ps:List Nat}(h:2<=ps.length):jd (ps.map nI) (-2)=some (nI (ps.dropLast.getLastD 1)):=by
 have e1:ps.dropLast≠ []:=fun z=>by have:=ag1 List.length z;simp at this;omega
 have g:(ps.map nI)[ps.length - 2]?=some (nI (ps.dropLast.getLastD 1)):=by
  rw[aa8,ak2,List.getLast?_eq_getElem?,ao8,List.getElem?_dropLast,if_pos (by omega)];rw[show ps.length - 1 - 1=ps.length - 2 by omega,aa2 (by omega)];rfl
 unfold jd xD;rw[if_neg (by decide),aa1,if_pos (by omega)];show(ps.map nI)[_]?=_;rw[show(-2+(ps.length:Int)).toNat=ps.length - 2 by omega];exact g
theorem gZ(h:ps≠ []):ps.getLastD 1∈ps:=by
 rw[ak2,an9 h,al3];exact List.getLast_mem h
section
variable{P:Program}{w:World}{K:PySem.W.Frag}{mg:Str->Option Value}{base:Heap}
theorem zg(F:dM K "behind" "behind" qw f fd)(T:Txt mg):aJ P w K mg base cX 1 f fd ["stand","word"] (bP bE):=by
 refine lL F jv (fun ds Qd h=>?_) (fun ba A outer s H E hr=>⟨_,(ak (kW (dv 0) (kM 2 3 4 rfl jv.nd))
 (ak (cZ (yI (dv 1) dI)
 (aB (aD (aM (aa (gb (dv 2) (aM (aa (dv 3) ae))) (aa (cV (dv 3) au) (aa (dv 4) ae))))))
 bq)
 (ak (bT 5 jv.nd (dz (dv 2) (fH au)))
 (ak (bT 6 jv.nd (fZ (yI (dv 1) dI) (dv 3) (dz (dv 2) (fH au))))
 (aB (aD (aM (aa (lr (dv 2) eB (ez (fH au))) (aa (dv 3) (aa (gb (gb (lr (dv 4) eB (ez (fG (dv 5) au))) (aM (aa (dv 6) ae))) (lr (dv 4) (ez (dv 5)) eB)) ae)))))))))),fun ds Qd h=>?_⟩)
 . obtain⟨s,w,rfl,_⟩:=h;rfl
 . obtain⟨s,w,rfl,fi,q⟩:=h;refine⟨_,rfl,_,_,_,rfl,⟨_,rfl,rfl⟩,⟨_,rfl,rfl⟩,⟨_,rfl,rfl⟩,_,rfl,_,rfl,_,rfl,?_⟩;rcases q with ⟨rfl,q⟩ | ⟨rfl,np,q⟩ | ⟨rfl,np,q⟩
   . refine gU (by decide) ?_;refine⟨_,rfl,_,rfl,by show 1<=sizeLine;decide,_,_,rfl,rfl,small (by have:=fi.p;rw[aa1];simp;omega),_,rfl,_,_,rfl,rfl,_,rfl,by show 3<=sizeLine;decide,?_⟩;have e:s.read.dt= .tup [.tup (s.ar.map nI++ [nI s.b]), .int ((s.b:Int)+1), .tup (s.aZ.map oD)]:=by
      unfold St.read St.dt;rw[ab8];rfl
     rw[e] at q;exact q
   . refine fW (by decide) ?_;have hp:=fi.gu _ (gZ np);have l1: ∀i:Option Int,(LD.cutD (s.aZ.map oD) none i).length<=s.aZ.length:=fun i=>by have:=nN (s.aZ.map oD) none i;rwa [aa1] at this
     have hn:=fi.n;have key:=jX (os:=s.aZ) (hi:=s.ar.getLastD 1) hp.1 hp.2 (i:=((s.ar.getLastD 1:Nat):Int) - 1) (j:=((s.ar.getLastD 1:Nat):Int)) (by omega) rfl (nI s.b) (some s.b) rfl;refine⟨_,rfl,_,rfl,_,_,_,.inr rfl,rfl,yE np,⟨_,rfl,rfl⟩,_,rfl,_,rfl,_,rfl,gU (by decide) ⟨_,rfl,⟨_,rfl,rfl⟩,?_⟩⟩;refine⟨_,rfl,_,rfl,_,rfl,_,rfl,_,rfl,_,rfl,_,rfl,_,_,rfl,rfl,_,rfl,_,rfl,_,rfl,by show 1<=sizeLine;decide,_,_,rfl,rfl,small (by have:=l1 (some (((s.ar.getLastD 1:Nat):Int) - 1));simp only [ac7,ak0];omega),_,rfl,_,rfl,_,rfl,_,rfl,_,_,rfl,rfl,?_,by show 3<=sizeLine;decide,?_⟩
     . rw[<-aa9,key,aa1,ad0];exact small (by omega)
     . rw[key,jY];have e:s.next.dt= .tup [.tup (s.ar.map nI).dropLast,nI s.b, .tup ((s.aZ.set (s.ar.getLastD 1 - 1) (some s.b)).map oD)]:=by
        unfold St.next St.mS St.dt;rw[aq8]
       rw[e] at q;exact q
   . refine fW (by decide) ?_;have Mz:s.ar≠ []:=fun z=>by rw[z] at np;exact absurd np (by decide)
     have hp:=fi.gu _ (gZ Mz);have l1: ∀i:Option Int,(LD.cutD (s.aZ.map oD) none i).length<=s.aZ.length:=fun i=>by have:=nN (s.aZ.map oD) none i;rwa [aa1] at this
     have hn:=fi.n;have key:=jX (os:=s.aZ) (hi:=s.ar.getLastD 1) hp.1 hp.2 (i:=((s.ar.getLastD 1:Nat):Int) - 1) (j:=((s.ar.getLastD 1:Nat):Int)) (by omega) rfl (nI (s.ar.dropLast.getLastD 1)) (some (s.ar.dropLast.getLastD 1)) rfl;refine⟨_,rfl,_,rfl,_,_,_,.inr rfl,rfl,yE Mz,⟨_,rfl,rfl⟩,_,rfl,_,rfl,_,rfl,fW (by decide) ⟨_,rfl,_,rfl,_,_,_,.inr rfl,rfl,top2 np,⟨_,rfl,rfl⟩,?_⟩⟩;refine⟨_,rfl,_,rfl,_,rfl,_,rfl,_,rfl,_,rfl,_,rfl,_,_,rfl,rfl,_,rfl,_,rfl,_,rfl,by show 1<=sizeLine;decide,_,_,rfl,rfl,small (by have:=l1 (some (((s.ar.getLastD 1:Nat):Int) - 1));simp only [ac7,ak0];omega),_,rfl,_,rfl,_,rfl,_,rfl,_,_,rfl,rfl,?_,by show 3<=sizeLine;decide,?_⟩
     . rw[<-aa9,key,aa1,ad0];exact small (by omega)
     . rw[key,jY];have e:s.under.dt= .tup [.tup (s.ar.map nI).dropLast,nI s.b, .tup ((s.aZ.set (s.ar.getLastD 1 - 1) (some (s.ar.dropLast.getLastD 1))).map oD)]:=by
        unfold St.under St.mS St.dt;rw[aq8]
       rw[e] at q;exact q
end
section
variable{P:Program}{w:World}{K:PySem.W.Frag}{mg:Str->Option Value}{base:Heap}
theorem vd(F:dM K "_law_behind" "_law_behind" m4 f fd)(T:Txt mg):aJ P w K mg base cX 1 f fd ["_law_stand","_law_word"] (bP bE):=by
 refine lL F ku (fun ds Qd h=>?_) (fun ba A outer s H E hr=>⟨_,(ak (kW (dv 0) (kM 2 3 4 rfl ku.nd))
 (ak (cZ (yI (dv 1) dI)
 (aB (aD (aM (aa (gb (dv 2) (aM (aa (dv 3) ae))) (aa (cV (dv 3) au) (aa (dv 4) ae))))))
 bq)
 (ak (bT 5 ku.nd (fZ (yI (dv 1) dI) (dv 3) (dz (dv 2) (fH au))))
 (aB (aD (aM (aa (lr (dv 2) eB (ez (fH au))) (aa (dv 3) (aa (gb (gb (lr (dv 4) eB (ez (fG (dz (dv 2) (fH au)) au))) (aM (aa (dv 5) ae))) (lr (dv 4) (ez (dz (dv 2) (fH au))) eB)) ae))))))))),fun ds Qd h=>?_⟩)
 . obtain⟨s,w,rfl,_⟩:=h;rfl
 . obtain⟨s,w,rfl,fi,q⟩:=h;refine⟨_,rfl,_,_,_,rfl,⟨_,rfl,rfl⟩,⟨_,rfl,rfl⟩,⟨_,rfl,rfl⟩,_,rfl,_,rfl,_,rfl,?_⟩;rcases q with ⟨rfl,q⟩ | ⟨rfl,np,q⟩ | ⟨rfl,np,q⟩
   . refine gU (by decide) ?_;refine⟨_,rfl,_,rfl,by show 1<=sizeLine;decide,_,_,rfl,rfl,small (by have:=fi.p;rw[aa1];simp;omega),_,rfl,_,_,rfl,rfl,_,rfl,by show 3<=sizeLine;decide,?_⟩;have e:s.read.dt= .tup [.tup (s.ar.map nI++ [nI s.b]), .int ((s.b:Int)+1), .tup (s.aZ.map oD)]:=by
      unfold St.read St.dt;rw[ab8];rfl
     rw[e] at q;exact q
   . refine fW (by decide) ?_;have hp:=fi.gu _ (gZ np);have l1: ∀i:Option Int,(LD.cutD (s.aZ.map oD) none i).length<=s.aZ.length:=fun i=>by have:=nN (s.aZ.map oD) none i;rwa [aa1] at this
     have hn:=fi.n;have key:=jX (os:=s.aZ) (hi:=s.ar.getLastD 1) hp.1 hp.2 (i:=((s.ar.getLastD 1:Nat):Int) - 1) (j:=((s.ar.getLastD 1:Nat):Int)) (by omega) rfl (nI s.b) (some s.b) rfl;refine⟨_,rfl,_,rfl,_,rfl,gU (by decide) ⟨_,rfl,⟨_,rfl,rfl⟩,?_⟩⟩;refine⟨_,rfl,_,rfl,_,rfl,_,rfl,_,rfl,_,rfl,_,rfl,_,rfl,_,_,_,.inr rfl,rfl,yE np,_,_,rfl,rfl,_,rfl,_,rfl,_,rfl,by show 1<=sizeLine;decide,_,_,rfl,rfl,small (by have:=l1 (some (((s.ar.getLastD 1:Nat):Int) - 1));simp only [ac7,ak0];omega),_,rfl,_,rfl,_,rfl,_,_,_,.inr rfl,rfl,yE np,_,rfl,_,rfl,_,_,rfl,rfl,?_,by show 3<=sizeLine;decide,?_⟩
     . rw[<-aa9,key,aa1,ad0];exact small (by omega)
     . rw[key,jY];have e:s.next.dt= .tup [.tup (s.ar.map nI).dropLast,nI s.b, .tup ((s.aZ.set (s.ar.getLastD 1 - 1) (some s.b)).map oD)]:=by
        unfold St.next St.mS St.dt;rw[aq8]
       rw[e] at q;exact q
   . refine fW (by decide) ?_;have Mz:s.ar≠ []:=fun z=>by rw[z] at np;exact absurd np (by decide)
     have hp:=fi.gu _ (gZ Mz);have l1: ∀i:Option Int,(LD.cutD (s.aZ.map oD) none i).length<=s.aZ.length:=fun i=>by have:=nN (s.aZ.map oD) none i;rwa [aa1] at this
     have hn:=fi.n;have key:=jX (os:=s.aZ) (hi:=s.ar.getLastD 1) hp.1 hp.2 (i:=((s.ar.getLastD 1:Nat):Int) - 1) (j:=((s.ar.getLastD 1:Nat):Int)) (by omega) rfl (nI (s.ar.dropLast.getLastD 1)) (some (s.ar.dropLast.getLastD 1)) rfl;refine⟨_,rfl,_,rfl,_,rfl,fW (by decide) ⟨_,rfl,_,rfl,_,_,_,.inr rfl,rfl,top2 np,⟨_,rfl,rfl⟩,?_⟩⟩;refine⟨_,rfl,_,rfl,_,rfl,_,rfl,_,rfl,_,rfl,_,rfl,_,rfl,_,_,_,.inr rfl,rfl,yE Mz,_,_,rfl,rfl,_,rfl,_,rfl,_,rfl,by show 1<=sizeLine;decide,_,_,rfl,rfl,small (by have:=l1 (some (((s.ar.getLastD 1:Nat):Int) - 1));simp only [ac7,ak0];omega),_,rfl,_,rfl,_,rfl,_,_,_,.inr rfl,rfl,yE Mz,_,rfl,_,rfl,_,_,rfl,rfl,?_,by show 3<=sizeLine;decide,?_⟩
     . rw[<-aa9,key,aa1,ad0];exact small (by omega)
     . rw[key,jY];have e:s.under.dt= .tup [.tup (s.ar.map nI).dropLast,nI s.b, .tup ((s.aZ.set (s.ar.getLastD 1 - 1) (some (s.ar.dropLast.getLastD 1))).map oD)]:=by
        unfold St.under St.mS St.dt;rw[aq8]
       rw[e] at q;exact q
noncomputable def tP(s:St):Dt:=if s.b<=s.aZ.length\/s.ar.length≠1 then .aF else .tup ((s.aZ.set (s.ar.headD 1 - 1) (some 0)).map oD)
def Lo:DN:=fun ds Q=> ∃s:St,ds= [s.dt]/\lV s/\Q (tP s)
theorem FL(F:dM K "_law_end" "_law_end" Bo f fd)(T:Txt mg):aJ P w K mg base cX 1 f fd ["_law_stand"] (bP Lo):=by
 refine lL F Bg (fun ds Qd h=>?_) (fun ba A outer s H E hr=>⟨_,(ak (kW (dv 0) (kM 1 2 3 rfl Bg.nd))
 (ak (cZ (PW.pt (w_or (Na (dv 2) (bH T.len (aa (dv 3) ae))) (mJ (yH (bH T.len (aa (dv 1) ae)) au))))
 (aB (aD eG))
 bq)
 (aB (aD (gb (gb (lr (dv 3) eB (ez (fG (dz (dv 1) au) au))) (aM (aa au ae))) (lr (dv 3) (ez (dz (dv 1) au)) eB)))))),fun ds Qd h=>?_⟩)
 . obtain⟨s,rfl,_⟩:=h;rfl
 . obtain⟨s,rfl,fi,q⟩:=h;refine⟨_,rfl,_,_,_,rfl,⟨_,rfl,rfl⟩,⟨_,rfl,rfl⟩,⟨_,rfl,rfl⟩,_,rfl,_,rfl,_, .inr rfl,_,_,rfl,rfl,_,rfl,?_⟩;by_cases c1:s.b<=s.aZ.length
   . refine gU (ad6 (by rw[aa1];exact Int.ofNat_le.mpr c1)) (cS ?_);rw[tP,if_pos (.inl c1)] at q;exact q
   . refine fW (by rw[aa1];intro z;exact c1 (Int.ofNat_le.mp (ad7 z))) ⟨_,rfl,_, .inr rfl,_,rfl,_,rfl,?_⟩;by_cases c2:s.ar.length=1
     . refine fW (by rw[aa1,c2];decide) ?_;obtain⟨ar,b,aZ⟩:=s;obtain⟨p,rfl⟩: ∃p,ar= [p]:=by
        match ar,c2 with
        | [p],_=>exact⟨p,rfl⟩
       have hp:=fi.gu p (by simp);have hn:=fi.n;dsimp only at hp hn;have l1: ∀i:Option Int,(LD.cutD (aZ.map oD) none i).length<=aZ.length:=fun i=>by have:=nN (aZ.map oD) none i;rwa [aa1] at this
       have key:=jX (os:=aZ) (hi:=p) hp.1 hp.2 (i:=((p:Nat):Int) - 1) (j:=((p:Nat):Int)) (by omega) rfl (.int 0) (some 0) rfl;refine⟨_,rfl,_,rfl,_,_,_,.inr rfl,rfl,rfl,_,_,rfl,rfl,_,rfl,_,rfl,by show 1<=sizeLine;decide,_,_,rfl,rfl,small (by have:=l1 (some (((p:Nat):Int) - 1));simp only [ac7,ak0];omega),_,rfl,_,rfl,_,_,_,.inr rfl,rfl,rfl,_,rfl,_,rfl,_,_,rfl,rfl,?_,?_⟩
       . rw[<-aa9,key,aa1,ad0];exact small (by omega)
       . rw[key];rw[tP,if_neg (by intro z;rcases z with z | z;exact c1 z;exact z rfl)] at q;exact q
     . refine gU (by rw[aa1];simp;omega) ?_;rw[tP,if_pos (.inr c2)] at q;exact q
end
end aW
namespace aW
open PySem PySem.Spec L2 LB LW LD PyProof.Rows
section
variable{P:Program}{w:World}{K:PySem.W.Frag}{mg:Str->Option Value}{base:Heap}
theorem FH(F:dM K "_law_take" "_law_take" qt f fd)(T:Txt mg):aJ P w K mg base cX 1 f fd ["_law_state","_law_many"] Bb:=by
 refine F.ok fO (fun vs H Q E h=>?_) (fun ba A outer s H vs Q E hr h=>?_)
 . obtain⟨d,c,t,m,rfl,_⟩:=h;rfl
 . obtain⟨d,c,t,m,rfl,B,ht,QF,X7,q⟩:=h;have hu:=eC hr;have U4:=B.ne;have t0:=B.t0;obtain⟨ns,hc,Io,Vj⟩:=B.cs;refine⟨_,aT (cM (i:=2) fO.nd rfl (Or.inl rfl) (cN ng (jF hu (pv 0) eW (fun _ _=>rfl)) bU))
    (aT (xa hu (pv 0) eW (pv 2) rfl)
    (aT (cM (i:=3) fO.nd rfl (Or.inl rfl) (cN kB (pv 2) (fC j6 (by rfl) T.len PySem.boot_len (aj (jF hu (pv 0) eW (fun _ _=>rfl)) aE))))
    (aT (cM (i:=4) fO.nd rfl (Or.inl rfl) (BM qO (jF hu (pv 0) eW (fun _ _=>rfl)) (pv 3) (fun _ _=>rfl)))
    (aT (sJ (l7 NW (pv 4) (cN BS bU bU) (cQ _))
     (aT (qz (fC j7 (by rfl) T.VP rC (aj (pv 4) (aj (pv 1) aE))) (cn rfl (aA (J1 (jF hu (pv 0) eW (fun _ _=>rfl)) (pv 3) set_list) (aA (av (i:=5) fO.nd rfl (Or.inl rfl)) bw))))
      (cK (iZ (pv 5)))) jD)
    (aT (cM (i:=6) fO.nd rfl (Or.inl rfl) (cN kB (cN i3 (cN ng (cN ng (cN kB (pv 4) bU) (cN i3 (cN i3 (pv 2) (pv 2)) bU)) bU) bU) bU))
    (aT (cM (i:=6) fO.nd rfl (Or.inl rfl) (cN kB (cN i3 (pv 6) (pv 6)) bU))
    (cK (iZ (cN kB (cN FD (cN kB (cN i3 (cN ng (pv 6) (cN i3 (pv 2) bU)) bU) bU) bU) (pv 1)))))))))),?_⟩
   refine⟨_,rfl,d,_,rfl,by rw[<-Hb c t];exact lX.k (k:=Sum.inr "turn") B.dc,_,_,rfl,rfl,?_⟩;refine⟨_,rfl,_,rfl,d,_,rfl,n8.k (k:=Sum.inr "turn") B.dc (by show 2 < sizeLine;decide),?_⟩;rw[LR];have MG:(upd H d (.dK (bx c (t+1)))) d=some (.dK (bx c (t+1))):=ag;have K5:(upd H d (.dK (bx c (t+1)))) c=some (.lst (ns.map V.int)):=by rw[ah U4.symm];exact hc
   have gc:lX (upd H d (.dK (bx c (t+1)))) d (.str "cells") (some (.ref c)):=by rw[<-ua c (t+1)];exact lX.k (k:=Sum.inr "cells") MG
   have hl:(0:Int) < ((ns.map V.int).length:Int):=by rw[aa1];omega
   refine⟨_,rfl,_,rfl,d,_,rfl,gc,c,_,rfl,.inl (bS.of K5),_,_,rfl,rfl,hl,?_⟩;have OH:0<=(t+1) % ((ns.map V.int).length:Int):=Int.emod_nonneg _ (by omega);have Ik:(t+1) % ((ns.map V.int).length:Int) < ((ns.map V.int).length:Int):=ap6 _ hl;obtain⟨cell,ph⟩: ∃cell,(ns.map V.int)[((t+1) % ((ns.map V.int).length:Int)).toNat]?=some (V.int cell):=by
    have hpn:((t+1) % ((ns.map V.int).length:Int)).toNat < ns.length:=by rw[aa1] at OH Ik ⊢;omega
    exact⟨ns[((t+1) % ((ns.map V.int).length:Int)).toNat],by simp⟩
   refine⟨_,rfl,d,_,rfl,gc,_,rfl,c,_,_,_,rfl,rfl,bS.of K5,Hf OH ph,?_⟩;refine⟨_,rfl,_,_,rfl,rfl,(show Aq 10 18 from by unfold Aq;decide),_,_,rfl,rfl,_,rfl,?_⟩;refine Sz (fun _=>?_) (fun _=>?_)
   . refine⟨_,rfl,_,rfl,_,_,rfl,⟨QF,X7⟩,fun p hp=>?_⟩;have hd2:(upd (upd H d (.dK (bx c (t+1)))) p (.tup [.int (cell / m), .int (cell % m)])) d=some (.dK (bx c (t+1))):=by rw[ah (aq MG hp)];exact MG
     have QL:(upd (upd H d (.dK (bx c (t+1)))) p (.tup [.int (cell / m),.int (cell % m)])) c=some (.lst (ns.map V.int)):=by rw[ah (aq K5 hp)];exact K5
     refine⟨p,_,rfl,dB.of ag,rfl,_,_,rfl,?_⟩;refine⟨_,rfl,d,_,rfl,by rw[<-ua c (t+1)];exact lX.k (k:=Sum.inr "cells") hd2,_,rfl,c,_,_,_,rfl,rfl,QL,Gb OH Ik,?_⟩;refine⟨_,_,rfl,rfl,?_⟩;refine⟨_,rfl,?_⟩;refine q _ _ (Int.emod_nonneg _ (by omega)) (ap6 _ QF) ⟨by rw[ah U4];exact hd2,⟨ns.set ((t+1) % ((ns.map V.int).length:Int)).toNat (cell / m),?_,by rw[ad0];exact Io,by rw[ad0];exact Vj⟩,by omega,by omega⟩ fun b o e h1 h2=>?_
     . rw[ag,List.map_set]
     . have e1:(upd H d (.dK (bx c (t+1)))) b=some o:=by rw[ah h1];exact e
       rw[ah h2,ah (aq e1 hp)];exact e1
   . refine⟨_,rfl,_,_,rfl,rfl,(by show(0:Int) < 2147483549;decide),_,rfl,_,rfl,_,_,rfl,rfl, .inl ⟨by omega,by omega⟩,_,_,rfl,rfl, .inr ⟨by decide,by decide⟩,_,_,rfl,rfl,_,_,rfl,rfl,_,_,rfl,rfl, .inr ⟨by decide,by decide⟩,_,_,rfl,rfl,(by show(0:Int) < 2147483647;decide),?_⟩;generalize Vk:((cell % 2147483549+(t+1)*(t+1)*4441+23)*48271 % 2147483647:Int)=mx;have m0:0<=mx:=by rw[<-Vk];exact Int.emod_nonneg _ (by decide)
     have m1:mx < 2147483647:=by rw[<-Vk];exact ap6 _ (by decide)
     refine⟨_,rfl,_,rfl,_,_,rfl,rfl,.inl ⟨by omega,by omega⟩,_,_,rfl,rfl,(by show(0:Int) < 2147483399;decide),?_⟩;refine⟨_,rfl,_,rfl,_,_,rfl,rfl,.inr ⟨by decide,by decide⟩,_,_,rfl,rfl,_,_,rfl,rfl,.inr ⟨by decide,by decide⟩,_,_,rfl,rfl,(by show(0:Int) < 2147483549;decide),_,_,rfl,rfl,⟨by decide,by decide⟩,_,rfl,_,_,rfl,rfl,QF,?_⟩;refine q _ _ (Int.emod_nonneg _ (by omega)) (ap6 _ QF) ⟨MG,⟨ns,K5,Io,Vj⟩,by omega,by omega⟩ fun b o e h1 h2=>?_;rw[ah h1];exact e
theorem B9(F:dM K "_law_begin" "_law_begin" qv f fd)(T:Txt mg):aJ P w K mg base cX 1 f fd ["_law_script"] (qd K):=by
 refine F.ok mY (fun vs H Q E h=>?_) (fun ba A outer s H vs Q E hr h=>?_)
 . obtain⟨a,ns,rfl,_⟩:=h;rfl
 . obtain⟨a,ns,rfl,hS,hn,q⟩:=h;have hu:=eC hr;refine⟨_,aT (cM (i:=1) mY.nd rfl (Or.inl rfl) (fB j5 (by rfl) T.lst bD (aj (m9 wU (pv 0) xf (xc bU)) aE)))
    (aT (sJ (l7 (zb hr.p7) (pv 1) (qB aE) (cQ _)) (cK (cM (i:=1) mY.nd rfl (Or.inl rfl) (qB (aj bU aE)))) jD)
    (cK (iZ (Fy (sL eW (pv 1) (sL eW bU Fv)) rfl rfl (by simp) (by decide))))),?_⟩
   refine⟨_,rfl,_,rfl,a,_,rfl,hS,fun p hp=>?_⟩;have TV:lR (ns.map V.int) none (some 63)=ns.map V.int:=by
    unfold lR;rw[HT.gM,show((63:Int))=((63:Nat):Int) from rfl,HT.l6,am2,Nat.sub_zero,aa1];exact an8 (by rw[aa1];omega)
   rw[TV];refine⟨p,_,rfl,.inl (bS.of ag),fun l hl=>?_⟩;have s1:ax H (upd (upd H p (.lst (ns.map V.int))) l (.lst (ns.map V.int))):=fun b o e=>by
    have e1:(upd H p (.lst (ns.map V.int))) b=some o:=by rw[ah (aq e hp)];exact e
    rw[ah (aq e1 hl)];exact e1
   have S5:(upd (upd H p (.lst (ns.map V.int))) l (.lst (ns.map V.int))) l=some (.lst (ns.map V.int)):=ag;generalize upd (upd H p (.lst (ns.map V.int))) l (.lst (ns.map V.int))=H1 at s1 S5;refine⟨_,rfl,ag0 _,fun e0 Yn=>?_⟩;have s2:ax H1 (upd H1 e0 (.lst [])):=fun b o e=>by rw[ah (aq e Yn)];exact e
   refine⟨l,e0,_,rfl,rfl,bS.of (s2 _ _ S5),bS.of ag,_,rfl,?_⟩;have fin: ∀(g:Addr) (ms:List Int) (H2:Hp),ax H H2->H2 g=some (.lst (ms.map V.int))->0 < ms.length->ms.length<=63->HF [(tC (.str "cells"),iF 1),(tC (.str "turn"),tC (.int 0))] [some (.ref a),some (.ref g)] H2 Q:=fun g ms H2 s3 hg h1 h2=>by
    intro d hd;have nd:g≠d:=aq hg hd;refine⟨_,rfl,ag,[(Sum.inr "cells",.ref g),(Sum.inr "turn",.int 0)],rfl,by show 2<=15;decide,?_⟩;have em:i4 [] [((Sum.inr "cells":Key),V.ref g),(Sum.inr "turn",V.int 0)]=bx g 0:=by
     simp [i4,putK,bx,Sy]
    rw[em];refine q d g _ ⟨ag,⟨ms,by rw[ah nd,ah nd];exact hg,h1,h2⟩,ar3 _,by decide⟩ fun b o e=>?_;have e1:=s3 b o e;rw[ah (aq e1 hd),ah (aq e1 hd)];exact e1
   cases Il:ns with
   | nil=>
    refine cS ⟨by show 1<=sizeLine;decide,fun g hg=>?_⟩;refine fin g [17] _ (fun b o e=>?_) ag (by decide) (by decide);have e1:=s2 _ _ (s1 b o e);rw[ah (aq e1 hg)];exact e1
   | cons n0 nr=>
    refine bN ?_;exact fin l ns _ (fun b o e=>s2 _ _ (s1 b o e)) (s2 _ _ S5) (by rw[Il];simp) hn
theorem BY(F:dM K "_law_take" "_law_take" qt f fd)(T:Txt mg):aJ P w K mg base cX 1 f fd ["_law_state","_law_many"] (sr oW):=(FH F T).imp fun _ _ _ _ h=>EO h
end
end aW
namespace L2
open PySem PySem.Spec PyProof.Rows
open AutoSeq1 (wpAny_loadPart')
theorem zY(t:Addr):Meets (Builtin.«enumerate.__new__» ⟨[.type "enumerate",.ref t],[]⟩) (zW t 0):=
 .of_wp fun prog w A R s ⟨⟨items,hT⟩,h⟩=>by
  obtain⟨hp,g,d,tk,os⟩:=s;have Cw:=sub_enumerate;obtain⟨⟨c,QT,dt,sl⟩,hl,hc,n,hd⟩:=id hT;replace hc:c= .type "list":=hc
  replace hd:dt= .seq items n:=hd
  subst hc hd;wp_walk using ae3 hl
  refine wpAny_stack_any fun st=>aa7 ?_;split
  . rename_i c _ _ _ _ _;cases (c==Value.type "enumerate") <;> (wp_walk using ae3 hl,aj8 hT;exact⟨_,rfl,h⟩)
  . wp_walk using ae3 hl,aj8 hT
    exact⟨_,rfl,h⟩
section
variable{X:Cx}{pos:Pos}
def KN(K:PySem.W.Frag)(k:Nat)(ta:TA):TI:=fun σ H R=>ta σ H fun vs H1=> ∃a,vs= [.ref a]/\(∃xs,bS K H1 a xs)/\R (D7 K a k) H1
theorem yW{x1}(hg:Gl X "enumerate")(hm:X.mg "enumerate"=none)(ha:PA X [e] t)(hs:starEach [e] X.env= [(false,eval e X.env)]:=by rfl):
  PI X (.Tuple es x1 tp) (.Call (.Name "enumerate" p) [e] [] pos) (KN X.K 0 t):=by
 intro pins s σ H R I h;refine Call_ (cA I hg hm boot_enumerate (ag3 (aN (ha pos pins s σ H _ I h) fun us s1 eS=>?_) hs rfl));obtain⟨vs,H1,I1,r1,q1⟩:=eS;obtain⟨p,rfl,⟨xs,hq⟩,q⟩:=q1;obtain⟨u,rfl,ru⟩:=vals1 r1;cases ru;obtain⟨ao,rv,pt,hz⟩:=I1.list hq;exact j8 F.called_enumerate (by decide) (F.typeCall_enumerate_1 _) (F.newCall_enumerate_1 _) (fun obj=>F.args_object_init_2 obj _) F.entry_enumerate_new (zY p) ⟨⟨_,pt.isList⟩,⟨_,ab6 _ rfl,rfl⟩,qX (k:=0) I1 q⟩
end
end L2
namespace LD
open PySem PySem.Spec L2 LB PyProof.Rows
section
variable{X:Cx}{tg e a b:Expr}{ta t:bh}{tA:eZ}{p pos:Pos}
def G7(t:eZ):oO:=fun δ Q=>t δ fun es δ'=> ∃ds,es= [.lst ds]/\Q (aL 0 ds) δ'
theorem tu{x1}(hm:X.mg "enumerate"=none)(ha:Av X [e] tA)(hg:Gl X "enumerate":=by rfl)(hs:starEach [e] X.env= [(false,eval e X.env)]:=by rfl):Iv X (.Tuple es x1 tp) (.Call (.Name "enumerate" p) [e] [] pos) (G7 tA):=PI.imp (yW hg hm ha hs) fun σ H R gr=>(by obtain⟨W,M,α,δ,Qd,E,q,k⟩:=gr;exact(
 ⟨W,M,α,δ,_,E,q,fun es δ' H' vs iC E1 c1 r1=>(by obtain⟨ds,e,q1⟩:=iC;exact(by
  subst e;obtain⟨x,ys,rfl,r2,r3⟩:=r1.aG;cases r3.cC;obtain⟨a,xs,rfl,ha,n,rr⟩:=r2.bV;exact⟨a,rfl,⟨xs,bS.of ha⟩,k _ _ _ _ q1 E1 c1 (AK ha n rr)⟩))⟩))
end
end LD
namespace aW
open PySem PySem.Spec L2 LB LD PyProof.Rows
noncomputable def mh(s:St)(w:Str):Bool:=(a8 s && ("read":Str)==w) || (aQ s && ("next":Str)==w) || (aP s && ("under":Str)==w)
noncomputable def iG(s:St)(w:Str):St:=if ("read":Str)=w then s.read else if ("next":Str)=w then s.next else s.under
theorem nC:inD (.str w) (cc s)=mh s w:=by
 unfold cc mh inD;cases a8 s <;> cases aQ s <;> cases aP s <;> simp [C4,Bool.or_assoc]
structure Good(n m:Nat)(s:St):Prop where
 l:s.aZ.length=n
 p:s.ar.length<=m
 b:1<=s.b
 gu: ∀w∈s.ar,1<=w/\w<=n
theorem vL(n:Nat):Good n 0 (first n):=⟨ah3,ab2 _,ab2 _,fun w hw=>absurd hw aa4⟩
theorem Good.vO(g:Good n m s)(gm:n<=12)(Xw:m<=100):lV s:=⟨by rw[g.l];lia,by have:=g.p;lia,fun w hw=>by rw[g.l];exact g.gu w hw⟩
theorem tD(g:Good n m s)(on:Nat):Good n (m+1) (s.mS on):=⟨by show(s.aZ.set _ _).length=n;rw[ad0,g.l],by show s.ar.dropLast.length<=_;rw[ao8];have:=g.p;lia,g.b,fun w hw=>g.gu w ((List.dropLast_sublist _).subset hw)⟩
theorem cO(h:mh s w=true):(w="read"/\a8 s=true/\iG s w=s.read)\/(w="next"/\aQ s=true/\iG s w=s.next)\/(w="under"/\aP s=true/\iG s w=s.under):=by
 unfold mh at h;rw[Bool.or_eq_true,Bool.or_eq_true,af8,af8,af8,aq0,aq0,aq0] at h;unfold iG;rcases h with (⟨h,e⟩ | ⟨h,e⟩) | ⟨h,e⟩
 . subst e;exact .inl ⟨rfl,h,if_pos rfl⟩
 . subst e;exact .inr (.inl ⟨rfl,h,by rw[if_neg (by decide),if_pos rfl]⟩)
 . subst e;exact .inr (.inr ⟨rfl,h,by rw[if_neg (by decide),if_neg (by decide)]⟩)
theorem zL(g:Good n m s)(h:mh s w=true):Good n (m+1) (iG s w):=by
 rcases cO h with ⟨_,c,e⟩ | ⟨_,c,e⟩ | ⟨_,c,e⟩
 . rw[e];have c':s.b<=s.aZ.length:=ad7 c;refine⟨g.l,by show(s.ar++ [s.b]).length<=_;rw[aa9];have:=g.p;show s.ar.length+1<=_;lia,by show 1<=s.b+1;lia,fun w hw=>?_⟩;rcases ae1.mp hw with h | h
   . exact g.gu w h
   . cases aa6.mp h;exact⟨g.b,by rw[<-g.l];exact c'⟩
 . rw[e];exact tD g _
 . rw[e];exact tD g _
theorem cD(f:lV s)(h:mh s w=true)(q:Q (iG s w).dt):bE [s.dt,.str w] Q:=by
 refine⟨s,w,rfl,f,?_⟩;rcases cO h with ⟨e,c,z⟩ | ⟨e,c,z⟩ | ⟨e,c,z⟩
 . rw[z] at q;exact .inl ⟨e,q⟩
 . rw[z] at q;refine .inr (.inl ⟨e,fun y=>?_,q⟩);unfold aQ at c;rw[y] at c;simp at c
 . rw[z] at q;exact .inr (.inr ⟨e,ad7 c,q⟩)
theorem nu:(cc s).all cw=true:=by
 unfold cc;cases a8 s <;> cases aQ s <;> cases aP s <;> rfl
theorem kN{n:Nat}:Dt.tup [.tup [],.int 1,.tup (List.replicate ((n:Int)).toNat [Dt.aF]).flatten]=(first n).dt:=by
 show _=Dt.tup [.tup [],.int 1,.tup ((List.replicate n none).map oD)];rw[IE,List.map_replicate,ah5];rfl
theorem Pd:eq2 (nI x) (nI y)=some (decide (x=y)):=by
 show some (decide ((x:Int)=(y:Int)))=_;exact ag1 some (decide_eq_decide.mpr ⟨fun h=>by lia,fun h=>by rw[h]⟩)
theorem He{ds:List Dt}{t:Nat}(h1:1<=t)(h:ds[t - 1]?=some d):jd ds ((t:Int) - 1)=some d:=by
 rw[show((t:Int) - 1)=((t - 1:Nat):Int) by lia];exact bc h
noncomputable def M8(hs:List Nat):Dt:= .tup (hs.map nI)
noncomputable def vm(s:St):List Str:=(if a8 s then [("read":Str)] else [])++(if aQ s then [("next":Str)] else [])++(if aP s then [("under":Str)] else [])
theorem Od:cc s=(vm s).map .str:=by
 unfold cc vm;rw[ab8,ab8];congr 1
 . congr 1 <;> split <;> rfl
 . split <;> rfl
theorem F3(h:w∈vm s):mh s w=true:=by
 rw[<-nC,Od];unfold inD;exact List.any_eq_true.mpr ⟨_,List.mem_map_of_mem h,by show decide (w=w)=true;exact ad6 rfl⟩
theorem xv:(cc s).length<=3:=by
 unfold cc;cases a8 s <;> cases aQ s <;> cases aP s <;> simp
structure Wk(n m:Nat)(s:St):Prop where
 g:Good n m s
 bl:s.b<=n+1
 nd:s.ar.Nodup
 lt: ∀w∈s.ar,w < s.b
 un: ∀w,1<=w->w<=n->(s.aZ[w - 1]?=some none↔w∈s.ar\/s.b<=w)
theorem AS(n:Nat):Wk n 0 (first n):=by
 refine⟨vL n,by show 1<=n+1;lia,ai6,fun w hw=>absurd hw aa4,fun w h1 h2=>⟨fun _=> .inr h1,fun _=>?_⟩⟩;show(List.replicate n none)[w - 1]?=some none;rw[ac1,if_pos (by lia)]
theorem AR(k:Wk n m s)(g:Good n (m+1) (s.mS on))(ne:s.ar≠ []):Wk n (m+1) (s.mS on):=by
 obtain⟨q,h,e⟩: ∃q h,s.ar=q++ [h]:=⟨s.ar.dropLast,s.ar.getLast ne,(ai2 ne).symm⟩
 have hl:s.ar.getLastD 1=h:=by rw[e];simp
 have hd:s.ar.dropLast=q:=by rw[e];simp
 have nd:=k.nd;have lt:=k.lt;have rg:=k.g.gu;rw[e] at nd lt rg;have hq:h∉q:=fun z=>by
  have:=ai0.mp nd;exact this.2.2 h z h ab3 rfl
 have hb:h < s.b:=lt h (by simp);have h1:1<=h/\h<=n:=rg h (by simp);refine⟨g,k.bl,?_,fun w hw=>?_,fun w w1 w2=>?_⟩
 . show s.ar.dropLast.Nodup;rw[hd];exact(ai0.mp nd).1
 . have hw:w∈s.ar.dropLast:=hw;rw[hd] at hw;exact lt w (ae2 _ hw)
 . show(s.aZ.set (s.ar.getLastD 1 - 1) (some on))[w - 1]?=some none↔w∈s.ar.dropLast\/s.b<=w;rw[hl,hd];have hu:=k.un w w1 w2;rw[e] at hu;have lo:=k.g.l;by_cases c:w=h
   . subst c;rw[ab9 (by lia)];exact⟨fun z=>(by cases z),fun z=>z.elim (fun y=>absurd y hq) fun y=>by lia⟩
   . rw[ab1 (by lia),hu,ae1,aa6];exact⟨fun z=>z.elim (fun y=>y.elim .inl fun x=>absurd x c) .inr,fun z=>z.elim (fun y=> .inl (.inl y)) .inr⟩
theorem EH(k:Wk n m s)(h:mh s w=true):Wk n (m+1) (iG s w):=by
 have g:=zL k.g h;rcases cO h with ⟨_,c,e⟩ | ⟨_,c,e⟩ | ⟨_,c,e⟩
 . rw[e] at g ⊢;have c':s.b<=s.aZ.length:=ad7 c;have lo:=k.g.l;refine⟨g,by show s.b+1<=n+1;lia,?_,fun w hw=>?_,fun w w1 w2=>?_⟩
   . show(s.ar++ [s.b]).Nodup;refine ai0.mpr ⟨k.nd,ak5.mpr ⟨aa4,ai6⟩,fun a ha b hb z=>?_⟩;have:=k.lt a ha;rw[aa6.mp hb] at z;lia
   . rcases ae1.mp (show w∈s.ar++ [s.b] from hw) with z | z
     . exact aq4 (k.lt w z)
     . rw[aa6.mp z];exact Nat.lt_succ_self _
   . show s.aZ[w - 1]?=some none↔w∈s.ar++ [s.b]\/s.b+1<=w;rw[k.un w w1 w2,ae1,aa6];constructor
     . rintro(z | z)
       . exact .inl (.inl z)
       . by_cases c:w=s.b
         . exact .inl (.inr c)
         . exact .inr (by lia)
     . rintro((z | z) | z)
       . exact .inl z
       . exact .inr (by lia)
       . exact .inr (by lia)
 . rw[e] at g ⊢;refine AR k g fun z=>?_;unfold aQ at c;rw[z] at c;simp at c
 . rw[e] at g ⊢;refine AR k g fun z=>?_;have c:1 < s.ar.length:=ad7 c;rw[z] at c;exact absurd c (by simp)
structure Lv(n m:Nat)(s:St):Prop where
 k:Wk n m s
 c:m+s.ar.length+2=2*s.b
 p: ∀(i:Nat) x,s.aZ[i]?=some (some x)->1<=x
theorem Cj(n:Nat):Lv n 0 (first n):=⟨AS n,rfl,fun i x h=>by
 have h:(List.replicate n (none:Option Nat))[i]?=some (some x):=h;rw[ac1] at h;split at h <;> cases h⟩
theorem mj(l:Lv n m s)(o:mh s w=true):Lv n (m+1) (iG s w):=by
 refine⟨EH l.k o,?_,?_⟩
 . have b1:=l.k.g.b;have c:=l.c;rcases cO o with ⟨rfl,c',e⟩ | ⟨rfl,c',e⟩ | ⟨rfl,c',e⟩ <;> rw[e]
   . show m+1+(s.ar++ [s.b]).length+2=2*(s.b+1);rw[aa9];show m+1+(s.ar.length+1)+2=2*(s.b+1);lia
   all_goals
    have np:1<=s.ar.length:=by
     first
      | (unfold aQ at c';rw[af8] at c';cases q:s.ar with | nil=>rw[q] at c';cases c'.2 | cons a b=>simp)
      | (unfold aP at c';have:=ad7 c';lia)
    show m+1+s.ar.dropLast.length+2=2*s.b;rw[ao8];lia
 . rcases cO o with ⟨rfl,c',e⟩ | ⟨rfl,c',e⟩ | ⟨rfl,c',e⟩ <;> rw[e]
   . exact l.p
   . intro i x h;have h:(s.aZ.set (s.ar.getLastD 1 - 1) (some s.b))[i]?=some (some x):=h;rw[List.getElem?_set] at h;split at h
     . split at h
       . cases h;exact l.k.g.b
       . cases h
     . exact l.p i x h
   . intro i x h;have h:(s.aZ.set (s.ar.getLastD 1 - 1) (some (s.ar.dropLast.getLastD 1)))[i]?=some (some x):=h;rw[List.getElem?_set] at h;split at h
     . split at h
       . cases h;have l2:2<=s.ar.length:=by unfold aP at c';exact ad7 c'
         have np:s.ar.dropLast≠ []:=fun z=>by have:=ag1 List.length z;rw[ao8,ak0] at this;lia
         exact(l.k.g.gu _ ((List.dropLast_sublist _).subset (gZ np))).1
       . cases h
     . exact l.p i x h
theorem F6(l:Lv n m s)(n1:1<=n):(s.b=n+1/\s.ar.length=1)↔m=2*n - 1:=by
 have c:=l.c;have bl:=l.k.bl;constructor
 . rintro⟨h1,h2⟩;lia
 . intro h;constructor <;> lia
noncomputable def dF(s:St):Bool:=!(decide (s.b<=s.aZ.length) || decide (s.ar.length≠1))
noncomputable def i8(s:St):List Nat:=(s.aZ.set (s.ar.headD 1 - 1) (some 0)).map (·.getD 0)
theorem nv(l:Lv n m s)(n1:1<=n):dF s=decide (m=2*n - 1):=by
 have:=F6 l n1;have ol:=l.k.g.l;have bl:=l.k.bl;unfold dF;rw[ol,ak6,ar1,ap0,al0,al0,ap4,<-this];constructor
 . rintro⟨h1,h2⟩;exact⟨by lia,by lia⟩
 . rintro⟨h1,h2⟩;exact⟨by lia,fun z=>z h2⟩
theorem Dc(h:dF s=false):tP s= .aF:=by
 unfold dF at h;unfold tP;rw[if_pos];simp only [Bool.not_eq_false',Bool.or_eq_true,decide_eq_true_eq] at h;exact h
theorem xO(l:Lv n m s)(h:dF s=true):tP s=M8 (i8 s):=by
 unfold dF at h;simp only [ar1,ap0,al0] at h;unfold tP;rw[if_neg (by rintro(z | z);exact h.1 z;exact h.2 z)];unfold M8 i8;rw[ad8];congr 1
 refine ac8 fun o ho=>?_;obtain⟨i,hi,e⟩:=ah8 ho;cases o with
 | some x=>rfl
 | none=>
  exfalso;have e':(s.aZ.set (s.ar.headD 1 - 1) (some 0))[i]?=some none:=by rw[aa2 hi,e]
  have Eu:i < s.aZ.length:=by rw[ad0] at hi;exact hi
  rw[List.getElem?_set] at e';split at e'
  . split at e' <;> cases e'
  . rename_i ne;have ol:=l.k.g.l;have un:=(l.k.un (i+1) (by lia) (by lia)).mp (by rw[Nat.add_sub_cancel];exact e');rcases un with z | z
    . have l1 : s.ar.length = 1 := by
        have:=h.2;exact Classical.not_not.mp this
      match hp:s.ar,l1 with
      | [a],_=>
       rw[hp] at z ne;have:i+1=a:=aa6.mp z;exact ne (by show a - 1=i;lia)
    . exact h.1 (by lia)
inductive Rc(n:Nat):Nat->St->Prop
 | zero:Rc n 0 (first n)
 | step {m:Nat} {s:St} {w:Str}:Rc n m s->mh s w=true->Rc n (m+1) (iG s w)
theorem Rc.lv(h:Rc n m s):Lv n m s:=by
 induction h with
 | zero=>exact Cj n
 | step _ o ih=>exact mj ih o
theorem F4(h:dF s=true):vm s= []:=by
 unfold dF at h;rw[ar1,ap0] at h;obtain⟨h1,h2⟩:=h;have h1:=of_decide_eq_false h1;have h2:s.ar.length=1:=Decidable.not_not.mp (of_decide_eq_false h2);have r:a8 s=false:=ae5 h1;have nx:aQ s=false:=by unfold aQ;rw[r];rfl
 have u:aP s=false:=ae5 (by lia);unfold vm;rw[r,nx,u];rfl
theorem F2:w∈vm s↔mh s w=true:=by
 refine⟨F3,fun h=>?_⟩;unfold vm;rcases cO h with ⟨rfl,c,_⟩ | ⟨rfl,c,_⟩ | ⟨rfl,c,_⟩ <;> simp [c]
theorem Rc.le(n1:1<=n)(h:Rc n m s):m<=2*n - 1:=by
 cases h with
 | zero=>lia
 | step h o=>
  rename_i m s w;have l:=h.lv;have c:=l.c;have bl:=l.k.bl;by_cases z:m=2*n - 1
  . have:=nv l n1;rw[ad6 z] at this;have m0:=F2.mpr o;rw[F4 this] at m0;exact absurd m0 aa4
  . have l2:=(mj l o).c;have b2:=(mj l o).k.bl;have ie:=nv (mj l o) n1;lia
theorem Rc.up(h:Rc n m s):s.ar.Pairwise (· < ·):=by
 induction h with
 | zero=>exact List.Pairwise.nil
 | step h o ih=>
  rename_i m s w;have lt:=h.lv.k.lt;have mS: ∀on,(s.mS on).ar.Pairwise (· < ·):=fun on=>ih.sublist (List.dropLast_sublist _);rcases cO o with ⟨rfl,c',e⟩ | ⟨rfl,c',e⟩ | ⟨rfl,c',e⟩ <;> rw[e]
  . refine List.pairwise_append.mpr ⟨ih,List.pairwise_singleton _ _,fun a ha b hb=>?_⟩;rw[aa6.mp hb];exact lt a ha
  . exact mS _
  . exact mS _
noncomputable def eh(p:List Nat)(i:Nat):Nat:=((0::p).filter fun x=>decide (x < i)).getLastD 0
noncomputable def cJ(s:St)(i:Nat):List Nat:=match s.aZ.getD (i - 1) none with
 | some x=> [x]
 | none=>if i∈s.ar then eh s.ar i::List.range' s.b (s.aZ.length+1 - s.b) else(0::s.ar)++(List.range' s.b (s.aZ.length+1 - s.b)).filter fun x=>decide (x≠i)
noncomputable def rows(s:St):List (List Nat):=(List.range' 1 s.aZ.length).map (cJ s)
noncomputable def fits:List Nat->List (List Nat)->Bool
 | x::h,r::R=>decide (x∈r) && fits h R
 | _,_=>true
end aW
namespace aW
open PySem PySem.Spec L2 LB LD PyProof.Rows ly
inductive Lw:List Nat->Nat->List (Option Nat)->Prop
 | nil:Lw [] 1 []
 | snoc {q:List Nat} {l p m:Nat} {o:List (Option Nat)} {x y:List Nat}:Lw q l o->l<=p->x∈Fo l (p - l) p->y∈Fo (p+1) m p->Lw (q++ [p]) (p+1+m) (o++x.map some++none::y.map some)
theorem Bc{p p':Nat}(h:q++ [p]=q'++ [p']):q=q'/\p=p':=by
 have:=List.append_inj' h rfl;exact⟨this.1,by simpa using this.2⟩
theorem Lw.inv(h:Lw (q++ [p]) l o): ∃l0 m o0 x y,Lw q l0 o0/\l0<=p/\x∈Fo l0 (p - l0) p/\y∈Fo (p+1) m p/\l=p+1+m/\o=o0++x.map some++none::y.map some:=by
 generalize e:q++ [p]=ps at h;cases h with
 | nil=>have:=ag1 List.length e;rw[aa9] at this;simp at this
 | snoc h1 h2 h3 h4=>
  obtain⟨rfl,rfl⟩:=Bc e;exact⟨_,_,_,_,_,h1,h2,h3,h4,rfl,rfl⟩
theorem Lw.pos(h:Lw q l o):o.length+1=l:=by
 induction h with
 | nil=>rfl
 | snoc h1 h2 h3 h4 ih=>
  have l3:=(kH _).1 _ _ _ h3;have l4:=(kH _).1 _ _ _ h4;rw[aa9,aa9,ac7,aa1,aa1,l3,l4];lia
theorem qi{α:Type}{a b:List α}{x y:α}{k:Nat}(h:k=a.length):(a++x::b).set k y=a++y::b:=by
 subst h;rw[List.set_append_right _ _ (ab2 _),am4];rfl
structure Z6(n:Nat)(s:St):Prop where
 ex: ∃l o r,Lw s.ar l o/\l<=s.b/\s.b<=n+1/\r∈Fo l (s.b - l) s.b/\s.aZ=o++r.map some++List.replicate (n+1 - s.b) none/\(s.b<=n\/r= [])
theorem Rc.lw(h:Rc n m s):Z6 n s:=by
 induction h with
 | zero=>exact⟨1,[],[],.nil,ab2 _,by show 1<=n+1;lia,dh.mpr rfl,rfl,.inr rfl⟩
 | step h o ih=>
  rename_i m s w;obtain⟨l,o0,r,h1,h2,qS,h3,h4,h5⟩:=ih;have ln:=h.lv.k.g.l;have mS: ∀{q:List Nat} {p on:Nat},s.ar=q++ [p]->s.mS on=⟨q,s.b,s.aZ.set (p - 1) (some on)⟩:=fun{q p on} e=>by
   unfold St.mS;rw[e,ao9,show(q++ [p]).getLastD 1=p by simp]
  have np: ∀{k:Nat},k < s.ar.length-> ∃q p,s.ar=q++ [p]:=fun{k} z=>⟨s.ar.dropLast,s.ar.getLast (by intro y;rw[y] at z;simp at z),(ai2 _).symm⟩
  rcases cO o with ⟨rfl,c,e⟩ | ⟨rfl,c,e⟩ | ⟨rfl,c,e⟩ <;> rw[e]
  . have c:s.b<=s.aZ.length:=ad7 c;rw[ln] at c;refine⟨s.b+1+0,o0++r.map some++none:: [].map some,[], .snoc h1 h2 h3 (dh.mpr rfl),ab2 _,by show s.b+1<=n+1;lia,?_,?_, .inr rfl⟩
    . show []∈Fo (s.b+1+0) (s.b+1 - (s.b+1+0)) (s.b+1);rw[am4 (s.b+1)];exact dh.mpr rfl
    . show s.aZ=_++List.replicate (n+1 - (s.b+1)) none;rw[h4,show n+1 - s.b=n+1 - (s.b+1)+1 by lia,ag5];simp
  . unfold aQ at c;rw[af8] at c;have cb:s.b<=s.aZ.length:=ad7 c.1;rw[ln] at cb;have c2:s.ar≠ []:=fun z=>by rw[z] at c;simp at c
    obtain⟨q,p,ep⟩:=np (k:=0) (al2.mpr c2);rw[ep] at h1;obtain⟨l0,m0,o1,x,y,g1,g2,g3,g4,rfl,rfl⟩:=h1.inv;have lo:=g1.pos;have l3:=(kH _).1 _ _ _ g3;unfold St.next;rw[mS ep];refine⟨l0,o1,(x++s.b::y)++r,g1,by show l0<=s.b;lia,qS,?_,?_,.inl cb⟩
    . show _∈Fo l0 (s.b - l0) s.b;refine(fU (by lia)).mpr ⟨p - l0+m0,x++s.b::y,r,by lia,fT.mpr ⟨p - l0,x,y,by lia,?_,?_,rfl⟩,?_,rfl⟩
      . rw[show l0+(p - l0)=p by lia];exact g3
      . rw[show l0+(p - l0)=p by lia,show p - l0+m0+1 - (p - l0+1)=m0 by lia];exact g4
      . rw[show l0+(p - l0+m0)+1=p+1+m0 by lia,show s.b - l0 - (p - l0+m0+1)=s.b - (p+1+m0) by lia];exact h3
    . show s.aZ.set (p - 1) (some s.b)=_++List.replicate (n+1 - s.b) none;rw[h4,af3,af3,ao7,qi (by rw[aa9,aa1,l3];lia)];simp
  . have c:1 < s.ar.length:=ad7 c;obtain⟨q',p,ep⟩:=np c;have l2:0 < q'.length:=by rw[ep,aa9] at c;simpa using c
    obtain⟨q,u,eq⟩: ∃q u,q'=q++ [u]:=⟨q'.dropLast,q'.getLast (al2.mp l2),(ai2 _).symm⟩
    have eu:s.ar.dropLast.getLastD 1=u:=by rw[ep,ao9,eq];simp
    subst eq;rw[ep] at h1;obtain⟨l1,m1,o1,x,y,g1,g2,g3,g4,rfl,rfl⟩:=h1.inv;obtain⟨l0,m0,o2,x0,y0,k1,k2,k3,k4,rfl,rfl⟩:=g1.inv;have lo:=g1.pos;have l3:=(kH _).1 _ _ _ g3;unfold St.under;rw[mS ep,eu];have pt:p=u+1+(p - (u+1)):=by lia
    refine⟨u+1+(m0+(p - (u+1+m0)+1+m1)),o2++x0.map some++none::(y0++(x++u::y)).map some,r,.snoc k1 k2 k3 (xr m0 _ _ _ y0 (x++u::y) (by lia) k4 (fT.mpr ⟨p - (u+1+m0),x,y,by lia,?_,?_,rfl⟩)),by show _<=s.b;lia,qS,?_,?_,h5⟩
    . rw[show u+1+m0+(p - (u+1+m0))=p by lia];exact g3
    . rw[show u+1+m0+(p - (u+1+m0))=p by lia,show m0+(p - (u+1+m0)+1+m1) - m0 - (p - (u+1+m0)+1)=m1 by lia];exact g4
    . show r∈Fo _ (s.b - _) s.b;rw[show u+1+(m0+(p - (u+1+m0)+1+m1))=p+1+m1 by lia];exact h3
    . show s.aZ.set (p - 1) (some u)=_++List.replicate (n+1 - s.b) none;rw[h4,af3,af3,ao7,qi (by rw[aa9,aa1,l3];lia)];simp
theorem Lw.Sq(h:Lw [] l o):l=1/\o= []:=by
 generalize e:([]:List Nat)=ps at h;cases h with
 | nil=>exact⟨rfl,rfl⟩
 | snoc h1 h2 h3 h4=>have:=ag1 List.length e;rw[aa9] at this;simp at this
theorem Dd(r:Rc n m s)(e:dF s=true):s.b=n+1/\ ∃p,s.ar= [p]/\1<=p/\p<=n:=by
 have ln:=r.lv.k.g.l;have bl:=r.lv.k.bl;unfold dF at e;rw[ar1,ap0,al0,al0,Decidable.not_not,ln] at e;obtain⟨p,ep⟩:=List.length_eq_one_iff.mp e.2;have:=r.lv.k.g.gu p (by rw[ep];exact ab3);exact⟨by lia,p,ep,this⟩
theorem tN(r:Rc n m s)(e:dF s=true):i8 s∈gg n:=by
 obtain⟨eb,p,ep,p1,pn⟩:=Dd r e;obtain⟨l,o,rr,h1,h2,qS,h3,h4,h5⟩:=r.lw;rw[ep] at h1;obtain⟨l0,m0,o1,x,y,g1,g2,g3,g4,rfl,rfl⟩:=Lw.inv (q:= []) h1;obtain⟨rfl,rfl⟩:=g1.Sq;have e5:rr= []:=h5.elim (fun z=>by lia) id;subst e5;have l3:=(kH _).1 _ _ _ g3;have l4:=(kH _).1 _ _ _ h3;have:p+1+m0=n+1:=by rw[eb] at l4 h2;simp at l4;lia
 have en:i8 s=x++0::y:=by
  unfold i8;rw[ep,h4,eb,am4];show((([]++x.map some++none::y.map some)++ [].map some++List.replicate 0 none).set (p - 1) (some 0)).map (fun(z:Option Nat)=>z.getD 0)=_;rw[List.nil_append,List.map_nil,af0,List.replicate_zero,af0,qi (by rw[aa1,l3])];simp [Function.comp_def]
 rw[en];refine Ci.mpr (fT.mpr ⟨p - 1,x,y,by lia,?_,?_,rfl⟩)
 . rw[show 1+(p - 1)=p by lia];exact g3
 . rw[show 1+(p - 1)=p by lia,show n - (p - 1+1)=m0 by lia];exact g4
theorem DP(n1:1<=n)(r:Rc n m s)(e:dF s=false):cc s≠ []:=by
 have ln:=r.lv.k.g.l;have bl:=r.lv.k.bl;have c:=r.lv.c;have le:=r.le n1;have ie:=nv r.lv n1;rw[e] at ie;have ie: ¬m=2*n - 1:=of_decide_eq_false ie.symm;unfold cc;by_cases cr:s.b<=n
 . rw[show a8 s=true from ad6 (by rw[ln];exact cr)];intro z;cases z
 . rw[show aP s=true from ad6 (by lia)];intro z;have:=ag1 List.length z;simp at this
end aW
namespace aW
open PySem PySem.Spec L2 LB LD PyProof.Rows
theorem R8(n:Nat):(List.range n).map (fun j=>Dt.int (1+(j:Nat)))=(List.range' 1 n).map nI:=by
 rw[an0,ad8];refine ac8 fun j _=>?_;show Dt.int (1+(j:Int))=Dt.int ((1+j:Nat):Int);rw[show(1+(j:Int))=((1+j:Nat):Int) by lia]
noncomputable def lsN(r:List Nat):Dt:= .lst (r.map nI)
noncomputable def LV(s:St):List Nat:=List.range' s.b (s.aZ.length+1 - s.b)
theorem R9(b n:Nat):(List.range n).map (fun k=>Dt.int ((b:Int)+(k:Nat)))=(List.range' b n).map nI:=by
 rw[an0,ad8];refine ac8 fun j _=>?_;show Dt.int _=Dt.int _;congr 1
theorem tH: ∀{L:List Nat} {k i:Nat},L.Pairwise (· < ·)->L[k]?=some i->L.filter (fun x=>decide (x < i))=L.take k
 | [],k,i,_,h=>by simp at h
 | a::L,0,i,p,h=>by
  cases h;rw[List.filter_cons_of_neg (by simp)];exact List.filter_eq_nil_iff.mpr fun x hx=>by have:=(ap5.mp p).1 x hx;simp;lia
 | a::L,k+1,i,p,h=>by
  have h:L[k]?=some i:=by simpa using h
  have ai:=(ap5.mp p).1 i (ad2 h);rw[List.filter_cons_of_pos (by simpa using ai),tH (ap5.mp p).2 h];rfl
theorem Ft{p:List Nat}{j i:Nat}(up:p.Pairwise (· < ·))(p1: ∀x∈p,1<=x)(h:p[j]?=some i):(0::p)[j]?=some (eh p i):=by
 have u0:(0::p).Pairwise (· < ·):=ap5.mpr ⟨fun x hx=>p1 x hx,up⟩;have hj:j < p.length:=(aa5.mp h).1;unfold eh;rw[tH u0 (show(0::p)[j+1]?=some i by simpa using h),ak2,List.getLast?_take,aa2 (show j < (0::p).length by rw[ac7];lia)];simp
 rw[aa2 (show j < (0::p).length by rw[ac7];lia)];rfl
theorem Ep{p:List Nat}:inD (nI i) (p.map nI)=decide (i∈p):=by
 unfold inD;rw[List.any_map,ak6,List.any_eq_true,ap4];constructor
 . rintro⟨x,hx,e⟩
   have e:((x:Int)==(i:Int))=true:=e;have:=eq_of_beq e;rw[show i=x by lia];exact hx
 . intro h;exact⟨i,h,aj0 (i:Int)⟩
theorem VH(p:List Nat):(p.map nI).all cw=true:=ah2.mpr fun d hd=>by obtain⟨x,_,rfl⟩:=ab7.mp hd;rfl
noncomputable def U2(i:Nat):Dt->Bool
 | .int x=>!decide (x=(i:Int))
 | _=>false
theorem F0{L:List Nat}:(L.map nI).filter (U2 i)=(L.filter fun x=>decide (x≠i)).map nI:=by
 rw[List.filter_map];congr 1
 refine List.filter_congr fun x _=>?_;show(!decide ((x:Int)=(i:Int)))=decide (x≠i);by_cases c:x=i
 . rw[ad6 (by lia),ae5 (fun z=>z c)];rfl
 . rw[ae5 (by lia),ad6 c];rfl
def UZ:DN:=fun ds Q=> ∃(n m:Nat) (s:St) (i:Nat),ds= [s.dt,nI i]/\Rc n m s/\n<=12/\1<=i/\i<=n/\Q (lsN (cJ s i))
def HJ:DN:=fun ds Q=> ∃(n m:Nat) (s:St),ds= [s.dt]/\Rc n m s/\n<=12/\Q (.lst ((rows s).map lsN))
theorem Bt{s:St}(h:s.aZ.getD (i - 1) none=some x):cJ s i= [x]:=by unfold cJ;rw[h]
theorem JN{s:St}(h:s.aZ.getD (i - 1) none=none)(hi:i∈s.ar):cJ s i=eh s.ar i::LV s:=by unfold cJ;rw[h];exact if_pos hi
theorem Fg{s:St}(h:s.aZ.getD (i - 1) none=none)(hi:i∉s.ar):cJ s i=(0::s.ar)++(LV s).filter fun x=>decide (x≠i):=by unfold cJ;rw[h];exact if_neg hi
theorem Kg{s:St}(l:s.aZ.length=n)(h1:1<=i)(h2:i<=n):(s.aZ.map oD)[i - 1]?=some (oD (s.aZ.getD (i - 1) none)):=by
 rw[aa8,List.getD,aa2 (show i - 1 < s.aZ.length by lia)];rfl
section
variable{P:Program}{w:World}{K:PySem.W.Frag}{mg:Str->Option Value}{base:Heap}
theorem N0(F:dM K "allowed_of" "allowed_of" dZ f fd)(T:Txt mg):aJ P w K mg base cX 1 f fd ["stand","word"] (bP UZ):=by
 refine lL F eK (fun ds Qd h=>?_) (fun ba A outer s H E hr=>⟨_,(ak (kW (dv 0) (kM 2 3 4 rfl eK.nd))
 (ak (cZ (mT (dz (dv 4) (fG (dv 1) au)))
 (aB (aD (eI (aa (dz (dv 4) (fG (dv 1) au)) ae))))
 bq)
 (ak (bT 5 eK.nd (gb (aM (aa au ae)) (dv 2)))
 (ak (fP 6 eK.nd (FW rfl T.lst T.gu (aa (dv 3) (aa (cV (bH T.len (aa (dv 4) ae)) au) ae))))
 (ak (cZ (ES (dv 1) (dv 2))
 (aB (iL 6 (aD (kO (eI (aa (dz (dv 5) (GV (dv 2) (aa (dv 1) ae))) ae)) (dv 6)))))
 bq)
 (aB (iL 6 (aD (kO (Ov.ev (Cc T.lst (aa (dv 5) ae))) (Ov.ev (cq (N:= ["other","word"]) (nt:=1) (js:= [1]) ⟨rfl,by decide+kernel,by decide,rfl,by decide+kernel,(by show∀x∈(_:List (Str × NameKind)),x.2=NameKind.free->(af dZ).names.lookup x.1=some .cell\/(af dZ).names.lookup x.1=some .free;decide+kernel)⟩ rfl (nD (dv 6)) (fun _ _ _ _ _=>av (i:=0) (show(["other","word"]:List Str).Nodup by decide+kernel) rfl (by first | exact Or.inl rfl | exact Or.inr rfl)) bM aX (fun _ _ _ _ _=>CS (yH (dv 0) (dv 1))) (fun _ _ _ _ _=>(dv 0))))))))))))),fun ds Qd h=>?_⟩)
 . obtain⟨n,m,s,i,rfl,_⟩:=h;rfl
 . obtain⟨n,m,s,i,rfl,rc,gm,i1,i2,q⟩:=h;have lv:=rc.lv;have gl:=lv.k.g.l;have bl:=lv.k.bl;have b1:=lv.k.g.b;have pl:s.ar.length<=30:=by have:=lv.k.g.p;have:=lv.c;lia
   have s3:3000<=sizeLine:=by decide
   have ea:=He i1 (Kg gl i1 i2);have eo:(s.aZ.map oD).length=n:=by rw[aa1,gl]
   refine⟨_,rfl,_,_,_,rfl,⟨_,rfl,rfl⟩,⟨_,rfl,rfl⟩,⟨_,rfl,rfl⟩,?_⟩;refine⟨_,rfl,_,rfl,_,_,rfl,rfl,_,_,_,.inr rfl,rfl,ea,?_⟩;cases QR:s.aZ.getD (i - 1) none with
   | some x=>
    rw[QR] at ea;refine⟨true,rfl,cS ?_⟩;refine⟨_,rfl,_,rfl,_,_,rfl,rfl,_,_,_,.inr rfl,rfl,ea,by show 1<=sizeLine;decide,?_⟩;rw[Bt QR] at q;exact q
   | none=>
    refine⟨false,rfl,bN ?_⟩;refine⟨by show 1<=sizeLine;decide,_,rfl,_,_,rfl,rfl,by rw[aa1];show 1+s.ar.length<=sizeLine;lia,⟨_,rfl,rfl⟩,?_⟩;refine⟨_,rfl,_,rfl,_,.inr rfl,_,_,rfl,rfl,(s.b:Int),s.aZ.length+1 - s.b,?_,by lia,by lia,by lia,⟨_,rfl,rfl⟩,?_⟩
    . rw[eo,show(n:Int)+1=(s.b:Int)+((s.aZ.length+1 - s.b:Nat):Int) by lia]
    rw[R9];have el:(LV s).length<=13:=by unfold LV;rw[ac5];lia
    refine⟨_,rfl,_,rfl,_,.inr rfl,rfl,VH _,?_⟩;rw[if_neg ac0,Ep];by_cases c:i∈s.ar
    . obtain⟨j,hj,ej⟩:=ah8 c;have pj:s.ar[j]?=some i:=by rw[aa2 hj,ej]
      have nd:=lv.k.nd;refine⟨true,by rw[ad6 c],cS ?_⟩;refine⟨_,rfl,_,rfl,_,rfl,⟨_,rfl⟩,_,rfl,_,nI i,j,nI i,rfl,rfl,rfl,VH _,by rw[aa8,pj];rfl,aj0 (i:Int),fun k u hk hu=>?_,?_⟩
      . rw[aa8] at hu;obtain⟨x,hx,rfl⟩:=ag8.mp hu;show((x:Int)==(i:Int))=false;rw[ai7];intro z;have z:x=i:=by lia
        obtain⟨Yf,ek⟩:=aa5.mp hx;have:=ap3.mp rc.up k j Yf hj hk;lia
      . have e0:=Ft rc.up (fun x hx=>(lv.k.g.gu x hx).1) pj;refine⟨_,_,nI (eh s.ar i), .inr rfl,rfl,bc (by
         show([Dt.int 0]++s.ar.map nI)[j]?=_;have: [Dt.int 0]++s.ar.map nI=(0::s.ar).map nI:=rfl;rw[this,aa8,e0];rfl),by show 1<=sizeLine;decide,_,rfl,_,_,rfl,rfl,?_,?_⟩
        . show 1+((List.range' s.b (s.aZ.length+1 - s.b)).map nI).length<=sizeLine;rw[aa1];unfold LV at el;lia
        . rw[JN QR c] at q;exact q
    . refine⟨false,by rw[ae5 c],bN ?_⟩;refine⟨_,rfl,_,rfl,_, .inr rfl,?_⟩;refine⟨_,rfl,_,rfl,?_,U2 i,id,fun d hd=>?_,?_⟩
      . rw[aa1];unfold LV at el;lia
      . obtain⟨x,hx,rfl⟩:=ab7.mp hd;exact⟨⟨_,rfl,rfl⟩,_,rfl,_,rfl,_,rfl,_,rfl,rfl,fun _=>⟨_,rfl,rfl⟩⟩
      . rw[List.map_id,F0];refine⟨_,_,rfl,rfl,?_,?_⟩
        . show(Dt.int 0::s.ar.map nI).length+_<=sizeLine;rw[ac7,aa1,aa1];have:=List.length_filter_le (fun x=>decide (x≠i)) (List.range' s.b (s.aZ.length+1 - s.b));unfold LV at el;lia
        . rw[Fg QR c] at q;unfold lsN at q;rw[ab8] at q;exact q
theorem vh(F:dM K "allowed" "allowed" gQ f fd)(T:Txt mg)(wx:dj P w K mg base "allowed_of" 1 ["stand","word"] (bP UZ)):aJ P w K mg base cX 2 f fd ["stand"] (bP HJ):=by
 refine lL F yO (fun ds Qd h=>?_) (fun ba A outer s H E hr=>⟨_,(aB (aD (Ov.ev (cq (N:= ["word","stand"]) (nt:=1) (js:= [0]) ⟨rfl,by decide+kernel,by decide,rfl,by decide+kernel,(by show∀x∈(_:List (Str × NameKind)),x.2=NameKind.free->(af gQ).names.lookup x.1=some .cell\/(af gQ).names.lookup x.1=some .free;decide+kernel)⟩ rfl (gV T.gu (aa au (aa (cV (bH T.len (aa (dz (dv 0) au) ae)) au) ae))) (fun _ _ _ _ _=>av (i:=0) (show(["word","stand"]:List Str).Nodup by decide+kernel) rfl (by first | exact Or.inl rfl | exact Or.inr rfl)) bM aX (fun _ _ _ _ _=>dy) (fun _ _ _ _ _=>(aO wx (hr.mono (by decide)) (aa (dv 1) (aa (dv 0) ae)))))))),fun ds Qd h=>?_⟩)
 . obtain⟨n,m,s,rfl,_⟩:=h;rfl
 . obtain⟨n,m,s,rfl,rc,gm,q⟩:=h;have gl:=rc.lv.k.g.l;have eo:(s.aZ.map oD).length=n:=by rw[aa1,gl]
   refine⟨_,rfl,_,_,_,.inr rfl,rfl,bc (j:=2) rfl,_,.inr rfl,_,_,rfl,rfl,1,((s.aZ.map oD).length:Int)+1,rfl,⟨by decide,by decide,by lia,by lia⟩,?_⟩;rw[eo,show((n:Int)+1 - 1).toNat=n by lia,R8];refine⟨by rw[aa1,ac5];exact small (by lia),fun _=>true,fun d=>match d with | .int x=>lsN (cJ s x.toNat) | d=>d,fun d hd=>?_,?_⟩
   . obtain⟨x,hx,rfl⟩:=ab7.mp hd;rw[ad3] at hx;refine⟨⟨_,rfl,rfl⟩,rfl,fun _=>⟨_,rfl,_,rfl,n,m,s,x,rfl,rc,gm,by lia,by lia,?_⟩⟩;show lsN (cJ s x)=lsN (cJ s ((x:Nat):Int).toNat);rw[ah5]
   . rw[ae7.mpr fun _ _=>rfl,ad8];unfold rows at q;rw[gl,ad8] at q;have:(List.range' 1 n).map ((fun d=>match d with | .int x=>lsN (cJ s x.toNat) | d=>d) ∘ nI)=(List.range' 1 n).map (lsN ∘ cJ s):=ac8 fun x _=>by
      show lsN (cJ s ((x:Nat):Int).toNat)=_;rw[ah5];rfl
     rw[this];exact q
end
end aW
namespace aW
open PySem PySem.Spec L2 LB LD PyProof.Rows ly
noncomputable def cj(R:List (List Nat))(w:Nat->Nat->Wo):Nat->Nat->Wo:=fun i o=>if o∈R.getD (i - 1) [] then w i o else none
def Ia:DN:=fun ds Q=> ∃(n:Nat) (w:Nat->Nat->Wo) (R:List (List Nat)),ds= [cy n w,.lst (R.map lsN)]/\R.length=n/\n<=12/\Q (cy n (cj R w))
noncomputable def kE(es:List Dt):Dt->Dt
 | .tup [.int i,d]=>if inD (.int i) es then d else .aF
 | d=>d
noncomputable def kF:Dt->Dt
 | .tup [.tup ds,.lst es]=> .tup ((aL 0 ds).map (kE es))
 | d=>d
theorem KD{R:List (List Nat)}(h:R.getD (i - 1) []=r):kF (.tup [de n w i,lsN r])=de n (cj R w) i:=by
 show Dt.tup ((aL 0 ((List.range (n+1)).map fun o=>bo (w i o))).map (kE (r.map nI)))=Dt.tup ((List.range (n+1)).map fun o=>bo (cj R w i o));congr 1
 apply ak9;intro j;unfold aL;rw[aa8,ai5,aa8,aa8];by_cases jl:j < n+1
 . rw[ah9 jl];show some (if inD (.int ((j+0:Nat):Int)) (r.map nI)=true then bo (w i j) else .aF)=some (bo (if j∈R.getD (i - 1) [] then w i j else none));rw[h,show inD (.int ((j+0:Nat):Int)) (r.map nI)=decide (j∈r) from Ep];by_cases c:j∈r
   . rw[if_pos c,if_pos (ad6 c)]
   . rw[if_neg c,if_neg (by rw[ae5 c];decide)];rfl
 . rw[ah4 (by rw[ad4];lia)];rfl
theorem KC{R:List (List Nat)}(l:R.length=n):(cY ((List.range' 1 n).map (de n w)) (R.map lsN)).map kF=(List.range' 1 n).map (de n (cj R w)):=by
 subst l;unfold cY;apply ak9;intro j;rw[aa8,ao3,aa8,aa8,aa8];by_cases jl:j < R.length
 . rw[ai4 jl,aa2 jl];show some (kF (.tup [de R.length w (1+1*j),lsN R[j]]))=some (de R.length (cj R w) (1+1*j));rw[KD (R:=R)];rw[ad9,show 1+1*j - 1=j by lia,aa2 jl];rfl
 . rw[ah4 (l:=List.range' 1 R.length) (by rw[ac5];lia)];rfl
theorem EE{R:List (List Nat)}(h:d∈cY ((List.range' 1 n).map (de n w)) (R.map lsN)): ∃i r,d= .tup [de n w i,lsN r]:=by
 unfold cY at h;rw[List.zipWith_map] at h;obtain⟨j,hj⟩:=List.getElem?_of_mem h;rw[ao3] at hj;split at hj
 . cases hj;exact⟨_,_,rfl⟩
 . cases hj
section
variable{P:Program}{w:World}{K:PySem.W.Frag}{mg:Str->Option Value}{base:Heap}
theorem ze(F:dM K "kept_to" "kept_to" jz f fd)(T:Txt mg):aJ P w K mg base cX 1 f fd ["w","lists"] (bP Ia):=by
 refine lL F Bh (fun ds Qd h=>?_) (fun ba A outer s H E hr=>⟨_,(aB (aD (jV T.tup (aa (Ov.ev (cq (N:= ["row","ons"]) (nt:=2) (js:= []) ⟨rfl,by decide+kernel,by decide,rfl,by decide+kernel,(by show∀x∈(_:List (Str × NameKind)),x.2=NameKind.free->(af jz).names.lookup x.1=some .cell\/(af jz).names.lookup x.1=some .free;decide+kernel)⟩ rfl (o9 (aa (dv 0) (aa (dv 1) ae)) fun z=>kz (by rfl) T.zip z) (fun _ _ _ _ _=>cn rfl (aA (av (i:=0) (show(["row","ons"]:List Str).Nodup by decide+kernel) rfl (by first | exact Or.inl rfl | exact Or.inr rfl)) (aA (av (i:=1) (show(["row","ons"]:List Str).Nodup by decide+kernel) rfl (by first | exact Or.inl rfl | exact Or.inr rfl)) bw))) bL bb (fun _ _ _ _ _=>dy) (fun _ _ _ _ _=>(jV T.tup (aa (Ov.ev (cq (N:= ["on","worth","ons"]) (nt:=2) (js:= [1]) ⟨rfl,by decide+kernel,by decide,rfl,by decide+kernel,(by repeat (first | exact uP | refine qg (by first | exact Or.inl rfl | exact Or.inr rfl) ?_ | refine qh (fun z=>nomatch z) ?_))⟩ rfl (xG T.MI (aa (dv 0) ae)) (fun _ _ _ _ _=>cn rfl (aA (av (i:=0) (show(["on","worth","ons"]:List Str).Nodup by decide+kernel) rfl (by first | exact Or.inl rfl | exact Or.inr rfl)) (aA (av (i:=1) (show(["on","worth","ons"]:List Str).Nodup by decide+kernel) rfl (by first | exact Or.inl rfl | exact Or.inr rfl)) bw))) bL bb (fun _ _ _ _ _=>dy) (fun _ _ _ _ _=>(fZ (ES (dv 0) (dv 2)) (dv 1) eG)))) ae))))) ae)))),fun ds Qd h=>?_⟩)
 . obtain⟨n,w,R,rfl,_⟩:=h;rfl
 . obtain⟨n,w,R,rfl,l,gm,q⟩:=h;refine⟨_,rfl,_,rfl,true,false,_,_,rfl,?_⟩;have zl:(cY ((List.range' 1 n).map (de n w)) (R.map lsN)).length<=60:=by
    unfold cY;rw[al1,aa1,aa1,ac5];lia
   refine⟨ac6 zl (by decide),fun _=>true,kF,fun d hd=>?_,?_⟩
   . obtain⟨i,r,rfl⟩:=EE hd;have rl:(aL 0 ((List.range (n+1)).map fun o=>bo (w i o))).length=n+1:=by unfold aL;rw[ah6,aa1,ad4]
     refine⟨_,_,rfl,⟨_,rfl,rfl⟩,⟨_,rfl,rfl⟩,rfl,fun _=>?_⟩;refine⟨_,rfl,_,rfl,by rw[rl];exact ac6 (show n+1<=61 by lia) (by decide),fun _=>true,kE (r.map nI),fun d hd=>?_,?_⟩
     . obtain⟨j,e,he,rfl⟩:=mr hd;refine⟨_,_,rfl,⟨_,rfl,rfl⟩,⟨_,rfl,rfl⟩,rfl,fun _=>?_⟩;have ea:kE (r.map nI) (.tup [.int ((j+0:Nat):Int),e])=if inD (.int ((j+0:Nat):Int)) (r.map nI)=true then e else .aF:=rfl
       refine⟨_,rfl,_,rfl,_,.inl rfl,rfl,?_,_,rfl,?_⟩
       . exact ah2.mpr fun x hx=>by obtain⟨y,_,rfl⟩:=ab7.mp hx;rfl
       . rw[ea];by_cases c:inD (.int ((j+0:Nat):Int)) (r.map nI)=true
         . rw[if_pos c];exact gU c ⟨_,rfl,rfl⟩
         . rw[if_neg c];exact fW c rfl
     . rw[ae7.mpr fun _ _=>rfl];exact⟨_,.inl rfl,rfl⟩
   . rw[ae7.mpr fun _ _=>rfl,KC l];exact⟨_,.inl rfl,q⟩
end
theorem tf{R:List (List Nat)}: ∀(h:List Nat) (k:Nat),k+h.length<=R.length->dW (cj R w) (k+1) h=if fits h (R.drop k)=true then dW w (k+1) h else none
 | [],k,_=>by rw[if_pos (by unfold fits;rfl)];rfl
 | x::h,k,l=>by
  have l':k+1+h.length<=R.length:=by rw[ac7] at l;lia
  have kl:k < R.length:=by lia
  have e:R.drop k=R[k]::R.drop (k+1):=(am1 kl)
  have ih:=tf (w:=w) h (k+1) l';rw[dW,dW,ih,e];show ad (if x∈R.getD (k+1 - 1) [] then w (k+1) x else none) _=if (decide (x∈R[k]) && fits h (R.drop (k+1)))=true then _ else _
  rw[show R.getD (k+1 - 1) []=R[k] by rw[ad9,show k+1 - 1=k by lia,aa2 kl];rfl];by_cases c:x∈R[k]
  . rw[if_pos c,ad6 c,Bool.true_and];by_cases d:fits h (R.drop (k+1))=true
    . rw[if_pos d,if_pos d]
    . rw[if_neg d,if_neg d];cases w (k+1) x <;> rfl
  . rw[if_neg c,ae5 c,Bool.false_and,if_neg (show¬(false=true) by decide)];rfl
theorem jQ: ∀{h:List Nat} {R:List (List Nat)},h.length=R.length->(fits h R=true↔ ∀i,i < h.length->h.getD i 0∈R.getD i [])
 | [],R,_=>⟨fun _ i z=>absurd z (Nat.not_lt_zero _),fun _=>by unfold fits;rfl⟩
 | x::h,[],l=>by cases l
 | x::h,r::R,l=>by
  have ih:=jQ (h:=h) (R:=R) (by simpa using l);show(decide (x∈r) && fits h R)=true↔_;rw[af8,ih,ap4];constructor
  . rintro⟨h1,h2⟩ i hi
    cases i with
    | zero=>exact h1
    | succ i=>exact h2 i (by simpa using hi)
  . intro z;exact⟨z 0 (by simp),fun i hi=>z (i+1) (by simpa using hi)⟩
theorem jA(r:Rc n m s):(rows s).length=n:=by unfold rows;rw[aa1,ac5];exact r.lv.k.g.l
theorem jB(r:Rc n m s)(h:i < n):(rows s).getD i []=cJ s (i+1):=by
 unfold rows;rw[ad9,aa8,r.lv.k.g.l,ai4 h,show 1+1*i=i+1 by lia];rfl
theorem nA(r:Rc n m s)(w:Nat->Nat->Wo){g:List Nat}(lg:g.length=n):iD (cj (rows s) w) g=if fits g (rows s)=true then iD w g else none:=by
 have:=tf (w:=w) (R:=rows s) g 0 (by rw[jA r,lg];lia);rw[am2] at this;exact this
theorem zN{d:Nat}(h:l≠ []):l.getLastD d∈l:=by
 rw[ak2,an9 h];exact List.getLast_mem h
theorem ir(h: ¬b < i):eh (p++ [b]) i=eh p i:=by
 unfold eh;rw[<-ao7,al5,show [b].filter (fun x=>decide (x < i))= [] from by rw[List.filter_cons_of_neg (by rw[ap4];exact h)];rfl,af0]
theorem Fu(i1:1<=i):eh p i∈0::p/\eh p i < i:=by
 have ne:((0::p).filter fun x=>decide (x < i))≠ []:=by
  intro z;have:=List.filter_eq_nil_iff.mp z 0 ab3;exact this (ad6 i1)
 have:=aj9.mp (zN (d:=0) ne);exact⟨this.1,ad7 this.2⟩
theorem BB(hq:q≠ [])(lt: ∀x∈q,x < p):eh (q++ [p]) p=q.getLastD 1:=by
 rw[ir (ae8 _)];unfold eh;have p1:0 < p:=by
  cases q with
  | nil=>exact absurd rfl hq
  | cons a t=>exact an6 (ag0 _) (lt a ab3)
 rw[ae7.mpr fun x hx=>ad6 ((ac3.mp hx).elim (fun z=>by rw[z];exact p1) (lt x))];obtain⟨a,t,rfl⟩:=List.exists_cons_of_ne_nil hq;rfl
theorem qL(h:b<=n+1):x∈List.range' b (n+1 - b)↔b<=x/\x<=n:=by
 rw[ad3];constructor
 . rintro⟨h1,h2⟩;exact⟨h1,by lia⟩
 . rintro⟨h1,h2⟩;exact⟨h1,by lia⟩
theorem Bu(r:Rc n m s)(o:mh s w=true)(i1:1<=i)(hi:i<=n): ∀x∈cJ (iG s w) i,x∈cJ s i:=by
 have k:=r.lv.k;have ln:=k.g.l;have bl:=k.bl;have un:=k.un i i1 hi;have up:=r.up;have np: ∀{k:Nat},k < s.ar.length-> ∃q p,s.ar=q++ [p]:=fun{k} z=>⟨s.ar.dropLast,s.ar.getLast (by intro y;rw[y] at z;simp at z),(ai2 _).symm⟩
 have WW:s.aZ.getD (i - 1) none=none->i∈s.ar\/s.b<=i:=fun z=>un.mp (by
  rw[ad9,aa2 (by lia)] at z;rw[aa2 (by lia)];exact ag1 some z)
 have mS: ∀{q:List Nat} {p on:Nat},s.ar=q++ [p]->s.mS on=⟨q,s.b,s.aZ.set (p - 1) (some on)⟩:=fun{q p on} e=>by
  unfold St.mS;rw[e,ao9,show(q++ [p]).getLastD 1=p by simp]
 have step: ∀{q:List Nat} {p on:Nat},s.ar=q++ [p]->on∈cJ s p-> ∀x∈cJ (s.mS on) i,x∈cJ s i:=fun{q p on} ep OI x hx=>by
  rw[mS ep] at hx;have pr:=k.g.gu p (by rw[ep];exact ab4 _ ab3);rw[ep] at up;have lt: ∀y∈q,y < p:=fun y hy=>(List.pairwise_append.mp up).2.2 y hy p ab3;by_cases c:i=p
  . subst c;unfold cJ at hx;rw[show(⟨q,s.b,s.aZ.set (i - 1) (some on)⟩:St).aZ.getD (i - 1) none=some on by
     show(s.aZ.set (i - 1) (some on)).getD (i - 1) none=some on;rw[ad9,ab9 (by lia)];rfl] at hx
    rw[aa6.mp hx];exact OI
  . unfold cJ at hx ⊢;rw[show(⟨q,s.b,s.aZ.set (p - 1) (some on)⟩:St).aZ.getD (i - 1) none=s.aZ.getD (i - 1) none by
     show(s.aZ.set (p - 1) (some on)).getD (i - 1) none=_;rw[ad9,ab1 (by lia),<-ad9]] at hx
    cases e:s.aZ.getD (i - 1) none with
    | some y=>rw[e] at hx;exact hx
    | none=>
     rw[e] at hx;have ll:(s.aZ.set (p - 1) (some on)).length=s.aZ.length:=ad0;dsimp only at hx ⊢;rw[ll] at hx;by_cases iq:i∈q
     . rw[if_pos iq] at hx;rw[if_pos (by rw[ep];exact ae2 _ iq),ep,ir (by have:=lt i iq;lia)];exact hx
     . rw[if_neg iq] at hx;rw[if_neg (by rw[ep];intro z;exact(ae1.mp z).elim iq fun y=>c (aa6.mp y))];rcases ae1.mp hx with z | z
       . refine ae2 _ ?_;rw[ep];exact(ac3.mp z).elim (fun y=>by rw[y];exact ab3) fun y=>ab5 _ (ae2 _ y)
       . exact ab4 _ z
 have free: ∀{q:List Nat} {p:Nat},s.ar=q++ [p]->cJ s p=eh s.ar p::List.range' s.b (n+1 - s.b):=fun{q p} ep=>by
  have mp:p∈s.ar:=by rw[ep];exact ab4 _ ab3
  have pr:=k.g.gu p mp;have e:s.aZ.getD (p - 1) none=none:=by
   rw[ad9,(k.un p pr.1 pr.2).mpr (.inl mp)];rfl
  unfold cJ;rw[e];dsimp only;rw[if_pos mp,ln]
 rcases cO o with ⟨rfl,c,e⟩ | ⟨rfl,c,e⟩ | ⟨rfl,c,e⟩ <;> rw[e]
 . have c:s.b<=s.aZ.length:=ad7 c;rw[ln] at c;intro x hx;unfold cJ at hx ⊢;have eo:s.read.aZ=s.aZ:=rfl;have ep:s.read.ar=s.ar++ [s.b]:=rfl;have eb:s.read.b=s.b+1:=rfl;rw[eo] at hx;cases e:s.aZ.getD (i - 1) none with
   | some y=>rw[e] at hx;exact hx
   | none=>
    rw[e] at hx;dsimp only at hx ⊢;rw[ep,eb,ln] at hx;rw[ln];have um:=WW e;have sub: ∀{y},y∈List.range' (s.b+1) (n+1 - (s.b+1))->y∈List.range' s.b (n+1 - s.b):=fun{y} z=>by
     rw[qL (by lia)] at z ⊢;exact⟨by lia,z.2⟩
    by_cases ip:i∈s.ar
    . have ib:=k.lt i ip;rw[if_pos (ae2 _ ip),ir (by lia)] at hx;rw[if_pos ip];exact(ac3.mp hx).elim (fun z=>by rw[z];exact ab3) fun z=>ab5 _ (sub z)
    . rw[if_neg ip];by_cases ib:i=s.b
      . rw[if_pos (by rw[ib];exact ab4 _ ab3),ir (by lia)] at hx;rcases ac3.mp hx with z | z
        . rw[z];exact ae2 _ (Fu i1).1
        . refine ab4 _ (aj9.mpr ⟨sub z,ad6 ?_⟩);rw[qL (by lia)] at z;lia
      . rw[if_neg (fun z=>(ae1.mp z).elim ip fun y=>ib (aa6.mp y))] at hx;rcases ae1.mp hx with z | z
        . rcases ac3.mp z with z | z
          . rw[z];exact ae2 _ ab3
          . rcases ae1.mp z with z | z
            . exact ae2 _ (ab5 _ z)
            . rw[aa6.mp z];exact ab4 _ (aj9.mpr ⟨(qL (by lia)).mpr ⟨ab2 _,c⟩,ad6 fun y=>ib y.symm⟩)
        . obtain⟨z1,z2⟩:=aj9.mp z;exact ab4 _ (aj9.mpr ⟨sub z1,z2⟩)
 . unfold aQ at c;rw[af8] at c;have cb:s.b<=s.aZ.length:=ad7 c.1;rw[ln] at cb;have c2:s.ar≠ []:=fun z=>by rw[z] at c;simp at c
   obtain⟨q,p,ep⟩:=np (k:=0) (al2.mpr c2);refine step ep ?_;rw[free ep];exact ab5 _ ((qL (by lia)).mpr ⟨ab2 _,cb⟩)
 . have c:1 < s.ar.length:=ad7 c;obtain⟨q,p,ep⟩:=np c;have l2:q≠ []:=fun z=>by rw[ep,z] at c;simp at c
   have eu:s.ar.dropLast.getLastD 1=q.getLastD 1:=by rw[ep,ao9]
   unfold St.under;rw[eu];refine step ep ?_;rw[free ep,ep,BB l2 fun y hy=>by rw[ep] at up;exact(List.pairwise_append.mp up).2.2 y hy p ab3];exact ab3
end aW
namespace aW
open PySem PySem.Spec L2 LB LD PyProof.Rows
theorem xw{j:Nat}(h:(cc s)[j]?=some d): ∃w,d= .str w/\mh s w=true:=by
 have m:=ad2 h;have: ∃w,d= .str w:=by
  unfold cc at m;rcases ae1.mp m with m | m
  . rcases ae1.mp m with m | m
    . cases c:a8 s <;> rw[c] at m <;> simp at m;exact⟨_,m⟩
    . cases c:aQ s <;> rw[c] at m <;> simp at m;exact⟨_,m⟩
  . cases c:aP s <;> rw[c] at m <;> simp at m;exact⟨_,m⟩
 obtain⟨w,rfl⟩:=this;refine⟨w,rfl,?_⟩;rw[<-nC];exact List.any_eq_true.mpr ⟨_,m,aj0 _⟩
theorem Cn{l:List Dt}(h:0 < l.length):jd l (-1)=some (l[l.length - 1]'(by lia)):=by
 unfold jd xD;rw[if_neg (by decide),if_pos (by lia)];show l[_]?=_;rw[show(-1+(l.length:Int)).toNat=l.length - 1 by lia];exact aa2 _
theorem fV{l:List Dt}:jd (l++ [x]) (-1)=some x:=by
 rw[Cn (by rw[aa9];show 0 < l.length+1;lia)];congr 1
 have:(l++ [x]).length - 1=l.length:=by rw[aa9];rfl
 simp [this]
inductive D0(n:Nat):List Str->St->Prop
 | nil:D0 n [] (first n)
 | snoc {ws:List Str} {s:St} {w:Str}:D0 n ws s->mh s w=true->D0 n (ws++ [w]) (iG s w)
theorem D0.rc(h:D0 n ws s):Rc n ws.length s:=by
 induction h with
 | nil=>exact .zero
 | snoc _ o ih=>rw[aa9];exact .step ih o
def ZV(n m:Nat)(t:Int)(i:Nat)(δ:List Sl):Prop:= ∃(s:St) (ws:List Str) (t':Int) (s5 s6:Sl),δ= [.bx t',.im (nI n),.im (nI m),.im s.dt,.ow (ws.map .str),s5,s6]/\s5.cB=false/\s6.cB=false/\D0 n ws s/\ws.length<=i/\t'<=t+1+(i:Int)
def A2:DB:=fun t ds Q=> ∃n m:Nat,ds= [nI n,nI m]/\1<=n/\n<=12/\m<=40/\t < 900000/\ ∀(s:St) (ws:List Str) (t':Int),D0 n ws s->t'<=t+45->Q (.tup [s.dt,.lst (ws.map .str)]) t'
section
variable{P:Program}{w:World}{K:PySem.W.Frag}{mg:Str->Option Value}{base:Heap}
theorem BX(F:dM K "_law_taken" "_law_taken" qr f fd)(T:Txt mg)(bY:dj P w K mg base "_law_take" 1 ["_law_state","_law_many"] (sr oW))(uh:dj P w K mg base "_law_may" 1 ["_law_stand"] (bP vn))(bK:dj P w K mg base "_law_behind" 1 ["_law_stand","_law_word"] (bP bE)):aJ P w K mg base cX 2 f fd ["_law_state","_law_many","_law_most"] (sr A2):=by
 refine TL F gF (fun t ds Qd h=>?_) (fun ba A outer s H E hr=>⟨_,(ak (qo 3 4 rfl gF.nd (zJ (aM (aa (aM ae) (aa au (aa (qY (aM (aa eG ae)) (dv 1)) ae)))) (O4 (iN ae) xK)))
 (ak (iM rfl (kK T.gu (aa (dJ 0 bY (hr.mono (by decide)) (pv 0) (aa (cV (dv 2) au) ae)) ae)) (g8 5 gF.nd)
 (ak (bT 6 gF.nd (aO uh (hr.mono (by decide)) (aa (dv 3) ae)))
 (aB (cZ (sk hr.p7 (dv 6))
 (ak (cH (bJ 4 (pv 4) (aa (dz (dv 6) (dJ 0 bY (hr.mono (by decide)) (pv 0) (aa (bH T.len (aa (dv 6) ae)) ae))) ae)))
 (aB (bT 3 gF.nd (aO bK (hr.mono (by decide)) (aa (dv 3) (aa (pJ 4 (pv 4) (fH au)) ae))))))
 bq))) ai3)
 (aB (iL 4 (aD (aM (aa (dv 3) (aa (dv 4) ae)))))))),fun t ds Qd h=>?_⟩)
 . obtain⟨n,m,rfl,_⟩:=h;rfl
 . obtain⟨n,m,rfl,n1,gm,m40,ht,q⟩:=h;refine⟨by show 0<=sizeLine;decide,by show 1<=sizeLine;decide,_,rfl,[.aF],_,rfl,rfl,(by intro z;cases z),by lia,by lia,?_,by show 3<=sizeLine;decide,by show 0<=sizeLine;decide,_,_,rfl,⟨_,rfl,rfl⟩,⟨_,rfl,rfl⟩,?_⟩
   . show 1*((n:Int)).toNat<=sizeLine;exact ac6 (show 1*((n:Int)).toNat<=100 by lia) (by decide)
   rw[kN];dsimp only;refine⟨⟨_,rfl⟩,_,rfl,_,_,rfl,rfl,_,rfl,_,rfl,by lia,by lia,by lia,fun v v0 v1=>⟨_,rfl,by lia,by lia,?_⟩⟩;refine di (ZV n m t) ⟨first n,[],t+1,.no,.no,rfl,rfl,rfl,.nil,ab2 _,by lia⟩ (fun i d δ hi hP Δ' pd Es=>?_) (fun δ hP=>?_)
   . obtain⟨s,ws,t',s5,s6,rfl,b5,b6,Mx,wl,MB⟩:=hP;have rc:=Mx.rc;have il:i < 41:=by
      have:=(aa5.mp hi).1;rw[aa1,ad4] at this;lia
     have fi:lV s:=rc.lv.k.g.vO gm (by have:=rc.le n1;lia);refine⟨⟨_,rfl,b5⟩,_,rfl,s,rfl,fi,⟨_,rfl,b6⟩,_,rfl,_,rfl,_,rfl,?_⟩;by_cases c:cc s= []
     . rw[c];exact bN (pd _ ⟨s,ws,t',.im d,.im (.lst []),rfl,rfl,rfl,Mx,Nat.le_succ_of_le wl,by lia⟩)
     . have l0:0 < (cc s).length:=al2.mpr c;have l3:=xv (s:=s);refine gU (by show(!(cc s).isEmpty)=true;cases e:cc s with | nil=>exact absurd e c | cons a b=>rfl) ?_;refine⟨⟨_,rfl⟩,_,rfl,⟨_,rfl⟩,_,rfl,_, .inl rfl,_,rfl,_,rfl,by lia,by lia,by lia,fun v v0 v1=>?_⟩;obtain⟨v,rfl⟩: ∃z:Nat,v=(z:Int):=⟨v.toNat,by lia⟩
       have vl:v < (cc s).length:=by lia
       obtain⟨wd,e,ok⟩:=xw (aa2 vl);refine⟨_,_,_,.inl rfl,rfl,bc ((aa2 vl).trans (ag1 some e)),_,_,rfl,rfl,?_,?_⟩
       . rw[aa1];exact ac4 (show ws.length < 100 by lia) (by decide)
       refine⟨_,rfl,⟨_,rfl⟩,_,rfl,_,_,_,rfl,rfl,fV,?_⟩;show bE [s.dt,.str wd] fun d'=>br [.bx (t'+1),.im (nI n),.im (nI m),.im s.dt,.ow (ws.map .str++ [.str wd]),.im d,.im (.lst (cc s))] 3/\Δ'.nx [.bx (t'+1),.im (nI n),.im (nI m),.im d',.ow (ws.map .str++ [.str wd]),.im d,.im (.lst (cc s))];refine cD fi ok ⟨⟨_,rfl,rfl⟩,pd _ ⟨iG s wd,ws++ [wd],t'+1,.im d,.im (.lst (cc s)),?_,rfl,rfl,Mx.snoc ok,by rw[aa9];show ws.length+1<=_;lia,by lia⟩⟩;rw[ab8];rfl
   . obtain⟨s,ws,t',s5,s6,rfl,b5,b6,Mx,wl,MB⟩:=hP;have rc:=Mx.rc;rw[aa1,ad4] at wl MB;exact⟨_,rfl,_,rfl,_,rfl,by show 2<=sizeLine;decide,_,rfl,q s ws t' Mx (by lia)⟩
end
end aW
namespace aW
open PySem PySem.Spec L2 LB LD PyProof.Rows ly
theorem x9(n:Nat)(w:Nat->Nat->Wo): ∃r,kS n w r:=by
 cases e:ev (wr n w) (Ay n) with
 | none=>exact⟨_,pY e⟩
 | some t=>obtain⟨v,g,B,_⟩:=pX e;exact⟨_,B⟩
noncomputable def bestOf(n:Nat)(w:Nat->Nat->Wo):Option Rs:=Classical.choose (x9 n w)
theorem kR(n:Nat)(w:Nat->Nat->Wo):kS n w (bestOf n w):=Classical.choose_spec (x9 n w)
theorem Al(h: ∀g∈gg n,iD w' g=iD w g)(b:kS n w r):kS n w' r:=by
 cases b with
 | no z=>exact .no fun g m=>by rw[h g m];exact z g m
 | yes v g m e b=>exact .yes v g m (by rw[h g m];exact e) fun g' m' u e'=>b g' m' u (by rw[<-h g' m'];exact e')
noncomputable def dN(n:Nat)(w:Nat->Nat->Wo)(s:St):Wo:=(bestOf n (cj (rows s) w)).map (·.1)
inductive VB(n:Nat)(w:Nat->Nat->Wo)(s:St):Wo->Prop
 | no (h: ∀g∈gg n,iD (cj (rows s) w) g=none):VB n w s none
 | yes (v:Int) (g:List Nat) (m:g∈gg n) (e:iD (cj (rows s) w) g=some v) (b: ∀g∈gg n,∀u,iD (cj (rows s) w) g=some u->u<=v):VB n w s (some v)
theorem uF(n:Nat)(w:Nat->Nat->Wo)(s:St):VB n w s (dN n w s):=by
 have B:=kR n (cj (rows s) w);unfold dN;generalize bestOf n (cj (rows s) w)=r at B ⊢;cases B with
 | no h=>exact .no h
 | yes v g m e b=>exact .yes v g m e fun g' m' u e'=>by rcases b g' m' u e' with z | z <;> lia
theorem rY{n m:Nat}{w:Nat->Nat->Wo}{s:St}{st:Str}(r:Rc n m s)(o:mh s st=true){b:Int}(h:dN n w (iG s st)=some b): ∃a,dN n w s=some a/\b<=a:=by
 have B:=uF n w (iG s st);rw[h] at B;cases B with
 | yes _ g mg e _=>
  have lg:=bA mg;have r':=r.step o;rw[nA r' w lg] at e;split at e
  . rename_i c;rw[jQ (by rw[lg,jA r'])] at c;have c':fits g (rows s)=true:=(jQ (by rw[lg,jA r])).mpr fun i hi=>by
     have:=c i hi;rw[lg] at hi;rw[jB r' hi] at this;rw[jB r hi];exact Bu r o (by lia) (by lia) _ this
    have e':iD (cj (rows s) w) g=some b:=by rw[nA r w lg,if_pos c'];exact e
    have A:=uF n w s;generalize dN n w s=a at A ⊢;cases A with
    | no z=>rw[z g mg] at e';cases e'
    | yes a g2 m2 e2 b2=>exact⟨a,rfl,b2 g mg b e'⟩
  . cases e
theorem wZ(r:Rc n m s)(e:dF s=true)(hi:i < n):cJ s (i+1)= [(i8 s).getD i 0]:=by
 obtain⟨eb,p,ep,p1,pn⟩:=Dd r e;have ln:=r.lv.k.g.l;have un:=r.lv.k.un (i+1) (by lia) (by lia);rw[ep,eb,show i+1 - 1=i by lia] at un;have en:(i8 s).getD i 0=((s.aZ.set (p - 1) (some 0))[i]?.map (·.getD 0)).getD 0:=by
  unfold i8;rw[ep,ad9,aa8];rfl
 unfold cJ;rw[show i+1 - 1=i by lia,ad9];cases eo:s.aZ[i]? with
 | none=>rw[List.getElem?_eq_none_iff] at eo;lia
 | some x=>
  cases x with
  | none=>
   have:i+1=p:=(un.mp eo).elim aa6.mp fun z=>by lia
   subst this;rw[al3];dsimp only;rw[ep,if_pos ab3,eb,ln,am4,en,show i+1 - 1=i by lia,ab9 (by lia)];show [eh [i+1] (i+1)]= [0]
   unfold eh;simp
  | some y=>
   rw[al3];dsimp only;have ne:i≠p - 1:=fun z=>by
    have:=un.mpr (.inl (aa6.mpr (by lia)));rw[eo] at this;cases this
   rw[en,ab1 (by lia),eo];rfl
theorem EL(r:Rc n m s)(e:dF s=true):dN n w s=iD w (i8 s):=by
 have me:=tN r e;have le:=bA me;have kv: ∀g∈gg n,iD (cj (rows s) w) g=if g=i8 s then iD w g else none:=fun g mg=>by
  have lg:=bA mg;rw[nA r w lg];have:fits g (rows s)=true↔g=i8 s:=by
   rw[jQ (by rw[lg,jA r])];constructor
   . intro z;refine List.ext_getElem (by rw[lg,le]) fun i h1 h2=>?_;have:=z i h1;rw[lg] at h1;rw[jB r h1,wZ r e h1] at this;have:=aa6.mp this;rwa [ad9,ad9,aa2 (by lia),aa2 h2] at this
   . rintro rfl i hi
     rw[le] at hi;rw[jB r hi,wZ r e hi];exact aa6.mpr rfl
  by_cases c:g=i8 s
  . rw[if_pos c,if_pos (this.mpr c)]
  . rw[if_neg c,if_neg fun z=>c (this.mp z)]
 have V:=uF n w s;generalize dN n w s=v at V ⊢;cases V with
 | no h=>have:=h _ me;rw[kv _ me,if_pos rfl] at this;exact this.symm
 | yes v g mg eg b=>
  rw[kv g mg] at eg;split at eg
  . rename_i c;rw[<-c];exact eg.symm
  . cases eg
theorem oQ: ∀(h:List Nat) (k:Nat),(∀j x,h[j]?=some x->w (k+j) x=w' (k+j) x)->dW w k h=dW w' k h
 | [],k,_=>rfl
 | x::h,k,e=>by
  have ih:dW w (k+1) h=dW w' (k+1) h:=oQ h (k+1) fun j y z=>by
   have q:=e (j+1) y z;rw[show k+(j+1)=k+1+j by lia] at q;exact q
  rw[dW,dW,show w k x=w' k x from e 0 x rfl,ih]
theorem yP(hi:i < n):cJ (first n) (i+1)=0::(List.range' 1 n).filter fun x=>decide (x≠i+1):=by
 unfold cJ;rw[show i+1 - 1=i by lia,show(first n).aZ.getD i none=none by
  show(List.replicate n (none:Option Nat)).getD i none=none;rw[ad9,ac1,if_pos hi];rfl]
 show(if i+1∈([]:List Nat) then _ else _)=_;rw[if_neg aa4];show [0]++(List.range' 1 ((List.replicate n (none:Option Nat)).length+1 - 1)).filter _=_;rw[ah3];rfl
theorem vy(hw: ∀i,w i i=none)(mg:g∈gg n):iD (cj (rows (first n)) w) g=iD w g:=by
 refine oQ g 1 fun j x hx=>?_;have lg:=bA mg;have hj:j < n:=by rw[<-lg];exact(aa5.mp hx).1
 have xn:x<=n:=fK mg x (ad2 hx);unfold cj;rw[show 1+j - 1=j by lia,jB .zero hj,yP hj];by_cases c:x=j+1
 . subst c;rw[show 1+j=j+1 by lia,hw (j+1)];split <;> rfl
 . rw[if_pos];by_cases x0:x=0
   . rw[x0];exact ab3
   . exact ab5 _ (aj9.mpr ⟨ad3.mpr ⟨by lia,by lia⟩,ad6 c⟩)
theorem yx(hw: ∀i,w i i=none)(b:kS n w r):dN n w (first n)=r.map (·.1):=by
 unfold dN;rw[pW (kR n _) (Al (fun g mg=>vy hw mg) b)]
noncomputable def kY:Wo->Wo->Wo
 | some a,some b=>some (a - b)
 | _,_=>none
noncomputable def lx(n:Nat)(w:Nat->Nat->Wo)(s:St)(st:Str):Wo:=kY (dN n w s) (dN n w (iG s st))
noncomputable def gp(n:Nat)(w:Nat->Nat->Wo):St->List Str->List Wo
 | _,[]=> []
 | s,st::ws=>lx n w s st::gp n w (iG s st) ws
noncomputable def yv:St->List Str->List St
 | s,[]=> [s]
 | s,st::ws=>s::yv (iG s st) ws
noncomputable def jM:St->Nat->List Str->Option Nat
 | _,_,[]=>none
 | s,i,st::ws=>if mh s st=true then jM (iG s st) (i+1) ws else some i
theorem tY: ∀(ws:List Str) (s:St),List.zipWith kY ((yv s ws).map (dN n w)) ((yv s ws).map (dN n w)).tail=gp n w s ws
 | [],s=>rfl
 | st::ws,s=>by
  have ih:=tY (n:=n) (w:=w) ws (iG s st);cases ws with
  | nil=>rfl
  | cons t ws=>
   rw[gp,<-ih];rfl
theorem t5: ∀(ws:List Str) (s:St) (m i:Nat),Rc n m s->jM s i ws=none-> ∀c,some c∈gp n w s ws->0<=c
 | [],s,m,i,_,_,c,h=>absurd h aa4
 | st::ws,s,m,i,r,g,c,h=>by
  unfold jM at g;split at g
  . rename_i o;rcases ac3.mp h with z | z
    . unfold lx at z;cases e2:dN n w (iG s st) with
      | none=>rw[e2] at z;cases e1:dN n w s <;> rw[e1] at z <;> cases z
      | some b=>
       obtain⟨a,ea,le⟩:=rY r o e2;rw[ea,e2] at z;cases z;lia
    . exact t5 ws _ _ _ (r.step o) g c z
  . cases g
theorem tZ: ∀(ws:List Str) (s:St) (m i:Nat),Rc n m s->jM s i ws=none-> ∀e,dN n w (ws.foldl iG s)=some e-> ∃(a:Int) (cs:List Int),dN n w s=some a/\gp n w s ws=cs.map some/\cs.sum=a - e
 | [],s,m,i,_,_,e,h=>⟨e,[],h,rfl,by show(0:Int)=e - e;lia⟩
 | st::ws,s,m,i,r,g,e,h=>by
  unfold jM at g;split at g
  . rename_i o;obtain⟨b,cs,eb,ec,es⟩:=tZ (n:=n) (w:=w) ws _ _ _ (r.step o) g e h;obtain⟨a,ea,le⟩:=rY r o eb;refine⟨a,(a - b)::cs,ea,?_,?_⟩
    . rw[gp,ec];unfold lx;rw[ea,eb];rfl
    . rw[List.sum_cons,es];lia
  . cases g
theorem tE: ∀(ws:List Str) (s:St) (i:Nat) (st:Str),jM s i ws=none->mh (ws.foldl iG s) st=true->jM s i (ws++ [st])=none
 | [],s,i,st,_,o=>by show(if mh s st=true then none else some i)=none;rw[if_pos (show mh s st=true from o)]
 | t::ws,s,i,st,g,o=>by
  unfold jM at g;split at g
  . rename_i o2;show(if mh s t=true then jM (iG s t) (i+1) (ws++ [st]) else some i)=none;rw[if_pos o2];exact tE ws _ _ st g o
  . cases g
theorem D0.go{n:Nat}{ws:List Str}(h:D0 n ws s):jM (first n) 0 ws=none/\ws.foldl iG (first n)=s:=by
 induction h with
 | nil=>exact⟨rfl,rfl⟩
 | snoc _ o ih=>
  obtain⟨h1,h2⟩:=ih;refine⟨tE _ _ _ _ h1 (by rw[h2];exact o),?_⟩;rw[List.foldl_append,h2];rfl
end aW
namespace LD
open PySem PySem.Spec L2 LB PyProof.Rows
def wm(H:Hp)(a:Addr):Prop:= ∃o,H a=some o/\ ∀xs,o≠ .tup xs
noncomputable def qI(H:Hp)(a:Addr):Hp:=fun b=>if b=a then none else H b
theorem sR:qI H a a=none:=if_pos rfl
theorem off_ne(n:b≠a):qI H a b=H b:=if_neg n
theorem wM(h:H a=some o):H=upd (qI H a) a o:=by
 funext b
 by_cases c:b=a
 . subst c;rw[ag];exact h
 . rw[ah c,off_ne c]
theorem Bi(s:ax H H')(n:H a=none):ax H (qI H' a):=fun b o e=>by
 rw[off_ne fun z=>by rw[z,n] at e;cases e];exact s _ _ e
theorem BV:iI (wm H) H:=fun a z=>z
theorem xq{H H2:Hp}(s: ∀o,H a=some o->H2 a=some o)(h:H2 a=some (.lst xs))(n: ¬wm H a):H a=none:=by
 cases e:H a with
 | none=>rfl
 | some o=>
  have:=s _ e;rw[h] at this;cases this;exact absurd ⟨_,e,fun xs z=>by cases z⟩ n
theorem Rep.off(r:Rep M H v d)(f:Ao d)(h:H a=some (.lst ys))(al:iI M' (qI H a)):Rep M' (qI H a) v d:=by
 induction r with
 | aF=>exact .aF
 | bl b=>exact .bl b
 | int i=>exact .int i
 | str x=>exact .str x
 | lst h n l r ih=>cases f
 | @tup a2 Qr QS h2 n l r ih=>
  cases f with
  | tup f=>
   have e:qI H a a2=some (.tup Qr):=by rw[off_ne fun z=>by rw[z,h] at h2;cases h2];exact h2
   exact .tup e (al.tup e) l fun i x d h1 h2=>ih i x d h1 h2 (f d (ad2 h2))
 | vV h n e l r ih=>cases f
 | lN h n e l r ih=>cases f
def Nv(S:DN):Sp:=fun vs H Q _=> ∃M ds Qd,iI M H/\ay M H vs ds/\S ds Qd/\ ∀r H' v',Qd r->ax H H'->Rep (wm H) H' v' r->Q v' H'
section
variable{X:Cx}{e:Expr}{es:List Expr}{pos p:Pos}{x:Str}{k:Nat}{ps:List Str}
def Ui(S:DN)(t:eZ):wB:=fun δ Q=>t δ fun ds δ'=>S ds fun r=> ∃es,r= .lst es/\(∀d∈es,ym d)/\Q es δ'
theorem N3(h:dj X.prog X.w X.K X.mg X.base x k ps (Nv S))(hr:bg k X.A)(ha:Av X (e::es) t)(hg:Gl X x:=by rfl)(gs:(x==("__debug__":Str))=false:=by decide)(he:starEach (e::es) X.env=(false,eval e X.env)::starEach es X.env:=by rfl)(da:(backTo pos (starEach es X.env)).any (·.1)=false:=by rfl):
  Ov X (.Call (.Name x p) (e::es) [] pos) (Ui S t):=PE.imp (kA h hr hg ha gs he da) fun σ H Q bZ=>(by obtain⟨W,M,α,δ,Qd,E,q,k⟩:=bZ;exact(
 ⟨W,M,α,δ,_,E,q,fun ds δ' H' vs q1 E1 c1 r1=>(by
  show Nv S (vs++ []) H' Q E0;rw[af0];refine⟨M,ds,_,E1.al,r1,q1,fun r H2 v2 mE s r2=>?_⟩;obtain⟨es,er,at',q2⟩:=mE;subst er;obtain⟨a,xs,rfl,h2,n,rr⟩:=r2.bV;have fr:=xq (s a) h2 n;have s2:=Bi s fr;rw[wM h2];exact k _ _ _ _ _ q2 (E1.same s2) (c1.tr (cW.of s2)) (rr.DW at') sR)⟩))
inductive DD(i j b:Nat)(Δ:cG)(r:Dt)(t':Int)(δ':List Sl):Prop
 | mk (d:Dt) (es:List Dt) (h1:r= .tup [d,.lst es]) (h2:Ao d) (h3: ∀e∈es,ym e) (h4:br (δ'.set b (.bx t')) i) (h5:br ((δ'.set b (.bx t')).set i (.im d)) j) (h6:Δ.nx (((δ'.set b (.bx t')).set i (.im d)).set j (.ow es)))
def LA(i j b:Nat)(S:DB)(t:eZ):kg:=fun Δ δ=>(∃t0,δ[b]?=some (.bx t0))/\t δ fun ds δ'=>(∀d∈ds,Ao d)/\ ∃t,δ'[b]?=some (.bx t)/\S t ds fun r t'=>DD i j b Δ r t' δ'
theorem Fb(i j b:Nat)(h:dj X.prog X.w X.K X.mg X.base x k ps (sr S))(hr:bg k X.A)(ho:PE X (.Name z zp) (iF b))(ha:Av X es t)(hc:X.calm=true)(hN:X.N.Nodup)(hi:X.N[i]?=some u:=by rfl)(hj:X.N[j]?=some y:=by rfl)(hx:Loc X.env.scope u:=by first | exact Or.inl rfl | exact Or.inr rfl)(hy:Loc X.env.scope y:=by first | exact Or.inl rfl | exact Or.inr rfl)(hf:X.fn u=true\/X.env.scope.names.lookup u=some .local:=by first | exact .inl rfl | exact .inr rfl | assumption)(nF:X.fn y=true\/X.env.scope.names.lookup y=some .local:=by first | exact .inl rfl | exact .inr rfl | assumption)(hn:(assignEach [.Name u pu, .Name y py] X.env).length=2:=by rfl)(kh:(assignEach [.Name u pu, .Name y py] X.env).findIdx? (·.1)=none:=by rfl)(h1:(assignEach [.Name u pu, .Name y py] X.env).map (·.2)=assign (.Name u pu) X.env::(assignEach [.Name y py] X.env).map (·.2):=by rfl)(h2:(assignEach [.Name y py] X.env).map (·.2)=assign (.Name y py) X.env::(assignEach [] X.env).map (·.2):=by rfl)(hg:Gl X x:=by rfl)(gs:(x==("__debug__":Str))=false:=by decide)(he:starEach (.Name z zp::es) X.env=(false,eval (.Name z zp) X.env)::starEach es X.env:=by rfl)(da:(backTo aY (starEach es X.env)).any (·.1)=false:=by rfl)(hs:swapsWithSole [.Tuple [.Name u pu, .Name y py] kt pt] (.Call (.Name x p) (.Name z zp::es) [] aY) pos.line X.env=pure false:=by rfl)(hw:swappedStores [.Tuple [.Name u pu, .Name y py] kt pt] (.Call (.Name x p) (.Name z zp::es) [] aY) X.env=pure none:=by rfl)(h3:(assignEach [.Tuple [.Name u pu, .Name y py] kt pt] X.env).map (·.2)= [assign (.Tuple [.Name u pu, .Name y py] kt pt) X.env]:=by rfl):
  Ex X (.Assign [.Tuple [.Name u pu,.Name y py] kt pt] (.Call (.Name x p) (.Name z zp::es) [] aY) pos) (LA i j b S t):=
 PS.imp (qz (kA h hr hg (aj ho ha he) gs he da) (cn hc (aA (av hN hi hx hf) (aA (av hN hj hy nF) bw h2) h1) hn kh) hs hw h3) fun D σ H bZ=>(by obtain⟨W,M,α,δ,Δ,E,L,⟨t0,h0⟩,q⟩:=bZ;exact(by
  obtain⟨d,c,h1,h2,B⟩:=E.box h0;refine⟨_,h1,W,M,α,δ,_,E,q,fun ds δ' H' vs gr E1 c1 r1=>?_⟩;obtain⟨fl,t,hd,q1⟩:=gr;obtain⟨d',c',xM,qS,B'⟩:=E1.box hd;rw[h1] at xM;cases xM;show sr S ((V.ref d::vs)++ []) H' _ E0;rw[af0];have od:wm H' d:=⟨_,B'.dc,fun xs z=>by cases z⟩
  have oc:wm H' c':=let ⟨ns,hh,_⟩:=B'.cs;⟨_,hh,fun xs z=>by cases z⟩;refine⟨wm H',d,c',t,vs,ds,_,rfl,BV,od,oc,B',r1.Au fl BV,q1,fun r t' H2 v2 q2 kp B2 r2=>?_⟩;obtain⟨dd,es,rfl,fd,fe,FU,FT,q3⟩:=q2;obtain⟨pa,xs,rfl,X1,npa,rr⟩:=r2.bQ;obtain⟨v1,Qr,rfl,ra,rr⟩:=rr.aG;obtain⟨v2,xs3,rfl,rb,rr⟩:=rr.aG;cases rr.cC;obtain⟨a,ys,rfl,TF,na,ry⟩:=rb.bV;have nd:a≠d:=fun z=>na (z▸od);have nc:a≠c':=fun z=>na (z▸oc);have fr:H' a=none:=xq (fun o e=>kp a o e nd nc) TF na;have Xz:Kp d c' H' (qI H2 a):=fun b o e n1 n2=>by rw[off_ne fun z=>by rw[z,fr] at e;cases e];exact kp b o e n1 n2
  have B3:uu (qI H2 a) d c' t':=⟨by rw[off_ne nd.symm];exact B2.dc,let ⟨ns,hh,r⟩:=B2.cs;⟨ns,by rw[off_ne nc.symm];exact hh,r⟩,B2.t0,B2.t1⟩
  obtain⟨E2,c2⟩:=x6 E1 hd h1 qS Xz B3;have E3:=E2.fw (ra.off fd TF E2.al) FU;have E4:=E3.mX (s:= .ow es) (p:=a) (u:= .lst ys) sR (fun xs z=>by cases z) FT rfl ⟨a,ys,rfl,rfl,ag,ry.DW fe⟩;rw[<-wM TF] at E4;exact⟨pa,_,rfl,dB.of X1,rfl,v1,_,rfl,_,_,rfl,rfl,L.nx _ _ _ _ _ E4 q3⟩))
end
def Uv(f:Str)(Ws:List Wd)(Ew:Addr->Hp->Prop)(Δx:Int->List Sl->Prop):Prop:= ∀M α H H2 σ δ n dx,az Ws M α H σ δ->Δx n δ->ax H H2->H2 dx=some (.xd [(f,.int n)])->Ew dx H2
def U7(f:Str)(Ew:Addr->Hp->Prop)(T:yk):TS:=fun D σ H=> ∃Ws M α δ Δ Δx,az Ws M α H σ δ/\Lk Ws D Δ/\Uv f Ws Ew Δx/\T Δ Δx δ
section
variable{X:Cx}{N:List Str}{nt:Nat}{js:List Nat}{scope:Scope}{elt tg e:Expr}{es ifs:List Expr}{pos p aY:Pos}{g:og}{tc:kj}{te:bh}{f:Str}{k:Nat}{ps:List Str}{x:Str}
inductive EF(i nt:Nat)(js:List Nat)(g:og)(tc:kj)(te:bh)(Δ:cG)(δ':List Sl)(r:Dt):Prop
 | mk (ao:List Dt) (h1:r= .lst ao) (h2:ao.length<=sizeLine) (p:Dt->Bool) (f:Dt->Dt) (h3: ∀d∈ao,g d (cin nt js δ') fun δ2=>tc δ2 fun b δ3=>b=p d/\(b=true->te δ3 fun r _=>r=f d)) (h4:br δ' i) (h5:Δ.nx (δ'.set i (.im (.lst ((ao.filter p).map f)))))
def MY(i nt:Nat)(js:List Nat)(S:List Dt->(Dt->Prop)->(Int->Prop)->Prop)(t:eZ)(g:og)(tc:kj)(te:bh):yk:=fun Δ Δx δ=>t δ fun ds δ'=>S ds (EF i nt js g tc te Δ δ') (fun n=>Δx n δ')
theorem Jo(i:Nat){pos' py:Pos}(h:n6 X.prog X.w X.K X.mg X.base x k ps (yJ f C S))(hr:bg k X.A)(hx:Passes (oP X.prog X.w) X E)(ha:Av X (e::es) t)(hN:X.N.Nodup)(Sc:jj X N nt js scope)(hc:X.calm=true)(hg: ∀s H cl C ex,PG (dA X N scope s H cl C ex) tg gh)(eE:jh nt gh)(oA: ∀v σ H Q,lG g v σ H Q->gh v σ H Q)(hf: ∀s H cl C ex,PF (dA X N scope s H cl C ex) ifs (lT tc))(he: ∀s H cl C ex,Ev (dA X N scope s H cl C ex) elt te)(OT:X.N[i]?=some y:=by rfl)(hy:Loc X.env.scope y:=by first | exact Or.inl rfl | exact Or.inr rfl)(Yi:Gl X x:=by rfl)(gs:(x==("__debug__":Str))=false:=by decide)(kh:starEach (e::es) X.env=(false,eval e X.env)::starEach es X.env:=by rfl)(da:(backTo aY (starEach es X.env)).any (·.1)=false:=by rfl)(Gg:swapsWith (.ListComp elt [⟨tg, .Call (.Name x p) (e::es) [] aY,ifs,0⟩] scope pos) (some (.Name y py)) pos'.line X.env=pure true:=by rfl)(hs: ∀z,foldedSetIterable (.Call (.Name x p) (e::es) [] aY) X.env z=pure z:=by intro _;rfl)(Gr:X.fn y=true\/X.env.scope.names.lookup y=some .local:=by first | exact .inl rfl | exact .inr rfl | assumption):
  PS X (.Assign [.Name y py] (.ListComp elt [⟨tg,.Call (.Name x p) (e::es) [] aY,ifs,0⟩] scope pos) pos') (U7 f (fun dx H'=>E (.ref C) (some dx) H') (MY i nt js S t g tc te)):=
 PS.imp (xb hN OT hy Sc hc (xi (BN h hr hx ha Yi gs kh da)) hg eE hf he Gg hs Gr) fun D σ H bZ=>by
 obtain⟨Ws,M,α,δ,Δ,Δx,E,L,LX,q⟩:=bZ;refine⟨Ws,M,α,δ,_,E,q,fun ds δ' H' vs q1 E1 c1 r1=>?_⟩;show yJ f C S (vs++ []) H' _ _;rw[af0];refine⟨M,ds,_,_,E1.al,r1,q1,fun r H2 v2 q2 s r2=>?_,fun n dx H2 qe s jm=>LX _ _ _ _ _ _ _ _ E1 qe s jm⟩;obtain⟨ao,rfl,hsz,p,f,step,ok,q3⟩:=q2;obtain⟨a,xs,rfl,ha,n,rr⟩:=r2.bV;exact⟨a,rfl,⟨xs,bS.of ha⟩,fun D hD=>pM oA (E1.same s) (wI ha n rr) hsz step (fun H3 xs a E3 c3 r3 h3=>L.nx _ _ _ _ _ ((E3.same (ax.new h3)).fw (Rep.mR ag (E3.fresh h3) (r3.same (ax.new h3))) ok) q3) D hD⟩
end
def EW(f:Str)(C:Addr)(S:List Dt->(Dt->Prop)->(Int->Prop)->Prop):Sp:=fun vs H Q E=> ∃M ds Qd Ed,iI M H/\ay M H vs ds/\S ds Qd Ed/\(∀r H' v',Qd r->ax H H'->Rep (wm H) H' v' r->Q v' H')/\(∀n dx H',Ed n->ax H H'->H' dx=some (.xd [(f,.int n)])->E (.ref C) (some dx) H')
section
variable{P:Program}{w:World}{K:PySem.W.Frag}{mg:Str->Option Value}{base:Heap}
theorem TK {fl : Str} {x qual : Str} {st s1 : Stmt} {k : Nat} (F : dM K x qual st f fd) (sc : aw N ps (af st)) (hb : bz st = [s1, .Return (some e) rp]) (len : ∀ ds Qd Ed, S ds Qd Ed -> ds.length = ps.length) (dw : ∀ (ba : Value) (A : Around) (outer : List Env) (s : Shared) (H : Hp) (E : XK), bg k (A.deeper (envOfC qual (af st) s.heap.objs.size f ba)) ->
   ∃T tO,PS (fJ (oP P w) P w K mg base N qual (af st) f ba A outer s H E) s1 (U7 fl (fun dx H'=>E (.ref C) (some dx) H') T)/\Ov (fJ (oP P w) P w K mg base N qual (af st) f ba A outer s H E) e tO/\ ∀ds Qd Ed,S ds Qd Ed->T {nx:=fun δ=>tO δ fun es _=>(∀d∈es,ym d)/\Qd (.lst es),rt:=fun _ _=>False} (fun n _=>Ed n) (ds.map .im++List.replicate (N.length - ps.length) .no)):
  aJ P w K mg base (oP P w) (k+1) f fd ps (EW fl C S):=by
 refine F.UY sc (fun vs H Q E h=>?_) (fun ba A outer s H vs Q E hr h=>?_)
 . obtain⟨M,ds,Qd,Ed,al,r,q,_⟩:=h;rw[r.1];exact len ds Qd Ed q
 . obtain⟨M,ds,Qd,Ed,al,r,q,kk,ke⟩:=h;obtain⟨T,tO,hT,hO,hq⟩:=dw ba A outer s H E hr;rw[hb];refine⟨_,aT hT (cK (iZ hO)),[⟨H,fun _=>False,M,M,none⟩],M,List.replicate (ds.length+(N.length - ps.length)) [],ds.map .im++List.replicate (N.length - ps.length) .no,_,_,?_,?_,?_,hq ds Qd Ed q⟩
   . have e:L2.start N vs=vs.map some++List.replicate (N.length - ps.length) none:=by unfold L2.start;rw[r.1,len ds Qd Ed q]
     rw[e];refine iu al r fun W hW=>?_;rw[aa6.mp hW];have bf:(List.replicate (ds.length+(N.length - ps.length)) ([]:List Addr)).flatten= []:=by simp
     refine⟨fun b o e _=>e,fun b n=>n,fun a ha=>by rw[bf] at ha;exact absurd ha aa4,fun a h=>h,fun a h=> .inl h,fun d c e=>(by cases e),fun j s as h1 h2 _ a ha=>?_⟩;rw[ac1] at h2;split at h2
     . cases h2;exact absurd ha aa4
     . cases h2
   . refine⟨fun M' α' H' σ' δ' E' q=>⟨[⟨H,fun _=>False,M,M,none⟩],M',α',δ',_,E',q,fun es δ2 H1 xs a gr E1 c1 r1 h1=>?_⟩,fun _ _ _ _ _ _ _ _ _ z=>z.elim,fun _ _ _ _ _ _ z=>z.elim,fun _ _ _ _ _ _ z=>z.elim⟩;obtain⟨at',q1⟩:=gr;have k:=E1.w _ (aa6.mpr rfl);have s1:ax H H1:=fun b o e=>k.bs b o e (fun z=>z);have s2:ax H1 (upd H1 a (.lst xs)):=ax.new h1;refine kk _ _ _ q1 (fun b o e=>s2 _ _ (s1 _ _ e)) (Rep.mR ag (fun z=>?_) (r1.DW at'));obtain⟨o,e,_⟩:=z;rw[s1 _ _ e] at h1;cases h1
   . intro M' α' H' H2 σ' δ' n dx E' q s jm;have k:=E'.w _ (aa6.mpr rfl);exact ke n dx _ q (fun b o e=>s _ _ (k.bs b o e (fun z=>z))) jm
end
end LD
namespace aW
open PySem PySem.Spec L2 LB LD PyProof.Rows ly
def Wl:DN:=fun ds Q=> ∃(n m:Nat) (w:Nat->Nat->Wo) (s:St),ds= [cy n w,s.dt]/\Rc n m s/\1<=n/\n<=12/\Sm w/\Q (UW (bestOf n (cj (rows s) w)))
def Qu:DN:=fun ds Q=> ∃(n m:Nat) (w:Nat->Nat->Wo) (s:St),ds= [cy n w,s.dt]/\Rc n m s/\1<=n/\n<=12/\Sm w/\Q (bo (dN n w s))
def U6:DN:=fun ds Q=> ∃(n:Nat) (w:Nat->Nat->Wo) (h:List Nat),ds= [cy n w,CG h]/\h.length=n/\(∀x∈h,x<=n)/\n<=60/\Q (bo (iD w h))
theorem EX(s:Sm w):Sm (cj R w):=fun i o v e=>by
 unfold cj at e;split at e
 . exact s i o v e
 . cases e
section
variable{P:Program}{w:World}{K:PySem.W.Frag}{mg:Str->Option Value}{base:Heap}
theorem qH(F:dM K "best_still" "best_still" iW f fd)(T:Txt mg)(jf:dj P w K mg base "best_plain" 4 ["w"] (bP DU))(Hn:dj P w K mg base "kept_to" 1 ["w","lists"] (bP Ia))(nZ:dj P w K mg base "allowed" 2 ["stand"] (bP HJ)):aJ P w K mg base cX 5 f fd ["w","stand"] (bP Wl):=by
 refine lL F sy (fun ds Qd h=>?_) (fun ba A outer s H E hr=>⟨_,(aB (aD (aO jf (hr.mono (by decide)) (aa (aO Hn (hr.mono (by decide)) (aa (dv 0) (aa (aO nZ (hr.mono (by decide)) (aa (dv 1) ae)) ae))) ae)))),fun ds Qd h=>?_⟩)
 . obtain⟨n,m,w,s,rfl,_⟩:=h;rfl
 . obtain⟨n,m,w,s,rfl,r,n1,n5,sm,q⟩:=h;have rl:(rows s).length=n:=by unfold rows;rw[aa1,ac5];exact r.lv.k.g.l
   refine⟨_,rfl,_,rfl,n,m,s,rfl,r,by lia,n,w,rows s,rfl,rl,by lia,n,cj (rows s) w,rfl,n1,by lia,EX sm,fun z B=>?_⟩;rw[pW B (kR n _)];exact q
theorem B0(F:dM K "still" "still" uU f fd)(T:Txt mg)(wu:dj P w K mg base "best_still" 5 ["w","stand"] (bP Wl)):aJ P w K mg base cX 6 f fd ["w","stand"] (bP Qu):=by
 refine lL F wV (fun ds Qd h=>?_) (fun ba A outer s H E hr=>⟨_,(ak (bT 2 wV.nd (aO wu (hr.mono (by decide)) (aa (dv 0) (aa (dv 1) ae))))
 (aB (aD (fZ (kT (dv 2)) eG (dz (dv 2) au))))),fun ds Qd h=>?_⟩)
 . obtain⟨n,m,w,s,rfl,_⟩:=h;rfl
 . obtain⟨n,m,w,s,rfl,r,n1,n5,sm,q⟩:=h;refine⟨_,rfl,_,rfl,n,m,w,s,rfl,r,n1,n5,sm,⟨_,rfl,rfl⟩,?_⟩;unfold dN at q;generalize bestOf n (cj (rows s) w)=b at q ⊢;cases b with
   | none=>exact⟨_,rfl,true,rfl,cS q⟩
   | some b=>exact⟨_,rfl,false,rfl,bN ⟨_,rfl,_,_,_,.inr rfl,rfl,bc (j:=0) rfl,q⟩⟩
theorem zd(F:dM K "_law_worth" "_law_worth" jx f fd)(T:Txt mg):aJ P w K mg base cX 1 f fd ["_law_w","_law_h"] (bP U6):=by
 refine lL F sx (fun ds Qd h=>?_) (fun ba A outer s H E hr=>⟨_,(ak (JJ 2 sx.nd (N:= ["_law_row","_law_on"]) (nt:=2) (js:= []) ⟨rfl,by decide+kernel,by decide,rfl,by decide+kernel,(by show∀x∈(_:List (Str × NameKind)),x.2=NameKind.free->(af jx).names.lookup x.1=some .cell\/(af jx).names.lookup x.1=some .free;decide+kernel)⟩ rfl (o9 (aa (dv 0) (aa (dv 1) ae)) fun z=>kz (by rfl) T.zip z) (fun _ _ _ _ _=>cn rfl (aA (av (i:=0) (show(["_law_row","_law_on"]:List Str).Nodup by decide+kernel) rfl (by first | exact Or.inl rfl | exact Or.inr rfl)) (aA (av (i:=1) (show(["_law_row","_law_on"]:List Str).Nodup by decide+kernel) rfl (by first | exact Or.inl rfl | exact Or.inr rfl)) bw))) bL bb (fun _ _ _ _ _=>dy) (fun _ _ _ _ _=>(dz (dv 0) (dv 1))))
 (aB (iL 2 (aD (fZ (ES eG (dv 2)) eG (Dv rfl T.sum (aa (dv 2) ae))))))),fun ds Qd h=>?_⟩)
 . obtain⟨n,w,h,rfl,_⟩:=h;rfl
 . obtain⟨n,w,h,rfl,l,hx,n1,q⟩:=h;subst l;refine⟨_,rfl,_,rfl,true,true,_,_,rfl,?_⟩;have zl:(cY ((List.range' 1 h.length).map (de h.length w)) (h.map xI)).length<=60:=by
    unfold cY;rw[al1,aa1,aa1,ac5];lia
   refine⟨ac6 zl (by decide),fun _=>true,Ln,fun d hd=>?_,?_⟩
   . obtain⟨j,x,hm,rfl⟩:=uz hd;refine⟨_,_,rfl,⟨_,rfl,rfl⟩,⟨_,rfl,rfl⟩,rfl,fun _=>?_⟩;exact⟨_,rfl,_,rfl,_,_,_,.inr rfl,rfl,m6 (hx x hm),by show bo (w j x)=(jd _ _).getD _;rw[m6 (hx x hm)];rfl⟩
   . rw[ae7.mpr fun _ _=>rfl,p6 hx];have tz:=p9 (w:=w) (h:=h) (i:=1);rw[show iD w h=dW w 1 h from rfl,<-tz] at q;generalize List.zipWith w (List.range' 1 h.length) h=L at q ⊢;refine⟨⟨_,rfl,rfl⟩,_,rfl,_,rfl,_, .inl rfl,rfl,wL L,_,rfl,?_⟩;show if inD .aF (L.map bo)=true then _ else _
     rw[Hu];by_cases c:none∈L
     . rw[mP c] at q;exact gU (ad6 c) q
     . obtain⟨ns,e1,e2⟩:=mQ L c;rw[e2] at q;refine fW (by rw[ae5 c];decide) ⟨_,rfl,ns,?_,q⟩;rw[e1,wK]
end
def xx:DN:=fun ds Q=> ∃a b:Wo,ds= [bo a,bo b]/\Q (bo (kY a b))
def we(ds:List Dt)(Q:Dt->Prop)(E:Int->Prop):Prop:= ∃(n:Nat) (ws:List Str),ds= [nI n,.lst (ws.map .str)]/\1<=n/\n<=12/\ws.length<=100/\(jM (first n) 0 ws=none->Q (.lst ((yv (first n) ws).map St.dt)))/\ ∀p,jM (first n) 0 ws=some p->E (p:Int)
def uO(ds:List Dt)(Q:Dt->Prop)(E:Int->Prop):Prop:= ∃(n:Nat) (w:Nat->Nat->Wo) (ws:List Str),ds= [cy n w,.lst (ws.map .str)]/\1<=n/\n<=12/\Sm w/\ws.length<=100/\(jM (first n) 0 ws=none->Q (.lst ((gp n w (first n) ws).map bo)))/\ ∀p,jM (first n) 0 ws=some p->E (p:Int)
def AlI(n:Nat)(ws:List Str)(i:Nat)(δ:List Sl):Prop:= ∃(s:St) (acc:List St) (s3 s4:Sl),δ= [.im (nI n),.im (.lst (ws.map .str)),.ow ((acc++ [s]).map St.dt),s3,s4]/\s3.cB=false/\s4.cB=false/\Rc n i s/\acc.length=i/\acc++yv s (ws.drop i)=yv (first n) ws/\jM s i (ws.drop i)=jM (first n) 0 ws
def xZ:DN:=fun ds Q=> ∃(n m:Nat) (w:Nat->Nat->Wo) (s:St) (st:Str),ds= [cy n w,s.dt,.str st]/\Rc n m s/\1<=n/\n<=12/\Sm w/\mh s st=true/\Q (bo (lx n w s st))
noncomputable def dR:Stmt:=match top 8 with
 | .ClassDef _ _ _ b _ _ _ _ _ _ _=>b.getD 0 (.Pass ⟨0,0,0,0⟩)
 | _=> .Pass ⟨0,0,0,0⟩
section
variable{P:Program}{w:World}{K:PySem.W.Frag}{mg:Str->Option Value}{base:Heap}
theorem FN(F:dM K "__init__" qual dR f fd)(sc:aw ["self","place"] ["self","place"] (af dR)):aJ P w K mg base cX 1 f fd ["self","place"] (mV K "place"):=by
 refine F.ok sc (fun vs H Q E h=>?_) (fun ba A outer s H vs Q E hr h=>⟨_,cK (Fq (pv 0) (pv 1) rfl),?_⟩)
 . obtain⟨ea,C,t,v,rfl,_⟩:=h;rfl
 . obtain⟨ea,C,t,v,rfl,h1,S,q⟩:=h;exact⟨_,rfl,_,rfl,ea,C,t,rfl,h1,S,fun dx jm=>q dx jm⟩
theorem FK(F:dM K "lost" "lost" Bl f fd)(T:Txt mg):aJ P w K mg base cX 1 f fd ["before","after"] (bP xx):=by
 refine lL F JG (fun ds Qd h=>?_) (fun ba A outer s H E hr=>⟨_,(ak (cZ (PW.pt (w_or (kT (dv 0)) (mJ (kT (dv 1)))))
 (aB (aD eG))
 bq)
 (aB (aD (fG (dv 0) (dv 1))))),fun ds Qd h=>?_⟩)
 . obtain⟨a,b,rfl,_⟩:=h;rfl
 . obtain⟨a,b,rfl,q⟩:=h;cases a with
   | none=>exact⟨_,rfl,true,rfl,cS (cS q)⟩
   | some a=>
    cases b with
    | none=>exact⟨_,rfl,false,rfl,bN ⟨_,rfl,true,rfl,cS q⟩⟩
    | some b=>exact⟨_,rfl,false,rfl,bN ⟨_,rfl,false,rfl,bN ⟨_,rfl,_,rfl,_,_,rfl,rfl,q⟩⟩⟩
theorem zf(F:dM K "cost" "cost" Bq f fd)(T:Txt mg)(je:dj P w K mg base "steps_from" 1 ["stand"] (bP vn))(rH:dj P w K mg base "still" 6 ["w","stand"] (bP Qu))(iB:dj P w K mg base "behind" 1 ["stand","word"] (bP bE))(p5:dj P w K mg base "lost" 1 ["before","after"] (bP xx)):aJ P w K mg base cX 7 f fd ["w","stand","step"] (bP xZ):=by
 refine lL F JH (fun ds Qd h=>?_) (fun ba A outer s H E hr=>⟨_,(ak (cZ (qc (dv 2) (aO je (hr.mono (by decide)) (aa (dv 1) ae)))
 (aB Fc)
 bq)
 (aB (aD (aO p5 (hr.mono (by decide)) (aa (aO rH (hr.mono (by decide)) (aa (dv 0) (aa (dv 1) ae))) (aa (aO rH (hr.mono (by decide)) (aa (dv 0) (aa (aO iB (hr.mono (by decide)) (aa (dv 1) (aa (dv 2) ae))) ae))) ae)))))),fun ds Qd h=>?_⟩)
 . obtain⟨n,m,w,s,st,rfl,_⟩:=h;rfl
 . obtain⟨n,m,w,s,st,rfl,r,n1,n5,sm,c,q⟩:=h;have fi:lV s:=r.lv.k.g.vO (by lia) (by have:=r.le n1;lia);refine⟨_,rfl,_,rfl,s,rfl,fi,_, .inl rfl,rfl,nu,_,rfl,?_⟩;show if (!inD (.str st) (cc s))=true then _ else _
   rw[nC,c];refine bN ⟨_,rfl,_,rfl,n,m,w,s,rfl,r,n1,n5,sm,_,rfl,_,rfl,_,rfl,?_⟩;show bE [s.dt,.str st] fun d=>Qu [cy n w,d] fun x=>xx [bo (dN n w s),x] fun y=>Qd y;refine cD fi c ?_;exact⟨n,m+1,w,iG s st,rfl,.step r c,n1,n5,sm,_,_,rfl,q⟩
theorem Ca{f C fI:Addr}{fd MH:FuncData}{mz LS:List Value}{newId Bn Ep B Kn i5:String}(F:dM K "stands_along" "stands_along" fQ f fd)(T:Txt mg)(uj:dj P w K mg base "first_stand" 1 ["n"] (bP CQ))(je:dj P w K mg base "steps_from" 1 ["stand"] (bP vn))(iB:dj P w K mg base "behind" 1 ["stand","word"] (bP bE))
  (O:LX.mC "NoStep" C fI mz newId mg base) (Fn:ExcBaseFacts Bn newId Ep LS) (As:mz.contains (.type Bn)=true) (FB:ExcBaseFacts B Kn i5 mz) (FI:aJ P w K mg base cX 1 fI MH ["self","place"] (mV K "place")) (hb:Binds K MH ["self","place"] []) (S:Ap K C "place"):
  aJ P w K mg base (oP P w) 3 f fd ["n","steps"] (yJ "place" C we):=by
 refine TM (k:=2) F eV (fun ds Qd Ed h=>?_) (fun ba A outer s H E hr OC=>⟨_,(uB (Jn (fP 2 eV.nd (iN (aa (aO uj (hr.mono (by decide)) (aa (dv 0) ae)) ae))))
 (uB (MW rfl (tu T.MI (aa (dv 1) ae)) (qT 3 4 rfl eV.nd)
 (uB (RF (qc (dv 4) (aO je (hr.mono (by decide)) (aa (pJ 2 (pv 2) (fH au)) ae)))
 (AM (y_raise O Fn As FB FI hb S (hr.mono (by decide)) rfl (aa (dv 3) ae) OC))
 MV)
 (AM (Jn (cH (bJ 2 (pv 2) (aa (aO iB (hr.mono (by decide)) (aa (pJ 2 (pv 2) (fH au)) (aa (dv 4) ae))) ae)))))) PassesOwn.leaving)
 (AM (Jn (iL 2 (aD (dv 2))))))),fun ds Qd Ed h=>?_⟩)
 . obtain⟨n,ws,rfl,_⟩:=h;rfl
 . obtain⟨n,ws,rfl,n1,gm,wl,q,qe⟩:=h;refine⟨_,rfl,n,rfl,n1,by lia,by show 1<=sizeLine;decide,⟨_,rfl,rfl⟩,?_⟩;refine⟨_,rfl,_,rfl,?_⟩;refine AL (AlI n ws) ⟨first n,[], .no, .no,rfl,rfl,rfl, .zero,rfl,by rw[am2];rfl,by rw[am2]⟩ (fun i d δ hi hP Δ' pd Es=>?_) (fun δ hP=>?_)
   . obtain⟨s,acc,s3,s4,rfl,b3,b4,g,la,e1,e⟩:=hP;rw[ab8];have il:i < ws.length:=by
      have:=(aa5.mp hi).1;unfold aL at this;rw[ah6,aa1] at this;exact this
     have ed:d= .tup [nI i,.str ws[i]]:=by
      unfold aL at hi;rw[ai5,aa8,aa2 il] at hi;injection hi with hi
      exact hi.symm
     subst ed;rw[am1 il] at e e1;have fi:lV s:=g.lv.k.g.vO gm (by lia);refine⟨_,_,rfl,⟨_,rfl,b3⟩,⟨_,rfl,b4⟩,_,rfl,⟨_,rfl⟩,_,rfl,_,_,_,rfl,rfl,fV,s,rfl,fi,_,.inl rfl,rfl,nu,_,rfl,?_⟩;show if (!inD (.str ws[i]) (cc s))=true then _ else _
     rw[nC];cases c:mh s ws[i] with
     | false=>
      have e':some i=jM (first n) 0 ws:=by rw[<-e];unfold jM;rw[c];rfl
      exact cS ⟨_,rfl,_,rfl,qe i e'.symm⟩
     | true=>
      refine bN ⟨⟨_,rfl⟩,⟨_,rfl⟩,_,rfl,_,_,_,rfl,rfl,fV,_,rfl,?_⟩;show bE [s.dt,.str ws[i]] fun d=>DL 2 (fun _ δ'=>Δ'.nx δ') [d] [.im (nI n),.im (.lst (ws.map .str)),.ow (acc.map St.dt++ [s.dt]),.im (nI i),.im (.str ws[i])];refine cD fi c ?_;refine⟨_,_,rfl,rfl,?_,pd _ ⟨iG s ws[i],acc++ [s],.im (nI i),.im (.str ws[i]),?_,rfl,rfl,g.step c,by rw[aa9,la];rfl,?_,?_⟩⟩
      . rw[aa9,aa1,la];exact ac4 (show i+1 < 200 by lia) (by decide)
      . rw[ab8,ab8];rfl
      . rw[<-e1,af3];rfl
      . rw[<-e];conv=>rhs;unfold jM
        rw[if_pos c]
   . obtain⟨s,acc,s3,s4,rfl,b3,b4,g,la,e1,e⟩:=hP;have le:(aL 0 (ws.map Dt.str)).length=ws.length:=by unfold aL;rw[ah6,aa1]
     rw[le,List.drop_length] at e e1;rw[show acc++ [s]=yv (first n) ws from e1];exact⟨_,rfl,_,rfl,q e.symm⟩
end
open Classical in
noncomputable def vF(n:Nat)(w:Nat->Nat->Wo)(d:Dt):Dt:=if h: ∃s:St,d=s.dt then bo (dN n w h.choose) else .aF
theorem Kj(h:oD a=oD b):a=b:=by
 cases a with
 | none=>cases b with
  | none=>rfl
  | some y=>cases h
 | some x=>cases b with
  | none=>cases h
  | some y=>
   injection h with h
   rw[Int.ofNat.inj h]
theorem Lp{s t:St}(h:s.dt=t.dt):s=t:=by
 obtain⟨p,b,o⟩:=s;obtain⟨p',b',o'⟩:=t;injection h with h
 injection h with h1 h
 injection h with h2 h
 injection h with h3 _
 injection h1 with h1
 injection h2 with h2
 injection h3 with h3
 have e1:p=p':=(List.map_inj_right fun x y e=>by injection e with e;exact Int.ofNat.inj e).mp h1;have e2:b=b':=Int.ofNat.inj h2;have e3:o=o':=(List.map_inj_right fun x y e=>Kj e).mp h3;rw[e1,e2,e3]
theorem Hz(s:St):vF n w s.dt=bo (dN n w s):=by
 have h: ∃t:St,s.dt=t.dt:=⟨s,rfl⟩
 unfold vF;rw[dif_pos h,<-Lp h.choose_spec]
noncomputable def Ju:Dt->Wo
 | .int i=>some i
 | _=>none
theorem p8(x:Wo):Ju (bo x)=x:=by cases x <;> rfl
noncomputable def lF:Dt->Dt
 | .tup [a,b]=>bo (kY (Ju a) (Ju b))
 | d=>d
theorem uD: ∀(ws:List Str) (s:St),(yv s ws).length=ws.length+1
 | [],s=>rfl
 | st::ws,s=>by show(yv (iG s st) ws).length+1=_;rw[uD ws];rfl
theorem Hw: ∀(ws:List Str) (s:St) (m i:Nat),Rc n m s->jM s i ws=none-> ∀t∈yv s ws,∃k,Rc n k t
 | [],s,m,i,r,_,t,h=>by rw[aa6.mp h];exact⟨m,r⟩
 | st::ws,s,m,i,r,g,t,h=>by
  unfold jM at g;split at g
  . rename_i o;rcases ac3.mp h with z | z
    . rw[z];exact⟨m,r⟩
    . exact Hw ws _ _ _ (r.step o) g t z
  . cases g
theorem rQ{A B:List Wo}:(cY (A.map bo) (B.map bo)).map lF=(List.zipWith kY A B).map bo:=by
 unfold cY;rw[List.zipWith_map,List.map_zipWith,List.map_zipWith];congr 1
 funext a b
 show bo (kY (Ju (bo a)) (Ju (bo b)))=_;rw[p8,p8]
theorem Ac{ds:List Dt}(h:a<=ds.length):LD.cutD ds (some (a:Int)) none=ds.drop a:=by
 unfold LD.cutD;rw[HT.l6,HT.gM,Nat.min_eq_left h,an8 (by rw[ak1];exact ab2 _)]
section
variable{P:Program}{w:World}{K:PySem.W.Frag}{mg:Str->Option Value}{base:Heap}
theorem B4(F:dM K "slips" "slips" mZ f fd)(T:Txt mg)(Mi:n6 P w K mg base "stands_along" 3 ["n","steps"] (yJ "place" C we))(rH:dj P w K mg base "still" 6 ["w","stand"] (bP Qu))(p5:dj P w K mg base "lost" 1 ["before","after"] (bP xx)):
  aJ P w K mg base (oP P w) 7 f fd ["w","steps"] (EW "place" C uO):=by
 refine TK (k:=6) F wW rfl (fun ds Qd Ed h=>?_) (fun ba A outer s H E hr=>⟨_,_,Jo 2 (E:=E) Mi (hr.mono (by decide)) NS (aa (bH T.len (aa (dv 0) ae)) (aa (dv 1) ae)) wW.nd (N:= ["stand","w"]) (nt:=1) (js:= [0]) ⟨rfl,by decide+kernel,by decide,rfl,by decide+kernel,(by repeat (first | exact uP | refine qg (by first | exact Or.inl rfl | exact Or.inr rfl) ?_ | refine qh (fun z=>nomatch z) ?_))⟩ rfl (fun _ _ _ _ _=>av (i:=0) (show(["stand","w"]:List Str).Nodup by decide+kernel) rfl (by first | exact Or.inl rfl | exact Or.inr rfl)) bM aX (fun _ _ _ _ _=>dy) (fun _ _ _ _ _=>(aO rH (hr.mono (by decide)) (aa (dv 1) (aa (dv 0) ae)))),
  (cq (N:= ["before","after"]) (nt:=2) (js:= []) ⟨rfl,by decide+kernel,by decide,rfl,by decide+kernel,(by show∀x∈(_:List (Str × NameKind)),x.2=NameKind.free->(af mZ).names.lookup x.1=some .cell\/(af mZ).names.lookup x.1=some .free;decide+kernel)⟩ rfl (o9 (aa (dv 2) (aa (Dw (dv 2) (ez au) eB) ae)) fun z=>kz (by rfl) T.zip z) (fun _ _ _ _ _=>cn rfl (aA (av (i:=0) (show(["before","after"]:List Str).Nodup by decide+kernel) rfl (by first | exact Or.inl rfl | exact Or.inr rfl)) (aA (av (i:=1) (show(["before","after"]:List Str).Nodup by decide+kernel) rfl (by first | exact Or.inl rfl | exact Or.inr rfl)) bw))) bL bb (fun _ _ _ _ _=>dy) (fun _ _ _ _ _=>(aO p5 (hr.mono (by decide)) (aa (dv 0) (aa (dv 1) ae))))),fun ds Qd Ed h=>?_⟩)
 . obtain⟨n,w,ws,rfl,_⟩:=h;rfl
 . obtain⟨n,w,ws,rfl,n1,gm,sm,wl,q,qe⟩:=h;have tl:(List.map (de n w) (List.range' 1 n)).length=n:=by rw[aa1,ac5]
   refine⟨_,rfl,_,.inr rfl,_,rfl,n,ws,by rw[tl],n1,gm,wl,fun g=>⟨_,rfl,?_,fun _=>true,vF n w,fun d hd=>?_,⟨_,rfl,rfl⟩,?_⟩,qe⟩
   . rw[aa1,uD];exact ac6 (show ws.length+1<=101 by lia) (by decide)
   . obtain⟨s,hs,rfl⟩:=ab7.mp hd;obtain⟨m,r⟩:=Hw ws _ _ _ .zero g s hs;refine⟨⟨_,rfl,rfl⟩,rfl,fun _=>⟨_,rfl,_,rfl,n,m,w,s,rfl,r,n1,gm,sm,(Hz s).symm⟩⟩
   . have ev : ((List.map St.dt (yv (first n) ws)).filter fun _ => true).map (vF n w) = ((yv (first n) ws).map (dN n w)).map bo := by
       rw[ae7.mpr fun _ _=>rfl,ad8,ad8];exact ac8 fun s _=>Hz s
     rw[ev];generalize eA:(yv (first n) ws).map (dN n w)=A;have lA:A.length=ws.length+1:=by rw[<-eA,aa1,uD]
     have ct:LD.cutD (A.map bo) (some 1) none=A.tail.map bo:=by
      rw[show(some 1:Option Int)=some ((1:Nat):Int) from rfl,Ac (by rw[aa1];lia),List.drop_one,List.map_tail]
     have cz:=tY (n:=n) (w:=w) ws (first n);rw[eA] at cz;refine⟨_,rfl,_,rfl,_,rfl,_,rfl,?_⟩;rw[ct];have zl:(cY (A.map bo) (A.tail.map bo)).length<=101:=by
      unfold cY;rw[al1,aa1];lia
     refine⟨false,false,_,_,rfl,ac6 zl (by decide),fun _=>true,lF,fun d hd=>?_,?_,?_⟩
     . unfold cY at hd;rw[List.zipWith_map] at hd;obtain⟨j,hj⟩:=List.getElem?_of_mem hd;rw[ao3] at hj;split at hj
       . cases hj;rename_i a b _ _;refine⟨_,_,rfl,⟨_,rfl,rfl⟩,⟨_,rfl,rfl⟩,rfl,fun _=>⟨_,rfl,_,rfl,a,b,rfl,?_⟩⟩;show bo (kY a b)=bo (kY (Ju (bo a)) (Ju (bo b)));rw[p8,p8]
       . cases hj
     . intro d hd;rw[ae7.mpr fun _ _=>rfl,rQ] at hd;obtain⟨x,_,rfl⟩:=ab7.mp hd;cases x <;> constructor
     . rw[ae7.mpr fun _ _=>rfl,rQ,cz];exact q g
end
noncomputable def iK(n:Nat)(w:Nat->Nat->Wo)(ws:List Str):Dt:=match jM (first n) 0 ws with
 | none=> .lst ((gp n w (first n) ws).map bo)
 | some p=> .tup [.str "step",nI p]
def AZ:DN:=fun ds Q=> ∃(n:Nat) (w:Nat->Nat->Wo) (ws:List Str),ds= [cy n w,.lst (ws.map .str)]/\1<=n/\n<=12/\Sm w/\ws.length<=100/\Q (iK n w ws)
section
variable{P:Program}{w:World}{K:PySem.W.Frag}{mg:Str->Option Value}{base:Heap}
theorem R6: ∀vs H Q E,bP S vs H Q E->Nv S vs H Q E:=fun vs H Q E z=>by
 obtain⟨M,ds,Qd,al,r,q,k⟩:=z;exact⟨M,ds,Qd,al,r,q,fun r H' v' q2 s r2=>k _ _ _ q2 s (r2.mono fun a o e n=>⟨e,fun z=>n (al a z)⟩)⟩
theorem sP(F:dM K "_law_told" "_law_told" uV f fd)(T:Txt mg)(Me:n6 P w K mg base "slips" 7 ["w","steps"] (EW "place" C uO))(g0:mg "HangError"=some (.ref C0))(gC:mg "NoStep"=some (.ref C))(g1:mg "Apart"=some (.ref c1))(g2:mg "BadSheet"=some (.ref c2))(g3:mg "BadText"=some (.ref c3))(g4:mg "NoEntry"=some (.ref c4))(g5:mg "NoHanging"=some (.ref c5))(g6:mg "NoPlain"=some (.ref c6))(g7:mg "NoSum"=some (.ref c7))(Fm:LX.Wy K C C0 [c1,c2,c3,c4,c5,c6,c7])(XF:Ml K C "place"):aJ P w K mg base cX 8 f fd ["_law_w","_law_steps"] (Nv AZ):=by
 refine F.ok ij (fun vs H Q E h=>?_) (fun ba A outer s H vs Q E hr h=>⟨_,aT (qz (m8 (aj qA (aj qA aE))) (cn rfl (aA (av (i:=2) ij.nd rfl (Or.inl rfl)) (aA (av (i:=3) ij.nd rfl (Or.inl rfl)) bw))))
  (aT (u4 (iy:=2) (ie:=4) Me (hr.mono (by decide)) (aj (pv 0) (aj (pv 1) aE)) ij.nd g0 (fun ea=>cK (cM (i:=3) ij.nd rfl (Or.inl rfl) (pv 4))))
  (aT (sJ (uZ (u9 (pv 3))) (cK (iZ (pv 2))) jD)
  (aT (cM (i:=5) ij.nd rfl (Or.inl rfl) (fC pP (by rfl) T.lJ boot_isinstance (aj (pv 3) (aj (@m8 _ _ _ _ _ (@aj _ _ _ _ _ (dS (v:= .ref c1) (by rfl) g1 rfl) (@aj _ _ _ _ _ (dS (v:= .ref c2) (by rfl) g2 rfl) (@aj _ _ _ _ _ (dS (v:= .ref c3) (by rfl) g3 rfl) (@aj _ _ _ _ _ (dS (v:= .ref c4) (by rfl) g4 rfl) (@aj _ _ _ _ _ (dS (v:= .ref c5) (by rfl) g5 rfl) (@aj _ _ _ _ _ (dS (v:= .ref c6) (by rfl) g6 rfl) (@aj _ _ _ _ _ (dS (v:= .ref c7) (by rfl) g7 rfl) aE rfl) rfl) rfl) rfl) rfl) rfl) rfl)) aE))))
  (cK (iZ (sO (PW.pt (pw_and (uY (fC pP (by rfl) T.lJ boot_isinstance (aj (pv 3) (aj (dS (v:= .ref C) (by rfl) gC rfl) aE)))) (pw_and1 (By (uY (pv 5)))))) (m8 (aj eW (aj (BK (pv 3) rfl) aE))) eW)))))),?_⟩)
 . obtain⟨M,ds,Qd,al,r,⟨n,w,ws,rfl,_⟩,_⟩:=h;rw[r.1];rfl
 . obtain⟨M,ds,Qd,al,r,⟨n,w,ws,rfl,n1,gm,Xg,wl,q⟩,kk⟩:=h;obtain⟨x,xs,rfl,rx,r2⟩:=r.aG;obtain⟨y,ys,rfl,ry,r3⟩:=r2.aG;cases r3.cC;refine⟨by show 2<=sizeLine;decide,fun p0 OH=>?_⟩;have s0:ax H (upd H p0 (.tup [.aF, .aF])):=ax.new OH;refine⟨p0,_,rfl,dB.of ag,rfl,_,_,rfl,_,_,rfl,rfl,?_⟩;have tr: ∀{H':Hp},ax (upd H p0 (.tup [.aF, .aF])) H'->ax H H':=fun z b o e=>z _ _ (s0 _ _ e);refine⟨_,rfl,_,rfl,M,[cy n w, .lst (ws.map .str)],fun d=>d=iK n w ws,fun p=>Dt.tup [.str "step", .int p]=iK n w ws,(fun a h=>let ⟨o,e,n⟩:=al a h;⟨o,s0 _ _ e,n⟩), .cons (rx.same s0) (.one (ry.same s0)),⟨n,w,ws,rfl,n1,gm,Xg,wl,fun e=>by unfold iK;rw[e],fun p e=>by unfold iK;rw[e]⟩,fun d H' v' hd R7 rv=>?_,fun p dx H' hp R7 jm=>?_⟩
   . subst hd;exact⟨_,rfl,_,rfl,cS ⟨_,rfl,kk _ _ _ q (tr R7) (rv.mono fun a o e n=>⟨e,fun z=>n (let ⟨o,e,y⟩:=z;⟨o,s0 _ _ e,y⟩)⟩)⟩⟩
   . have sm:=tr R7;refine⟨dx,C,rfl,rfl,Fm.up,fun ea hn=>?_⟩;have U3:dx≠ea:=fun z=>by rw[z,hn] at jm;cases jm
     have s1:ax H (upd H' ea (.ext (LX.nJ ea C dx))):=fun b o e=>by
      have:=sm b o e;rw[ah (fun z=>by rw[z,hn] at this;cases this)];exact this
     refine⟨_,rfl,?_⟩;refine⟨_,rfl,_,rfl,bN ?_⟩;refine⟨_,rfl,by show 7<=sizeLine;decide,fun p1 Ik=>?_⟩;have ne2:ea≠p1:=fun z=>by rw[<-z,ag] at Ik;cases Ik
     have ne3:dx≠p1:=fun z=>by rw[<-z,ah U3,jm] at Ik;cases Ik
     have e1:upd (upd H' ea (.ext (LX.nJ ea C dx))) p1 (.tup [.ref c1,.ref c2,.ref c3,.ref c4,.ref c5,.ref c6,.ref c7]) ea=some (.ext (LX.nJ ea C dx)):=by rw[ah ne2,ag]
     have e2:upd (upd H' ea (.ext (LX.nJ ea C dx))) p1 (.tup [.ref c1,.ref c2,.ref c3,.ref c4,.ref c5,.ref c6,.ref c7]) dx=some (.xd [("place",.int p)]):=by rw[ah ne3,ah U3];exact jm
     have s2:ax H (upd (upd H' ea (.ext (LX.nJ ea C dx))) p1 (.tup [.ref c1,.ref c2,.ref c3,.ref c4,.ref c5,.ref c6,.ref c7])):=fun b o e=>by
      have:=s1 b o e;rw[ah (fun z=>by rw[z,Ik] at this;cases this)];exact this
     refine⟨ea,C,dx,_,false,rfl,e1,Fm.k,.inr (.inr ⟨p1,_,rfl,ag,Fm.no⟩),?_⟩;refine⟨_,rfl,ea,C,dx,_,true,rfl,e1,Fm.k,.inl ⟨C,rfl,Cp⟩,_,rfl,cS ?_⟩;refine⟨_,rfl,_,rfl,cS ⟨_,rfl,ea,C,dx,_,.int p,rfl,e1,e2,rfl,XF,?_⟩⟩;refine⟨by show 2<=sizeLine;decide,fun p2 OG=>?_⟩;have s3:ax H (upd (upd (upd H' ea (.ext (LX.nJ ea C dx))) p1 (.tup [.ref c1,.ref c2,.ref c3,.ref c4,.ref c5,.ref c6,.ref c7])) p2 (.tup [.str "step",.int p])):=fun b o e=>ax.new OG b o (s2 b o e);rw[<-hp] at q;exact kk _ _ _ q s3 (Rep.gy ag (fun mm=>let ⟨o,e,_⟩:=mm;by rw[s2 _ _ e] at OG;cases OG) (.cons (.str _) (.one (.int _))))
end
end aW
namespace aW
open PySem PySem.Spec L2 LB LD PyProof.Rows
def P0(d:Dt):Prop:=d= .aF\/ ∃i:Int,d= .int i
def Uw(p:Dt->Prop)(d:Dt):Prop:= ∃es:List Dt,d= .lst es/\es.length<=60/\ ∀e∈es,p e
def wY(p:Dt->Prop):DN:=fun ds Q=> ∃d,ds= [d,d]/\p d/\Q (.bl true)
section
variable{P:Program}{w:World}{K:PySem.W.Frag}{mg:Str->Option Value}{base:Heap}
theorem B6(F:dM K "_law_same" "_law_same" gK f fd)(T:Txt mg):aJ P w K mg base cX 1 f fd ["_law_found","_law_due"] (bP (wY P0)):=by
 refine lL F wX (fun ds Qd h=>?_) (fun ba A outer s H E hr=>⟨_,(ak (cZ (kT (dv 1))
 (aB (aD (IP (dv 0))))
 bq)
 (ak (cZ (jU (cx (T:="bool") (by decide) T.lJ (aj (dv 1) (aj (aU (v:= .ty "bool") (by rfl) T.bool df rfl) aE))))
 (aB (aD (ia (cx (T:="bool") (by decide) T.lJ (aj (dv 0) (aj (aU (v:= .ty "bool") (by rfl) T.bool df rfl) aE))) (jW (rh (dv 0) (dv 1))))))
 bq)
 (ak (cZ (jU (Dy (dv 1) T.lJ T.lst T.tup))
 (ak (cZ (PW.pt (w_or (yH (cx (T:="list") (by decide) T.lJ (aj (dv 0) (aj (aU (v:= .ty "list") (by rfl) T.lst bD rfl) aE))) (cx (T:="list") (by decide) T.lJ (aj (dv 1) (aj (aU (v:= .ty "list") (by rfl) T.lst bD rfl) aE)))) (mJ (yH (cx (T:="tuple") (by decide) T.lJ (aj (dv 0) (aj (aU (v:= .ty "tuple") (by rfl) T.tup bW rfl) aE))) (cx (T:="tuple") (by decide) T.lJ (aj (dv 1) (aj (aU (v:= .ty "tuple") (by rfl) T.tup bW rfl) aE)))))))
 (aB (aD vY))
 bq)
 (aB (aD (ia (rh (bH T.len (aa (dv 0) ae)) (bH T.len (aa (dv 1) ae))) (jW (IS rfl T.all (aa (Ov.ev (cq (N:= ["_law_one","_law_other"]) (nt:=2) (js:= []) ⟨rfl,by decide+kernel,by decide,rfl,by decide+kernel,(by show∀x∈(_:List (Str × NameKind)),x.2=NameKind.free->(af gK).names.lookup x.1=some .cell\/(af gK).names.lookup x.1=some .free;decide+kernel)⟩ rfl (o9 (aa (dv 0) (aa (dv 1) ae)) fun z=>kz (by rfl) T.zip z) (fun _ _ _ _ _=>cn rfl (aA (av (i:=0) (show(["_law_one","_law_other"]:List Str).Nodup by decide+kernel) rfl (by first | exact Or.inl rfl | exact Or.inr rfl)) (aA (av (i:=1) (show(["_law_one","_law_other"]:List Str).Nodup by decide+kernel) rfl (by first | exact Or.inl rfl | exact Or.inr rfl)) bw))) bL bb (fun _ _ _ _ _=>dy) (fun _ _ _ _ _=>GS))) ae)))))))
 bq)
 (ak (cZ (jU (cx (T:="str") (by decide) T.lJ (aj (dv 1) (aj (aU (v:= .ty "str") (by rfl) T.str iA rfl) aE))))
 (aB (aD (ia (cx (T:="str") (by decide) T.lJ (aj (dv 0) (aj (aU (v:= .ty "str") (by rfl) T.str iA rfl) aE))) (jW (rh (dv 0) (dv 1))))))
 bq)
 (aB (aD (ia (cx (T:="int") (by decide) T.lJ (aj (dv 0) (aj (aU (v:= .ty "int") (by rfl) T.int kP rfl) aE))) (ia (IM (cx (T:="bool") (by decide) T.lJ (aj (dv 0) (aj (aU (v:= .ty "bool") (by rfl) T.bool df rfl) aE)))) (jW (rh (dv 0) (dv 1))))))))))),fun ds Qd h=>?_⟩)
 . obtain⟨d,rfl,_⟩:=h;rfl
 . obtain⟨d,rfl,a,q⟩:=h;rcases a with rfl | ⟨i,rfl⟩
   . exact⟨_,rfl,_,rfl,cS ⟨_,rfl,q⟩⟩
   . refine⟨_,rfl,_,rfl,bN ⟨_,rfl,_,rfl,_,rfl,bN ⟨_,rfl,_,rfl,_,rfl,bN ⟨_,rfl,_,rfl,_,rfl,bN ?_⟩⟩⟩⟩;exact⟨_,rfl,_,rfl,_,rfl,cS ⟨_,rfl,_,rfl,_,rfl,_,rfl,cS ⟨_,rfl,_,rfl,true,(show some (decide _)=some true from ag1 some (ad6 rfl)),q⟩⟩⟩
theorem B5(F:dM K "_law_same" "_law_same" gK f fd)(T:Txt mg)(wq:dj P w K mg base "_law_same" (k+1) ["_law_found","_law_due"] (bP (wY p))):aJ P w K mg base cX (k+2) f fd ["_law_found","_law_due"] (bP (wY (Uw p))):=by
 refine lL F wX (fun ds Qd h=>?_) (fun ba A outer s H E hr=>⟨_,(ak (cZ (kT (dv 1))
 (aB (aD (IP (dv 0))))
 bq)
 (ak (cZ (jU (cx (T:="bool") (by decide) T.lJ (aj (dv 1) (aj (aU (v:= .ty "bool") (by rfl) T.bool df rfl) aE))))
 (aB (aD (ia (cx (T:="bool") (by decide) T.lJ (aj (dv 0) (aj (aU (v:= .ty "bool") (by rfl) T.bool df rfl) aE))) (jW (rh (dv 0) (dv 1))))))
 bq)
 (ak (cZ (jU (Dy (dv 1) T.lJ T.lst T.tup))
 (ak (cZ (PW.pt (w_or (yH (cx (T:="list") (by decide) T.lJ (aj (dv 0) (aj (aU (v:= .ty "list") (by rfl) T.lst bD rfl) aE))) (cx (T:="list") (by decide) T.lJ (aj (dv 1) (aj (aU (v:= .ty "list") (by rfl) T.lst bD rfl) aE)))) (mJ (yH (cx (T:="tuple") (by decide) T.lJ (aj (dv 0) (aj (aU (v:= .ty "tuple") (by rfl) T.tup bW rfl) aE))) (cx (T:="tuple") (by decide) T.lJ (aj (dv 1) (aj (aU (v:= .ty "tuple") (by rfl) T.tup bW rfl) aE)))))))
 (aB (aD vY))
 bq)
 (aB (aD (ia (rh (bH T.len (aa (dv 0) ae)) (bH T.len (aa (dv 1) ae))) (jW (IS rfl T.all (aa (Ov.ev (cq (N:= ["_law_one","_law_other"]) (nt:=2) (js:= []) ⟨rfl,by decide+kernel,by decide,rfl,by decide+kernel,(by show∀x∈(_:List (Str × NameKind)),x.2=NameKind.free->(af gK).names.lookup x.1=some .cell\/(af gK).names.lookup x.1=some .free;decide+kernel)⟩ rfl (o9 (aa (dv 0) (aa (dv 1) ae)) fun z=>kz (by rfl) T.zip z) (fun _ _ _ _ _=>cn rfl (aA (av (i:=0) (show(["_law_one","_law_other"]:List Str).Nodup by decide+kernel) rfl (by first | exact Or.inl rfl | exact Or.inr rfl)) (aA (av (i:=1) (show(["_law_one","_law_other"]:List Str).Nodup by decide+kernel) rfl (by first | exact Or.inl rfl | exact Or.inr rfl)) bw))) bL bb (fun _ _ _ _ _=>dy) (fun _ _ _ _ _=>(aO wq (hr.mono (ab2 _)) (aa (dv 0) (aa (dv 1) ae)))))) ae)))))))
 bq)
 (ak (cZ (jU (cx (T:="str") (by decide) T.lJ (aj (dv 1) (aj (aU (v:= .ty "str") (by rfl) T.str iA rfl) aE))))
 (aB (aD (ia (cx (T:="str") (by decide) T.lJ (aj (dv 0) (aj (aU (v:= .ty "str") (by rfl) T.str iA rfl) aE))) (jW (rh (dv 0) (dv 1))))))
 bq)
 (aB (aD (ia (cx (T:="int") (by decide) T.lJ (aj (dv 0) (aj (aU (v:= .ty "int") (by rfl) T.int kP rfl) aE))) (ia (IM (cx (T:="bool") (by decide) T.lJ (aj (dv 0) (aj (aU (v:= .ty "bool") (by rfl) T.bool df rfl) aE)))) (jW (rh (dv 0) (dv 1))))))))))),fun ds Qd h=>?_⟩)
 . obtain⟨d,rfl,_⟩:=h;rfl
 . obtain⟨d,rfl,⟨es,hd,el,pe⟩,q⟩:=h;subst hd
   . refine⟨_,rfl,_,rfl,bN ⟨_,rfl,_,rfl,_,rfl,bN ⟨_,rfl,_,rfl,_,rfl,cS ?_⟩⟩⟩;refine⟨_,rfl,_,rfl,_,rfl,_,rfl,true,rfl,_,rfl,bN ⟨_,rfl,_,rfl,_,rfl,_,rfl,true,rfl,_,rfl,bN ?_⟩⟩;refine⟨_,rfl,_, .inl rfl,_,rfl,_, .inl rfl,true,Pd.trans (by simp),_,rfl,cS ?_⟩;refine⟨_,rfl,_,rfl,false,false,_,_,rfl,?_,fun _=>true,fun _=> .bl true,fun e he=>?_,?_⟩
     . unfold cY;rw[al1,Nat.min_self];exact ac6 el (by decide)
     . obtain⟨i,hi,ei⟩:=ah8 he;unfold cY at hi ei;rw[List.getElem_zipWith] at ei;subst ei;exact⟨_,_,rfl,⟨_,rfl,rfl⟩,⟨_,rfl,rfl⟩,rfl,fun _=>⟨_,rfl,_,rfl,_,rfl,pe _ (List.getElem_mem _),rfl⟩⟩
     . refine⟨List.replicate (cY es es).length true,?_,?_⟩
       . rw[ae7.mpr (fun _ _=>rfl),List.map_replicate];congr 2
         exact List.eq_replicate_iff.mpr ⟨by rw[aa1],fun b hb=>by obtain⟨_,_,rfl⟩:=ab7.mp hb;rfl⟩
       rw[show(List.replicate (cY es es).length true).all id=true from ah2.mpr fun b hb=>(List.eq_of_mem_replicate hb)];exact q
end
end aW
namespace LD
open PySem PySem.Spec L2 LB PyProof.Rows LW
theorem l5{Δ:cG}(Q:List Sl->Prop)(h: ∀Δ':cG,(∀δ',Q δ'->Δ'.nx δ')->(∀d δ',Δ.rt d δ'->Δ'.rt d δ')->T Δ' δ)(fin: ∀δ',Q δ'->R Δ δ'):Pp T R Δ δ:=h _ fin fun _ _ z=>z
end LD
namespace aW
open PySem PySem.Spec L2 LB LD PyProof.Rows ly
noncomputable def HI(r:List Wo):Dt:= .tup (r.map bo)
def Wq(n:Nat)(r:List Wo):Prop:=r.length=n+1/\ ∀v,some v∈r->v.natAbs<=2000000000
def MK(n:Nat)(T:List (List Wo)):Prop:= ∀j r,T[j]?=some r->Wq n r/\r[j+1]?=some none
def uf(n:Nat)(w:Nat->Nat->Wo):Prop:=(∀i o v,w i o=some v->v.natAbs<=2000000000)/\ ∀i,w i i=none
def A3:DB:=fun t ds Q=> ∃n:Nat,ds= [xI n]/\1<=n/\n<=12/\t+700<=1000000/\ ∀(w:Nat->Nat->Wo) (t':Int),t'<=t+700->uf n w->Q (cy n w) t'
noncomputable def yG(T:List (List Wo))(i o:Nat):Wo:=match i with
 | 0=>none
 | k+1=>(((T[k]?).getD [])[o]?).join
theorem JA{T:List (List Wo)}(l:T.length=n)(h:MK n T): .tup (T.map HI)=cy n (yG T):=by
 unfold cy;congr 1
 refine ak9 fun j=>?_;rw[aa8,aa8];by_cases c:j < n
 . have c':j < T.length:=by lia
   rw[ai4 c,aa2 c'];show some (HI T[j])=some (de n (yG T) (1+1*j));congr 1
   unfold HI de;congr 1
   have hr:=(h j _ (aa2 c')).1;refine ak9 fun o=>?_;rw[aa8,aa8];by_cases d:o < n+1
   . have d':o < T[j].length:=by rw[hr.1];exact d
     rw[ah9 d,aa2 d'];show some (bo (T[j])[o])=some (bo (yG T (1+1*j) o));rw[show 1+1*j=j+1 by lia];show _=some (bo (((T[j]?).getD [])[o]?).join);rw[aa2 c'];show _=some (bo ((T[j])[o]?).join);rw[aa2 d'];rfl
   . rw[ah4 (by rw[hr.1];lia),ah4 (by rw[ad4];lia)];rfl
 . rw[ah4 (by lia),ah4 (by rw[ac5];lia)];rfl
theorem wO(h:yG T i o=some v): ∃k r,i=k+1/\T[k]?=some r/\r[o]?=some (some v):=by
 cases i with
 | zero=>cases h
 | succ k=>
  have h:(((T[k]?).getD [])[o]?).join=some v:=h;cases e:T[k]? with
  | none=>rw[e] at h;cases h
  | some r=>
   rw[e] at h;exact⟨k,r,rfl,e,by
    cases e2:r[o]? with
    | none=>rw[show(some r).getD []=r from rfl,e2] at h;cases h
    | some x=>rw[show(some r).getD []=r from rfl,e2] at h;exact ag1 some h⟩
theorem ER(h:MK n T):uf n (yG T):=by
 refine⟨fun i o v e=>?_,fun i=>?_⟩
 . obtain⟨k,r,rfl,e1,e2⟩:=wO e;exact(h k r e1).1.2 v (ad2 e2)
 . cases e:yG T i i with
   | none=>rfl
   | some v=>
    obtain⟨k,r,rfl,e1,e2⟩:=wO e;rw[(h k r e1).2] at e2;cases e2
theorem MK.snoc(h:MK n T)(hr:Wq n r)(he:r[T.length+1]?=some none):MK n (T++ [r]):=fun j r' e=>by
 by_cases c:j < T.length
 . rw[ad5 c] at e;exact h j r' e
 . rw[ae4 (by lia)] at e;have:j - T.length=0:=by
    cases z:j - T.length with
    | zero=>rfl
    | succ m=>rw[z] at e;simp at e
   rw[this] at e;cases e;have:j=T.length:=by lia
   subst this;exact⟨hr,he⟩
theorem getNat{r:Int}{m:Nat}(h:0<=r)(h2:r < (m:Int)): ∃k:Nat,r=(k:Int)/\k < m:=⟨r.toNat,by lia,by lia⟩
theorem Sa:((List.range m).map fun k=>Dt.int (0+(k:Nat)))=(List.range m).map xI:=by
 refine ac8 fun k _=>?_;show Dt.int _=Dt.int _;congr 1
 lia
def ZW(n y b:Nat)(t:Int)(i:Nat)(δ:List Sl):Prop:= ∃(T:List (List Wo)) (t':Int) (s5 s6 s7 s8:Sl),δ= [.bx t',.im (xI n),.im (xI y),.im (xI b),.ow (T.map HI),s5,s6,s7,s8]/\s5.cB=false/\s6.cB=false/\s7.cB=false/\s8.cB=false/\T.length=i/\MK n T/\t'<=t+2+52*i
def ZX(n y b:Nat)(T:List (List Wo))(wd:Nat)(t:Int)(k:Nat)(δ:List Sl):Prop:= ∃(r:List Wo) (t':Int) (s7 s8:Sl),δ= [.bx t',.im (xI n),.im (xI y),.im (xI b),.ow (T.map HI),.im (xI wd),.ow (r.map bo),s7,s8]/\s7.cB=false/\s8.cB=false/\r.length=k/\(∀v,some v∈r->v.natAbs<=2000000000)/\(wd < k->r[wd]?=some none)/\t'<=t+4*k
section
variable{P:Program}{w:World}{K:PySem.W.Frag}{mg:Str->Option Value}{base:Heap}
theorem BZ(F:dM K "_law_table" "_law_table" qu f fd)(T:Txt mg)(bY:dj P w K mg base "_law_take" 1 ["_law_state","_law_many"] (sr oW)):aJ P w K mg base cX 2 f fd ["_law_state","_law_many"] (sr A3):=by
 refine TL F dY (fun t ds Qd h=>?_) (fun ba A outer s H E hr=>⟨_,(ak (qo 2 3 rfl dY.nd (zJ (dJ 0 bY (hr.mono (by decide)) (pv 0) (aa au ae)) (zJ (dz (eI (aa au (aa au (aa au (aa au ae))))) (dJ 0 bY (hr.mono (by decide)) (pv 0) (aa au ae))) xK)))
 (ak (fP 4 dY.nd (iN ae))
 (ak (iM rfl (gV T.gu (aa au (aa (cV (dv 1) au) ae))) (g8 5 dY.nd)
 (ak (fP 6 dY.nd (iN ae))
 (ak (iM rfl (kK T.gu (aa (cV (dv 1) au) ae)) (g8 7 dY.nd)
 (ak (fP 8 dY.nd (iN (aa (dJ 0 bY (hr.mono (by decide)) (pv 0) (aa au ae)) (aa (fG (dJ 0 bY (hr.mono (by decide)) (pv 0) (aa au ae)) au) (aa (fG (dJ 0 bY (hr.mono (by decide)) (pv 0) (aa (cV (xU au (IL au au)) au) ae)) (IL au au)) (aa au ae))))))
 (aB (cH (bJ 6 (pv 6) (aa (fZ (PW.pt (w_or (yI (dv 7) (dv 5)) (mJ (yI (dJ 0 bY (hr.mono (by decide)) (pv 0) (aa (dv 3) ae)) au)))) eG (pJ 8 (pv 8) (dv 2))) ae))))) ai3)
 (aB (cH (bJ 4 (pv 4) (aa (Du 6 T.tup (pv 6)) ae)))))) ai3)
 (aB (aD (Du 4 T.tup (pv 4))))))),fun t ds Qd h=>?_⟩)
 . obtain⟨n,rfl,_⟩:=h;rfl
 . obtain⟨n,rfl,n1,gm,ht,q⟩:=h;refine⟨⟨_,rfl⟩,_,rfl,_,rfl,by lia,by decide,by decide,fun y y0 y1=>?_⟩;obtain⟨y,rfl,hy⟩:=getNat (m:=4) y0 y1;refine⟨by show 4<=sizeLine;decide,⟨_,rfl⟩,_,rfl,_,rfl,by lia,by decide,by decide,fun r h0 h1=>?_⟩;obtain⟨z,rfl,hz⟩:=getNat (m:=4) h0 h1;obtain⟨b,em,b1,b9⟩: ∃m:Nat,[Dt.int 9,Dt.int 9,Dt.int 4,Dt.int 2][z]?=some (xI m)/\1<=m/\m<=9:=by
    match z,hz with
    | 0,_=>exact⟨9,rfl,by decide,by decide⟩
    | 1,_=>exact⟨9,rfl,by decide,by decide⟩
    | 2,_=>exact⟨4,rfl,by decide,by decide⟩
    | 3,_=>exact⟨2,rfl,by decide,by decide⟩
   refine⟨_,_,xI b,.inl rfl,rfl,bc em,_,_,rfl,⟨_,rfl,rfl⟩,⟨_,rfl,rfl⟩,?_⟩;dsimp only;refine⟨by show 0<=sizeLine;decide,⟨_,rfl,rfl⟩,?_⟩;refine⟨_,rfl,_,_,rfl,rfl,1,(n:Int)+1,rfl,⟨by decide,by decide,by lia,by lia⟩,?_⟩;rw[show((n:Int)+1 - 1).toNat=n by lia,ND];refine di (ZW n y b t) ⟨[],_,.no,.no,.no,.no,rfl,rfl,rfl,rfl,rfl,rfl,fun j r hr=>by simp at hr,by lia⟩ (fun i d δ hi hP Δ' pd Es=>?_) (fun δ hP=>?_)
   . obtain⟨t0,t',s5,s6,s7,s8,rfl,b5,b6,b7,b8,tl,tk,MB⟩:=hP;rw[aa8] at hi;obtain⟨wd,SM,rfl⟩:=ag8.mp hi;have il:i < n:=by have:=(aa5.mp SM).1;simpa using this
     have ew:wd=i+1:=by
      rw[ai4 il] at SM;have:=Option.some.inj SM;lia
     subst ew;refine⟨⟨_,rfl,b5⟩,?_⟩;refine⟨by show 0<=sizeLine;decide,⟨_,rfl,b6⟩,?_⟩;refine⟨_,rfl,_,_,rfl,rfl,_,rfl,by lia,by lia,?_⟩;rw[show((n:Int)+1).toNat=n+1 by lia,Sa];refine di (ZX n y b t0 (i+1) t') ⟨[],_,s7,s8,rfl,b7,b8,rfl,fun v hv=>absurd hv aa4,fun z=>absurd z (Nat.not_lt_zero _),by lia⟩ (fun j d δ hj hP Δ2 OK zF=>?_) (fun δ hP=>?_)
     . obtain⟨r,Mt,s7,s8,rfl,b7,b8,rl,rb,rn,OD⟩:=hP;rw[aa8] at hj;obtain⟨on,OI,rfl⟩:=ag8.mp hj;have jl:j < n+1:=by have:=(aa5.mp OI).1;rw[ad4] at this;exact this
       have eo:on=j:=by
        rw[ah9 jl] at OI;exact(Option.some.inj OI).symm
       subst eo;refine⟨⟨_,rfl,b7⟩,?_⟩;dsimp only;refine l5 (fun δ=> ∃(u1 u2 u3 t3:Int),u1.natAbs<=2000000000/\u2.natAbs<=2000000000/\u3.natAbs<=2000000000/\t3<=Mt+3/\δ= [.bx t3,.im (xI n),.im (xI y),.im (xI b),.ow (t0.map HI),.im (xI (i+1)),.ow (r.map bo),.im (xI on),.ow [.int u1,.int u2,.int u3,.int 0]]) (fun Δ3 X6 _=>?_) ?_
       . refine⟨⟨_,rfl⟩,_,rfl,_,rfl,by lia,by decide,by decide,fun r1 a1 a2=>⟨⟨_,rfl⟩,_,rfl,_,rfl,by lia,by decide,by decide,fun r2 c1 c2=>⟨_,_,rfl,rfl,?_⟩⟩⟩;have c9:Aq 10 9:=by unfold Aq;decide
         refine⟨⟨_,rfl⟩,_,_,rfl,rfl,c9,_,_,rfl,rfl,(by unfold wG;decide),_,_,rfl,rfl,_,rfl,_,rfl,by lia,by decide,by decide,fun r3 d1 d2=>⟨_,_,rfl,rfl,c9,_,_,rfl,rfl,by show 4<=sizeLine;decide,⟨_,rfl,b8⟩,X6 _ ⟨r1,r2 - 9,r3 - 10^9,Mt+3,by lia,by lia,?_,ar3 _,?_⟩⟩⟩
         . have e:(2*10^Int.toNat 9+1:Int)=2000000001:=by decide
           rw[e] at d2;have e2:(10^9:Int)=1000000000:=by decide
           rw[e2];lia
         . rw[show Mt+1+1+1=Mt+3 by lia];rfl
       rintro δ ⟨u1,u2,u3,t3,l1,l2,l3,l4,rfl⟩
       have put: ∀(x:Wo) (t4:Int),t4<=t3+1->(∀v,x=some v->v.natAbs<=2000000000)->(on=i+1->x=none)->Δ2.nx [.bx t4, .im (xI n), .im (xI y), .im (xI b), .ow (t0.map HI), .im (xI (i+1)), .ow (r.map bo++ [bo x]), .im (xI on), .ow [.int u1, .int u2, .int u3, .int 0]]:=fun x t4 h4 hx hn=>OK _ ⟨r++ [x],t4,_,_,by rw[ab8];rfl,rfl,rfl,by rw[aa9,rl];rfl,fun v hv=>(ae1.mp hv).elim (rb v) fun z=>hx v (aa6.mp z).symm,fun z=>by
         by_cases c:i+1 < on
         . rw[ad5 (by rw[rl];exact c)];exact rn c
         . have e:on=i+1:=by lia
           rw[ae4 (by lia),rl,e,am4,hn e];rfl,by lia⟩
       have rs:(r.map bo).length < sizeLine:=by rw[aa1];exact ac4 (show r.length < 100 by lia) (by decide)
       refine⟨⟨_,rfl⟩,_,rfl,_,rfl,_,Pd,_,rfl,?_⟩;by_cases c:on=i+1
       . exact gU (ad6 c) (cS ⟨_,_,rfl,rfl,rs,put none t3 (by lia) (fun _ z=>nomatch z) fun _=>rfl⟩)
       . refine fW (fun z=>c (ad7 z)) ⟨⟨_,rfl⟩,_,rfl,_,rfl,_,rfl,by lia,by lia,by lia,fun v v0 v1=>⟨_,rfl,_,rfl,?_⟩⟩;by_cases g:v=0
         . exact gU (ad6 g) ⟨_,_,rfl,rfl,rs,put none (t3+1) (by lia) (fun _ z=>nomatch z) fun _=>rfl⟩
         . refine fW (fun z=>g (ad7 z)) ⟨⟨_,rfl⟩,_,rfl,?_⟩;match y,hy with
           | 0,_=>exact⟨_,_,_,rfl,rfl,bc (j:=0) rfl,_,_,rfl,rfl,rs,put (some u1) (t3+1) (by lia) (fun _ z=>by cases z;exact l1) fun z=>absurd z c⟩
           | 1,_=>exact⟨_,_,_,rfl,rfl,bc (j:=1) rfl,_,_,rfl,rfl,rs,put (some u2) (t3+1) (by lia) (fun _ z=>by cases z;exact l2) fun z=>absurd z c⟩
           | 2,_=>exact⟨_,_,_,rfl,rfl,bc (j:=2) rfl,_,_,rfl,rfl,rs,put (some u3) (t3+1) (by lia) (fun _ z=>by cases z;exact l3) fun z=>absurd z c⟩
           | 3,_=>exact⟨_,_,_,rfl,rfl,bc (j:=3) rfl,_,_,rfl,rfl,rs,put (some 0) (t3+1) (by lia) (fun _ z=>by cases z;decide) fun z=>absurd z c⟩
     . obtain⟨r,Mt,s7,s8,rfl,b7,b8,rl,rb,rn,OD⟩:=hP;rw[aa1,ad4] at rn OD rl;refine⟨⟨_,rfl⟩,_,rfl,_,_,rfl,rfl,?_,pd _ ⟨t0++ [r],Mt, .im (xI (i+1)), .ow (r.map bo),s7,s8,?_,rfl,rfl,b7,b8,by rw[aa9,tl];rfl,tk.snoc ⟨rl,rb⟩ (by rw[tl];exact rn (by lia)),by lia⟩⟩
       . rw[aa1,tl];exact ac4 (show i < 100 by lia) (by decide)
       . rw[ab8];rfl
   . obtain⟨t0,t',s5,s6,s7,s8,rfl,b5,b6,b7,b8,tl,tk,MB⟩:=hP;rw[aa1,ac5] at tl MB;refine⟨_,rfl,_,rfl,?_⟩;show Qd (.tup (t0.map HI)) t';rw[JA tl tk];exact q _ t' (by lia) (ER tk)
end
theorem ux(hr:bg k A):A.units+(0+1) < cLine:=by have:=hr.un;lia
theorem Bd(h:uf n w):Sm w:=fun i o v e=>by have:=h.1 i o v e;lia
def uW:DN:=fun ds Q=> ∃(n:Nat) (w:Nat->Nat->Wo) (ws:List Str) (s:St),ds= [cy n w,.lst (ws.map .str)]/\1<=n/\n<=12/\uf n w/\D0 n ws s/\Q (.bl true)
structure Q5(n:Nat)(w:Nat->Nat->Wo)(ws:List Str)(i:Nat)(s:St)(D:List Wo):Prop where
 r:Rc n i s
 g:jM s i (ws.drop i)=none
 l:D.length=i
 c:D++gp n w s (ws.drop i)=gp n w (first n) ws
 e:(ws.drop i).foldl iG s=ws.foldl iG (first n)
theorem Q5.step{n:Nat}{w:Nat->Nat->Wo}{ws:List Str}{i:Nat}(G:Q5 n w ws i s D)(h:i < ws.length):mh s ws[i]=true/\Q5 n w ws (i+1) (iG s ws[i]) (D++ [lx n w s ws[i]]):=by
 have ed:=am1 h;have g:=G.g;have c:=G.c;have e:=G.e;rw[ed] at g c e;unfold jM at g;split at g
 . rename_i o;exact⟨o,G.r.step o,g,by rw[aa9,G.l];rfl,by rw[af3];exact c,e⟩
 . cases g
inductive ur:Sl->Prop
 | no:ur .no
 | im (d:Dt):ur (.im d)
theorem ur.nb(h:ur s):s.cB=false:=by cases h <;> rfl
theorem ur.ok(h:ur s):s= .no\/(∃d,s= .im d)\/ ∃t,s= .bx t:=by
 cases h with
 | no=>exact .inl rfl
 | im d=>exact .inr (.inl ⟨d,rfl⟩)
theorem Oi(h4:ur s4): ∀j s,j≠7-> [Sl.im d0,.im d1,.im d2,.im d3,s4,.im d5,.im d6,x,.no][j]?=some s->s= .no\/(∃d,s= .im d)\/ ∃t,s= .bx t:=fun j s h e=>by
 match j with
 | 0=>cases e;exact .inr (.inl ⟨_,rfl⟩)
 | 1=>cases e;exact .inr (.inl ⟨_,rfl⟩)
 | 2=>cases e;exact .inr (.inl ⟨_,rfl⟩)
 | 3=>cases e;exact .inr (.inl ⟨_,rfl⟩)
 | 4=>cases e;exact h4.ok
 | 5=>cases e;exact .inr (.inl ⟨_,rfl⟩)
 | 6=>cases e;exact .inr (.inl ⟨_,rfl⟩)
 | 7=>exact absurd rfl h
 | 8=>cases e;exact .inl rfl
 | j+9=>simp at e
theorem MZ(x:Wo):P0 (bo x):=by
 cases x with
 | none=>exact .inl rfl
 | some v=>exact .inr ⟨v,rfl⟩
def ZZ(n:Nat)(w:Nat->Nat->Wo)(ws:List Str)(i:Nat)(δ:List Sl):Prop:= ∃(s:St) (D:List Wo) (s4:Sl),δ= [.im (cy n w),.im (.lst (ws.map .str)),.im s.dt,.ow (D.map bo),s4,.no,.no,.no,.no]/\ur s4/\Q5 n w ws i s D
def AgI(n:Nat)(w:Nat->Nat->Wo)(ws:List Str)(s:St)(D:List Wo)(s4:Sl)(_:Nat)(δ:List Sl):Prop:= ∃(s6 s7:Sl),δ= [.im (cy n w),.im (.lst (ws.map .str)),.im s.dt,.im (.lst (D.map bo)),s4,.im (.lst (ws.map .str)),s6,s7,.no]/\s6.cB=false/\s7.cB=false
section
variable{P:Program}{w:World}{K:PySem.W.Frag}{mg:Str->Option Value}{base:Heap}
theorem B7(F:dM K "_law_right" "_law_right" jy f fd)(T:Txt mg)(rL:dj P w K mg base "cost" 7 ["w","stand","step"] (bP xZ))(bK:dj P w K mg base "_law_behind" 1 ["_law_stand","_law_word"] (bP bE))(rK:dj P w K mg base "_law_told" 8 ["_law_w","_law_steps"] (Nv AZ))(wq:dj P w K mg base "_law_same" 2 ["_law_found","_law_due"] (bP (wY (Uw P0))))(D3:dj P w K mg base "_law_end" 1 ["_law_stand"] (bP Lo))(ye:dj P w K mg base "_law_worth" 1 ["_law_w","_law_h"] (bP U6))(jf:dj P w K mg base "best_plain" 4 ["w"] (bP DU)):aJ P w K mg base cX 9 f fd ["_law_w","_law_steps"] (bP uW):=by
 refine lL F dq (fun ds Qd h=>?_) (fun ba A outer s H E hr=>⟨_,(ak (qo 2 3 rfl dq.nd (zJ (aM (aa (aM ae) (aa au (aa (qY (aM (aa eG ae)) (bH T.len (aa (dv 0) ae))) ae)))) (O4 (iN ae) xK)))
 (ak (iM rfl (nD (dv 1)) (g8 4 dq.nd)
 (ak (cH (bJ 3 (pv 3) (aa (aO rL (hr.mono (by decide)) (aa (dv 0) (aa (dv 2) (aa (dv 4) ae)))) ae)))
 (aB (bT 2 dq.nd (aO bK (hr.mono (by decide)) (aa (dv 2) (aa (dv 4) ae)))))) ai3)
 (ak (bT 5 dq.nd (Ov.ev (Cc T.lst (aa (dv 1) ae))))
 (ak (iL 3 (iM rfl (kK T.gu (aa au ae)) (g8 6 dq.nd)
 (ak (fP 7 dq.nd (N3 rK (hr.mono (by decide)) (aa (dv 0) (aa (dv 1) ae))))
 (ak (cZ (PW.pt (w_or (A4 (jU (GU 7 (aO wq (hr.mono (by decide)) (aa (dv 7) (aa (dv 3) ae)))))) (mJ (M9 0 (ux hr) (dv 1) (dv 5)))))
 (aB (aD vY))
 bq)
 (aB (cH (bJ 7 (pv 7) (aa au ae)))))) ai3))
 (ak (cZ (sk hr.p7 (Ov.ev (cq (N:= ["_law_one"]) (nt:=1) (js:= []) ⟨rfl,by decide+kernel,by decide,rfl,by decide+kernel,(by show∀x∈(_:List (Str × NameKind)),x.2=NameKind.free->(af jy).names.lookup x.1=some .cell\/(af jy).names.lookup x.1=some .free;decide+kernel)⟩ rfl (nD (dv 3)) (fun _ _ _ _ _=>av (i:=0) (show(["_law_one"]:List Str).Nodup by decide+kernel) rfl (by first | exact Or.inl rfl | exact Or.inr rfl)) bM aX (fun _ _ _ _ _=>CS (PW.pt (w_and (mT (dv 0)) (uE (RS (dv 0) au))))) (fun _ _ _ _ _=>(dv 0)))))
 (aB (aD vY))
 bq)
 (ak (bT 8 dq.nd (aO D3 (hr.mono (by decide)) (aa (dv 2) ae)))
 (ak (cZ (PW.pt (w_and (mT (dv 8)) (uE (mT (aO ye (hr.mono (by decide)) (aa (dv 0) (aa (dv 8) ae)))))))
 (aB (aD (rh (Dv rfl T.sum (aa (dv 3) ae)) (fG (dz (aO jf (hr.mono (by decide)) (aa (dv 0) ae)) au) (aO ye (hr.mono (by decide)) (aa (dv 0) (aa (dv 8) ae)))))))
 bq)
 (aB (aD vY))))))))),fun ds Qd h=>?_⟩)
 . obtain⟨n,w,ws,s,rfl,_⟩:=h;rfl
 . obtain⟨n,w,ws,sE,rfl,n1,gm,tb,pt,q⟩:=h;have sm:=Bd tb;obtain⟨hg,he⟩:=pt.go;have wl:ws.length<=23:=by have:=pt.rc.le n1;lia
   have tl:(List.map (de n w) (List.range' 1 n)).length=n:=by rw[aa1,ac5]
   refine⟨by show 0<=sizeLine;decide,by show 1<=sizeLine;decide,_,rfl,_,.inr rfl,?_⟩;rw[tl];refine⟨[.aF],n,rfl,rfl,(by intro z;cases z),by lia,by lia,?_,by show 3<=sizeLine;decide,by show 0<=sizeLine;decide,_,_,rfl,⟨_,rfl,rfl⟩,⟨_,rfl,rfl⟩,?_⟩
   . show 1*((n:Int)).toNat<=sizeLine;exact ac6 (show 1*((n:Int)).toNat<=100 by lia) (by decide)
   rw[kN];dsimp only;refine⟨_,rfl,_,rfl,di (ZZ n w ws) ⟨first n,[],.no,rfl,.no,⟨.zero,hg,rfl,rfl,rfl⟩⟩ (fun i d δ hi hP Δ' pd _=>?_) (fun δ hP=>?_)⟩
   . obtain⟨s,D,s4,rfl,b4,G⟩:=hP;rw[aa8] at hi;obtain⟨wd,hw,rfl⟩:=ag8.mp hi;obtain⟨il,ew⟩:=aa5.mp hw;obtain⟨o,G'⟩:=G.step il;rw[ew] at o G';have fi:lV s:=G.r.lv.k.g.vO gm (by have:=G.r.le n1;lia);refine⟨⟨_,rfl,b4.nb⟩,⟨_,rfl⟩,_,rfl,_,rfl,_,rfl,n,i,w,s,wd,rfl,G.r,n1,gm,sm,o,_,_,rfl,rfl,?_,_,rfl,_,rfl,?_⟩
     . rw[aa1,G.l];exact ac4 (show i < 100 by lia) (by decide)
     show bE [s.dt,.str wd] fun d'=>br [.im (cy n w),.im (.lst (ws.map .str)),.im s.dt,.ow (D.map bo++ [bo (lx n w s wd)]),.im (.str wd),.no,.no,.no,.no] 2/\Δ'.nx [.im (cy n w),.im (.lst (ws.map .str)),.im d',.ow (D.map bo++ [bo (lx n w s wd)]),.im (.str wd),.no,.no,.no,.no];refine cD fi o ?_;refine⟨⟨_,rfl,rfl⟩,pd _ ⟨iG s wd,D++ [lx n w s wd],.im (.str wd),?_,.im _,G'⟩⟩;rw[ab8];rfl
   obtain⟨s,D,s4,rfl,b4,G⟩:=hP;rw[aa1] at G;have eD:D=gp n w (first n) ws:=by have:=G.c;rw[List.drop_length] at this;exact(af0 D).symm.trans this
   have es:s=sE:=by have:=G.e;rw[List.drop_length] at this;exact this.trans he
   subst es;have al: ∀d∈D.map bo,ym d:=fun d hd=>by obtain⟨x,_,rfl⟩:=ab7.mp hd;cases x <;> constructor
   have lD:D.length<=23:=by rw[G.l];exact wl
   refine⟨_,rfl,_,.inl rfl,⟨_,rfl,rfl⟩,?_⟩;refine⟨_,rfl,_,rfl,by decide,by decide,di (AgI n w ws s D s4) ⟨.no,.no,rfl,rfl,rfl⟩ (fun i d δ hi hP Δ' pd _=>?_) (fun δ hP=>?_)⟩
   . obtain⟨s6,s7,rfl,b6,b7⟩:=hP;refine⟨⟨_,rfl,b6⟩,_,rfl,_,rfl,n,w,ws,rfl,n1,gm,sm,by lia,D.map bo,by unfold iK;rw[hg,eD],al,⟨_,rfl,b7⟩,?_⟩;have up:Uw P0 (.lst (D.map bo)):=⟨_,rfl,by rw[aa1];lia,fun e he=>by obtain⟨x,_,rfl⟩:=ab7.mp he;exact MZ x⟩
     refine⟨_,rfl,Oi b4,_,rfl,_,rfl,_,rfl,up,rfl,.bl _,_,rfl,bN ⟨_,rfl,_,rfl,rfl,Bf,_,rfl,?_⟩⟩;have e1:(if true=true then !pG (0+1) (.lst (ws.map .str)) (.lst (ws.map .str)) else pG (0+1) (.lst (ws.map .str)) (.lst (ws.map .str)))=false:=by
      show(!pG 1 (.lst (ws.map .str)) (.lst (ws.map .str)))=false;rw[CW,ad6 rfl];rfl
     rw[e1];refine bN ⟨⟨_,rfl⟩,_,_,rfl,rfl,?_,pd _ ⟨.im d,.ow _,rfl,rfl,rfl⟩⟩;rw[aa1];exact an6 lD (by decide)
   obtain⟨s6,s7,rfl,b6,b7⟩:=hP;have pos: ∀c,some c∈D->0<=c:=by rw[eD];exact t5 ws _ _ _ .zero hg
   have l:=pt.rc.lv;have fi:lV s:=l.k.g.vO gm (by lia);have ef:((D.map bo).filter fun _=>false).map id= []:=by simp
   refine⟨_,rfl,_,rfl,by rw[aa1];exact ac6 lD (by decide),fun _=>false,id,fun d hd=>?_,?_⟩
   . obtain⟨x,hx,rfl⟩:=ab7.mp hd;cases x with
     | none=>exact⟨⟨_,rfl,rfl⟩,_,rfl,_,rfl,bN ⟨rfl,fun z=>nomatch z⟩⟩
     | some v=>
      have:=pos v hx;exact⟨⟨_,rfl,rfl⟩,_,rfl,_,rfl,cS ⟨_,rfl,_,_,rfl,rfl,_,rfl,ae5 (by lia),fun z=>absurd (ad7 z) (by lia)⟩⟩
   rw[ef];refine⟨_,rfl,_,rfl,bN ⟨_,rfl,s,rfl,fi,⟨_,rfl,rfl⟩,?_⟩⟩;cases hE:dF s with
   | false=>
    rw[Dc hE];exact⟨_,rfl,_,rfl,bN (bN q)⟩
   | true=>
    rw[xO l hE];have me:=tN pt.rc hE;refine⟨_,rfl,_,rfl,cS ⟨_,rfl,_,rfl,n,w,i8 s,rfl,bA me,fK me,by lia,?_⟩⟩;cases hv:iD w (i8 s) with
    | none=>exact⟨_,rfl,bN q⟩
    | some v=>
     obtain⟨a,cs,ea,ec,es⟩:=tZ ws _ _ _ .zero hg v (by rw[he,EL pt.rc hE];exact hv);have Zf:D.map bo=cs.map Dt.int:=by rw[eD,ec,ad8];rfl
     refine⟨_,rfl,cS ⟨_,rfl,cs,ag1 (fun z=> [Dt.lst z]) Zf,?_⟩⟩;refine⟨_,rfl,n,w,rfl,n1,gm,sm,fun r B=>?_⟩;have vr:=yx tb.2 B;rw[ea] at vr;cases r with
     | none=>cases vr
     | some p=>
      obtain⟨v',h'⟩:=p;have va:a=v':=Option.some.inj vr;subst va;refine⟨_,_,_,.inr rfl,rfl,bc (j:=0) rfl,_,rfl,_,rfl,n,w,i8 s,rfl,bA me,fK me,by lia,?_⟩;rw[hv];exact⟨_,_,rfl,rfl,true,(show some (decide _)=some true from ag1 some (ad6 es)),q⟩
end
noncomputable def vZ{α:Type}(l:List α)(lo hi:Option Int):List α:=(l.drop (HT.cE l.length 0 lo)).take (HT.cE l.length l.length hi - HT.cE l.length 0 lo)
theorem nO{ws:List Str}{lo hi:Option Int}:LD.cutD (ws.map Dt.str) lo hi=(vZ ws lo hi).map .str:=by
 unfold LD.cutD vZ;rw[aa1,List.map_take,List.map_drop]
theorem tX{α:Type}{l:List α}{lo hi:Option Int}:(vZ l lo hi).length<=l.length:=by
 unfold vZ;rw[aj1,ak1];lia
def DV:DB:=fun t ds Q=> ∃(n:Nat) (w:Nat->Nat->Wo) (ws:List Str),ds= [cy n w,.lst (ws.map .str)]/\1<=n/\n<=12/\uf n w/\ws.length<=40/\t+3<=900000/\ ∀t',t'<=t+3->Q (.bl true) t'
structure Bon(n:Nat)(us:List Str)(i:Nat)(s:St):Prop where
 r:Rc n i s
 g:jM s i (us.drop i)=jM (first n) 0 us
def BeI(n:Nat)(w:Nat->Nat->Wo)(us:List Str)(d2 d3 d4:Dt)(t:Int)(i:Nat)(δ:List Sl):Prop:= ∃(s:St) (s7 s8:Sl),δ= [.bx t,.im (cy n w),.im d2,.im d3,.im d4,.im (.lst (us.map .str)),.im s.dt,s7,s8]/\s7.cB=false/\s8.cB=false/\Bon n us i s
section
variable{P:Program}{w:World}{K:PySem.W.Frag}{mg:Str->Option Value}{base:Heap}
theorem FR(F:dM K "_law_bent_right" "_law_bent_right" gL f fd)(T:Txt mg)(bY:dj P w K mg base "_law_take" 1 ["_law_state","_law_many"] (sr oW))(uh:dj P w K mg base "_law_may" 1 ["_law_stand"] (bP vn))(bK:dj P w K mg base "_law_behind" 1 ["_law_stand","_law_word"] (bP bE))(rK:dj P w K mg base "_law_told" 8 ["_law_w","_law_steps"] (bP AZ)):aJ P w K mg base cX 9 f fd ["_law_state","_law_w","_law_steps"] (sr DV):=by
 refine TL F bC (fun t ds Qd h=>?_) (fun ba A outer s H E hr=>⟨_,(ak (bT 3 bC.nd (dJ 0 bY (hr.mono (by decide)) (pv 0) (aa (cV (bH T.len (aa (dv 2) ae)) au) ae)))
 (ak (bT 4 bC.nd (dz (eI (aa dI (aa dI (aa dI (aa dI (aa dI ae)))))) (dJ 0 bY (hr.mono (by decide)) (pv 0) (aa au ae))))
 (ak (bT 5 bC.nd (kO (kO (Dw (dv 2) eB (ez (dv 3))) (eI (aa (dv 4) ae))) (Dw (dv 2) (ez (cV (dv 3) (dJ 0 bY (hr.mono (by decide)) (pv 0) (aa au ae)))) eB)))
 (ak (bT 6 bC.nd (aM (aa (aM ae) (aa au (aa (qY (aM (aa eG ae)) (bH T.len (aa (dv 1) ae))) ae)))))
 (ak (iM rfl (tu T.MI (aa (dv 5) ae)) (qT 7 8 rfl bC.nd)
 (ak (cZ (qc (dv 8) (aO uh (hr.mono (by decide)) (aa (dv 6) ae)))
 (aB (aD (Pj 0 (ux hr) (aO rK (hr.mono (by decide)) (aa (dv 1) (aa (dv 5) ae))) (aM (aa dI (aa (dv 7) ae))))))
 bq)
 (aB (bT 6 bC.nd (aO bK (hr.mono (by decide)) (aa (dv 6) (aa (dv 8) ae)))))) ai3)
 (aB (aD (cx (T:="list") (by decide) T.lJ (aj (aO rK (hr.mono (by decide)) (aa (dv 1) (aa (dv 5) ae))) (aj (aU (v:= .ty "list") (by rfl) T.lst bD rfl) aE)))))))))),fun t ds Qd h=>?_⟩)
 . obtain⟨n,w,ws,rfl,_⟩:=h;rfl
 . obtain⟨n,w,ws,rfl,n1,gm,tb,wl,ht,q⟩:=h;have sm:=Bd tb;refine⟨⟨_,rfl⟩,_,rfl,_, .inl rfl,_,_,rfl,rfl,_,rfl,_,rfl,by lia,by lia,by rw[aa1];lia,fun a a0 a1=>?_⟩;refine⟨⟨_,rfl,rfl⟩,?_⟩;dsimp only;refine l5 (fun δ'=> ∃o:Str,δ'= [.bx (t+1+1), .im (cy n w), .im (.lst (ws.map .str)), .im (.int a), .im (.str o), .no, .no, .no, .no]) (fun Δ0 Io _=>?_) ?_
   . refine⟨by show 5<=sizeLine;decide,⟨_,rfl⟩,_,rfl,_,rfl,by lia,by decide,by decide,fun r h0 h1=>?_⟩;obtain⟨z,rfl,hz⟩: ∃z:Nat,r=(z:Int)/\z < 5:=⟨r.toNat,by lia,by lia⟩
     obtain⟨o,eo⟩: ∃o:Str,[Dt.str "read",Dt.str "next",Dt.str "under",Dt.str "Next",Dt.str ""][z]?=some (.str o):=by
      match z,hz with
      | 0,_=>exact⟨_,rfl⟩
      | 1,_=>exact⟨_,rfl⟩
      | 2,_=>exact⟨_,rfl⟩
      | 3,_=>exact⟨_,rfl⟩
      | 4,_=>exact⟨_,rfl⟩
     exact⟨_,_,.str o,.inl rfl,rfl,bc eo,⟨_,rfl,rfl⟩,Io _ ⟨o,rfl⟩⟩
   rintro δ ⟨o,rfl⟩
   have s3:200<=sizeLine:=by decide
   refine l5 (fun δ'=> ∃us:List Str,us.length<=100/\δ'= [.bx (t+1+1+1),.im (cy n w),.im (.lst (ws.map .str)),.im (.int a),.im (.str o),.im (.lst (us.map .str)),.no,.no,.no]) (fun Δ0 Io _=>?_) ?_
   . have len: ∀lo hi,(LD.cutD (ws.map Dt.str) lo hi).length<=40:=fun lo hi=>by rw[nO,aa1];exact ac6 tX wl
     have Oj: ∀lo hi,(vZ ws lo hi).length<=40:=fun lo hi=>ac6 tX wl;refine⟨_,rfl,_,rfl,_,rfl,_,rfl,_,rfl,by show 1<=sizeLine;decide,_,_,rfl,rfl,?_,_,rfl,_,rfl,⟨_,rfl⟩,_,rfl,_,rfl,by lia,by decide,by decide,fun r h0 h1=>⟨_,_,rfl,rfl,_,rfl,_,rfl,_,_,rfl,rfl,?_,⟨_,rfl,rfl⟩,Io _ ⟨vZ ws none (some a)++ [o]++vZ ws (some (a+r)) none,?_,?_⟩⟩⟩
     . exact ac6 (Nat.add_le_add (len _ _) (ab2 _)) (ac6 (by show 41<=200;decide) s3)
     . exact ac6 (Nat.add_le_add (show(LD.cutD (ws.map Dt.str) none (some a)++ [Dt.str o]).length<=40+1 by rw[aa9];exact Nat.add_le_add (len _ _) (ab2 _)) (len _ _)) (ac6 (by show 81<=200;decide) s3)
     . rw[aa9,aa9];have h1:=Oj none (some a);have h2:=Oj (some (a+r)) none;show _+1+_<=100;lia
     . rw[nO,nO,ab8,ab8];rfl
   rintro δ ⟨us,ul,rfl⟩
   have tl:(List.map (de n w) (List.range' 1 n)).length=n:=by rw[aa1,ac5]
   refine⟨by show 0<=sizeLine;decide,by show 1<=sizeLine;decide,_,rfl,_,.inr rfl,?_⟩;rw[tl];refine⟨[.aF],n,rfl,rfl,(by intro z;cases z),by lia,by lia,?_,by show 3<=sizeLine;decide,⟨_,rfl,rfl⟩,?_⟩
   . show 1*((n:Int)).toNat<=sizeLine;exact ac6 (show 1*((n:Int)).toNat<=100 by lia) (by decide)
   rw[kN];refine⟨_,rfl,_,rfl,di (BeI n w us (.lst (ws.map .str)) (.int a) (.str o) (t+1+1+1)) ⟨first n,.no,.no,rfl,rfl,rfl,.zero,rfl⟩ (fun i d δ hi hP Δ' pd Es=>?_) (fun δ hP=>?_)⟩
   . obtain⟨s,s7,s8,rfl,b7,b8,G⟩:=hP;have il:i < us.length:=by
      have:=(aa5.mp hi).1;unfold aL at this;rw[ah6,aa1] at this;exact this
     have ed:d= .tup [nI i,.str us[i]]:=by
      unfold aL at hi;rw[ai5,aa8,aa2 il] at hi;injection hi with hi
      exact hi.symm
     subst ed;have e:=G.g;rw[am1 il] at e;have fi:lV s:=G.r.lv.k.g.vO gm (by lia);refine⟨_,_,rfl,⟨_,rfl,b7⟩,⟨_,rfl,b8⟩,_,rfl,_,rfl,s,rfl,fi,_,.inl rfl,rfl,nu,_,rfl,?_⟩;show if (!inD (.str us[i]) (cc s))=true then _ else _
     rw[nC];cases c:mh s us[i] with
     | false=>
      have e':jM (first n) 0 us=some i:=by rw[<-e];unfold jM;rw[c];rfl
      refine cS ⟨_,rfl,_,rfl,n,w,us,rfl,n1,gm,sm,ul,?_⟩;rw[show iK n w us= .tup [.str "step",nI i] by unfold iK;rw[e']];have sh:Hj 1 (.tup [.str "step",nI i]) (.tup [.str "step",nI i]):= .tup fun j d e h1 h2=>by
       match j with
       | 0=>cases h1;cases h2;exact .flat rfl rfl
       | 1=>cases h1;cases h2;exact .flat rfl rfl
       | j+2=>cases h1
      have eq:pG 1 (.tup [.str "step",nI i]) (.tup [.str "step",nI i])=true:=by
       simp [pG,C4,List.range_succ]
      refine⟨_,rfl,by show 2<=sizeLine;decide,rfl,sh,Es _ _ ⟨_,rfl,?_⟩⟩;show Qd (.bl (pG 1 (.tup [.str "step",nI i]) (.tup [.str "step",nI i]))) _;rw[eq];exact q _ (by lia)
     | true=>
      refine bN ⟨_,rfl,_,rfl,?_⟩;show bE [s.dt,.str us[i]] fun d'=>br _ 6/\Δ'.nx [.bx (t+1+1+1),.im (cy n w),.im (.lst (ws.map .str)),.im (.int a),.im (.str o),.im (.lst (us.map .str)),.im d',.im (nI i),.im (.str us[i])];refine cD fi c ?_;refine⟨⟨_,rfl,rfl⟩,pd _ ⟨iG s us[i],.im (nI i),.im (.str us[i]),rfl,rfl,rfl,G.r.step c,?_⟩⟩;rw[<-e];conv=>rhs;unfold jM
      rw[if_pos c]
   . obtain⟨s,s7,s8,rfl,b7,b8,G⟩:=hP;have le:(aL 0 (us.map Dt.str)).length=us.length:=by unfold aL;rw[ah6,aa1]
     have e:=G.g;rw[le,List.drop_length] at e;refine⟨_,rfl,_,rfl,n,w,us,rfl,n1,gm,sm,ul,?_⟩;rw[show iK n w us= .lst ((gp n w (first n) us).map bo) by unfold iK;rw[<-e];rfl];exact⟨true,rfl,_,rfl,q _ (by lia)⟩
end
theorem Pa(s:St):Ao s.dt:= .tup (List.forall_mem_cons.mpr ⟨.tup fun d hd=>by obtain⟨x,_,rfl⟩:=ab7.mp hd;exact .int _,List.forall_mem_cons.mpr ⟨.int _,List.forall_mem_cons.mpr ⟨.tup fun d hd=>by
 obtain⟨x,_,rfl⟩:=ab7.mp hd;cases x with
 | none=>exact .aF
 | some x=>exact .int _,fun e he=>absurd he aa4⟩⟩⟩)
inductive UE(i:Nat)(δ:List Sl):Prop
 | mk (t:Int) (s2 s3 s4 s5 s6 s7 s8:Sl) (e:δ= [.no,.bx t,s2,s3,s4,s5,s6,s7,s8]) (ht:t<=1000*(i:Int)) (b2:ur s2) (b3:ur s3) (b4:ur s4) (b5:ur s5) (b6:ur s6) (b7:ur s7) (b8:ur s8)
inductive ZT(n:Nat)(t:Int)(d2 d4 d5:Dt)(k:Nat)(δ:List Sl):Prop
 | mk (s:St) (ws:List Str) (t':Int) (s8:Sl) (e:δ= [.no,.bx t',.im d2,.im (xI n),.im d4,.im d5,.im s.dt,.ow (ws.map .str),s8]) (p:D0 n ws s) (ht:t'<=t+(ws.length:Int)) (hk:k=2*n - 1 - ws.length) (b8:ur s8)
section
variable{P:Program}{w:World}{K:PySem.W.Frag}{mg:Str->Option Value}{base:Heap}
theorem Ki(F:dM K "law" "law" JK f fd)(T:Txt mg)(NB:dj P w K mg base "_law_begin" 1 ["_law_script"] (qd K))(bY:dj P w K mg base "_law_take" 1 ["_law_state","_law_many"] (sr oW))(Hl:dj P w K mg base "_law_table" 2 ["_law_state","_law_many"] (sr A3))(Hk:dj P w K mg base "_law_taken" 2 ["_law_state","_law_many","_law_most"] (sr A2))(uh:dj P w K mg base "_law_may" 1 ["_law_stand"] (bP vn))(bK:dj P w K mg base "_law_behind" 1 ["_law_stand","_law_word"] (bP bE))(D3:dj P w K mg base "_law_end" 1 ["_law_stand"] (bP Lo))(Hm:dj P w K mg base "_law_right" 9 ["_law_w","_law_steps"] (bP uW))(ui:dj P w K mg base "_law_bent_right" 9 ["_law_state","_law_w","_law_steps"] (sr DV)):
  aJ P w K mg base cX 10 f fd ["_law_script"] (so K):=by
 refine Ol F kU (by decide) (fun ba A outer s H E hr=>⟨_,_,_,rfl,cM (i:=1) kU.nd rfl (Or.inl rfl) (kA NB (hr.mono (by decide)) rfl (aj (pv 0) aE)),(ak (iM rfl (kK T.gu (aa au ae)) (g8 2 kU.nd)
 (ak (qo 3 4 rfl kU.nd (zJ (cV au (dJ 1 bY (hr.mono (by decide)) (pv 1) (aa au ae))) (zJ (dJ 1 bY (hr.mono (by decide)) (pv 1) (aa au ae)) xK)))
 (ak (bT 5 kU.nd (dJ 1 Hl (hr.mono (by decide)) (pv 1) (aa (dv 3) ae)))
 (ak (Fb 6 7 1 Hk (hr.mono (by decide)) (pv 1) (aa (dv 3) (aa au ae)) rfl kU.nd)
 (ak (E8 (PW.pt (w_and (HC (dv 4)) (uE (kT (aO D3 (hr.mono (by decide)) (aa (dv 6) ae))))))
 (ak (bT 8 kU.nd (aO uh (hr.mono (by decide)) (aa (dv 6) ae)))
 (ak (cH (bJ 7 (pv 7) (aa (dz (dv 8) (dJ 1 bY (hr.mono (by decide)) (pv 1) (aa (bH T.len (aa (dv 8) ae)) ae))) ae)))
 (aB (bT 6 kU.nd (aO bK (hr.mono (by decide)) (aa (dv 6) (aa (pJ 7 (pv 7) (fH au)) ae)))))))
 ai3)
 (aB (iL 7 (cZ (PW.pt (w_or (A4 (jU (aO Hm (hr.mono (by decide)) (aa (dv 5) (aa (dv 7) ae))))) (mJ (A4 (jU (dJ 1 ui (hr.mono (by decide)) (pv 1) (aa (dv 5) (aa (dv 7) ae))))))))
 (aB (aD vY))
 bq))))))) ai3)
 (aB (aD vY))),?_⟩)
 refine⟨_,rfl,by decide,by decide,di UE ⟨0,.no,.no,.no,.no,.no,.no,.no,rfl,by decide,.no,.no,.no,.no,.no,.no,.no⟩ (fun i d δ hi hP Δ' pd _=>?_) (fun δ hP=>?_)⟩
 . obtain⟨tt,s2,s3,s4,s5,s6,s7,s8,rfl,ht,b2,b3,b4,b5,b6,b7,b8⟩:=hP;have il:i < 3:=by have:=(aa5.mp hi).1;simpa using this
   refine⟨⟨_,rfl,b2.nb⟩,?_⟩;dsimp only;refine l5 (fun δ'=> ∃(n:Nat) (v:Int),1<=n/\n<=9/\δ'= [.no,.bx (tt+1+1),.im d,.im (xI n),.im (.int v),s5,s6,s7,s8]) (fun Δ0 Io _=>?_) ?_
   . refine⟨⟨_,rfl⟩,_,rfl,_,rfl,by lia,by decide,by decide,fun r r0 r1=>⟨_,_,rfl,rfl,⟨_,rfl⟩,_,rfl,_,rfl,by lia,by decide,by decide,fun v v0 v1=>?_⟩⟩;obtain⟨r,rfl,zF⟩: ∃z:Nat,r=(z:Int)/\z < 9:=⟨r.toNat,by lia,by lia⟩
     refine⟨_,_,rfl,⟨_,rfl,b3.nb⟩,⟨_,rfl,b4.nb⟩,Io _ ⟨1+r,v,by lia,by lia,?_⟩⟩;rw[show(xI (1+r):Dt)= .int (1+(r:Int)) by show Dt.int _=Dt.int _;congr 1];rfl
   rintro δ ⟨n,v,n1,n9,rfl⟩
   refine⟨⟨_,rfl⟩,_,rfl,_,rfl,n,rfl,n1,by lia,by lia,fun w t2 ht2 ok=>⟨⟨_,rfl,b5.nb⟩,?_⟩⟩;refine⟨⟨_,rfl⟩,_,rfl,fun x hx=>?_,_,rfl,n,16,rfl,n1,by lia,by decide,by lia,fun s0 UL t3 p0 ht3=>⟨s0.dt,UL.map .str,rfl,Pa s0,fun x hx=>?_,⟨_,rfl,b6.nb⟩,⟨_,rfl,b7.nb⟩,?_⟩⟩
   . rcases ac3.mp hx with rfl | hx
     . exact .int _
     . cases aa6.mp hx;exact .int _
   . obtain⟨x,_,rfl⟩:=ab7.mp hx;exact .str x
   refine yw (ZT n t3 d (.int v) (cy n w)) ⟨_,s0,UL,t3,s8,rfl,p0,by lia,rfl,b8⟩ (fun k δ hP Δ2 OK _=>?_);obtain⟨s,ws,t',s8,rfl,p,MB,hk,b8⟩:=hP;have rc:=p.rc;have le:=rc.le n1;have fi:lV s:=rc.lv.k.g.vO (by lia) (by lia);have fin:LO 7 (PH (VS (LC (dT (Ax uW (nM (Ab 5) (nM (Ab 7) DE))))) (LC (dT (PL DV 1 (nM (Ab 5) (nM (Ab 7) DE)))))) (Pw (dC (Dt.bl false))) IX) Δ' [.no,.bx t',.im d,.im (xI n),.im (.int v),.im (cy n w),.im s.dt,.ow (ws.map .str),s8]:=by
    refine⟨_,rfl,_,rfl,_,rfl,n,w,ws,s,rfl,n1,by lia,ok,p,_,rfl,bN ⟨⟨_,rfl⟩,_,rfl,_,rfl,_,rfl,n,w,ws,rfl,n1,by lia,ok,by lia,by lia,fun t4 ht4=>⟨_,rfl,bN (pd _ ⟨t4,_,_,_,_,_,_,_,rfl,by lia,.im _,.im _,.im _,.im _,.im _,.im _,b8⟩)⟩⟩⟩
   refine⟨_,rfl,_,rfl,?_⟩;by_cases c:(v !=0)=true
   . refine gU c ⟨_,rfl,s,rfl,fi,?_⟩;cases e:dF s with
     | true=>
      rw[xO rc.lv e];exact⟨_,rfl,bN fin⟩
     | false=>
      rw[Dc e];have ne:=DP n1 rc e;have l0:0 < (cc s).length:=al2.mpr ne;have l3:=xv (s:=s);refine⟨_,rfl,cS ⟨_,rfl,s,rfl,fi,⟨_,rfl,b8.nb⟩,?_⟩⟩;refine⟨⟨_,rfl⟩,_,rfl,⟨_,rfl⟩,_,rfl,_,.inl rfl,_,rfl,_,rfl,by lia,by lia,by lia,fun q q0 q1=>?_⟩;obtain⟨q,rfl⟩: ∃z:Nat,q=(z:Int):=⟨q.toNat,by lia⟩
      have ql:q < (cc s).length:=by lia
      obtain⟨wd,eq,o⟩:=xw (aa2 ql);have Xn:=rc.step o;have le2:=Xn.le n1;refine⟨_,_,_,.inl rfl,rfl,bc ((aa2 ql).trans (ag1 some eq)),_,_,rfl,rfl,?_,?_⟩
      . rw[aa1];exact ac4 (show ws.length < 100 by lia) (by decide)
      refine⟨_,rfl,⟨_,rfl⟩,_,rfl,_,_,_,rfl,rfl,fV,?_⟩;show bE [s.dt,.str wd] fun d'=>br [.no,.bx (t'+1),.im d,.im (xI n),.im (.int v),.im (cy n w),.im s.dt,.ow (ws.map .str++ [.str wd]),.im (.lst (cc s))] 6/\Δ2.nx [.no,.bx (t'+1),.im d,.im (xI n),.im (.int v),.im (cy n w),.im d',.ow (ws.map .str++ [.str wd]),.im (.lst (cc s))];refine cD fi o ?_;refine⟨⟨_,rfl,rfl⟩,OK (2*n - 1 - (ws.length+1)) _ (by lia) ⟨iG s wd,ws++ [wd],t'+1,.im (.lst (cc s)),?_,p.snoc o,?_,?_,.im _⟩⟩
      . rw[ab8];rfl
      . rw[aa9];show t'+1<=t3+((ws.length+1:Nat):Int);lia
      . rw[aa9];rfl
   . exact fW c (bN fin)
 . obtain⟨tt,s2,s3,s4,s5,s6,s7,s8,rfl,ht,bs⟩:=hP;exact rfl
end
end aW
section
namespace aW
open PySem L2 LB LD PyProof.Rows
structure aR(K:PySem.W.Frag)(x:Str)(st:Stmt)(ps:List Str)(f:Addr)(fd:FuncData):Prop where
 a:PySem.W.nsIn K mainGlobals x=some (some (.ref f))
 F:dM K x x st f fd
 b:Binds K fd ps []
theorem aH{K:PySem.W.Frag}{x:Str}{st:Stmt}{ps:List Str}{f:Addr}{oc:Value}{od an:Option Addr}{sl:Array (Option Value)}{kV dc pm cd ct:Value}(a:PySem.W.nsIn K mainGlobals x=some (some (.ref f)))(l:K.lookup f=some ⟨oc,od, .func (PySem.W.fnOf x x (eO st) (bz st) (af st) .none kV dc pm an cd ct),sl⟩)(c:PySem.W.codeIn K cd x=true)(k:PySem.W.keepIn K (.ref f)=true)
  (h: ∀us:List Value,us.length=ps.length->bindArgs (PySem.W.fnOf x x (eO st) (bz st) (af st) .none kV dc pm an cd ct) ⟨us,[]⟩=pure (ps.zip us)):aR K x st ps f (PySem.W.fnOf x x (eO st) (bz st) (af st) .none kV dc pm an cd ct):=⟨a,CM l c k,.all h⟩
section
variable{P:Program}{w:World}{K:PySem.W.Frag}{mg:Str->Option Value}{base h:Heap}{x:Str}{st:Stmt}{ps:List Str}{f:Addr}{fd:FuncData}
theorem aR.has(D:aR K x st ps f fd)(X:K.In h)(G:h.Ns mainGlobals mg)(o:aJ P w K mg base cX k f fd ps sp):dj P w K mg base x k ps sp:=⟨f,fd,ah0 X G D.a,D.F.kp,D.b,o⟩
end
theorem all_mk{l:PySem.W.OpenLaw}{w:World}{K:PySem.W.Frag}{h:Heap}{mg:Str->Option Value}{fa f1 f2 f3 f4 f5 f6 f7 f8 f9 Zd Zc Zb Za VL Y9 Y8 Y7 Y6 Y5 Y4 Y3 VJ Y2 Y1 Y0 YZ YY YX YW YV YU YT YS YR YQ:Addr}{e1 e2 e3 e4 e5 e6 e7 e8 e9 ZE TY ZD ZC ZA Zz Zy Zx Zw Zv Zu Zt Zs Zr Zq Zp Zo Zn Zm Zl Zk Zj Zi Zh Zg VN:FuncData}(X:K.In h)(G:h.Ns mainGlobals mg)(Yk:mg "law"=some (.ref fa))
  (d1:aR K "first_stand" gN ["n"] f1 e1)
  (d2:aR K "steps_from" iV ["stand"] f2 e2)
  (d3:aR K "behind" qw ["stand","word"] f3 e3)
  (d4:aR K "together" ky ["worths"] f4 e4)
  (d5:aR K "greatest" fA ["worths"] f5 e5)
  (d6:aR K "worth_of" gH ["w","h"] f6 e6)
  (d7:aR K "ranked" jw ["w"] f7 e7)
  (d8:aR K "units" uT ["base","many"] f8 e8)
  (d9:aR K "figures" m5 ["number","base","many"] f9 e9)
  (Wg:aR K "best_plain" iX ["w"] Zd ZE)
  (Wf:aR K "fill" gO ["w","joined","chosen"] Zc TY)
  (We:aR K "by_width" gP ["n"] Zb ZD)
  (Wc:aR K "over_all" gI ["w","joined","chosen"] Za ZC)
  (QY:aR K "stands_along" fQ ["n","steps"] VL ZA)
  (Wb:aR K "allowed" gQ ["stand"] Y9 Zz)
  (Wa:aR K "allowed_of" dZ ["stand","word"] Y8 Zy)
  (V9:aR K "kept_to" jz ["w","lists"] Y7 Zx)
  (V8:aR K "best_still" iW ["w","stand"] Y6 Zw)
  (V7:aR K "still" uU ["w","stand"] Y5 Zv)
  (V6:aR K "cost" Bq ["w","stand","step"] Y4 Zu)
  (V5:aR K "lost" Bl ["before","after"] Y3 Zt)
  (QX:aR K "slips" mZ ["w","steps"] VJ Zs)
  (V4:aR K "_law_begin" qv ["_law_script"] Y2 Zr)
  (V3:aR K "_law_take" qt ["_law_state","_law_many"] Y1 Zq)
  (QW:aR K "_law_same" gK ["_law_found","_law_due"] Y0 Zp)
  (V2:aR K "_law_may" Bm ["_law_stand"] YZ Zo)
  (V1:aR K "_law_behind" m4 ["_law_stand","_law_word"] YY Zn)
  (V0:aR K "_law_end" Bo ["_law_stand"] YX Zm)
  (VZ:aR K "_law_taken" qr ["_law_state","_law_many","_law_most"] YW Zl)
  (VY:aR K "_law_table" qu ["_law_state","_law_many"] YV Zk)
  (VX:aR K "_law_worth" jx ["_law_w","_law_h"] YU Zj)
  (QV:aR K "_law_told" uV ["_law_w","_law_steps"] YT Zi)
  (VW:aR K "_law_right" jy ["_law_w","_law_steps"] YS Zh)
  (VU:aR K "_law_bent_right" gL ["_law_state","_law_w","_law_steps"] YR Zg)
  (Uo:aR K "law" JK ["_law_script"] YQ VN)
  {C C0 e1 e2 e3 e4 e5 e6 e7:Addr} (uC:PySem.W.nsIn K mainGlobals "NoStep"=some (some (.ref C))) (W6:PySem.W.nsIn K mainGlobals "HangError"=some (some (.ref C0))) (W5:PySem.W.nsIn K mainGlobals "Apart"=some (some (.ref e1))) (W4:PySem.W.nsIn K mainGlobals "BadSheet"=some (some (.ref e2))) (W3:PySem.W.nsIn K mainGlobals "BadText"=some (some (.ref e3))) (W0:PySem.W.nsIn K mainGlobals "NoEntry"=some (some (.ref e4))) (WZ:PySem.W.nsIn K mainGlobals "NoHanging"=some (some (.ref e5))) (WY:PySem.W.nsIn K mainGlobals "NoPlain"=some (some (.ref e6))) (WX:PySem.W.nsIn K mainGlobals "NoSum"=some (some (.ref e7))) {Xr qC:Str} {NC fI C1 C2:Addr} {ZO Wm R4:List Value} {Ys ZR:Bool} {Xf:List Str} {Uq:Option Bool} {ZF Xq Wn:Option Addr} {XH XG XE XD XC:Option Value} {Xh:Array (Option Value)} {Va QU UU Ur Wh:Value} {PV:ClassData} (y1:K.lookup C=some (excClassObj Xr qC C NC ZO Wm Ys Xf R4 ZR Uq ZF XH XG XE XD XC "ValueError.__new__")) (yo:PySem.W.nsOkIn K NC=true) (yi:PySem.W.nsIn K NC "__init__"=some (some (.ref fI))) (yt:PySem.W.tailIn K [.type "ValueError",.type "Exception",.type "BaseException",.type "object"] Wm=true) (y2:PySem.W.findIn K (.ref C) "__class__"=some (some (.builtin "object.__class__"))) (y3:PySem.W.mroIn K C (.type "object")=some true) (y4:PySem.W.mroIn K C (.type "BaseException")=some true) (y5:PySem.W.findIn K (.ref C) "__getattribute__"=some (some (.builtin "BaseException.__getattribute__"))) (y6:PySem.W.findIn K (.ref C) "__getattr__"=some none) (y7:(PySem.W.clsIn K C).isSome=true) (y8:PySem.W.exmOne K (.ref C) (.ref C0)=some true) (y9:PySem.W.kitOne K (.ref C) (.type "ValueError")=some true) (WN:PySem.W.kitAny K (.ref C) [.ref e1,.ref e2,.ref e3,.ref e4,.ref e5,.ref e6,.ref e7]=some false) (lf:K.lookup fI=some ⟨.type "function",Xq,.func (PySem.W.fnOf "__init__" "NoStep.__init__" (eO dR) (bz dR) (af dR) .none Va QU UU Wn Ur Wh),Xh⟩) (cI:PySem.W.codeIn K Ur "NoStep.__init__"=true) (kI:PySem.W.keepIn K (.ref fI)=true) (s1:PySem.W.findIn K (.ref C) "__setattr__"=some (some (.builtin "object.__setattr__"))) (s2:PySem.W.clsIn K C=some PV) (s3:PV.hasDict=true) (s4:PV.mro= [.ref C1,.ref C2,.type "ValueError",.type "Exception",.type "BaseException",.type "object"]) (s5:PySem.W.takerIn K C "place"=some none) (s6:PySem.W.findIn K (.ref C) "place"=some none)
  (z1:PySem.W.nsIn K mainGlobals "isinstance"=some none) (z2:PySem.W.nsIn K mainGlobals "len"=some none) (z3:PySem.W.nsIn K mainGlobals "enumerate"=some none) (z4:PySem.W.nsIn K mainGlobals "tuple"=some none) (z5:PySem.W.nsIn K mainGlobals "int"=some none) (z6:PySem.W.nsIn K mainGlobals "bool"=some none) (z7:PySem.W.nsIn K mainGlobals "range"=some none) (z8:PySem.W.nsIn K mainGlobals "list"=some none) (z9:PySem.W.nsIn K mainGlobals "divmod"=some none) (WK:PySem.W.nsIn K mainGlobals "all"=some none) (WJ:PySem.W.nsIn K mainGlobals "str"=some none) (WI:PySem.W.nsIn K mainGlobals "sum"=some none) (WH:PySem.W.nsIn K mainGlobals "zip"=some none) (WG:PySem.W.nsIn K mainGlobals "max"=some none) (WE:PySem.W.nsIn K mainGlobals "dict"=some none):
  ∃fd:FuncData,(∀(s:Shared) (v:Value),BindsTo s fd ⟨[v],[]⟩ [("_law_script",v)])/\ ∀base:Heap,K.In base->base.Ns mainGlobals mg->aJ l.prog w K mg base cX 10 fa fd ["_law_script"] (so K):=by
 have e:=Yk.symm.trans (ah0 X G Uo.a);cases e;have T:Txt mg:=⟨af1 X G z1,af1 X G z2,af1 X G z3,af1 X G z4,af1 X G z5,af1 X G z6,af1 X G z7,af1 X G z8,af1 X G z9,af1 X G WK,af1 X G WJ,af1 X G WI,af1 X G WH,af1 X G WG,af1 X G WE⟩
 refine⟨VN,?_,fun base XB GB=>?_⟩
 . obtain⟨oc,od,kV,doc,pm,an,ba,ct,Ar,rfl,lk,jo⟩:=Uo.F.ex;exact fun s v=> .of_eq rfl
 have gC:=ah0 X G uC;have VE:=ah0 X G W6;have ge1:=ah0 X G W5;have VD:=ah0 X G W4;have VC:=ah0 X G W3;have VA:=ah0 X G W0;have Vz:=ah0 X G WZ;have Vy:=ah0 X G WY;have Vx:=ah0 X G WX;have O:=LX.NT XB GB uC y1 yo yi yt lf;have Fm:LX.Wy K C C0 [e1,e2,e3,e4,e5,e6,e7]:=⟨⟨y2,y3,y4,y5,y6,y7⟩,y8,y9,WN⟩
 have FJ:=CM (st:=dR) lf cI kI;have bI:Binds K (PySem.W.fnOf "__init__" "NoStep.__init__" (eO dR) (bz dR) (af dR) .none Va QU UU Wn Ur Wh) ["self","place"] []:= .all fun us hl=>match us,hl with | [_,_],_=>rfl
 have XS:Ap K C "place":=⟨s1,⟨PV,C1,C2,s2,s3,s4⟩,y3,s5⟩
 have XF:Ml K C "place":=⟨s6,⟨PV,s2,s3⟩,y4,y5,y6⟩
 have FI:aJ l.prog w K mg base cX 1 fI _ ["self","place"] (mV K "place"):=FN FJ ⟨rfl,rfl,rfl,by decide+kernel,rfl,by decide+kernel,by decide+kernel⟩;have UB:=d4.has X G (P:=l.prog) (w:=w) (base:=base) (kX d4.F T);have hJ:uq l.prog w K mg base f4 1 ["worths"] (bP Vb):=⟨_,d4.F.kp,d4.b,(kX d4.F T).imp (wR Ot)⟩
 have hC:uq l.prog w K mg base f5 1 ["worths"] (bP Wi):=⟨_,d5.F.kp,d5.b,(sQ d5.F T).imp (wR PU)⟩
 have Z3:=We.has X G (P:=l.prog) (w:=w) (base:=base) (vg We.F T);have D4:=Wf.has X G (P:=l.prog) (w:=w) (base:=base) (FP AQ hJ hC Wf.F T Z3);have Qa:=Wc.has X G (P:=l.prog) (w:=w) (base:=base) (vc AQ hJ hC Wc.F T D4);have wo:=d8.has X G (P:=l.prog) (w:=w) (base:=base) (BW d8.F T);have rJ:=d7.has X G (P:=l.prog) (w:=w) (base:=base) (zc d7.F T wo);have UC:=d9.has X G (P:=l.prog) (w:=w) (base:=base) (vf d9.F T);have nY:=d6.has X G (P:=l.prog) (w:=w) (base:=base) (vb d6.F T UB);have Je:=Wg.has X G (P:=l.prog) (w:=w) (base:=base) (FQ (ah0 X G d4.a) (ah0 X G d5.a) Wg.F T Qa rJ UC nY);have Z2:=Wa.has X G (P:=l.prog) (w:=w) (base:=base) (N0 Wa.F T);have nZ:=Wb.has X G (P:=l.prog) (w:=w) (base:=base) (vh Wb.F T Z2);have Qb:=V9.has X G (P:=l.prog) (w:=w) (base:=base) (ze V9.F T);have Z4:=V8.has X G (P:=l.prog) (w:=w) (base:=base) (qH V8.F T Je Qb nZ);have Wt:=V7.has X G (P:=l.prog) (w:=w) (base:=base) (B0 V7.F T Z4);have Jd:=d2.has X G (P:=l.prog) (w:=w) (base:=base) (FO d2.F T);have iB:=d3.has X G (P:=l.prog) (w:=w) (base:=base) (zg d3.F T);have p5:=V5.has X G (P:=l.prog) (w:=w) (base:=base) (FK V5.F T);have rL:=V6.has X G (P:=l.prog) (w:=w) (base:=base) (zf V6.F T Jd Wt iB p5);have Mh:=d1.has X G (P:=l.prog) (w:=w) (base:=base) (B8 d1.F T);have LZ:n6 l.prog w K mg base "stands_along" 3 ["n","steps"] (yJ "place" C we):=⟨VL,_,ah0 X G QY.a,QY.F.kp,QY.b,Ca QY.F T Mh Jd iB O PySem.F.excBase_ValueError (by decide) PySem.F.excBase_ValueError FI bI XS⟩
 have DZ:n6 l.prog w K mg base "slips" 7 ["w","steps"] (EW "place" C uO):=⟨VJ,_,ah0 X G QX.a,QX.F.kp,QX.b,B4 QX.F T LZ Wt p5⟩
 have NB:=V4.has X G (P:=l.prog) (w:=w) (base:=base) (B9 V4.F T);have yd:=V3.has X G (P:=l.prog) (w:=w) (base:=base) (BY V3.F T);have Z1:=QW.has X G (P:=l.prog) (w:=w) (base:=base) (B6 QW.F T);have Z0:=QW.has X G (P:=l.prog) (w:=w) (base:=base) (B5 (k:=0) QW.F T Z1);have Mg:=V2.has X G (P:=l.prog) (w:=w) (base:=base) (Kh V2.F T);have bK:=V1.has X G (P:=l.prog) (w:=w) (base:=base) (vd V1.F T);have Qc:=V0.has X G (P:=l.prog) (w:=w) (base:=base) (FL V0.F T);have Ma:=VZ.has X G (P:=l.prog) (w:=w) (base:=base) (BX VZ.F T yd Mg bK);have Mb:=VY.has X G (P:=l.prog) (w:=w) (base:=base) (BZ VY.F T yd);have L8:=VX.has X G (P:=l.prog) (w:=w) (base:=base) (zd VX.F T);have L9:=QV.has X G (P:=l.prog) (w:=w) (base:=base) (sP QV.F T DZ VE gC ge1 VD VC VA Vz Vy Vx Fm XF);have P9:=QV.has X G (P:=l.prog) (w:=w) (base:=base) ((sP QV.F T DZ VE gC ge1 VD VC VA Vz Vy Vx Fm XF).imp R6);have Mf:=VW.has X G (P:=l.prog) (w:=w) (base:=base) (B7 VW.F T rL bK L9 Z0 Qc L8 Je);have Qe:=VU.has X G (P:=l.prog) (w:=w) (base:=base) (FR VU.F T yd Mg bK P9);exact Ki Uo.F T NB yd Mb Ma Mg bK Qc Mf Qe
theorem walk{l:PySem.W.OpenLaw}{q:Program}{loose:List Str}{XP:(Str->Option Value)->Heap->Prop}{YP:World->Heap->Prop}{d:DefRec}{K:Params->PySem.W.Frag}(hn:l.most=some 63)(O0:d.params.defaults= [])
  (hY: ∀(w:World) (h:Heap),YP w h->(K w.params).In h)
  (F: ∀(w:World) (mg:Str->Option Value) (fa:Addr) (h:Heap),(K w.params).In h->h.Ns mainGlobals mg->mg d.name=some (.ref fa)->
   ∃fd:FuncData,(∀(s:Shared) (u:Value),BindsTo s fd ⟨[u],[]⟩ [("_law_script",u)])/\ ∀base:Heap,(K w.params).In base->base.Ns mainGlobals mg->aJ l.prog w (K w.params) mg base cX 10 fa fd ["_law_script"] (so (K w.params))):
  PySem.W.WalkO q loose XP YP l.row.toRowW d [] (fun f vs=>PySem.call f vs):=
 L2.EJ (n:=63) (k:=10) (x:="_law_script") (CX:=fun _=>cX) (sp:=fun w=>so (K w.params)) hn (by decide) O0 ⟨rfl,by decide,by decide,rfl⟩ hY F (fun _ _ a ns hl _ hS=>⟨a,ns,rfl,hS,hl,fun _=>rfl⟩) fun _ _ _ _ _ z=>z
end aW
open PySem PySem.W PyProof.Rows
local macro_rules
|`(tactic|o_law)=>`(tactic|refine holds_law aW.q'w fun said=>?_)
local macro_rules
|`(tactic|o_head $H)=>`(tactic|refine holds_open (q:=aW.q'v) (loose:=[]) (Xt:=fun s=>xlAt aW.q'v [] s && recOk (RowW.records (OpenRow.toRowW (OpenLaw.row PySem.Challenge.rw_hungwords_k37_slips_of_many_steps))) s) (XP:=XL aW.q'v []) (Yf:=Hook.obs $H) (Ya:=Hook.val $H) (YP:=Hook.says $H) (N:=6346) (aW.q'l (Yf:=Hook.obs $H) (Ya:=Hook.val $H) aW.q's aW.q't) (Hook.of $H) (Hook.keeps $H) (fun s e=>xl_of s (Bool.and_eq_true_iff.mp e).1) XL.keeps (by rfl) (by rfl) (by rfl) (fun s e=>recFacts_of (Bool.and_eq_true_iff.mp e).2) (by rfl) (by first | assumption | decide+kernel) (by decide+kernel) ⟨rfl,rfl,rfl,rfl,rfl,by decide+kernel⟩ ?hw ?hc)
set_option maxRecDepth 100000 in
set_option maxHeartbeats 0 in
theorem PySem.Challenge.cw_hungwords_k37_slips_of_many_steps_holds : PySem.Challenge.rw_hungwords_k37_slips_of_many_steps.Holds := by
 w_on;o_law;o_head (aW.q'H);(case hw=>w_witness2)
 k_fill
 delta aW.q'H
 refine aW.walk (l:=PySem.Challenge.rw_hungwords_k37_slips_of_many_steps) rfl rfl (fun w h Y=>PySem.W.kIn_of Y) ?F
 case F=>
  intro w mg fa h KX G OM;refine' aW.all_mk KX G OM (aW.aH ?_ ?_ ?_ ?_ ?_) (aW.aH ?_ ?_ ?_ ?_ ?_) (aW.aH ?_ ?_ ?_ ?_ ?_) (aW.aH ?_ ?_ ?_ ?_ ?_) (aW.aH ?_ ?_ ?_ ?_ ?_) (aW.aH ?_ ?_ ?_ ?_ ?_) (aW.aH ?_ ?_ ?_ ?_ ?_) (aW.aH ?_ ?_ ?_ ?_ ?_) (aW.aH ?_ ?_ ?_ ?_ ?_) (aW.aH ?_ ?_ ?_ ?_ ?_) (aW.aH ?_ ?_ ?_ ?_ ?_) (aW.aH ?_ ?_ ?_ ?_ ?_) (aW.aH ?_ ?_ ?_ ?_ ?_) (aW.aH ?_ ?_ ?_ ?_ ?_) (aW.aH ?_ ?_ ?_ ?_ ?_) (aW.aH ?_ ?_ ?_ ?_ ?_) (aW.aH ?_ ?_ ?_ ?_ ?_) (aW.aH ?_ ?_ ?_ ?_ ?_) (aW.aH ?_ ?_ ?_ ?_ ?_) (aW.aH ?_ ?_ ?_ ?_ ?_) (aW.aH ?_ ?_ ?_ ?_ ?_) (aW.aH ?_ ?_ ?_ ?_ ?_) (aW.aH ?_ ?_ ?_ ?_ ?_) (aW.aH ?_ ?_ ?_ ?_ ?_) (aW.aH ?_ ?_ ?_ ?_ ?_) (aW.aH ?_ ?_ ?_ ?_ ?_) (aW.aH ?_ ?_ ?_ ?_ ?_) (aW.aH ?_ ?_ ?_ ?_ ?_) (aW.aH ?_ ?_ ?_ ?_ ?_) (aW.aH ?_ ?_ ?_ ?_ ?_) (aW.aH ?_ ?_ ?_ ?_ ?_) (aW.aH ?_ ?_ ?_ ?_ ?_) (aW.aH ?_ ?_ ?_ ?_ ?_) (aW.aH ?_ ?_ ?_ ?_ ?_) (aW.aH ?_ ?_ ?_ ?_ ?_) ?_ ?_ ?_ ?_ ?_ ?_ ?_ ?_ ?_ ?_ ?_ ?_ ?_ ?_ ?_ ?_ ?_ ?_ ?_ ?_ ?_ ?_ ?_ ?_ ?_ ?_ ?_ ?_ ?_ ?_ ?_ ?_ ?_ ?_ ?_ ?_ ?_ ?_ ?_ ?_ ?_ ?_ ?_ ?_ ?_ ?_;all_goals try (first | k_is | exact rfl | kernel_rfl | (intro us hl;first | (obtain⟨a,rfl⟩:=List.length_eq_one_iff.mp hl;rfl) | (match us,hl with | [_,_],_=>rfl) | (match us,hl with | [_,_,_],_=>rfl) | (match us,hl with | [_,_,_,_],_=>rfl)))
end
