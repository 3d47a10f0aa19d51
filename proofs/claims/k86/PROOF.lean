import PyProof.Rows.All
import Wide.All
import OpenK.AllK
import Wide.FinOn
import Lean
import PyProof.EqAt
import PyProof.EqKinds
import PyProof.TupleCall
import PyProof.ListRange
import PyProof.NeKinds
import PyProof.ZipIter
import PyProof.FactsAll.tuple_2
import PyProof.FactsAll.tuple_3
import PyProof.Rows.SortShell
import PyProof.Rows.SortWalk
import PyProof.Rows.MinMaxN
import PyProof.AttrMissHeap
import PyProof.ListNew
import PyProof.FactsAll.dict_1
import KE.KDictSum
import PyProof.SetKind
import PyProof.Rows.SetFrom
import PyProof.CollectIter
import PyProof.Rows.TopTwo
import KE.KIsAll
import KE.KTryMore
import PyProof.ExcArgsOwn
import PyProof.NsDelKeeps
import KE.KSortTup
import KE.KRevIter
import KE.KRevSl
import PyProof.Rows.IntBool
import PyProof.TupleOfSeq
import KE.KIntText
import PyProof.StrWalks
import PyProof.StrCalls2
import PyProof.StrBlock2
import PyProof.FString5
import PyProof.StrLawsTight
import PyProof.StrLawsChain
import PyProof.Rows.SortStr
import PyProof.StationsW
import PyProof.Rows.Catch
import PyProof.ExcClass3
import PyProof.ExcInit
import PyProof.Ns1
import PyProof.DictCompW
import PyProof.ListMulRoad
import PyProof.PureStr
import PySem.Challenge.RW_hungwords_k86_whole_slips_from_first_to
set_option Elab.async false
set_option linter.all false
set_option maxRecDepth 100000
set_option maxHeartbeats 8000000
section
open PySem PySem.W PyProof.Rows
def ay.q'v:PySem.Program:={PySem.Challenge.rw_hungwords_k86_whole_slips_from_first_to.row.prog with main:={PySem.Challenge.rw_hungwords_k86_whole_slips_from_first_to.row.prog.main with body:=([0,2,3,4,6,7,8,9,11,12,13,14,15,16,18,19,20,21,23,25,26,27,28,29,31,32,33,34,35,37,38,39,40,41,42,43,44,45,47,48,49,50,51,52,53,54,55,56]:List Nat).filterMap fun i=>PySem.Challenge.rw_hungwords_k86_whole_slips_from_first_to.row.prog.main.body[i]?}}
set_option maxRecDepth 100000 in
theorem ay.q'w:OpenLaw.wellSaid PySem.Challenge.rw_hungwords_k86_whole_slips_from_first_to=true:=by kernel_rfl
section
local macro_rules
|`(tactic|o_law)=>`(tactic|refine holds_law ay.q'w fun said=>?_)
local macro_rules
|`(tactic|o_head $H)=>`(tactic|(have hh:=$H;assumption))
set_option maxRecDepth 100000 in
set_option maxHeartbeats 0 in
theorem ay.q'0(q'h:PySem.Challenge.rw_hungwords_k86_whole_slips_from_first_to.row.Holds):PySem.Challenge.rw_hungwords_k86_whole_slips_from_first_to.Holds:=by
 w_on;o_law;k_head
end
noncomputable abbrev ay.q'H:Hook:=kHook ay.q'0.heap_1 [2,3,15,17,18,20,21,22,29,30,31,32,35,42,43,44,47,54,56,57,59,60,61,62,63,66,68,69,71,72,73,75,76,78,79,80,82,83,85,86,94,96,97,99,100,101,103,104,106,107,108,110,111,113,114,115,117,118,120,121,122,124,125,127,128,129,132,133,134,137,138,139,141,142,144,145,146,148,149,151,152,153,154,155,156,157,160,162,163,165,166,167,170,171,172,175,176,177,180,181,182,184,185,187,188,189,191,192,194,195,196,198,199,201,202,203,206,207,208,211,212,213,216,217,218,221,222,223,225,226,228,229,230,232,233,235,236,237,240,241,242,245,246,247,249,250,252,253,254,256,257,259,260,261,264,265,266,268,269,271,272,273,276,277,278,280,281,283,284,285,288,289,290,293,294,295,298,299,300,302,303,305,306,307,309,310,312,313,314,316,317,319,320,321,323,324,326,327,328,331,332,333,336,337,338,340,341,343,344,345,347,348,350,351,352,354,355,357,358,359,362,363,371,373,374,376,377,378,381,382,383,386,387,388,390,391,393,394,395,397,398,400,401] (fun _=>rfl)
set_option maxRecDepth 100000 in
theorem ay.q't:∀w,(openEnds treeTable PySem.Challenge.rw_hungwords_k86_whole_slips_from_first_to.row.prog w 5114).map (Hook.obs ay.q'H)=some (Hook.val ay.q'H w):=by intro w;kernel_rfl
set_option maxRecDepth 100000 in
theorem ay.q's:∀w,(openEnds treeTable PySem.Challenge.rw_hungwords_k86_whole_slips_from_first_to.row.prog w 5114).map (fun s=>openSeen ay.q'v [] (importedModules PySem.Challenge.rw_hungwords_k86_whole_slips_from_first_to.row.prog.main.body) (fun s=>xlAt ay.q'v [] s && recOk (RowW.records (OpenRow.toRowW (OpenLaw.row PySem.Challenge.rw_hungwords_k86_whole_slips_from_first_to))) s) true s)=some (openGood ay.q'v []):=by intro w;kernel_rfl
theorem ay.q'l{p q:Program}{loose:List Str}{Xt:Shared->Bool}{α:Type}{Yf:Shared->α}{Ya:World->α}{N:Nat}(h1:∀w,(openEnds treeTable p w N).map (fun s=>openSeen q loose (importedModules p.main.body) Xt true s)=some (openGood q loose))(h2:∀w,(openEnds treeTable p w N).map Yf=some (Ya w)):LeftO p q loose Xt Yf Ya N:=fun w=>by
 obtain⟨s,a,b⟩:=Option.map_eq_some_iff.mp (h1 w)
 obtain⟨s2,a2,b2⟩:=Option.map_eq_some_iff.mp (h2 w)
 cases a.symm.trans a2
 rw[a,Option.map_some,b,b2]
end
abbrev aa4:=@List.length_map
abbrev aa5:=@PySem.wpAny_bind
abbrev aa6:=@List.getElem?_eq_getElem
abbrev aa7:=@PySem.Heap.get?_push_of_some
abbrev aa8:=@List.not_mem_nil
abbrev aa9:=@List.getElem?_map
abbrev ab0:=@List.getElem?_eq_some_iff
abbrev ab1:=@List.mem_singleton
abbrev ab2:=@PySem.wpAny_pure
abbrev ab3:=@Nat.le_refl
abbrev ab4:=@List.mem_cons_self
abbrev ab5:=@List.mem_cons_of_mem
abbrev ab6:=@List.mem_map
abbrev ab7:=@List.getElem?_set_ne
abbrev ab8:=@decide_eq_true
abbrev ab9:=@List.mem_cons
abbrev ac0:=@List.mem_append_right
abbrev ac1:=@List.length_append
abbrev ac2:=@List.size_toArray
abbrev ac3:=@Bool.false_ne_true
abbrev ac4:=@List.length_range'
abbrev ac5:=@List.map_append
abbrev ac6:=@List.getD_eq_getElem?_getD
abbrev ac7:=@List.getElem?_set_self
abbrev ac8:=@List.mem_of_getElem?
abbrev ac9:=@PySem.Heap.get?_push_size
abbrev ad0:=@List.mem_range'_1
abbrev ad1:=@decide_eq_false
abbrev ad2:=@List.getElem?_replicate
abbrev ad3:=@List.length_cons
abbrev ad4:=@List.map_congr_left
abbrev ad5:=@List.map_cons
abbrev ad6:=@List.map_map
abbrev ad7:=@PySem.Heap.lt_size
abbrev ad8:=@List.mem_append
abbrev ad9:=@Nat.le_trans
abbrev ae0:=@Nat.lt_of_lt_of_le
abbrev ae1:=@of_decide_eq_true
abbrev ae2:=@List.length_range
abbrev ae3:=@Bool.and_eq_true
abbrev ae4:=@List.getElem?_append_left
abbrev ae5:=@List.length_set
abbrev ae6:=@List.mem_append_left
abbrev ae7:=@List.lookup_cons
abbrev ae8:=@PySem.wpAny_mono
abbrev ae9:=@List.filter_eq_self
abbrev af0:=@Int.toNat_natCast
abbrev af1:=@List.mem_flatMap
abbrev af2:=@List.getElem?_append_right
abbrev af3:=@PySem.wpAny_loadPart'
abbrev af4:=@Nat.ne_of_lt
abbrev af5:=@List.pairwise_cons
abbrev af6:=@List.all_eq_true
abbrev af7:=@congrArg
abbrev af8:=@List.mem_filter
abbrev af9:=@List.mem_range
abbrev ag0:=@Nat.zero_le
abbrev ag1:=@List.getElem?_eq_none
abbrev ag2:=@List.flatten_cons
abbrev ag3:=@List.append_nil
abbrev ag4:=@PySem.Heap.size_push
abbrev ag5:=@List.dropLast_concat_getLast
abbrev ag6:=@Nat.lt_irrefl
abbrev ag7:=@PyProof.Rows.callWith_type1
abbrev ag8:=@List.append_assoc
abbrev ag9:=@PySem.W.mg_none_of
abbrev ah0:=@PySem.mem_of_lookup
abbrev ah1:=@PySem.wpAny_truthy_bool
abbrev ah2:=@List.getElem?_range'
abbrev ah3:=@decide_eq_true_iff
abbrev ah4:=@PySem.PassesOwn.never
abbrev ah5:=@List.length_replicate
abbrev ah6:=@beq_eq_false_iff_ne
abbrev ah7:=@List.replicate_succ
abbrev ah8:=@PySem.wpAny_newObj_type
abbrev ah9:=@List.range'_append_1
abbrev ai0:=@List.pairwise_append
abbrev ai1:=@PySem.wpAny_pyIter_tuple
abbrev ai2:=@List.filter_append
abbrev ai3:=@Option.map_eq_some_iff
abbrev ai4:=@List.getElem?_range
abbrev ai5:=@PySem.wpAny_standAt
abbrev ai6:=@PySem.wpAny_holding
abbrev ai7:=@beq_iff_eq
abbrev ai8:=@List.getElem?_mapIdx
abbrev ai9:=@List.eq_nil_iff_forall_not_mem
abbrev aj0:=@Int.mul_le_mul_of_nonneg_right
abbrev aj1:=@Array.length_toList
abbrev aj2:=@List.nodup_append
abbrev aj3:=@List.ext_getElem?
abbrev aj4:=@List.nodup_nil
abbrev aj5:=@PySem.wpAny_field
abbrev aj6:=@List.length_mapIdx
abbrev aj7:=@decide_eq_false_iff_not
abbrev aj8:=@beq_self_eq_true
abbrev aj9:=@PySem.Heap.get?_update_other
abbrev ak0:=@List.getElem_of_mem
abbrev ak1:=@List.nodup_cons
abbrev ak2:=@List.getLastD_eq_getLast?
abbrev ak3:=@Classical.byContradiction
abbrev ak4:=@List.getElem?_zipWith
abbrev ak5:=@List.length_take
abbrev ak6:=@PySem.wpAny_seqItems
abbrev ak7:=@PySem.wpAny_callSpecial?_slot
abbrev ak8:=@PySem.wpAny_pyIter_list
abbrev ak9:=@Nat.lt_succ_of_lt
abbrev al0:=@List.length_zipWith
abbrev al1:=@List.length_pos_iff
abbrev al2:=@decide_eq_decide
abbrev al4:=@Option.getD_some
abbrev al5:=@List.take_length
abbrev al6:=@List.cons_append
abbrev al7:=@PySem.wpAny_Call_Name_kw
abbrev al8:=@PyProof.Rows.slot_tuple_getitem
abbrev al9:=@PySem.pushCells_keeps
abbrev am0:=@Bool.eq_iff_iff
abbrev am1:=@List.length_dropLast
abbrev am8:=@List.range'_eq_map_range
abbrev am9:=@List.getLast?_eq_some_getLast
abbrev an0:=@List.reverse_append
abbrev an1:=@List.drop_zero
abbrev an2:=@PySem.wpAny_call_entry
abbrev an3:=@List.length_drop
abbrev an4:=@List.zipWith_cons_cons
abbrev an5:=@List.filter_eq_nil_iff
abbrev an6:=@Nat.sub_self
abbrev an7:=@PySem.wpAny_setField_rec
abbrev an8:=@PyProof.Rows.assignInOrder_cons
abbrev an9:=@Nat.lt_of_le_of_lt
abbrev ao0:=@PySem.wpAny_passesOwn
abbrev ao1:=@List.length_filter_le
abbrev ao2:=@PySem.Heap.get?_update_self
abbrev ao3:=@List.any_cons
abbrev ao4:=@PySem.F.slot_tuple_iterator_next
abbrev ao5:=@PySem.Heap.get?_push_ne
abbrev ao6:=@PySem.sizeLine_eq
abbrev ao7:=@Int.ofNat_lt
abbrev ao8:=@List.range'_succ
abbrev ao9:=@PySem.F.plain_max_loop
abbrev ap0:=@PySem.wpAny_comprehension_free
abbrev ap1:=@PySem.call_meets
abbrev ap2:=@List.find?_cons
abbrev ap3:=@List.mem_filterMap
abbrev ap4:=@Nat.le_succ
abbrev ap5:=@Int.add_mul
abbrev ap6:=@List.take_of_length_le
abbrev ap7:=@Nat.le_of_succ_le
abbrev ap8:=@List.take_add_one
abbrev ap9:=@List.flatMap_cons
abbrev aq0:=@Bool.eq_false_iff
abbrev aq1:=@PySem.codeAny_mono
abbrev aq2:=@Nat.ne_of_gt
abbrev aq3:=@PySem.F.entry_enumerate_new
abbrev aq4:=@PySem.wpAny_rule
abbrev aq5:=@Nat.lt_succ_self
abbrev aq6:=@List.zipWith_map
abbrev aq7:=@List.mem_flatten
abbrev aq8:=@List.isEmpty_iff
abbrev aq9:=@List.dropLast_concat
abbrev ar0:=@Bool.or_eq_false_iff
abbrev ar1:=@List.all_cons
abbrev ar2:=@if_true
abbrev ar3:=@PySem.wpAny_letGo
abbrev ar4:=@List.length_nil
abbrev ar5:=@List.filter_map
abbrev ar6:=@PySem.W.KasT.kasWp_bind
abbrev ar7:=@List.pairwise_iff_getElem
abbrev ar8:=@of_decide_eq_false
abbrev ar9:=@PySem.W.callWith_K
abbrev as0:=@Nat.add_sub_cancel
abbrev as2:=@Int.emod_lt_of_pos
abbrev as3:=@PySem.F.called_enumerate
abbrev as4:=@PySem.F.args_tuple_add_2
abbrev as5:=@PySem.wpAny_bindName
abbrev as6:=@PySem.F.plainAttrs_list
abbrev as7:=@PySem.F.entry_tuple_add
abbrev as8:=@PySem.wpAny_pyIter_enum
abbrev as9:=@Nat.lt_trichotomy
abbrev at0:=@Nat.lt_succ_of_le
abbrev at1:=@List.reverse_cons
abbrev at3:=@List.nodup_range'
abbrev at4:=@Bool.not_eq_true'
abbrev at5:=@Int.le_refl
abbrev at6:=@PySem.plainId_quiet
abbrev at7:=@PySem.W.mg_of
namespace L2
open PySem PySem.Spec PyProof.Rows
abbrev Key:=Sum Int Str
noncomputable def qk:Key->Value->Bool
 | .inl k,v=>Value.isInt k v
 | .inr x,v=>Value.isStrOf x v
noncomputable def VT(w:World):Key->Int
 | .inl k=>hashInt k
 | .inr x=>hashStr w x
theorem bG: ∀{k:Key} {v:Value},qk k v=true->(∃i t,k=Sum.inl i/\v=Value.int i t)\/(∃x t,k=Sum.inr x/\v=Value.str x t)
 | .inl i,v,h=>by
  obtain⟨t,e⟩:=Value.isInt_shape (k:=i) (v:=v) h;exact .inl ⟨i,t,rfl,e⟩
 | .inr x,v,h=>by
  obtain⟨t,e⟩:=Value.isStrOf_shape (x:=x) (v:=v) h;exact .inr ⟨x,t,rfl,e⟩
theorem Bp(i:Int)(t:Tok):qk (.inl i) (.int i t)=true:=by simp [qk,Value.isInt]
theorem Bo(x:Str)(t:Tok):qk (.inr x) (.str x t)=true:=by simp [qk,Value.isStrOf]
theorem MX(a b:Int):decide ((Sum.inl a:Key)=Sum.inl b)=(a==b):=by
 by_cases e:a=b
 . subst e;simp
 . have h: ¬(Sum.inl a:Key)=Sum.inl b:=fun q=>e (Sum.inl.inj q);rw[ad1 h];exact(ah6.mpr e).symm
theorem MU(a b:Str):decide ((Sum.inr a:Key)=Sum.inr b)=decide (a=b):=by
 by_cases e:a=b
 . subst e;simp
 . have h: ¬(Sum.inr a:Key)=Sum.inr b:=fun q=>e (Sum.inr.inj q);rw[ad1 h,ad1 e]
theorem MW(a:Int)(b:Str):decide ((Sum.inl a:Key)=Sum.inr b)=false:=ad1 (fun q=>nomatch q)
theorem MV(a:Str)(b:Int):decide ((Sum.inr a:Key)=Sum.inl b)=false:=ad1 (fun q=>nomatch q)
noncomputable def aY(prog:Program)(w:World):PySem.KeyKind prog w Key where
 is:=qk
 hash:=VT w
 inj:=fun v a b f d=>by
  rcases bG f with ⟨i,t,rfl,rfl⟩ | ⟨x,t,rfl,rfl⟩
  . rcases bG d with ⟨j,u,rfl,e⟩ | ⟨y,u,rfl,e⟩
    . injection e with e1 _;rw[e1]
    . exact nomatch e
  . rcases bG d with ⟨j,u,rfl,e⟩ | ⟨y,u,rfl,e⟩
    . exact nomatch e
    . injection e with e1 _;rw[e1]
 byValue:=fun k v h=>by
  rcases bG h with ⟨i,t,rfl,rfl⟩ | ⟨x,t,rfl,rfl⟩ <;> rfl
 pyHash:=fun c h=>by
  rcases bG c with ⟨i,t,rfl,rfl⟩ | ⟨x,t,rfl,rfl⟩
  . exact wpAny_pyHash_int h
  . exact wpAny_pyHash_str h
 eqBool:=fun l c h=>by
  rcases bG l with ⟨i,t,rfl,rfl⟩ | ⟨x,t,rfl,rfl⟩
  . rcases bG c with ⟨j,u,rfl,rfl⟩ | ⟨y,u,rfl,rfl⟩
    . rw[MX] at h;exact wpAny_eqBool_int h
    . rw[MW] at h;exact SeqAt.EqAt.int_str i t y u _ _ _ _ h
  . rcases bG c with ⟨j,u,rfl,rfl⟩ | ⟨y,u,rfl,rfl⟩
    . rw[MV] at h;exact SeqAt.EqAt.str_int x t j u _ _ _ _ h
    . rw[MU] at h;exact wpAny_eqBool_str h
 «strs» :=fun k x t v h=>by
  rcases bG h with ⟨i,u,rfl,e⟩ | ⟨y,u,rfl,e⟩
  . exact nomatch e
  . injection e with e1 _
    subst e1;cases v <;> rfl
theorem uX(prog:Program)(w:World)(i:Int)(t:Tok):(aY prog w).is (.inl i) (.int i t)=true:=Bp i t
theorem uW(prog:Program)(w:World)(x:Str)(t:Tok):(aY prog w).is (.inr x) (.str x t)=true:=Bo x t
inductive V where
 | aN | bl (b:Bool) | int (i:Int) | str (x:Str) | x9 (b:Array UInt8) | Hj (b:UInt64) | ref (a:Addr) | ty (n:String)
 deriving DecidableEq
def RelV:V->Value->Prop
 | .aN,u=>u=Value.none
 | .bl b,u=>u=Value.bool b
 | .int i,u=> ∃t,u=Value.int i t
 | .str x,u=> ∃t,u=Value.str x t
 | .x9 b,u=> ∃t,u=Value.bytes b t
 | .Hj b,u=> ∃t,u=Value.float b t
 | .ref a,u=>u=Value.ref a
 | .ty n,u=>u=Value.type n
abbrev Vals:List V->List Value->Prop:=Paired RelV
theorem Vals.length(r:Vals xs us):xs.length=us.length:=Paired.length r
theorem Vals.get: ∀{xs:List V} {us:List Value} {i:Nat} {x:V},Vals xs us->xs[i]?=some x-> ∃u,us[i]?=some u/\RelV x u
 | _,_,_,_,.nil,e=>by simp at e
 | _,_,0,_,.cons r _,e=>by simp at e;subst e;exact⟨_,rfl,r⟩
 | _,_,i+1,x,.cons _ t,e=>by
  obtain⟨u,f,g⟩:=Vals.get (i:=i) (x:=x) t (by simpa using e);exact⟨u,by simpa using f,g⟩
theorem Vals.set(r:RelV x u): ∀{xs:List V} {us:List Value} (i:Nat),Vals xs us->Vals (xs.set i x) (us.set i u)
 | _,_,_,.nil=> .nil
 | _,_,0,.cons _ t=> .cons r t
 | _,_,i+1,.cons q t=> .cons q (Vals.set r i t)
theorem Vals.append: ∀{xs ys:List V} {us ws:List Value},Vals xs us->Vals ys ws->Vals (xs++ys) (us++ws)
 | _,_,_,_,.nil,s=>s
 | _,_,_,_,.cons r t,s=> .cons r (Vals.append t s)
theorem Vals.take: ∀{xs:List V} {us:List Value} (n:Nat),Vals xs us->Vals (xs.take n) (us.take n)
 | _,_,0,_=> .nil
 | _,_,_+1,.nil=> .nil
 | _,_,n+1,.cons r t=> .cons r (Vals.take n t)
theorem Vals.drop: ∀{xs:List V} {us:List Value} (n:Nat),Vals xs us->Vals (xs.drop n) (us.drop n)
 | _,_,0,r=>r
 | _,_,_+1,.nil=> .nil
 | _,_,n+1,.cons _ t=>Vals.drop n t
def jj:Option V->Option Value->Prop
 | some v,some u=>RelV v u
 | none,none=>True
 | _,_=>False
def KV{h:Type}:List (h × V)->List (h × Value)->Prop:=Paired fun(p:h × V) (q:h × Value)=>p.1=q.1/\RelV p.2 q.2
noncomputable def kV:Key->V
 | .inl i=> .int i
 | .inr x=> .str x
def pf(h:Heap)(a:Addr)(items:Array Value):Prop:= ∃o,h.get? a=some o/\o.cls= .type "tuple"/\o.dict=none/\ ∃n,o.data= .seq items n
theorem pf.tup{h:Heap}{a:Addr}{items:Array Value}(x:pf h a items):IsTup h a items:=let ⟨o,e,c,_,d⟩:=x;⟨o,e,c,d⟩
theorem pf.lt(x:pf h a items):a < h.objs.size:=let ⟨_,e,_⟩:=x;ad7 e
theorem pf.new(h:Heap)(items:Array Value):pf (h.push {cls:= .type "tuple",data:= .seq items}) h.objs.size items:=⟨_,ac9 _ rfl,rfl,rfl,_,rfl⟩
inductive HO where
  | lst (xs:List V)
  | tup (xs:List V)
  | dK (aF:List (Key × V)) | dT (aF:List (List Key × V))
  | set (S:Int->Bool) (n:Nat)
  | ins (C dx:Addr) (fs:List (Str × V))
  | own (x:Addr)
  | xd (fs:List (Str × V))
  | met (f x:Addr)
  | cg (lo hi:Int)
  | wa (o:Obj) (u:HO)
  | LM (ps:Array Value)
  | ext (φ:Heap->Prop)
abbrev Hp:=Addr->Option HO
noncomputable def upd(H:Hp)(a:Addr)(o:HO):Hp:=fun b=>if b=a then some o else H b
theorem af:upd H a o a=some o:=by unfold upd;rw[if_pos rfl]
theorem ah(h:b≠a):upd H a o b=H b:=by unfold upd;rw[if_neg h]
theorem zm{H:Hp}(h:H a=some o)(h':H b=some u)(d:o≠u):a≠b:=by
 intro e;subst e;rw[h] at h';exact d (Option.some.inj h')
theorem ar{H:Hp}(h:H a=some o)(h':H b=none):a≠b:=by
 intro e;subst e;rw[h] at h';cases h'
section
variable (P:Program) (w:World)
def bW(H:Hp)(h:Heap)(a:Addr):HO->Prop
 | .lst e=>e.length<=sizeLine/\ ∃(y:List Value) (n:Nat),Vals e y/\h.get? a=some {cls:= .type "list",data:= .seq y.toArray n}
 | .tup e=>e.length<=sizeLine/\ ∃y:List Value,Vals e y/\pf h a y.toArray
 | .dK aF=>aF.length<=sizeLine/\(a==sysModules)=false/\ ∃z,KV aF z/\h.DictOf (aY P w) a z
 | .dT aF=>aF.length<=sizeLine/\(a==sysModules)=false/\ ∃e:List (List Key × Addr × Value),
   Paired (fun(p:List Key × V) (q:List Key × Addr × Value)=>p.1=q.1/\H q.2.1=some (.tup (p.1.map kV))/\RelV p.2 q.2.2) aF e/\
   ∃o B A,h.get? a=some o/\o.ExactDict/\o.data= .dict B A/\B.toList=e.map (entryOfKey (tupleKind (aY P w)))/\(e.map (·.1)).Nodup
 | .set S n=>h.SetOf (intKind P w) a S n
 | .ins C dx fs=>H dx=some (.own a)/\fs.length<=1000/\dx≠a/\h.get? a=some (PySem.W.instObj C dx)/\
   ∃s,h.Ns1 dx s/\(∀f,jj (fs.lookup f) (s f))/\PySem.Within s (fs.map (·.1))
 | .own _=> ∃o,h.get? a=some o
 | .xd fs=> ∃s,h.Ns1 a s/\ ∀f,jj (fs.lookup f) (s f)
 | .cg lo hi=> ∃t u v,h.get? a=some {cls:= .type "range",data:= .fields #[.int lo t,.int hi u,.int 1 v]}
 | .wa o u=>h.get? a=some o/\bW H h a u
 | .LM ps=>h.get? a=some {cls:= .none,data:= .fields ps}
 | .met f x=>h.get? a=some (PySem.W.methodObj (.ref f) (.ref x))
 | .ext φ=>φ h/\(∃o,h.get? a=some o)/\ ∀g i:Heap,φ g->(∀o,g.get? a=some o->i.get? a=some o)->φ i
def jk(H:Hp)(h:Heap):Prop:= ∀a o,H a=some o->bW P w H h a o
end
theorem bW.lt(x:bW P w H h a o):a < h.objs.size:=by
 cases o with
 | lst xs=>obtain⟨_,_,_,_,e⟩:=x;exact ad7 e
 | tup xs=>obtain⟨_,_,_,p⟩:=x;exact p.lt
 | dK aF=>obtain⟨_,_,_,_,o,_,_,e,_⟩:=x;exact ad7 e
 | dT aF=>obtain⟨_,_,_,_,o,_,_,e,_⟩:=x;exact ad7 e
 | set S n=>obtain⟨o,_,_,_,e,_⟩:=x;exact ad7 e
 | ins C dx fs=>obtain⟨_,_,_,e,_⟩:=x;exact ad7 e
 | own y=>obtain⟨_,e⟩:=x;exact ad7 e
 | xd fs=>obtain⟨_,⟨_,_,_,e,_⟩,_⟩:=x;exact ad7 e
 | cg lo hi=>obtain⟨_,_,_,e⟩:=x;exact ad7 e
 | wa ob u=>obtain⟨e,_⟩:=x;exact ad7 e
 | LM ps=>exact ad7 (show h.get? a=some _ from x)
 | met f y=>exact ad7 (show h.get? a=some _ from x)
 | ext φ=>obtain⟨_,⟨_,e⟩,_⟩:=x;exact ad7 e
theorem Paired.MP: ∀{l₁:List α} {l₂:List β},Paired F l₁ l₂->(∀a b,F a b->G a b)->Paired G l₁ l₂
 | _,_,.nil,_=> .nil
 | _,_,.cons r t,f=> .cons (f _ _ r) (Paired.MP t f)
theorem bW.wM(x:bW P w H h a o)(k: ∀b u,(b=a\/H b=some (.own a))->h.get? b=some u->h'.get? b=some u)
  (i: ∀b,H b=some (.own a)->H' b=some (.own a)) (F: ∀b g,H b=some (.tup g)->H' b=some (.tup g)):bW P w H' h' a o:=by
 induction o with
 | lst g=>obtain⟨z,s,n,r,e⟩:=x;exact⟨z,s,n,r,k _ _ (.inl rfl) e⟩
 | tup g=>obtain⟨z,s,r,I,e,c⟩:=x;exact⟨z,s,r,I,k _ _ (.inl rfl) e,c⟩
 | dK aF=>obtain⟨z,y,L,r,I,B,A,e,c⟩:=x;exact⟨z,y,L,r,I,B,A,k _ _ (.inl rfl) e,c⟩
 | dT aF=>
  obtain⟨z,y,g,r,I,B,A,e,c⟩:=x;exact⟨z,y,g,Paired.MP r fun p q z=>⟨z.1,F _ _ z.2.1,z.2.2⟩,I,B,A,k _ _ (.inl rfl) e,c⟩
 | set S n=>obtain⟨I,B,A,t,e,c⟩:=x;exact⟨I,B,A,t,k _ _ (.inl rfl) e,c⟩
 | ins C dx fs=>
  obtain⟨d,z,J,e,D,⟨G,B,A,E,c⟩,r⟩:=x;exact⟨i _ d,z,J,k _ _ (.inl rfl) e,D,⟨G,B,A,k _ _ (.inr d) E,c⟩,r⟩
 | own y=>obtain⟨I,e⟩:=x;exact⟨I,k _ _ (.inl rfl) e⟩
 | xd fs=>obtain⟨D,⟨G,B,A,e,c⟩,r⟩:=x;exact⟨D,⟨G,B,A,k _ _ (.inl rfl) e,c⟩,r⟩
 | cg lo hi=>obtain⟨t,u,v,e⟩:=x;exact⟨t,u,v,k _ _ (.inl rfl) e⟩
 | wa I u ih=>obtain⟨e,q⟩:=x;exact⟨k _ _ (.inl rfl) e,ih q⟩
 | LM ps=>
  have e:h.get? a=some {cls:= .none,data:= .fields ps}:=x;show h'.get? a=some {cls:= .none,data:= .fields ps};exact k a _ (.inl rfl) e
 | met f y=>
  have e:h.get? a=some (PySem.W.methodObj (.ref f) (.ref y)):=x;show h'.get? a=some (PySem.W.methodObj (.ref f) (.ref y));exact k a _ (.inl rfl) e
 | ext φ=>obtain⟨p,⟨o,e⟩,Y⟩:=x;exact⟨Y _ _ p fun o q=>k _ _ (.inl rfl) q,⟨o,k _ _ (.inl rfl) e⟩,Y⟩
theorem jk.lt(x:jk P w H h)(e:H a=some o):a < h.objs.size:=(x a o e).lt
theorem jk.fresh(x:jk P w H h)(e:h.objs.size<=a):H a=none:=by
 cases q:H a with
 | none=>rfl
 | some u=>exact absurd (ae0 (x.lt q) e) (ag6 _)
theorem jk.kept(x:jk P w H h)(k: ∀b u,h.get? b=some u->h'.get? b=some u):jk P w H h':=fun a o e=>
 (x a o e).wM (fun b u _ q=>k b u q) (fun _ q=>q) fun _ _ q=>q
theorem jk.laid(x:jk P w H h)(k: ∀b u,h.get? b=some u->h'.get? b=some u)(p:h.objs.size<=a)(U:bW P w (upd H a o) h' a o):jk P w (upd H a o) h':=fun b u e=>by
 have g:=x.fresh p;by_cases d:b=a
 . subst d;rw[af] at e;cases e;exact U
 . rw[ah d] at e;exact(x b u e).wM (fun c v _ q=>k c v q) (fun c q=>by rw[ah (ar q g)];exact q) fun c f q=>by rw[ah (ar q g)];exact q
def Rd(H:Hp)(a:Addr)(u:HO):Prop:=H a=some u\/ ∃o,H a=some (.wa o u)
theorem Rd.ok(r:Rd H a u)(x:jk P w H h):bW P w H h a u:=by
 rcases r with r | ⟨o,r⟩
 . exact x a u r
 . obtain⟨_,q⟩:=x a _ r;exact q
def S5:Option HO->Prop
 | some (.lst _)=>True
 | some (.dK _)=>True
 | some (.dT _)=>True
 | some (.set _ _)=>True
 | some (.ins _ _ _)=>True
 | some (.ext _)=>True
 | _=>False
theorem jk.write(A:jk P w H h)(E:S5 (H x))(F:e=x\/H e=some (.own x))(k: ∀b u,b≠e->h.get? b=some u->h'.get? b=some u)(G: ∃u,h'.get? e=some u)
  (U:bW P w (upd H x o') h' x o'):jk P w (upd H x o') h':=fun b u q=>by
 have D: ∀c y,H c=some (.own y)->c≠x:=fun c y r z=>by subst z;rw[r] at E;exact E
 have g: ∀c f,H c=some (.tup f)->c≠x:=fun c f r z=>by subst z;rw[r] at E;exact E
 by_cases d:b=x
 . subst d;rw[af] at q;cases q;exact U
 . rw[ah d] at q;by_cases a:b=e
   . have V : H b = some (.own x) := by
       rcases F with z | z
       . exact absurd (a.trans z) d
       . rw[a];exact z
     rw[q] at V;cases V;obtain⟨v,i⟩:=G;exact⟨v,by rw[a];exact i⟩
   . refine(A b u q).wM (fun c v l r=>k c v ?_ r) (fun c r=>by rw[ah (D c b r)];exact r) fun c f r=>by rw[ah (g c f r)];exact r
     rcases l with rfl | l
     . exact a
     . rintro rfl
       rcases F with z | z
       . exact D c b l z
       . rw[l] at z;cases z;exact d rfl
structure Un(fs ex:List Addr)(H H':Hp)(h h':Heap):Prop where
 keep: ∀b o,h.get? b=some o->H b=none->b∉fs->b∉ex->h'.get? b=some o
 slot: ∀b o,h.get? b=some o->H b=none->b∈fs->b∉ex-> ∃sl,h'.get? b=some {o with slots:=sl}
 free: ∀b o,h.get? b=some o->H b=none->b∉ex->H' b=none
 there: ∀b o,h.get? b=some o->b∉ex-> ∃o',h'.get? b=some o'
 ub: ∀b xs,H b=some (.tup xs)->H' b=some (.tup xs)
 sV: ∀b o u,H b=some (.wa o u)->H' b=some (.wa o u)
 uq: ∀b ps,H b=some (.LM ps)-> ∃more,H' b=some (.LM (ps++more))
section
variable{fs fs' ex ex':List Addr}{H H1 H2:Hp}{h h1 h2 h':Heap}{a x e:Addr}{o:HO}
theorem Un.any(u:Un fs ex H H1 h h1)(q:h.get? b=some ob)(n:H b=none)(i:b∉ex): ∃d,h1.get? b=some {ob with slots:=d}:=by
 by_cases c:b∈fs
 . exact u.slot b ob q n c i
 . exact⟨ob.slots,u.keep b ob q n c i⟩
theorem Un.kept(k: ∀b u,h.get? b=some u->h'.get? b=some u):Un fs ex H H h h':=
 ⟨fun b I q _ _ _=>k b I q,fun b I q _ _ _=>⟨I.slots,k b I q⟩,fun _ _ _ n _=>n,fun b I q _=>⟨I,k b I q⟩,fun _ _ q=>q,fun _ _ _ q=>q,fun _ Z q=>⟨#[],by rw[q];simp⟩⟩
theorem Un.refl:Un fs ex H H h h:=Un.kept fun _ _ q=>q
theorem Un.laid(k: ∀b u,h.get? b=some u->h'.get? b=some u)(p:h.objs.size<=a)(g:H a=none):Un fs ex H (upd H a o) h h' where
 keep:=fun b u q _ _ _=>k b u q
 slot:=fun b u q _ _ _=>⟨u.slots,k b u q⟩
 free:=fun b u q n _=>by rw[ah (af4 (ae0 (ad7 q) p))];exact n
 there:=fun b u q _=>⟨u,k b u q⟩
 ub:=fun b f q=>by rw[ah (ar q g)];exact q
 sV:=fun b u f q=>by rw[ah (ar q g)];exact q
 uq:=fun b Z q=>⟨#[],by rw[ah (ar q g),q];simp⟩
theorem Un.write(E:S5 (H x))(F:e=x\/H e=some (.own x))(k: ∀b u,b≠e->h.get? b=some u->h'.get? b=some u)(D: ∃u,h'.get? e=some u):Un fs ex H (upd H x o) h h':=by
 have i: ∀b,H b=none->b≠x:=fun b n z=>by subst z;rw[n] at E;exact E
 have d: ∀b,H b=none->b≠e:=fun b n z=>by
  subst z;rcases F with r | r
  . exact i b n r
  . rw[n] at r;cases r
 have A: ∀b u,H b=some u-> ¬S5 (some u)->b≠x:=fun b u q B z=>by subst z;rw[q] at E;exact B E
 refine⟨fun b u q n _ _=>k b u (d b n) q,fun b u q n _ _=>⟨u.slots,k b u (d b n) q⟩,fun b u q n _=>by rw[ah (i b n)];exact n,fun b u q _=>?_,
  fun b f q=>by rw[ah (A b _ q fun z=>z)];exact q,fun b u f q=>by rw[ah (A b _ q fun z=>z)];exact q,fun b Z q=>⟨#[],by rw[ah (A b _ q fun z=>z),q];simp⟩⟩
 by_cases c:b=e
 . subst c;exact D
 . exact⟨u,k b u c q⟩
end
noncomputable def Hb(h:Heap)(H:Hp):List Addr:=(List.range h.objs.size).filter fun a=>(H a).isSome
noncomputable def sQ(h:Heap)(H:Hp):Heap:=PySem.W.hideAll h (Hb h H)
theorem Bu(h:Heap)(H:Hp):(sQ h H).objs.size=h.objs.size:=PySem.W.hideAll_size _ _
theorem EZ{h:Heap}(e:h.get? b=some o)(n:H b=none):(sQ h H).get? b=some o:=
 PySem.W.hideAll_get _ e fun z=>by
  have q:(H b).isSome=true:=(af8.mp z).2;rw[n] at q;simp at q
theorem IM(e:(sQ h H).get? b=some o):h.get? b=some o/\H b=none:=by
 have Q:h.get? b=some o:=PySem.W.of_hideAll (Hb h H) e;refine⟨Q,?_⟩;cases q:H b with
 | none=>rfl
 | some x=>
  have A:b∈Hb h H:=af8.mpr ⟨af9.mpr (ad7 Q),by simp [q]⟩;have z:(sQ h H).get? b=none:=PySem.W.hideAll_none (Hb h H) A;rw[z] at e;cases e
structure Mod(K:PySem.W.Frag)(mg:Str->Option Value)(base:Heap):Prop where
 OW:K.In base
 glob:base.Ns mainGlobals mg
 blt: ∃mb,base.Ns builtinsNs mb/\ ∀x:Str,x≠"__name__"->mb x=bootBuiltins x
 nolimit:base.NoLimit
structure Cx where
 prog:Program
 w:World
 K:PySem.W.Frag
 mg:Str->Option Value
 base:Heap
 A:Around
 N:List Str
 s₀:Shared
 H₀:Hp
 env:Env
 outer:List Env
 stack:List Env
 ex:List Addr
 fn:Str->Bool
 calm:Bool
 pn:List (Addr × Obj)
 xe:Value->Shared->Prop
noncomputable def tT(l:List Env):List Addr:=l.filterMap (·.frame)
noncomputable abbrev Cx.fs (X:Cx):List Addr:=tT X.outer
def TU(a:Scope)(x:Str):Prop:=a.names.lookup x=some .local\/a.names.lookup x=some .cell\/a.names.lookup x=some .free
def Loc(a:Scope)(x:Str):Prop:=a.names.lookup x=some .local\/a.names.lookup x=some .cell
def Look(env:Env)(h:Heap)(m:Str->Option Value)(x:Str)(u:Value):Prop:=
 (env.kindOf x=some .local/\m x=some u)\/((env.kindOf x=some .cell\/env.kindOf x=some .free)/\ ∃c,env.cells.lookup x=some c/\h.IsCell c (some u))
structure Cx.Ok(X:Cx):Prop where
 mod:Mod X.K X.mg X.base
 kind:X.env.scope.kind= .function
 glob:X.env.globals=mainGlobals
 blt:X.env.builtins=builtinsNs
 above:X.s₀.heap.objs.size<=X.env.locals
 inj: ∀x y c,X.env.cells.lookup x=some c->X.env.cells.lookup y=some c->x=y
 has: ∀x,(X.env.kindOf x=some .cell\/X.env.kindOf x=some .free)-> ∃c,X.env.cells.lookup x=some c
 SD: ∀x c,X.fn x=true->X.env.cells.lookup x=some c->X.s₀.heap.objs.size<=c
 hd:X.calm=true->X.A.handled=none
 frames:X.A.frames=some X.stack
 Tn:X.stack=X.outer\/(X.stack=X.env::X.outer/\X.env.frame=some X.env.locals)
 K2: ∀b∈X.ex,b≠X.env.locals/\ ∀x c,X.env.cells.lookup x=some c->c≠b
 bs: ∀b o,X.base.get? b=some o->X.s₀.heap.get? b=some o/\X.H₀ b=none
 JW:X.base.objs.size<=X.s₀.heap.objs.size
 Et: ∀b o,X.base.get? b=some o->b∉X.ex
 xQ: ∀b∈X.ex,b∉X.fs
 mM:X.s₀.heap.FunFrames X.base X.outer
 NA: ∀b∈X.fs,X.H₀ b=none
structure Inv(X:Cx)(pins:List (Addr × Obj))(σ:List (Option V))(H:Hp)(s:Shared):Prop where
 ok:X.Ok
 os:s.os=X.s₀.os
 bare:AllBare s.gens
 base:Un X.fs X.ex X.H₀ H X.s₀.heap s.heap
 loc: ∃m,s.heap.Ns X.env.locals m/\ ∀(i:Nat) (x:Str) (v:V),X.N[i]?=some x->σ[i]?=some (some v)->TU X.env.scope x-> ∃u,RelV v u/\Look X.env s.heap m x u
 cell: ∀x c,X.env.cells.lookup x=some c-> ∃v,s.heap.IsCell c v
 free:H X.env.locals=none
 iS: ∀x c,X.env.cells.lookup x=some c->H c=none
 pin: ∀p∈X.pn++pins,s.heap.get? p.1=some p.2/\H p.1=none/\p.1≠X.env.locals/\p.1∉X.fs/\ ∀v,p.2.data≠ .cell v
 bc:jk X.prog X.w H s.heap
 len:σ.length=X.N.length
section
variable{X:Cx}{pins:List (Addr × Obj)}{σ:List (Option V)}{H H':Hp}{s:Shared}{h':Heap}
theorem Cx.Ok.VI(u:X.Ok)(e:X.base.get? b=some o):b∉X.fs:=fun c=>by
 have:=(u.mM.mem c).1;rw[e] at this;cases this
theorem Inv.bs(I:Inv X pins σ H s): ∀b o,X.base.get? b=some o->s.heap.get? b=some o/\H b=none:=fun b o e=>
 ⟨I.base.keep b o (I.ok.bs b o e).1 (I.ok.bs b o e).2 (I.ok.VI e) (I.ok.Et b o e),I.base.free b o (I.ok.bs b o e).1 (I.ok.bs b o e).2 (I.ok.Et b o e)⟩
theorem Inv.bk(I:Inv X pins σ H s): ∀b o,X.base.get? b=some o->s.heap.get? b=some o:=fun b o e=>(I.bs b o e).1
theorem Inv.mod(I:Inv X pins σ H s):Mod X.K X.mg X.base:=I.ok.mod
theorem Inv.xD(I:Inv X pins σ H s):X.K.In s.heap:=I.ok.mod.OW.keeps I.bk
theorem Inv.lt(I:Inv X pins σ H s):X.env.locals < s.heap.objs.size:=let ⟨_,hn,_⟩:=I.loc;hn.lt
theorem Inv.sz(I:Inv X pins σ H s):X.s₀.heap.objs.size<=s.heap.objs.size:=ad9 I.ok.above (Nat.le_of_lt I.lt)
theorem Inv.VH(I:Inv X pins σ H s)(h:s.heap.objs.size<=a):a∉X.fs:=fun c=>by
 obtain⟨_,o,i,_⟩:=I.ok.mM.mem c;exact absurd (ae0 (ad7 i) (ad9 I.sz h)) (ag6 _)
theorem Inv.Ob(I:Inv X pins σ H s): ∀x c,X.env.cells.lookup x=some c->c≠X.env.locals:=fun x c e z=>by
 obtain⟨v,o,h,r⟩:=I.cell x c e;obtain⟨m,⟨M,B,A,b,d,_⟩,_⟩:=I.loc;rw[z,b] at h;cases h;rw[d] at r;cases r
theorem Inv.mM(I:Inv X pins σ H s):s.heap.FunFrames X.base X.outer:=by
 have c: ∀(l:List Env),(∀b∈tT l,b∈X.fs)->X.s₀.heap.FunFrames X.base l->s.heap.FunFrames X.base l:=by
  intro l;induction l with
  | nil=>intro _ _;trivial
  | cons env r ih=>
   intro A w;obtain⟨R,⟨L,o,t,g,h,u⟩,m⟩:=w;have v:L∈X.fs:=A L (by unfold tT;rw[List.filterMap_cons,t];exact ab4);obtain⟨f,e⟩:=I.base.slot L o h (I.ok.NA L v) v fun z=>I.ok.xQ L z v;exact⟨R,⟨L,_,t,g,e,u⟩,ih (fun b d=>A b (by unfold tT;rw[List.filterMap_cons,t];exact ab5 _ d)) m⟩
 exact c X.outer (fun _ d=>d) I.ok.mM
theorem Inv.stack(I:Inv X pins σ H s):s.heap.FunFrames X.base X.stack:=by
 rcases I.ok.Tn with e | ⟨e,t⟩
 . rw[e];exact I.mM
 . rw[e];obtain⟨m,g,_⟩:=I.loc;refine .cons (by rw[I.ok.kind];decide) t g ?_ I.mM;exact Heap.get?_none_of_le (ad9 I.ok.JW I.ok.above)
theorem Inv.wK(I:Inv X pins σ H s): ∀b∈tT X.stack,b∈X.env.locals::X.fs:=fun b c=>by
 rcases I.ok.Tn with e | ⟨e,t⟩
 . rw[e] at c;exact ab5 _ c
 . rw[e] at c;unfold tT at c;rw[List.filterMap_cons,t] at c;exact c
theorem Inv.yH(I:Inv X pins σ H s): ∀b∈tT X.stack,H b=none:=fun b c=>by
 rcases ab9.mp (I.wK b c) with e | c
 . rw[e];exact I.free
 . obtain⟨_,o,h,_⟩:=I.ok.mM.mem c;exact I.base.free b o h (I.ok.NA b c) fun z=>I.ok.xQ b z c
theorem Inv.step{g':Array GenState}{t':Nat}{d':Drawn}{ch:List Addr}(I:Inv X pins σ H s)
  (E: ∀b∈ch,(b∈X.ex\/X.s₀.heap.objs.size<=b)/\b≠X.env.locals/\(∀x c,X.env.cells.lookup x=some c->c≠b)/\ ∀p∈X.pn++pins,p.1≠b)
  (A: ∀b o,b≠X.env.locals->b∉X.fs->b∉ch->s.heap.get? b=some o->H b=none->h'.get? b=some o)
  (f: ∀b o,b≠X.env.locals->b∈X.fs->b∉ch->s.heap.get? b=some o->H b=none-> ∃N,h'.get? b=some {o with slots:=N}) (t: ∀b o,b∉ch->s.heap.get? b=some o->H b=none->H' b=none)
  (C: ∀b o,b∉ch->s.heap.get? b=some o-> ∃M,h'.get? b=some M)
  (ub: ∀b g,H b=some (.tup g)->H' b=some (.tup g)) (sV: ∀b o u,H b=some (.wa o u)->H' b=some (.wa o u)) (uq: ∀b Z,H b=some (.LM Z)-> ∃J,H' b=some (.LM (Z++J)))
  (ns: ∀m,s.heap.Ns X.env.locals m->h'.Ns X.env.locals m) (U:jk X.prog X.w H' h') (hg:AllBare g'):
  Inv X pins σ H' {s with heap:=h',gens:=g',drawn:=d',toks:=t'}:=by
 have P: ∀b o,X.s₀.heap.get? b=some o->b≠X.env.locals:=fun b o e=>af4 (ae0 (ad7 e) I.ok.above);have Y: ∀b o,X.s₀.heap.get? b=some o->b∉X.ex->b∉ch:=fun b o e h j=>by
  rcases(E b j).1 with z | z
  . exact h z
  . exact absurd (ae0 (ad7 e) z) (ag6 _)
 have B: ∀x c,X.env.cells.lookup x=some c-> ∀v,s.heap.IsCell c v->h'.IsCell c v:=fun x c e v W=>(by obtain⟨o,D,L⟩:=W;exact(by
  have F:c∉ch:=fun z=>(E c z).2.2.1 x c e rfl;by_cases Q:c∈X.fs
  . obtain⟨N,q⟩:=f c o (I.Ob x c e) Q F D (I.iS x c e);exact⟨_,q,L⟩
  . exact⟨o,A c o (I.Ob x c e) Q F D (I.iS x c e),L⟩))
 refine⟨I.ok,I.os,hg,⟨fun b o e n j h=>?_,fun b o e n j h=>?_,fun b o e n h=>?_,fun b o e h=>?_,fun b g e=>ub b g (I.base.ub b g e),fun b o g e=>sV b o g (I.base.sV b o g e),fun b Z e=>?_⟩,?_,fun x c e=>?_,?_,fun x c e=>?_,fun p R=>?_,U,I.len⟩
 . exact A b o (P b o e) j (Y b o e h) (I.base.keep b o e n j h) (I.base.free b o e n h)
 . obtain⟨N,y⟩:=I.base.slot b o e n j h;obtain⟨O,G⟩:=f b _ (P b o e) j (Y b o e h) y (I.base.free b o e n h);exact⟨O,G⟩
 . obtain⟨M,y⟩:=I.base.there b o e h;exact t b M (Y b o e h) y (I.base.free b o e n h)
 . obtain⟨M,y⟩:=I.base.there b o e h;exact C b M (Y b o e h) y
 . obtain⟨m1,y⟩:=I.base.uq b Z e;obtain⟨m2,G⟩:=uq b _ y;exact⟨m1++m2,by rw[G,Array.append_assoc]⟩
 . obtain⟨m,hn,hl⟩:=I.loc;refine⟨m,ns m hn,fun i x v y G a=>?_⟩;obtain⟨u,r,l⟩:=hl i x v y G a;refine⟨u,r,?_⟩;rcases l with l | ⟨k,c,e,z⟩
   . exact .inl l
   . exact .inr ⟨k,c,e,B x c e _ z⟩
 . obtain⟨v,z⟩:=I.cell x c e;exact⟨v,B x c e v z⟩
 . obtain⟨m,⟨o,_,_,D,_⟩,_⟩:=I.loc;exact t _ o (fun z=>(E _ z).2.1 rfl) D I.free
 . obtain⟨v,o,D,L⟩:=I.cell x c e;exact t c o (fun z=>(E c z).2.2.1 x c e rfl) D (I.iS x c e)
 . obtain⟨e,n,S,T,d⟩:=I.pin p R;have F:p.1∉ch:=fun z=>(E p.1 z).2.2.2 p R rfl;exact⟨A p.1 p.2 S T F e n,t p.1 p.2 F e n,S,T,d⟩
theorem Inv.un(I:Inv X pins σ H s)(u:Un X.fs [] H H' s.heap h')(J:jk X.prog X.w H' h'):Inv X pins σ H' {s with heap:=h',toks:=t'}:=by
 obtain⟨m,⟨o,D,B,h,r⟩,_⟩:=id I.loc;obtain⟨i,v⟩:=u.any h I.free (by simp);exact I.step (g':=s.gens) (d':=s.drawn) (ch:= []) (fun _ z=>nomatch z) (fun b o _ c _ e n=>u.keep b o e n c (by simp)) (fun b o _ c _ e n=>u.slot b o e n c (by simp)) (fun b o _ e n=>u.free b o e n (by simp)) (fun b o _ e=>u.there b o e (by simp)) u.ub u.sV u.uq (fun a A=>by
  obtain⟨M,f,g,d,C⟩:=A;rw[h] at d;cases d;exact⟨_,f,g,v,C⟩) J I.bare
theorem Inv.call(I:Inv X pins σ H s)(u:Un (tT X.stack) ch H H' s.heap h')(J:jk X.prog X.w H' h')(S:AllBare g')(t: ∀b∈ch,(b∈X.ex\/X.s₀.heap.objs.size<=b)/\b≠X.env.locals/\(∀x c,X.env.cells.lookup x=some c->c≠b)/\ ∀p∈X.pn++pins,p.1≠b):
  Inv X pins σ H' {s with heap:=h',gens:=g',drawn:=d',toks:=t'}:=by
 obtain⟨m,⟨o,D,B,h,r⟩,_⟩:=id I.loc;obtain⟨j,v⟩:=u.any h I.free fun z=>(t _ z).2.1 rfl;exact I.step (ch:=ch) t (fun b o v i l e n=>u.keep b o e n (fun z=>(ab9.mp (I.wK b z)).elim v i) l) (fun b o _ _ l e n=>u.any e n l) (fun b o l e n=>u.free b o e n l) (fun b o l e=>u.there b o e l) u.ub u.sV u.uq (fun a A=>by
  obtain⟨M,f,g,d,C⟩:=A;rw[h] at d;cases d;exact⟨_,f,g,v,C⟩) J S
theorem Inv.turned(I:Inv X pins σ H s)(k: ∀b o,b≠it->s.heap.get? b=some o->h'.get? b=some o)(h:H it=none)(w:it≠X.env.locals)(f:it∈X.ex\/X.s₀.heap.objs.size<=it)(g: ∀x c,X.env.cells.lookup x=some c->c≠it)(T: ∀p∈X.pn++pins,p.1≠it):Inv X pins σ H {s with heap:=h',toks:=t'}:=by
 have F: ∀b u,H b=some u->b≠it:=fun b u e z=>by rw[z,h] at e;cases e
 refine I.step (g':=s.gens) (d':=s.drawn) (ch:= [it]) (fun b d=>?_) (fun b o _ _ l e _=>k b o (fun z=>l (by simp [z])) e) (fun b o _ _ l e _=>⟨o.slots,k b o (fun z=>l (by simp [z])) e⟩) (fun _ _ _ _ n=>n)
  (fun b o l e=>⟨o,k b o (fun z=>l (by simp [z])) e⟩) (fun _ _ e=>e) (fun _ _ _ e=>e) (fun b Z e=>⟨#[],by rw[e];simp⟩) (fun m C=>?_) (fun b u e=>?_) I.bare
 . have e:b=it:=by simpa using d
   subst e;exact⟨f,w,g,T⟩
 . obtain⟨o,B,A,i,r⟩:=C;exact⟨o,B,A,k _ o (Ne.symm w) i,r⟩
 . refine(I.bc b u e).wM (fun c v l q=>k c v ?_ q) (fun _ q=>q) fun _ _ q=>q;rcases l with z | z
   . rw[z];exact F b u e
   . exact F c _ z
theorem Inv.tok(I:Inv X pins σ H s)(t:Nat):Inv X pins σ H {s with toks:=t}:=I.un (h':=s.heap) (t':=t) Un.refl I.bc
theorem Inv.kept(I:Inv X pins σ H s)(k: ∀b u,s.heap.get? b=some u->h'.get? b=some u):Inv X pins σ H {s with heap:=h',toks:=t'}:=I.un (Un.kept k) (I.bc.kept k)
theorem Inv.laid(I:Inv X pins σ H s)(k: ∀b u,s.heap.get? b=some u->h'.get? b=some u)(p:s.heap.objs.size<=a)(U:bW X.prog X.w (upd H a o) h' a o):
  Inv X pins σ (upd H a o) {s with heap:=h',toks:=t'}:=I.un (Un.laid k p (I.bc.fresh p)) (I.bc.laid k p U)
theorem Inv.write(I:Inv X pins σ H s)(F:S5 (H x))(E:e=x\/H e=some (.own x))(k: ∀b u,b≠e->s.heap.get? b=some u->h'.get? b=some u)(D: ∃u,h'.get? e=some u)(U:bW X.prog X.w (upd H x o) h' x o):Inv X pins σ (upd H x o) {s with heap:=h',toks:=t'}:=I.un (Un.write F E k D) (I.bc.write F E k D U)
theorem Inv.weak{Y:List (Option V)}(I:Inv X pins σ H s)(z:Y.length=σ.length)(w: ∀(i:Nat) v,Y[i]?=some (some v)->σ[i]?=some (some v)):Inv X pins Y H s:=
 ⟨I.ok,I.os,I.bare,I.base,let ⟨m,hn,Rn⟩:=I.loc;⟨m,hn,fun i x v u y W=>Rn i x v u (w i v y) W⟩,I.cell,I.free,I.iS,I.pin,I.bc,z.trans I.len⟩
theorem Inv.zc(I:Inv X pins σ H s)(h: ∀p∈Qp,s.heap.get? p.1=some p.2/\H p.1=none/\p.1≠X.env.locals/\p.1∉X.fs/\ ∀v,p.2.data≠ .cell v):Inv X Qp σ H s:=
 ⟨I.ok,I.os,I.bare,I.base,I.loc,I.cell,I.free,I.iS,fun p q=>(ad8.mp q).elim (fun z=>I.pin p (ae6 _ z)) (h p),I.bc,I.len⟩
theorem uU{N:List Str}(p:N.Nodup){i j:Nat}(a:N[i]?=some x)(b:N[j]?=some x):i=j:=by
 obtain⟨f,u⟩:=ab0.mp a;obtain⟨g,y⟩:=ab0.mp b;exact(List.getElem_inj p).mp (u.trans y.symm)
theorem qd(I:Inv X pins σ H s)(hN:X.N.Nodup)(hi:X.N[i]?=some x)(t:Loc X.env.scope x)(r:RelV v u)(h: ∀s',Inv X pins (σ.set i (some v)) H s'->(∃a,Heap.SameBut a s.heap s'.heap/\(a=X.env.locals\/X.env.cells.lookup x=some a))->Q () s')(hf:X.fn x=true\/X.env.scope.names.lookup x=some .local:=by first | exact .inl rfl | exact .inr rfl | assumption):wpAny M A (storeName X.env x u) Q E s:=by
 obtain⟨m,O,hl⟩:=id I.loc;have WD:(X.env.scope.kind== .class || (X.env.scope.kind== .module && X.env.locals !=X.env.globals))=false:=by rw[I.ok.kind];rfl
 have Rq:i < σ.length:=by rw[I.len];exact(ab0.mp hi).1
 have L:=I.Ob;have D: ∀{a:Addr} {h':Heap},(∃o,s.heap.get? a=some o/\H a=none)->Heap.SameBut a s.heap h'->jk X.prog X.w H h':=fun{a h'} ha B b ob e=>by
  obtain⟨_,_,qp⟩:=ha;refine(I.bc b ob e).wM (fun c J l q=>(B.2 c ?_).trans q) (fun _ q=>q) fun _ _ q=>q;rintro rfl
  rcases l with rfl | l
  . rw[qp] at e;cases e
  . rw[qp] at l;cases l
 rcases t with R | R
 . refine wpAny_storeName_local R O (fun h' P B=>?_) WD;obtain⟨oL,_,_,S,_⟩:=id O;refine h _ ⟨I.ok,I.os,I.bare,⟨fun b o e n f t=>?_,fun b o e n f t=>?_,I.base.free,fun b o e t=>?_,I.base.ub,I.base.sV,I.base.uq⟩,⟨_,P,fun j y v' C F Z=>?_⟩,fun y c e=>?_,I.free,I.iS,fun p T=>?_,D ⟨oL,S,I.free⟩ B,by simpa using I.len⟩ ⟨_,B, .inl rfl⟩
   . exact(B.2 b (af4 (ae0 (ad7 e) I.ok.above))).trans (I.base.keep b o e n f t)
   . obtain⟨sl,C⟩:=I.base.slot b o e n f t;exact⟨sl,(B.2 b (af4 (ae0 (ad7 e) I.ok.above))).trans C⟩
   . obtain⟨o',C⟩:=I.base.there b o e t;exact⟨o',(B.2 b (af4 (ae0 (ad7 e) I.ok.above))).trans C⟩
   . by_cases W:j=i
     . subst W;rw[hi] at C;cases C;rw[ac7 Rq] at F;cases F;exact⟨u,r,.inl ⟨R,by simp⟩⟩
     . rw[ab7 (Ne.symm W)] at F;obtain⟨u',r',q⟩:=hl j y v' C F Z;refine⟨u',r',?_⟩;rcases q with ⟨k,e⟩ | ⟨k,c,e,z⟩
       . refine .inl ⟨k,?_⟩;have:y≠x:=fun e=>W (uU hN C (e▸hi));simp [this,e]
       . exact .inr ⟨k,c,e,z.sameBut B (L y c e)⟩
   . obtain⟨J,z⟩:=I.cell y c e;exact⟨J,z.sameBut B (L y c e)⟩
   . obtain⟨e,n,G,U,d⟩:=I.pin p T;exact⟨(B.2 p.1 G).trans e,n,G,U,d⟩
 . have g : X.fn x = true := by
     rcases hf with z | z
     . exact z
     . rw[z] at R;cases R
   obtain⟨c,l⟩:=I.ok.has x (.inl R);obtain⟨J,z⟩:=I.cell x c l;refine wpAny_storeName_cell I.ok.kind R l z (fun h' KU B=>?_);obtain⟨oc,YM,Wi⟩:=id z;refine h {s with heap:=h'} ⟨I.ok,I.os,I.bare,⟨fun b o e n f t=>?_,fun b o e n f t=>?_,I.base.free,fun b o e t=>?_,I.base.ub,I.base.sV,I.base.uq⟩,⟨m,O.sameBut B (Ne.symm (L x c l)),fun j y v' C F Z=>?_⟩,fun y Y e=>?_,I.free,I.iS,fun p T=>?_,D ⟨oc,YM,I.iS x c l⟩ B,by simpa using I.len⟩ ⟨c,B,.inr l⟩
   . exact(B.2 b (af4 (ae0 (ad7 e) (I.ok.SD x c g l)))).trans (I.base.keep b o e n f t)
   . obtain⟨sl,C⟩:=I.base.slot b o e n f t;exact⟨sl,(B.2 b (af4 (ae0 (ad7 e) (I.ok.SD x c g l)))).trans C⟩
   . obtain⟨o',C⟩:=I.base.there b o e t;exact⟨o',(B.2 b (af4 (ae0 (ad7 e) (I.ok.SD x c g l)))).trans C⟩
   . by_cases W:j=i
     . subst W;rw[hi] at C;cases C;rw[ac7 Rq] at F;cases F;exact⟨u,r,.inr ⟨.inl R,c,l,KU⟩⟩
     . rw[ab7 (Ne.symm W)] at F;obtain⟨u',r',q⟩:=hl j y v' C F Z;refine⟨u',r',?_⟩;rcases q with q | ⟨k,Y,e,z'⟩
       . exact .inl q
       . refine .inr ⟨k,Y,e,z'.sameBut B ?_⟩;rintro rfl
         exact W (uU hN C (I.ok.inj _ _ _ e l▸hi))
   . by_cases YU:Y=c
     . subst YU;exact⟨_,KU⟩
     . obtain⟨w2,z2⟩:=I.cell y Y e;exact⟨w2,z2.sameBut B YU⟩
   . obtain⟨e,n,G,U,d⟩:=I.pin p T;refine⟨(B.2 p.1 ?_).trans e,n,G,U,d⟩;intro q;rw[q,YM] at e;have q':oc=p.2:=Option.some.inj e;exact d J (by rw[<-q'];exact Wi)
theorem eU(I:Inv X pins σ H s)(p:X.N.Nodup)(hi:X.N[i]?=some x)(j:Loc X.env.scope x)(r:RelV v u)(h: ∀m,Inv X pins (σ.set i (some v)) H m->Q () m)(t:X.fn x=true\/X.env.scope.names.lookup x=some .local:=by first | exact .inl rfl | exact .inr rfl | assumption):wpAny M A (storeName X.env x u) Q E s:=
 qd I p hi j r (fun m c _=>h m c) t
theorem Inv.Gx{s':Shared}(I:Inv X pins σ H s)(h:s'.os=s.os)(u:Un (tT X.stack) ch H H' s.heap s'.heap)(J:jk X.prog X.w H' s'.heap)(S:AllBare s'.gens)(t: ∀b∈ch,(b∈X.ex\/X.s₀.heap.objs.size<=b)/\b≠X.env.locals/\(∀x c,X.env.cells.lookup x=some c->c≠b)/\ ∀p∈X.pn++pins,p.1≠b):Inv X pins σ H' s':=by
 obtain⟨h',i,a,E,M⟩:=s';have e:M=s.os:=h;subst e;exact I.call (g':=i) (t':=E) (d':=a) u J S t
end
abbrev XK:=Value->Option Addr->Hp->Prop
abbrev St:=List (Option V)
abbrev VK:=V->Hp->Prop
abbrev TE:=St->Hp->VK->Prop
abbrev TT:=St->Hp->(Bool->Hp->Prop)->Prop
abbrev TA:=St->Hp->(List V->Hp->Prop)->Prop
structure Ends where
 nx:St->Hp->Prop
 rt:VK
 bk:St->Hp->Prop:=fun _ _=>False
 ct:St->Hp->Prop:=fun _ _=>False
abbrev TS:=Ends->St->Hp->Prop
inductive EP(X:Cx)(pins:List (Addr × Obj))(σ:St)(Q:VK)(u:Value)(s':Shared):Prop
 | mk (v:V) (H':Hp) (h1:Inv X pins σ H' s') (h2:RelV v u) (h3:Q v H')
inductive TP(X:Cx)(pins:List (Addr × Obj))(σ:St)(Q:Bool->Hp->Prop)(b:Bool)(s':Shared):Prop
 | mk (H':Hp) (h1:Inv X pins σ H' s') (h2:Q b H')
inductive AP(X:Cx)(pins:List (Addr × Obj))(σ:St)(Q:List V->Hp->Prop)(us:List Value)(s':Shared):Prop
 | mk (vs:List V) (H':Hp) (h1:Inv X pins σ H' s') (h2:Vals vs us) (h3:Q vs H')
inductive SS(X:Cx)(pins:List (Addr × Obj))(P:St->Hp->Prop)(s':Shared):Prop
 | mk (σ':St) (H':Hp) (h1:Inv X pins σ' H' s') (h2:P σ' H')
inductive SPr(X:Cx)(pins:List (Addr × Obj))(P:VK)(u:Value)(s':Shared):Prop
 | mk (v:V) (σ':St) (H':Hp) (h1:Inv X pins σ' H' s') (h2:RelV v u) (h3:P v H')
def SP(X:Cx)(a:List (Addr × Obj))(D:Ends)(f:Flow)(s':Shared):Prop:=
 match f with
 | .next=>SS X a D.nx s'
 | .brk=>SS X a D.bk s'
 | .cont=>SS X a D.ct s'
 | .ret u=>SPr X a D.rt u s'
def PE(X:Cx)(e:Expr)(t:TE):Prop:=
 ∀(pins:List (Addr × Obj)) (s:Shared) (σ:St) (H:Hp) (Q:VK),Inv X pins σ H s->t σ H Q->wpAny (model X.prog X.w) X.A (eval e X.env) (EP X pins σ Q) X.xe s
def PT(X:Cx)(e:Expr)(t:TT):Prop:=
 ∀(pins:List (Addr × Obj)) (s:Shared) (σ:St) (H:Hp) (Q:Bool->Hp->Prop),Inv X pins σ H s->t σ H Q->wpAny (model X.prog X.w) X.A (isTrue e X.env (eval e X.env)) (TP X pins σ Q) X.xe s
def PW(X:Cx)(e:Expr)(t:TT):Prop:=
 ∀(whole:Sem Value) (pins:List (Addr × Obj)) (s:Shared) (σ:St) (H:Hp) (Q:Bool->Hp->Prop),Inv X pins σ H s->t σ H Q->wpAny (model X.prog X.w) X.A (isTrue e X.env whole) (TP X pins σ Q) X.xe s
theorem PW.pt(h:PW X e t):PT X e t:=h _
def PA(X:Cx)(B:List Expr)(t:TA):Prop:=
 ∀(pos:Pos) (pins:List (Addr × Obj)) (s:Shared) (σ:St) (H:Hp) (Q:List V->Hp->Prop),Inv X pins σ H s->t σ H Q->wpAny (model X.prog X.w) X.A (spliced (backTo pos (starEach B X.env))) (AP X pins σ Q) X.xe s
def PS(X:Cx)(st:Stmt)(t:TS):Prop:=
 ∀(pins:List (Addr × Obj)) (s:Shared) (σ:St) (H:Hp) (D:Ends),Inv X pins σ H s->t D σ H->wpAny (model X.prog X.w) X.A (exec st X.env) (SP X pins D) X.xe s
def tN(X:Cx)(st:List Stmt)(t:TS):Prop:=
 ∀(pins:List (Addr × Obj)) (s:Shared) (σ:St) (H:Hp) (D:Ends),Inv X pins σ H s->t D σ H->wpAny (model X.prog X.w) X.A (execs st X.env) (SP X pins D) X.xe s
theorem aP(h:wpAny M A t Q E s)(S: ∀a s,Q a s->Q' a s):wpAny M A t Q' E s:=ae8 h S fun _ _ x=>x
section
variable{X:Cx}
def fV(i:Nat):TE:=fun b H Q=> ∃v,b[i]?=some (some v)/\Q v H
def tC(v:V):TE:=fun _ H Q=>Q v H
theorem DP(p:X.N[i]?=some x)(d:TU X.env.scope x)(t:(x==("__debug__":Str))=false:=by decide)(P:(x==("__classdict__":Str))=false:=by decide):PE X (.Name x pos) (fV i):=by
 intro a s b H Q I h;obtain⟨v,e,h⟩:=h;obtain⟨m,g,w⟩:=I.loc;obtain⟨u,r,l⟩:=w i x v p e d;have fin:EP X a b Q u s:=⟨v,H,I,r,h⟩
 rcases l with ⟨R,z⟩ | ⟨R,c,n,J⟩
 . exact wpAny_Name (wpAny_loadName_local I.ok.kind R g z fin) t
 . rcases R with R | R
   . exact wpAny_Name (wpAny_loadName_cell I.ok.kind R n J fin) t
   . exact wpAny_Name (wpAny_loadName_free I.ok.kind R n J fin P) t
theorem ck{i j pos}:PE X (.Constant (.int i) j pos) (tC (.int i)):=fun _ _ _ H _ I h=>wpAny_Constant_int ⟨.int i,H,I.tok _,⟨_,rfl⟩,h⟩
theorem Qs{b j pos}:PE X (.Constant (.bool b) j pos) (tC (.bl b)):=fun _ _ _ H _ I h=>Constant_bool ⟨.bl b,H,I,rfl,h⟩
theorem DR{j pos}:PE X (.Constant .none j pos) (tC .aN):=fun _ _ _ H _ I h=>Constant_none ⟨.aN,H,I,rfl,h⟩
theorem iF{x j pos}:PE X (.Constant (.str x) j pos) (tC (.str x)):=fun _ _ _ H _ I h=>Calls.Constant_str ⟨.str x,H,I.tok _,⟨_,rfl⟩,h⟩
def Gl(X:Cx)(x:Str):Prop:=X.env.kindOf x=some .globalImplicit
theorem sD(I:Inv X pins σ H s)(S:Gl X x)(z:X.mg x=some u)(h:Q u s)(r:(x==("__debug__":Str))=false:=by decide):wpAny (model X.prog X.w) X.A (eval (.Name x pos) X.env) Q E s:=
 Calls.Name_function_global I.ok.kind S (Calls.loadGlobal_global (by rw[I.ok.glob];exact I.mod.glob.keeps I.bk) z h) r
theorem ez(I:Inv X pins σ H s)(S:Gl X x)(z:X.mg x=none)(c:bootBuiltins x=some u)(h:Q u s)(i:x≠"__name__":=by decide)(r:(x==("__debug__":Str))=false:=by decide):wpAny (model X.prog X.w) X.A (eval (.Name x pos) X.env) Q E s:=by
 obtain⟨j,f,g⟩:=I.mod.blt;exact Calls.Name_function_global I.ok.kind S (Calls.loadGlobal_builtin (by rw[I.ok.glob];exact I.mod.glob.keeps I.bk) z (by rw[I.ok.blt];exact f.keeps I.bk) ((g x i).trans c) h) r
theorem Ik(S:Gl X x)(z:X.mg x=some u)(r:RelV v u)(s:(x==("__debug__":Str))=false:=by decide):PE X (.Name x pos) (tC v):=
 fun _ _ _ H _ I h=>sD I S z ⟨v,H,I,r,h⟩ s
variable{a b:Expr}{ta tb:TE}{pos:Pos}
def PC(X:Cx)(k:CmpOp)(a b:Expr)(t:TE):Prop:=
 ∀(pins:List (Addr × Obj)) (s:Shared) (σ:St) (H:Hp) (Q:VK),Inv X pins σ H s->t σ H Q->
  wpAny (model X.prog X.w) X.A (eval a X.env) (fun v U=>wpAny (model X.prog X.w) X.A (eval b X.env) (fun u i=>wpAny (model X.prog X.w) X.A (compareOp k v u) (EP X pins σ Q) X.xe i) X.xe U) X.xe s
theorem uV(b:Expr)(h:op≠ .In)(g:op≠ .NotIn):behindInMarks op b=false:=by
 have u:(op==CmpOp.In)=false:=by cases op <;> first | rfl | exact absurd rfl h
 have x:(op==CmpOp.NotIn)=false:=by cases op <;> first | rfl | exact absurd rfl g
 cases b <;> simp [behindInMarks,u,x]
def PQ(ta:TE):TE:=fun c H Q=>ta c H fun x k=>Q (.bl (decide (x= .aN))) k
def Kq(ta:TE):TE:=fun c H Q=>ta c H fun x k=>Q (.bl (!decide (x= .aN))) k
theorem RelV.uT(r:RelV x v):(v==Value.none)=decide (x= .aN):=by
 cases x with
 | aN=>cases r;rfl
 | bl _=>cases r;rfl
 | int _=>obtain⟨t,rfl⟩:=r;rfl
 | str _=>obtain⟨t,rfl⟩:=r;rfl
 | x9 _=>obtain⟨t,rfl⟩:=r;rfl
 | Hj _=>obtain⟨t,rfl⟩:=r;rfl
 | ref _=>cases r;rfl
 | ty _=>cases r;rfl
theorem D1{j pos'}(d:PE X a ta):PC X .Is a (.Constant .none j pos') (PQ ta):=by
 intro c s e H Q I h;refine aP (d c s e H _ I h) fun v J l=>?_;obtain⟨x,k,W,q,o⟩:=l;exact Constant_none (is_none_gen ⟨.bl _,k,W,by rw[q.uT];rfl,o⟩)
theorem zf{j pos'}(d:PE X a ta):PC X .IsNot a (.Constant .none j pos') (Kq ta):=by
 intro c s e H Q I h;refine aP (d c s e H _ I h) fun v J w=>?_;obtain⟨x,k,W,q,o⟩:=w;exact Constant_none (isnot_none_gen ⟨.bl _,k,W,by rw[q.uT];rfl,o⟩)
def tB(t:TE):TT:=fun d H Q=>t d H fun x k=> ∃c,x= .bl c/\Q c k
theorem DZ(h:PC X op a b t)(f:behindInMarks op b=false:=by first | exact uV _ (by decide) (by decide) | rfl):PE X (.Compare a [op] [b] pos) t:=fun c s d H Q I g=>wpAny_Compare1 (h c s d H Q I g) f
theorem DD(h:PC X op a b t)(f:behindInMarks op b=false:=by first | exact uV _ (by decide) (by decide) | rfl):PT X (.Compare a [op] [b] pos) (tB t):=by
 intro e s j H Q I i;refine wpAny_isTrue_Compare1 (aP (h e s j H _ I i) fun v J f=>aP f fun u w g=>aP g fun c y N=>?_) f;obtain⟨x,k,W,r,o⟩:=N;obtain⟨d,rfl,q⟩:=o;cases r;exact ah1 ⟨k,W,q⟩
theorem Mj(h:PE X e t)(E: ∀c,isTrue e X.env c=(do let v<-c;standAt e.pos;holding [v] (truthy v)):=by intro _;rfl):PT X e (tB t):=by
 intro f s i H Q I g;refine isTrue_plain (aP (h f s i H _ I g) fun v J O=>?_) (E _);obtain⟨x,k,W,r,o⟩:=O;obtain⟨d,rfl,q⟩:=o;cases r;exact ah1 ⟨k,W,q⟩
variable{tA Tj:TT}{rest:List Expr}
def U2(t u:TT):TT:=fun d H Q=>t d H fun c k=>if c=true then u d k Q else Q false k
def tOr(t u:TT):TT:=fun d H Q=>t d H fun c k=>if c=true then Q true k else u d k Q
def UW(t:TT):TT:=fun d H Q=>t d H fun c k=>Q (!c) k
theorem pw_and1(f:PT X a tA):PW X (.BoolOp .And [a] pos) tA:=by
 intro o d s g H Q I h;refine isTrue_and (aP (f d s g H Q I h) fun c J e=>?_);cases c with
 | true=>exact isTrue_and_nil e
 | false=>exact e
theorem pw_or1(f:PT X a tA):PW X (.BoolOp .Or [a] pos) tA:=by
 intro o d s g H Q I h;refine isTrue_or (aP (f d s g H Q I h) fun c J e=>?_);cases c with
 | false=>exact isTrue_or_nil e
 | true=>exact e
theorem pw_and(f:PT X a tA)(g:PW X (.BoolOp .And (b::rest) pos) Tj):PW X (.BoolOp .And (a::b::rest) pos) (U2 tA Tj):=by
 intro p d s e H Q I h;refine isTrue_and (aP (f d s e H _ I h) fun c J i=>?_);obtain⟨k,W,o⟩:=i;cases c with
 | true=>exact g p d J e k Q W o
 | false=>exact⟨k,W,o⟩
theorem pw_or(f:PT X a tA)(g:PW X (.BoolOp .Or (b::rest) pos) Tj):PW X (.BoolOp .Or (a::b::rest) pos) (tOr tA Tj):=by
 intro p d s e H Q I h;refine isTrue_or (aP (f d s e H _ I h) fun c J E=>?_);obtain⟨k,W,o⟩:=E;cases c with
 | true=>exact⟨k,W,o⟩
 | false=>exact g p d J e k Q W o
theorem Ml(f:PT X a tA):PT X (.UnaryOp .Not a pos) (UW tA):=by
 intro d s g H Q I h;refine isTrue_not (ae8 (f d s g H (fun c k=>Q (!c) k) I h) (fun c m z=>?_) fun _ _ z=>z);obtain⟨v,e,q⟩:=z;exact⟨v,e,q⟩
def PV(ta tb:TE):TE:=fun d H Q=>ta d H fun x k=> ∃c,x= .bl c/\if c=true then tb d k Q else Q (.bl false) k
def UU(ta tb:TE):TE:=fun d H Q=>ta d H fun x k=> ∃c,x= .bl c/\if c=true then Q (.bl true) k else tb d k Q
theorem Mw{op}(h:PE X a t):PE X (.BoolOp op [a] pos) t:=fun c s d H Q I f=>BoolOp_one (h c s d H Q I f)
theorem My(f:PE X a ta)(g:PE X (.BoolOp .And (b::rest) pos) tb):PE X (.BoolOp .And (a::b::rest) pos) (PV ta tb):=by
 intro d s e H Q I h;refine BoolOp_and (aP (f d s e H _ I h) fun v J i=>?_);obtain⟨x,k,W,q,o⟩:=i;obtain⟨c,rfl,o⟩:=o;cases q;refine ah1 ?_;cases c with
 | true=>exact g d J e k Q W o
 | false=>exact⟨.bl false,k,W,rfl,o⟩
theorem Qr(f:PE X a ta)(g:PE X (.BoolOp .Or (b::rest) pos) tb):PE X (.BoolOp .Or (a::b::rest) pos) (UU ta tb):=by
 intro d s e H Q I h;refine BoolOp_or (aP (f d s e H _ I h) fun v J i=>?_);obtain⟨x,k,W,q,o⟩:=i;obtain⟨c,rfl,o⟩:=o;cases q;refine ah1 ?_;cases c with
 | false=>exact g d J e k Q W o
 | true=>exact⟨.bl true,k,W,rfl,o⟩
def tIf(t:TT)(ta tb:TE):TE:=fun d H Q=>t d H fun c k=>if c=true then ta d k Q else tb d k Q
theorem DV(l:PT X c tA)(g:PE X a ta)(i:PE X b tb):PE X (.IfExp c a b pos) (tIf tA ta tb):=by
 intro e s f H Q I h;refine wpAny_IfExp (aP (l e s f H _ I h) fun d J m=>?_);obtain⟨k,W,o⟩:=m;cases d with
 | true=>exact g e J f k Q W o
 | false=>exact i e J f k Q W o
end
def cc(K:PySem.W.Frag)(H:Hp)(a:Addr)(e:List V):Prop:=
 Rd H a (.lst e)\/
  ∃(o:Obj) (ao:Array Value) (n:Nat),K.lookup a=some o/\o.cls= .type "list"/\o.dict=none/\o.data= .seq ao n/\ao.size<=sizeLine/\Vals e ao.toList
def dm(K:PySem.W.Frag)(H:Hp)(a:Addr)(e:List V):Prop:=
 Rd H a (.tup e)\/
  ∃(o:Obj) (ao:Array Value) (n:Nat),K.lookup a=some o/\o.cls= .type "tuple"/\o.data= .seq ao n/\ao.size<=sizeLine/\Vals e ao.toList
noncomputable def J3:Value->Option V
 | .none=>some .aN
 | .bool b=>some (.bl b)
 | .int i _=>some (.int i)
 | .str x _=>some (.str x)
 | .bytes b _=>some (.x9 b)
 | .float b _=>some (.Hj b)
 | .ref a=>some (.ref a)
 | .type n=>some (.ty n)
 | _=>none
theorem RelV.abs(r:RelV x u):J3 u=some x:=by
 cases x with
 | aN=>cases r;rfl
 | bl _=>cases r;rfl
 | int _=>obtain⟨t,rfl⟩:=r;rfl
 | str _=>obtain⟨t,rfl⟩:=r;rfl
 | x9 _=>obtain⟨t,rfl⟩:=r;rfl
 | Hj _=>obtain⟨t,rfl⟩:=r;rfl
 | ref _=>cases r;rfl
 | ty _=>cases r;rfl
theorem RelV.inj(r:RelV x u)(q:RelV y u):x=y:=Option.some.inj (r.abs.symm.trans q.abs)
theorem Vals.inj: ∀{xs ys:List V} {us:List Value},Vals xs us->Vals ys us->xs=ys
 | _,_,_,.nil,.nil=>rfl
 | _,_,_,.cons r t,.cons r' t'=>by rw[r.inj r',Vals.inj t t']
theorem cc.of{K:PySem.W.Frag}(h:H a=some (.lst xs)):cc K H a xs:= .inl (.inl h)
theorem dm.of{K:PySem.W.Frag}(h:H a=some (.tup xs)):dm K H a xs:= .inl (.inl h)
theorem Inv.list(I:Inv X pins σ H s)(h:cc X.K H a xs): ∃t:List Value,Vals xs t/\PlainL s.heap a t.toArray/\xs.length<=sizeLine:=by
 rcases h with h | ⟨o,t,n,R,l,u,A,f,r⟩
 . obtain⟨z,t,n,r,e⟩:=h.ok I.bc;exact⟨t,r,⟨_,n,e,rfl,rfl,rfl⟩,z⟩
 . refine⟨t.toList,r,⟨o,n,I.xD a o R,l,u,by simpa using A⟩,?_⟩;have e:=r.length;simp only [aj1] at e;lia
theorem Inv.tuple(I:Inv X pins σ H s)(h:dm X.K H a xs): ∃t:List Value,Vals xs t/\IsTup s.heap a t.toArray/\xs.length<=sizeLine:=by
 rcases h with h | ⟨o,t,n,R,l,A,f,r⟩
 . obtain⟨z,t,r,p⟩:=h.ok I.bc;exact⟨t,r,p.tup,z⟩
 . refine⟨t.toList,r,⟨o,I.xD a o R,l,n,by simpa using A⟩,?_⟩;have e:=r.length;simp only [aj1] at e;lia
theorem Inv.u5(I:Inv X pins σ H s)(h:cc X.K H a xs)(h':cc X.K H a ys):xs=ys:=by
 obtain⟨t,r,⟨o,n,e,_,_,d⟩,_⟩:=I.list h;obtain⟨D,C,⟨M,l,Q,_,_,b⟩,_⟩:=I.list h';rw[e] at Q;cases Q;rw[d] at b;injection b with d1 _
 have:t=D:=by simpa using af7 Array.toList d1
 subst this;exact r.inj C
theorem Inv.p7(I:Inv X pins σ H s)(h:dm X.K H a xs)(h':dm X.K H a ys):xs=ys:=by
 obtain⟨t,r,⟨o,e,_,n,d⟩,_⟩:=I.tuple h;obtain⟨D,C,⟨M,Q,_,l,b⟩,_⟩:=I.tuple h';rw[e] at Q;cases Q;rw[d] at b;injection b with d1 _
 have:t=D:=by simpa using af7 Array.toList d1
 subst this;exact r.inj C
noncomputable abbrev Cx.pC (X:Cx) (E:Value->Shared->Prop):Cx:={X with xe:=E}
noncomputable abbrev Cx.Hd (X:Cx):Cx:=X.pC fun _ _=>False
theorem Cx.Ok.pC{X:Cx}(u:X.Ok)(E:Value->Shared->Prop):(X.pC E).Ok:=
 ⟨u.mod,u.kind,u.glob,u.blt,u.above,u.inj,u.has,u.SD,u.hd,u.frames,u.Tn,u.K2,u.bs,u.JW,u.Et,u.xQ,u.mM,u.NA⟩
theorem Cx.Ok.hG{X:Cx}(u:(X.pC E).Ok):X.Ok:=
 ⟨u.mod,u.kind,u.glob,u.blt,u.above,u.inj,u.has,u.SD,u.hd,u.frames,u.Tn,u.K2,u.bs,u.JW,u.Et,u.xQ,u.mM,u.NA⟩
theorem Inv.pC(I:Inv X pins σ H s)(E:Value->Shared->Prop):Inv (X.pC E) pins σ H s:=⟨I.ok.pC E,I.os,I.bare,I.base,I.loc,I.cell,I.free,I.iS,I.pin,I.bc,I.len⟩
theorem Inv.hG(I:Inv (X.pC E) pins σ H s):Inv X pins σ H s:=⟨I.ok.hG,I.os,I.bare,I.base,I.loc,I.cell,I.free,I.iS,I.pin,I.bc,I.len⟩
theorem SP.hG(h:SP (X.pC E) pins D f s'):SP X pins D f s':=by
 cases f with
 | next=>obtain⟨Y,w,I,q⟩:=h;exact⟨Y,w,I.hG,q⟩
 | brk=>obtain⟨Y,w,I,q⟩:=h;exact⟨Y,w,I.hG,q⟩
 | cont=>obtain⟨Y,w,I,q⟩:=h;exact⟨Y,w,I.hG,q⟩
 | ret u=>obtain⟨v,Y,w,I,r,q⟩:=h;exact⟨v,Y,w,I.hG,r,q⟩
theorem tN.Hd{st:List Stmt}(h:tN X.Hd st t):tN X st t:=fun a s b H D I f=>
 ae8 (h a s b H D (I.pC _) f) (fun _ _ q=>q.hG) fun _ _ z=>False.elim z
section
variable{X:Cx}{st:Stmt}{rest:List Stmt}{t u:TS}{e:Expr}{te:TE}{pos:Pos}
def PJ:TS:=fun D b H=>D.nx b H
def UR(t u:TS):TS:=fun D b H=>t {D with nx:=u D} b H
theorem mW:tN X [] PJ:=fun _ _ b H _ I h=>wpAny_execs_nil ⟨b,H,I,h⟩
theorem bt(g:PS X st t)(i:tN X rest u):tN X (st::rest) (UR t u):=by
 intro a s b H D I h;refine wpAny_execs_cons (aP (g a s b H {D with nx:=u D} I h) fun f J q=>?_);cases f with
 | next=>
  obtain⟨Y,w,c,q⟩:=q;exact i a J Y w D c q
 | ret v=>exact q
 | brk=>exact q
 | cont=>exact q
theorem eI(g:PS X st t):tN X [st] t:=by
 intro a s b H D I h;refine wpAny_execs_cons (aP (g a s b H D I h) fun f J q=>?_);cases f with
 | next=>exact wpAny_execs_nil q
 | ret v=>exact q
 | brk=>exact q
 | cont=>exact q
theorem Inv.quiet(I:Inv X pins σ H s):interactive X.env=false:=by simp [interactive,I.ok.kind]
def PR(te:TE):TS:=fun D b H=>te b H fun _ k=>D.nx b k
theorem y4(E:PE X e te)(hs:swapsWith e none pos.line X.env=pure false:=by rfl):PS X (.Expr e pos) (PR te):=by
 intro a s b H D I h;exact wpAny_Expr_any (aP (E a s b H _ I h) fun v J f=>(by obtain⟨x,k,W,q,o⟩:=f;exact(⟨b,k,W,o⟩))) I.quiet hs
def US(te:TE):TS:=fun D b H=>te b H D.rt
theorem nV(E:PE X e te):PS X (.Return (some e) pos) (US te):=by
 intro a s b H D I h;exact wpAny_Return_some (aP (E a s b H _ I h) fun v J p=>(by obtain⟨x,k,W,q,o⟩:=p;exact(⟨x,b,k,W,q,o⟩)))
def UX(c:TT)(t u:TS):TS:=fun D d H=>c d H fun b k=>if b=true then t D d k else u D d k
theorem yZ(l:PT X c tc)(i:tN X a t)(j:tN X b u):PS X (.If c a b pos) (UX tc t u):=by
 intro f s g H D I h;refine wpAny_If (aP (l f s g H _ I h) fun d J Q=>?_);obtain⟨k,W,o⟩:=Q;cases d with
 | true=>exact i f J g k D W o
 | false=>exact j f J g k D W o
end
abbrev TG:=V->St->Hp->(St->Hp->Prop)->Prop
abbrev Ow:=List V->St->Hp->(St->Hp->Prop)->Prop
def PG(X:Cx)(R:Expr)(t:TG):Prop:=
 ∀(pins:List (Addr × Obj)) (s:Shared) (σ:St) (H:Hp) (v:V) (u:Value) (Q:St->Hp->Prop),Inv X pins σ H s->RelV v u->t v σ H Q->
  wpAny (model X.prog X.w) X.A (assign R X.env u) (fun _ m=>SS X pins Q m) X.xe s
def TX(X:Cx)(Y:List Expr)(t:Ow):Prop:=
 ∀(pins:List (Addr × Obj)) (s:Shared) (σ:St) (H:Hp) (vs:List V) (us:List Value) (Q:St->Hp->Prop),Inv X pins σ H s->Vals vs us->t vs σ H Q->
  wpAny (model X.prog X.w) X.A (assignInOrder ((assignEach Y X.env).map (·.2)) us) (fun _ m=>SS X pins Q m) X.xe s
abbrev SR:=V->V->V->Hp->(Hp->Prop)->Prop
def SV(X:Cx)(t:SR):Prop:=
 ∀(pins:List (Addr × Obj)) (s:Shared) (σ:St) (H:Hp) (o i v:V) (ov iv u:Value) (Q:Hp->Prop),Inv X pins σ H s->RelV o ov->RelV i iv->RelV v u->t o i v H Q->
  wpAny (model X.prog X.w) X.A (setItem ov iv u) (fun _ m=> ∃x,Inv X pins σ x m/\Q x) X.xe s
section
variable{X:Cx}{pos:Pos}
def cB(i:Nat):TG:=fun v b H Q=>Q (b.set i (some v)) H
theorem au(p:X.N.Nodup)(hi:X.N[i]?=some x)(j:Loc X.env.scope x)(t:X.fn x=true\/X.env.scope.names.lookup x=some .local:=by first | exact .inl rfl | exact .inr rfl | assumption):PG X (.Name x pos) (cB i):=by
 intro a s b H v u Q I r h;exact wpAny_assign_Name (eU I p hi j r (fun m c=>⟨_,H,c,h⟩) t)
def xP:Ow:=fun t b H Q=>t= []/\Q b H
def fF(t:TG)(u:Ow):Ow:=fun x b H Q=> ∃v r,x=v::r/\t v b H fun Y w=>u r Y w Q
theorem bo:TX X [] xP:=by
 intro a s b H t N Q I r h;obtain⟨e,h⟩:=h;subst e;cases r;exact assignInOrder_nil ⟨b,H,I,h⟩
theorem az(f:PG X e t)(g:TX X es u)(hs:(assignEach (e::es) X.env).map (·.2)=assign e X.env::(assignEach es X.env).map (·.2):=by rfl):TX X (e::es) (fF t u):=by
 intro a s b H x N Q I r h;obtain⟨v,Z,w,h⟩:=h;subst w;cases r with
 | cons r rr=>
  rw[hs];refine an8 (aP (f a s b H _ _ _ I r h) fun _ J S=>?_);obtain⟨R,k,W,o⟩:=S;exact g a J R k _ _ Q W rr o
def BB(K:PySem.W.Frag)(n:Nat)(t:Ow):TG:=fun v b H Q=> ∃a e,v= .ref a/\dm K H a e/\e.length=n/\t e b H Q
theorem bP(l:X.calm=true)(h:TX X es t)(g:(assignEach es X.env).length=n:=by rfl)(R:(assignEach es X.env).findIdx? (·.1)=none:=by rfl):PG X (.Tuple es k pos) (BB X.K n t):=by
 intro c s d H v u Q I r f;obtain⟨a,j,w,S,x,f⟩:=f;subst w;cases r;obtain⟨y,p,q,m⟩:=I.tuple S;refine assign_Tuple_tuple (I.ok.hd l) q (by simp [g,<-x,p.length]) R fun F i=>?_;have W:Inv X c d H {s with heap:=F}:=I.kept (t':=s.toks) fun b o e=>i b o (af4 (ad7 e)) e;exact h c _ d H j _ Q W (by simpa using p) f
def WR(q m:TE)(t:SR):TG:=fun v b H Q=>q b H fun o k=>m b k fun i C=>t o i v C fun O=>Q b O
theorem Mt (m : PE X o to) (hi : PE X i ti) (hs : SV X t) (d : ∀ v, assign (.Subscript o i pos) X.env v = (do
   let W<-holding [v] (eval o X.env)
   let j<-holding [v,W] (eval i X.env)
   standAt pos
   holding [v,W,j] (setItem W j v)
   release [v,W,j] []):=by intro _;rfl):PG X (.Subscript o i pos) (WR to ti t):=by
 intro a s b H v u Q I r h;rw[d];refine aa5 (ai6 (aP (m a s b H _ I h) fun W L g=>?_));obtain⟨x,k,Y,q,p⟩:=g;refine aa5 (ai6 (aP (hi a L b k _ Y p) fun j w z=>?_));obtain⟨y,C,J,R,Z⟩:=z;refine aa5 (ai5 (aa5 (ai6 (aP (hs a w b C x y v W j u _ J q R r Z) fun _ A n=>?_))));obtain⟨O,l,P⟩:=n;exact wpAny_release ⟨b,O,l,P⟩
def C8(j:TE)(g:TG):TS:=fun D b H=>j b H fun x k=>g x b k D.nx
theorem DF(E:PE X e te)(S:PG X tg g)(hs:swapsWithSole [tg] e pos.line X.env=pure false:=by rfl)(i:swappedStores [tg] e X.env=pure none:=by rfl)(f:(assignEach [tg] X.env).map (·.2)= [assign tg X.env]:=by rfl):PS X (.Assign [tg] e pos) (C8 te g):=by
 intro a s b H D I h;refine wpAny_Assign_stores (aP (E a s b H _ I h) fun v J r=>?_) hs i;obtain⟨x,k,W,t,o⟩:=r;rw[f];exact aP (S a J b k x v _ W t o) fun _ w q=>q
theorem dY(p:X.N.Nodup)(hi:X.N[i]?=some x)(l:Loc X.env.scope x)(E:PE X e te)(hs:swapsWith e (some (.Name x pos')) pos.line X.env=pure false:=by rfl)(t:X.fn x=true\/X.env.scope.names.lookup x=some .local:=by first | exact .inl rfl | exact .inr rfl | assumption):
  PS X (.Assign [.Name x pos'] e pos) (C8 te (cB i)):=by
 intro a s b H D I h;refine wpAny_Assign_Name (aP (E a s b H _ I h) fun v L j=>?_) hs;obtain⟨y,k,W,q,o⟩:=j;exact eU W p hi l q (fun w J=>⟨_,k,J,o⟩) t
def UT(i j:Nat)(e:TA):TS:=fun D b H=>e b H fun t k=> ∃v w,t= [v,w]/\D.nx ((b.set i (some v)).set j (some w)) k
theorem Mm{kt k2 w9}(O:X.calm=true)(t:X.N.Nodup)(hi:X.N[i]?=some x)(V:X.N[j]?=some y)(C:i≠j)(l:X.env.scope.names.lookup x=some .local)(f:X.env.scope.names.lookup y=some .local)(G:PA X [a,b] ta)(P:swappedStores [.Tuple [.Name x px, .Name y py] kt pt] (.Tuple [a,b] k2 w9) X.env=pure (some [x,y]))(hs:swapsWithSole [.Tuple [.Name x px, .Name y py] kt pt] (.Tuple [a,b] k2 w9) pos.line X.env=pure false:=by rfl):
  PS X (.Assign [.Tuple [.Name x px,.Name y py] kt pt] (.Tuple [a,b] k2 w9) pos) (UT i j ta):=by
 intro c s g H D I h;rw[exec_Assign_arm];refine aa5 (ai5 ?_);rw[hs];refine aa5 (ab2 ?_);rw[if_neg (by decide)];refine aa5 (Tuple_ (aP (G _ c s g H _ I h) fun T J u=>?_));obtain⟨vs,k,W,Q,r⟩:=u;obtain⟨v,w,E,r⟩:=r;subst E;obtain⟨d,z,rfl,R,S⟩: ∃d z,T= [d,z]/\RelV v d/\RelV w z:=by
  cases Q with
  | cons p q=>
   cases q with
   | cons p' q'=>
    cases q';exact⟨_,_,rfl,p,p'⟩
 refine ah8 ?_ (by show 2<=sizeLine;decide);have L:Inv X c g k {J with heap:=J.heap.push {cls:= .type "tuple",data:= .seq [d,z].toArray}}:=W.kept (t':=J.toks) fun b o e=>aa7 _ e;rw[P];refine aa5 (ab2 ?_);show wpAny (model X.prog X.w) X.A (do rule "assign.swapped-stores";let Z<-unpackItems (.ref J.heap.objs.size) 2 none;assignInOrder [fun v=>bindName X.env y v,fun v=>bindName X.env x v] Z.reverse;pure Flow.next) _ _ _;refine aa5 (aq4 (aa5 (unpackItems_tuple (items:= #[d,z]) (I.ok.hd O) (IsTup.new J.heap _) fun F B=>?_)));have m:=L.kept (h':=F) (t':=J.toks) fun b o e=>B b o (af4 (ad7 e)) e;show wpAny _ _ (assignInOrder [fun v=>bindName X.env y v,fun v=>bindName X.env x v] [z,d] >>=fun _=>pure Flow.next) _ _ _;refine aa5 (an8 (as5 (eU m t V (.inl f) S (fun U M=>?_) (.inr f))));refine an8 (as5 (eU M t hi (.inl l) R (fun Y n=>assignInOrder_nil (ab2 ?_)) (.inr l)));rw[List.set_comm _ _ (Ne.symm C)] at n;exact⟨_,k,n,r⟩
end
section
variable{X:Cx}{pos:Pos}
def LQ(c:TT)(E:TS):TS:=fun D d H=> ∃W:Nat->St->Hp->Prop,(∃m,W m d H)/\ ∀m d H,W m d H->
 c d H fun b k=>if b=true then∃N:St->Hp->Prop,(∀Y v,N Y v-> ∃a,a < m/\W a Y v)/\E {D with nx:=N,ct:=N,bk:=D.nx} d k else D.nx d k
theorem DE(q:PassesOwn (model X.prog X.w) X.A X.env X.xe)(m:PT X c tc)(g:tN X body tb):PS X (.While c body [] pos) (LQ tc tb):=by
 intro a s E H D I h;obtain⟨W,⟨j,u⟩,turn⟩:=h;refine wpAny_While (codeAny_whileLoop (fun n r=> ∃Y x,Inv X a Y x r/\W n Y x) ?_ j ⟨E,H,I,u⟩);rintro n M ⟨Q,l,e,B⟩
 refine ao0 q (aP (m a M Q l _ e (turn n Q l B)) fun b y o=>?_);obtain⟨C,L,Z⟩:=o;cases b with
 | true=>
  obtain⟨N,p,Z⟩:=Z;rw[if_pos rfl];refine ao0 q (aP (g a y Q C _ L Z) fun f F P=>?_);cases f with
  | next=>
   obtain⟨k,O,i,J⟩:=P;obtain⟨d,z,t⟩:=p k O J;exact⟨d,z,k,O,i,t⟩
  | cont=>
   obtain⟨k,O,i,J⟩:=P;obtain⟨d,z,t⟩:=p k O J;exact⟨d,z,k,O,i,t⟩
  | brk=>exact P
  | ret v=>exact P
 | false=>
  rw[if_neg ac3];exact wpAny_execs_nil ⟨Q,C,L,Z⟩
end
structure It where
 go:Nat->Hp->Prop
 wy:Nat->Hp->V->Hp->Prop
 stop:Nat->Hp->Prop
def dW(X:Cx)(a:List (Addr × Obj))(H:Hp)(b:Addr):Prop:=
 H b=none/\b≠X.env.locals/\b∉X.fs/\(b∈X.ex\/X.s₀.heap.objs.size<=b)/\(∀x c,X.env.cells.lookup x=some c->c≠b)/\ ∀p∈X.pn++a,p.1≠b
theorem Inv.sW(I:Inv X pins σ H s)(d:s.heap.objs.size<=b)(g:H' b=none):dW X pins H' b:=by
 refine⟨g,aq2 (ae0 I.lt d),I.VH d,.inr (ad9 I.sz d),fun x c e z=>?_,fun p r z=>?_⟩
 . obtain⟨v,q⟩:=I.cell x c e;exact absurd (ae0 q.lt (by rw[z];exact d)) (ag6 _)
 . exact absurd (ae0 (ad7 (I.pin p r).1) (by rw[z];exact d)) (ag6 _)
structure Turn(P:Program)(w:World)(K:PySem.W.Frag)(tg:Expr)(J:It)(fp:List Addr)(it:Addr)(tn:Nat->Heap->Prop):Prop where
 mem:it∈fp
 obj: ∀i h,tn i h-> ∀b∈fp,∃o,h.get? b=some o/\ ∀v,o.data≠ .cell v
 keep: ∀i h h',tn i h->(∀b∈fp,∀o,h.get? b=some o->h'.get? b=some o)->tn i h'
 item: ∀(X:Cx),X.prog=P->X.w=w->X.K=K->X.calm=true-> ∀(i:Nat) (pins:List (Addr × Obj)) (s:Shared) (σ:St) (H:Hp) (E:Value->Shared->Prop),Inv X pins σ H s->(∀b∈fp,dW X pins H b)->tn i s.heap->J.go i H->
  wpAny (model P w) X.A (pyNext (.ref it)) (fun r s1=> ∃u,r=some u/\
   wpAny (model P w) X.A (letOwnedTupleGo tg (.ref it) u) (fun _ s2=> ∃x H',Inv X pins σ H' s2/\RelV x u/\J.wy i H x H'/\tn (i+1) s2.heap/\ ∀b∈fp,H' b=none) E s1) E s
 done: ∀(X:Cx),X.prog=P->X.w=w->X.K=K->X.calm=true-> ∀(i:Nat) (pins:List (Addr × Obj)) (s:Shared) (σ:St) (H:Hp) (E:Value->Shared->Prop),Inv X pins σ H s->(∀b∈fp,dW X pins H b)->tn i s.heap->J.stop i H->
  wpAny (model P w) X.A (pyNext (.ref it)) (fun r s1=>r=none/\Inv X pins σ H s1) E s
 self: ∀(A:Around) (i:Nat) (s:Shared) (Q:Value->Shared->Prop) (E:Value->Shared->Prop),tn i s.heap->Q (.ref it) s->wpAny (model P w) A (pyIter (.ref it)) Q E s
abbrev TI:=St->Hp->(It->Hp->Prop)->Prop
def SW(X:Cx)(a:List (Addr × Obj))(c:St)(tg:Expr)(R:It->Hp->Prop)(L:Value)(v:Shared):Prop:=
 ∃(it:Addr) (fp:List Addr) (tn:Nat->Heap->Prop) (J:It) (H':Hp),L= .ref it/\Inv X a c H' v/\Turn X.prog X.w X.K tg J fp it tn/\tn 0 v.heap/\(∀b∈fp,dW X a H' b)/\R J H'
def PI(X:Cx)(tg iter:Expr)(k:TI):Prop:=
 ∀(pins:List (Addr × Obj)) (s:Shared) (σ:St) (H:Hp) (R:It->Hp->Prop),Inv X pins σ H s->k σ H R->
  wpAny (model X.prog X.w) X.A (eval iter X.env) (fun v J=>wpAny (model X.prog X.w) X.A (pyIter v) (SW X pins σ tg R) X.xe J) X.xe s
theorem Fh{s:Shared}(i:s.heap.get? it=some o)(l:o.cls= .type n)(r:o.data= .fields vs)(g: ["enumerate","zip","dict_itemiterator","dict_reverseitemiterator","odict_iterator","itertools.zip_longest","itertools.pairwise"].contains n=false)(S:Q () s):wpAny M A (letOwnedTupleGo tg (.ref it) u) Q E s:=by
 unfold letOwnedTupleGo;cases tg <;> first
  | exact ab2 S
  | (cases u <;> first
    | exact ab2 S
    | (refine aa5 (wpAny_load i ?_)
       rw[l,r];show wpAny M A (if (["enumerate","zip","dict_itemiterator","dict_reverseitemiterator","odict_iterator","itertools.zip_longest","itertools.pairwise"].contains n && vs[0]?==some (rawInt _))=true then _ else _) Q E s;rw[if_neg (by intro h;rw[g,Bool.false_and] at h;cases h)];exact ab2 S))
noncomputable def XW(K:PySem.W.Frag)(a:Addr):It:=
 ⟨fun i H=> ∃e x,cc K H a e/\e[i]?=some x,fun i H x v=>v=H/\ ∀e,cc K H a e->e[i]?=some x,fun i H=> ∃e,cc K H a e/\e.length<=i⟩
noncomputable def XU(K:PySem.W.Frag)(a:Addr):It:=
 ⟨fun i H=> ∃e x,dm K H a e/\e[i]?=some x,fun i H x v=>v=H/\ ∀e,dm K H a e->e[i]?=some x,fun i H=> ∃e,dm K H a e/\e.length<=i⟩
noncomputable def S7(lo:Int)(n:Nat):It:=⟨fun i _=>i < n,fun i H x v=>v=H/\x= .int (lo+i),fun i _=>n<=i⟩
theorem Au{P:Program}{w:World}{K:PySem.W.Frag}{tg:Expr}(a y:Addr):Turn P w K tg (XW K a) [y] y (fun i h=>h.IsListIter y a i) where
 mem:=by simp
 obj:=fun i h Y b g=>by
  have e:b=y:=by simpa using g
  subst e;obtain⟨o,e,c,d⟩:=Y;exact⟨o,e,fun v z=>by rw[d] at z;cases z⟩
 keep:=fun i h F Y k=>Y.at fun o e=>k y (by simp) o e
 item:=by
  intro X R n m D i f s J H E I t Y S;subst R n m;obtain⟨xs,x,Q,q⟩:=S;obtain⟨L,C,p,U⟩:=I.list Q;obtain⟨u,O,V⟩:=C.get q;obtain⟨A,j,N,r,l,B⟩:=t y (by simp);refine wpAny_pyNext_list_item Y p.isList (x:=u) (by simpa using O) fun F G sb=>?_;have Z:Inv X f J H {s with heap:=F}:=I.turned (t':=s.toks) (fun b o g e=>(sb.2 b g).trans e) A j r l B;obtain⟨o,e,c,d⟩:=id G;exact⟨u,rfl,Fh (s:={s with heap:=F}) e c d (by decide) ⟨x,H,Z,V,⟨rfl,fun ys T=>by rw[I.u5 T Q];exact q⟩,G,fun b g=>(t b g).1⟩⟩
 done:=by
  intro X R n m D i f s J H E I t Y S;subst R n m;obtain⟨xs,Q,q⟩:=S;obtain⟨L,C,p,U⟩:=I.list Q;obtain⟨A,j,N,r,l,B⟩:=t y (by simp);have hl:=C.length;exact wpAny_pyNext_list_end (I.ok.hd D) Y p.isList (by simp;lia) fun F M=>⟨rfl,I.turned (t':=s.toks) (fun b o g e=>M b o g e) A j r l B⟩
 self:=fun _ _ _ _ _ Y h=>wpAny_pyIter_listiter Y h
theorem wC{P:Program}{w:World}{K:PySem.W.Frag}{tg:Expr}(a y:Addr):Turn P w K tg (XU K a) [y] y (fun i h=>h.IsTupleIter y a i) where
 mem:=by simp
 obj:=fun i h Y b g=>by
  have e:b=y:=by simpa using g
  subst e;obtain⟨o,e,c,d⟩:=Y;exact⟨o,e,fun v z=>by rw[d] at z;cases z⟩
 keep:=fun i h F Y k=>Y.at fun o e=>k y (by simp) o e
 item:=by
  intro X R n m G i f s L H E I t Y S;subst R n m;obtain⟨xs,x,Q,q⟩:=S;obtain⟨A,D,p,U⟩:=I.tuple Q;obtain⟨u,O,V⟩:=D.get q;obtain⟨B,j,N,r,l,C⟩:=t y (by simp);refine wpAny_pyNext_tuple_item Y (show s.heap.IsTuple a A.toArray from p) (x:=u) (by simpa using O) fun F J sb=>?_;have Z:Inv X f L H {s with heap:=F}:=I.turned (t':=s.toks) (fun b o g e=>(sb.2 b g).trans e) B j r l C;obtain⟨o,e,c,d⟩:=id J;exact⟨u,rfl,Fh (s:={s with heap:=F}) e c d (by decide) ⟨x,H,Z,V,⟨rfl,fun ys T=>by rw[I.p7 T Q];exact q⟩,J,fun b g=>(t b g).1⟩⟩
 done:=by
  intro X R n m G i f s L H E I t Y S;subst R n m;obtain⟨xs,Q,q⟩:=S;obtain⟨A,D,p,U⟩:=I.tuple Q;obtain⟨B,j,N,r,l,C⟩:=t y (by simp);have hl:=D.length;exact wpAny_pyNext_tuple_end (I.ok.hd G) Y (show s.heap.IsTuple a A.toArray from p) (by simp;lia) fun F M=>⟨rfl,I.turned (t':=s.toks) (fun b o g e=>M b o g e) B j r l C⟩
 self:=fun _ _ _ _ _ Y h=>wpAny_pyIter_tupleiter Y h
theorem wD{P:Program}{w:World}{K:PySem.W.Frag}{tg:Expr}(y:Addr)(lo:Int)(n:Nat):Turn P w K tg (S7 lo n) [y] y (fun i h=>IsRangeIter h y (lo+(i:Nat)*1) ((n:Int) - (i:Nat)) 1) where
 mem:=by simp
 obj:=fun i h Y b c=>by
  have e:b=y:=by simpa using c
  subst e;exact⟨_,Y,fun v z=>by
   have C:Data.fields _=Data.cell v:=z;cases C⟩
 keep:=fun i h F Y k=>k y (by simp) _ Y
 item:=by
  intro X R g f m i a s j H E I u Y S;subst R g f;obtain⟨A,d,p,r,l,x⟩:=u y (by simp);have W:=Walks.range (prog:=X.prog) (w:=X.w) (I.ok.hd m) y lo 1 n;refine W.item i s _ _ S Y fun v F B q G L=>?_;obtain⟨t,rfl⟩:=q;have Z:Inv X a j H {s with heap:=F,toks:=B}:=I.turned (fun b o c e=>L b o (by simpa using c) e) A d r l x;refine⟨_,rfl,Fh (s:={s with heap:=F,toks:=B}) (n:="range_iterator") G rfl rfl (by decide) ⟨.int (lo+i),H,Z,⟨t,?_⟩,⟨rfl,rfl⟩,G,fun b c=>(u b c).1⟩⟩;rw[Int.mul_one]
 done:=by
  intro X R g f m i a s j H E I u Y S;subst R g f;obtain⟨A,d,p,r,l,x⟩:=u y (by simp);exact wpAny_pyNext_range_end (I.ok.hd m) Y (by have:n<=i:=S;lia) fun F J=>⟨rfl,I.turned (t':=s.toks) (fun b o c e=>J b o c e) A d r l x⟩
 self:=fun _ _ _ _ _ Y h=>wpAny_pyIter_rangeiter Y h
section
variable{X:Cx}{tg:Expr}
def Q4(K:PySem.W.Frag)(I:TE):TI:=fun b H R=>I b H fun x k=> ∃a,x= .ref a/\(∃e,cc K k a e)/\R (XW K a) k
def V4(K:PySem.W.Frag)(I:TE):TI:=fun b H R=>I b H fun x k=> ∃a,x= .ref a/\(∃e,dm K k a e)/\R (XU K a) k
theorem Ie(w:PE X l tl):PI X tg l (Q4 X.K tl):=by
 intro c s f H R I h;refine aP (w c s f H _ I h) fun v J r=>?_;obtain⟨x,k,W,u,t⟩:=r;obtain⟨a,e,⟨i,Q⟩,q⟩:=t;subst e;cases u;obtain⟨y,z,p,g⟩:=W.list Q;refine ak8 p.isList ?_;refine⟨J.heap.objs.size,[J.heap.objs.size],_,_,k,rfl,W.kept (t':=J.toks) fun b o e=>aa7 _ e,Au a _,⟨_,ac9 _ rfl,rfl,rfl⟩,fun b d=>?_,q⟩;have e:b=J.heap.objs.size:=by simpa using d
 subst e;exact W.sW (ab3 _) (W.bc.fresh (ab3 _))
theorem Ms(w:PE X l tl):PI X tg l (V4 X.K tl):=by
 intro c s f H R I h;refine aP (w c s f H _ I h) fun v J r=>?_;obtain⟨x,k,W,y,u⟩:=r;obtain⟨a,e,⟨i,Q⟩,q⟩:=u;subst e;cases y;obtain⟨t,z,p,g⟩:=W.tuple Q;refine ai1 (show J.heap.IsTuple a t.toArray from p) ?_;refine⟨J.heap.objs.size,[J.heap.objs.size],_,_,k,rfl,W.kept (t':=J.toks) fun b o e=>aa7 _ e,wC a _,⟨_,ac9 _ rfl,rfl,rfl⟩,fun b d=>?_,q⟩;have e:b=J.heap.objs.size:=by simpa using d
 subst e;exact W.sW (ab3 _) (W.bc.fresh (ab3 _))
theorem uJ{lo hi:Int}(I:Inv X pins σ H s)(f: -(2^62)<=lo)(g:lo < 2^62)(T: -(2^62)<=hi)(J:hi < 2^62)(q:R (S7 lo (hi - lo).toNat) H):wpAny (model X.prog X.w) X.A (pyIter (.ref s.heap.objs.size)) (SW X pins σ tg R) E {s with heap:=s.heap.push {cls:= .type "range",data:= .fields #[.int lo t,.int hi u,.int 1 v]},toks:=tk}:=by
 refine wpAny_pyIter_range (IsRange.new ..) (small_one f g T J) ?_;have W:Inv X pins σ H {s with heap:=s.heap.push {cls:= .type "range",data:= .fields #[.int lo t,.int hi u,.int 1 v]},toks:=tk}:=I.kept fun b o e=>aa7 _ e;refine⟨(s.heap.push {cls:= .type "range",data:= .fields #[.int lo t,.int hi u,.int 1 v]}).objs.size,[(s.heap.push {cls:= .type "range",data:= .fields #[.int lo t,.int hi u,.int 1 v]}).objs.size],_,_,H,rfl,
  W.kept (t':=tk) fun b o e=>aa7 _ e,wD _ lo (hi - lo).toNat,?_,fun b c=>?_,q⟩
 . have x:lo+((0:Nat):Int)*1=lo:=by simp
   have y:(((hi - lo).toNat:Nat):Int) - ((0:Nat):Int)=Builtin.Range.rangeSize lo hi 1:=by rw[rangeSize_one];split <;> lia
   show IsRangeIter _ _ (lo+((0:Nat):Int)*1) ((((hi - lo).toNat:Nat):Int) - ((0:Nat):Int)) 1;rw[x,y];exact ac9 _ rfl
 . have e:b=(s.heap.push {cls:= .type "range",data:= .fields #[.int lo t, .int hi u, .int 1 v]}).objs.size:=by simpa using c
   subst e;exact W.sW (ab3 _) (W.bc.fresh (ab3 _))
def Q3(e:TA):TI:=fun b H R=>e b H fun t k=> ∃j:Int,t= [.int j]/\ -(2^62)<=j/\j < 2^62/\R (S7 0 j.toNat) k
def Q2(e:TA):TI:=fun b H R=>e b H fun t k=> ∃i j:Int,t= [.int i,.int j]/\(-(2^62)<=i/\i < 2^62/\ -(2^62)<=j/\j < 2^62)/\R (S7 i (j - i).toNat) k
theorem AV(S:Gl X "range")(z:X.mg "range"=none)(d:PA X [a] ta)(hs:starEach [a] X.env= [(false,eval a X.env)]:=by rfl):PI X tg (.Call (.Name "range" p) [a] [] pos) (Q3 ta):=by
 intro b s c H R I h;refine Call_ (ez I S z boot_range (ag7 (aP (d pos b s c H _ I h) fun N J u=>?_) hs rfl));obtain⟨w,k,W,v,o⟩:=u;obtain⟨j,e,o,Z,q⟩:=o;subst e;cases v with
 | cons r rr=>
  cases rr;obtain⟨t,rfl⟩:=r;exact call_range_1 (uJ W (by lia) (by lia) o Z (by simpa using q))
theorem AU(S:Gl X "range")(z:X.mg "range"=none)(d:PA X [a,b] ta)(hs:starEach [a,b] X.env= [(false,eval a X.env),(false,eval b X.env)]:=by rfl)(m:starEach [b] X.env= [(false,eval b X.env)]:=by rfl):
  PI X tg (.Call (.Name "range" p) [a,b] [] pos) (Q2 ta):=by
 intro c s f H R I h;refine Call_ (ez I S z boot_range (ag7 (aP (d pos c s f H _ I h) fun N J u=>?_) (by rw[hs,m]) (by rw[m];rfl)));obtain⟨w,k,W,v,o⟩:=u;obtain⟨i,j,e,⟨o,Z,P,A⟩,q⟩:=o;subst e;cases v with
 | cons r rr=>
  cases rr with
  | cons r' rr=>
   cases rr;obtain⟨t,rfl⟩:=r;obtain⟨E,rfl⟩:=r';exact call_range_2 (uJ W o Z P A q)
def UY(l:TI)(g:TG)(E:TS):TS:=fun D b H=>l b H fun J k=> ∃W:Nat->Nat->St->Hp->Prop,(∃m,W 0 m b k)/\ ∀i m b H,W i m b H->
 (J.stop i H/\D.nx b H)\/(J.go i H/\ ∃N:St->Hp->Prop,(∀Y v,N Y v-> ∃a,a < m/\W (i+1) a Y v)/\ ∀x v,J.wy i H x v->g x b v fun L C=>E {D with nx:=N,ct:=N,bk:=D.nx} L C)
noncomputable def jF(T:List Addr)(h:Heap):List (Addr × Obj):=T.filterMap fun b=>(h.get? b).map fun o=>(b,o)
theorem bH{h:Heap}(c:b∈fp)(e:h.get? b=some o):(b,o)∈jF fp h:=ap3.mpr ⟨b,c,by rw[e];rfl⟩
theorem Ba(r:p∈jF fp h):p.1∈fp/\h.get? p.1=some p.2:=by
 obtain⟨b,c,e⟩:=ap3.mp r;cases q:h.get? b with
 | none=>rw[q] at e;cases e
 | some o=>
  rw[q] at e;have Q:(b,o)=p:=Option.some.inj e;subst Q;exact⟨c,q⟩
theorem Inv.pinned(I:Inv X pins σ H s)(t: ∀b∈fp,dW X pins H b)(h: ∀b∈fp,∃o,s.heap.get? b=some o/\ ∀v,o.data≠ .cell v):Inv X (pins++jF fp s.heap) σ H s:=
 I.zc fun p q=>(ad8.mp q).elim (fun z=>I.pin p (ac0 _ z)) fun z=>by
  obtain⟨c,e⟩:=Ba z;obtain⟨y,f,i,_⟩:=t p.1 c;obtain⟨o,Q,d⟩:=h p.1 c;rw[e] at Q;cases Q;exact⟨e,y,f,i,d⟩
theorem Inv.eQ(I:Inv X (pins++pl) σ H s):Inv X pins σ H s:=I.zc fun p q=>I.pin p (ac0 _ (ae6 _ q))
theorem Mo(p:PassesOwn (model X.prog X.w) X.A X.env X.xe)(hc:X.calm=true)(hi:PI X tg iter wi)(hg:PG X tg g)(j:tN X body tb)(hs: ∀x,foldedSetIterable iter X.env x=pure x:=by intro _;rfl):PS X (.For tg iter body [] pos) (UY wi g tb):=by
 intro a s σ H D I h;refine wpAny_For (aP (hi a s σ H _ I h) fun v s1 h1=>aP h1 fun OX s2 h2=>?_) hs;obtain⟨it,V,tn,J,H2,e,I2,T,gV,f2,W,⟨m0,w0⟩,turn⟩:=h2;subst e;have t: ∀{z:Hp},(∀b∈V,z b=none)-> ∀b∈V,dW X a z b:=fun hn b j=>⟨hn b j,(f2 b j).2⟩
 refine codeAny_forLoop_any (fun n s'=> ∃i Y z,Inv X a Y z s'/\tn i s'.heap/\(∀b∈V,z b=none)/\W i n Y z) ?_ m0 ⟨0,σ,H2,I2,gV,fun b j=>(f2 b j).1,w0⟩;rintro n s3 ⟨i,k,O,Q,R,S,w3⟩
 rcases turn i n k O w3 with ⟨E,qn⟩ | ⟨go,N,hN,Z⟩
 . refine ao0 p (aP (T.done X rfl rfl rfl hc i a s3 k O X.xe Q (t S) R E) fun r s4 Uw=>?_);obtain⟨q,I4⟩:=Uw;subst q;exact wpAny_execs_nil ⟨k,O,I4,qn⟩
 . refine ao0 p (aP (T.item X rfl rfl rfl hc i a s3 k O X.xe Q (t S) R go) fun r s4 Uv=>?_);obtain⟨u,q,h4⟩:=Uv;subst q;refine ao0 p (aP h4 fun _ s5 Uu=>?_);obtain⟨x,M,I5,r5,y5,G,BD⟩:=Uu;have l:=I5.pinned (t BD) (T.obj _ _ G);refine ao0 p (aP (hg _ s5 k M x u _ l r5 (Z x M y5)) fun _ s6 Ut=>?_);obtain⟨L,H6,I6,q6⟩:=Ut;refine ao0 p (aP (j _ s6 L H6 _ I6 q6) fun f F B=>?_);have c: ∀{y:St} {P:Hp},Inv X (a++jF V s5.heap) y P F->N y P-> ∃m,m < n/\ ∃i Y z,Inv X a Y z F/\tn i F.heap/\(∀b∈V,z b=none)/\W i m Y z:=fun{y P} U C=>by
    obtain⟨m',hm,w7⟩:=hN y P C;refine⟨m',hm,i+1,y,P,U.eQ,T.keep _ _ _ G fun b j o e=>(U.pin (b,o) (ac0 _ (ac0 _ (bH j e)))).1,fun b j=>?_,w7⟩;obtain⟨o,e,d⟩:=T.obj _ _ G b j;exact(U.pin (b,o) (ac0 _ (ac0 _ (bH j e)))).2.1
   cases f with
   | next=>obtain⟨y,P,U,C⟩:=B;exact c U C
   | cont=>obtain⟨y,P,U,C⟩:=B;exact c U C
   | brk=>obtain⟨y,P,U,B⟩:=B;exact⟨y,P,U.eQ,B⟩
   | ret v=>obtain⟨x7,y,P,U,r7,B⟩:=B;exact⟨x7,y,P,U.eQ,r7,B⟩
end
abbrev R2:=V->V->Hp->VK->Prop
def g6(X:Cx)(f:Value->Value->Sem Value)(r:R2):Prop:=
 ∀(pins:List (Addr × Obj)) (s:Shared) (σ:St) (H:Hp) (x y:V) (v u:Value) (Q:VK),Inv X pins σ H s->RelV x v->RelV y u->r x y H Q->
  wpAny (model X.prog X.w) X.A (f v u) (EP X pins σ Q) X.xe s
def XG(X:Cx)(f:Value->Sem Value)(r:V->Hp->VK->Prop):Prop:=
 ∀(pins:List (Addr × Obj)) (s:Shared) (σ:St) (H:Hp) (x:V) (v:Value) (Q:VK),Inv X pins σ H s->RelV x v->r x H Q->
  wpAny (model X.prog X.w) X.A (f v) (EP X pins σ Q) X.xe s
def fK(X:Cx)(f:Value)(r:List V->Hp->VK->Prop):Prop:=
 ∀(pins:List (Addr × Obj)) (s:Shared) (σ:St) (H:Hp) (xs:List V) (us:List Value) (Q:VK),Inv X pins σ H s->Vals xs us->r xs H Q->
  wpAny (model X.prog X.w) X.A (call f us) (EP X pins σ Q) X.xe s
def XH(X:Cx)(r:V->Hp->(Bool->Hp->Prop)->Prop):Prop:=
 ∀(pins:List (Addr × Obj)) (s:Shared) (σ:St) (H:Hp) (x:V) (v:Value) (Q:Bool->Hp->Prop),Inv X pins σ H s->RelV x v->r x H Q->
  wpAny (model X.prog X.w) X.A (truthy v) (TP X pins σ Q) X.xe s
def OP(r:R2)(e E:TE):TE:=fun b H Q=>e b H fun x k=>E b k fun y C=>r x y C Q
def tUn(r:V->Hp->VK->Prop)(e:TE):TE:=fun b H Q=>e b H fun x k=>r x k Q
def rI(C:Int->Int->Prop)(g:Int->Int->V):R2:=fun x y H Q=> ∃i j,x= .int i/\y= .int j/\C i j/\Q (g i j) H
def Cr(g:Int->Int->V):R2:=fun x y H Q=> ∃i j,x= .int i/\y= .int j/\Q (g i j) H
def rU(g:Int->V):V->Hp->VK->Prop:=fun x H Q=> ∃i,x= .int i/\Q (g i) H
section
variable{X:Cx}{a b c:Expr}{ta tb tc:TE}{pos:Pos}
theorem Oo(g:PE X a ta)(j:PE X b tb){d:List (Addr × Obj)}{s:Shared}{e:St}{H:Hp}{R:V->V->Hp->Prop}(I:Inv X d e H s)
  (h:ta e H fun x k=>tb e k fun y C=>R x y C) {Q:Value->Shared->Prop} {f:Value->Value->Sem Value}
  (t: ∀v u z x y C,Inv X d e C z->RelV x v->RelV y u->R x y C->wpAny (model X.prog X.w) X.A (f v u) Q X.xe z):
  wpAny (model X.prog X.w) X.A (eval a X.env) (fun v U=>wpAny (model X.prog X.w) X.A (eval b X.env) (fun u i=>wpAny (model X.prog X.w) X.A (f v u) Q X.xe i) X.xe U) X.xe s:=by
 refine aP (g d s e H _ I h) fun v L D=>?_;obtain⟨x,k,W,q,o⟩:=D;refine aP (j d L e k _ W o) fun u z B=>?_;obtain⟨y,C,J,P,Z⟩:=B;exact t v u z x y C J q P Z
theorem de(i:g6 X (binaryOp op) r)(e:PE X a ta)(f:PE X b tb):PE X (.BinOp a op b pos) (OP r ta tb):=by
 intro d s k H Q I h;exact wpAny_BinOp (Oo e f I h fun v u w x y C J g j q=>i d w k C x y v u Q J g j q)
theorem Qq(i:XG X (unaryOp op) r)(f:PE X a ta):PE X (.UnaryOp op a pos) (tUn r ta):=by
 intro d s e H Q I h;exact UnaryOp_ (aP (f d s e H _ I h) fun v J C=>(by obtain⟨x,k,W,q,o⟩:=C;exact(i d J e k x v Q W q o)))
theorem Tq{C:Int->Int->Prop}{g:Int->Int->Int}(z: ∀(i j:Int) (t u:Tok) (s:Shared) (Q:Value->Shared->Prop) (E:Value->Shared->Prop),C i j->Q (.int (g i j) s.toks) {s with toks:=s.toks+1}->wpAny (model X.prog X.w) X.A (f (.int i t) (.int j u)) Q E s):
  g6 X f (rI C fun i j=> .int (g i j)):=by
 intro d s m H x y v u Q I e k h;obtain⟨i,j,rfl,rfl,l,q⟩:=h;obtain⟨t,rfl⟩:=e;obtain⟨F,rfl⟩:=k;exact z i j t F s _ _ l ⟨.int (g i j),H,I.tok _,⟨_,rfl⟩,q⟩
theorem Qw{g:Int->Int->Int}(z: ∀(i j:Int) (t u:Tok) (s:Shared) (Q:Value->Shared->Prop) (E:Value->Shared->Prop),Q (.int (g i j) s.toks) {s with toks:=s.toks+1}->wpAny (model X.prog X.w) X.A (f (.int i t) (.int j u)) Q E s):
  g6 X f (Cr fun i j=> .int (g i j)):=by
 intro d s l H x y v u Q I e k h;obtain⟨i,j,rfl,rfl,q⟩:=h;obtain⟨t,rfl⟩:=e;obtain⟨F,rfl⟩:=k;exact z i j t F s _ _ ⟨.int (g i j),H,I.tok _,⟨_,rfl⟩,q⟩
theorem Iw{g:Int->Int->Bool}(z: ∀(i j:Int) (t u:Tok) (s:Shared) (Q:Value->Shared->Prop) (E:Value->Shared->Prop),Q (.bool (g i j)) s->wpAny (model X.prog X.w) X.A (f (.int i t) (.int j u)) Q E s):
  g6 X f (Cr fun i j=> .bl (g i j)):=by
 intro d s l H x y v u Q I e k h;obtain⟨i,j,rfl,rfl,q⟩:=h;obtain⟨t,rfl⟩:=e;obtain⟨F,rfl⟩:=k;exact z i j t F s _ _ ⟨.bl (g i j),H,I,rfl,q⟩
def X1(i j:Int):Prop:=0 < j/\j < 1073741824
def Cn(i j:Int):Prop:=0<=j/\j<=1000000/\i.natAbs < 2^64
def yw(i j:Int):Prop:=(-(2^64) < i/\i < 2^64)\/(-(2^64) < j/\j < 2^64)
theorem yw.ok(h:yw i j):IntMulOk i j:=by
 rcases h with ⟨f,g⟩ | ⟨f,g⟩
 . exact .of_left (intBits_le_64 f g)
 . exact .of_right (intBits_le_64 f g)
theorem oa:g6 X (binaryOp .Add) (Cr fun i j=> .int (i+j)):=Qw fun _ _ _ _ _ _ _ q=>add_int q
theorem MA:g6 X (binaryOp .Sub) (Cr fun i j=> .int (i - j)):=Qw fun _ _ _ _ _ _ _ q=>sub_int q
theorem jI:g6 X (binaryOp .Mult) (rI yw fun i j=> .int (i*j)):=Tq fun _ _ _ _ _ _ _ l q=>mul_int q l.ok
theorem Ir:g6 X (binaryOp .FloorDiv) (rI X1 fun i j=> .int (i / j)):=Tq fun i j _ _ _ _ _ l q=>by
 have f:(0:Int) < j:=l.1;have g:j < 1073741824:=l.2;exact floordiv_int (by lia) (by rw[Int.fdiv_eq_ediv_of_nonneg i (by lia)];exact q) (.inl (PyProof.noPylong_small (by lia)))
theorem lJ:g6 X (binaryOp .Mod) (rI (fun _ j=>0 < j) fun i j=> .int (i % j)):=Tq fun i j _ _ _ _ _ l q=>by
 have f:(0:Int) < j:=l;exact mod_int' (by lia) (by rw[Int.fmod_eq_emod_of_nonneg i (by lia)];exact q)
theorem D4:g6 X (binaryOp .Pow) (rI Cn fun i j=> .int (i^j.toNat)):=Tq fun _ _ _ _ _ _ _ l q=>pow_int_small l.1 l.2.1 l.2.2 q
theorem unI{g:Int->Int}(y: ∀(i:Int) (t:Tok) (s:Shared) (Q:Value->Shared->Prop) (E:Value->Shared->Prop),Q (.int (g i) s.toks) {s with toks:=s.toks+1}->wpAny (model X.prog X.w) X.A (f (.int i t)) Q E s):
  XG X f (rU fun i=> .int (g i)):=by
 intro d s j H x v Q I e h;obtain⟨i,rfl,q⟩:=h;obtain⟨t,rfl⟩:=e;exact y i t s _ _ ⟨.int (g i),H,I.tok _,⟨_,rfl⟩,q⟩
theorem LC:XG X (unaryOp .USub) (rU fun i=> .int (-i)):=unI fun _ _ _ _ _ q=>neg_int q
end
noncomputable def HL:V->V->Bool
 | .aN,.aN=>true | .aN,.int _=>true | .int _,.aN=>true | .aN,.bl _=>true | .bl _,.aN=>true | .aN,.str _=>true | .str _,.aN=>true
 | .int _,.int _=>true | .bl _,.bl _=>true | .str _,.str _=>true | .x9 _,.x9 _=>true
 | .int _,.str _=>true | .str _,.int _=>true | .bl _,.str _=>true | .str _,.bl _=>true
 | _,_=>false
def Ye:R2:=fun x y H Q=>HL x y=true/\Q (.bl (decide (x=y))) H
def Yc:R2:=fun x y H Q=>HL x y=true/\Q (.bl (!decide (x=y))) H
theorem zJ:decide (V.int i=V.int j)=(i==j):=by
 rw[am0];simp
theorem FU:decide (V.bl i=V.bl j)=(i==j):=by
 rw[am0];simp
theorem zI:decide (V.str i=V.str j)=(i==j):=by
 rw[am0];simp
theorem zK:decide (V.x9 i=V.x9 j)=(i.toList==j.toList):=by
 rw[am0];cases i;cases j;simp
section
variable{X:Cx}{a b c:Expr}{ta tb tc:TE}{pos:Pos}
theorem aT(I:Inv X pins σ H s)(q:Q (.bl k) H)(e:k=k'):EP X pins σ Q (.bool k') s:=by
 subst e;exact⟨.bl k,H,I,rfl,q⟩
theorem KC:g6 X (compareOp .Eq) Ye:=by
 intro e s f H x y v u Q I d k h;obtain⟨A,q⟩:=h;cases x with
 | aN=>
  cases d;cases y with
  | aN=>cases k;exact PySem.EqNone.eq_none_none (aT I q rfl)
  | bl j=>cases k;exact PySem.EqNone.eq_none_bool (aT I q rfl)
  | int j=>obtain⟨E,rfl⟩:=k;exact PySem.EqNone.eq_none_int (aT I q rfl)
  | str j=>obtain⟨E,rfl⟩:=k;exact PySem.EqNone.eq_none_str (aT I q rfl)
  | _=>exact absurd (show false=true from A) ac3
 | bl i=>
  cases d;cases y with
  | aN=>cases k;exact PySem.EqNone.eq_bool_none (aT I q rfl)
  | bl j=>cases k;exact eq_bool (aT I q FU)
  | str j=>obtain⟨E,rfl⟩:=k;exact PySem.EqMixed.eq_bool_str (aT I q rfl)
  | _=>exact absurd (show false=true from A) ac3
 | int i=>
  obtain⟨t,rfl⟩:=d;cases y with
  | aN=>cases k;exact PySem.EqNone.eq_int_none (aT I q rfl)
  | int j=>obtain⟨E,rfl⟩:=k;exact eq_int (aT I q zJ)
  | str j=>obtain⟨E,rfl⟩:=k;exact PySem.EqMixed.eq_int_str (aT I q rfl)
  | _=>exact absurd (show false=true from A) ac3
 | str i=>
  obtain⟨t,rfl⟩:=d;cases y with
  | aN=>cases k;exact PySem.EqNone.eq_str_none (aT I q rfl)
  | bl j=>cases k;exact PySem.EqMixed.eq_str_bool (aT I q rfl)
  | int j=>obtain⟨E,rfl⟩:=k;exact PySem.EqMixed.eq_str_int (aT I q rfl)
  | str j=>obtain⟨E,rfl⟩:=k;exact eq_str (aT I q zI)
  | _=>exact absurd (show false=true from A) ac3
 | x9 i=>
  obtain⟨t,rfl⟩:=d;cases y with
  | x9 j=>obtain⟨E,rfl⟩:=k;exact PySem.W.eq_bytes (aT I q zK)
  | _=>exact absurd (show false=true from A) ac3
 | _=>exact absurd (show false=true from A) ac3
theorem Qt:g6 X (compareOp .NotEq) Yc:=by
 intro e s f H x y v u Q I d k h;obtain⟨A,q⟩:=h;cases x with
 | aN=>
  cases d;cases y with
  | aN=>cases k;exact PySem.EqNone.ne_none_none (aT I q rfl)
  | bl j=>cases k;exact PySem.EqNone.ne_none_bool (aT I q rfl)
  | int j=>obtain⟨E,rfl⟩:=k;exact PySem.EqNone.ne_none_int (aT I q rfl)
  | str j=>obtain⟨E,rfl⟩:=k;exact PySem.EqNone.ne_none_str (aT I q rfl)
  | _=>exact absurd (show false=true from A) ac3
 | bl i=>
  cases d;cases y with
  | aN=>cases k;exact PySem.EqNone.ne_bool_none (aT I q rfl)
  | bl j=>cases k;exact ne_bool (aT I q (af7 not FU))
  | str j=>obtain⟨E,rfl⟩:=k;exact PySem.EqMixed.ne_bool_str (aT I q rfl)
  | _=>exact absurd (show false=true from A) ac3
 | int i=>
  obtain⟨t,rfl⟩:=d;cases y with
  | aN=>cases k;exact PySem.EqNone.ne_int_none (aT I q rfl)
  | int j=>obtain⟨E,rfl⟩:=k;exact ne_int (aT I q (af7 not zJ))
  | str j=>obtain⟨E,rfl⟩:=k;exact PySem.EqMixed.ne_int_str (aT I q rfl)
  | _=>exact absurd (show false=true from A) ac3
 | str i=>
  obtain⟨t,rfl⟩:=d;cases y with
  | aN=>cases k;exact PySem.EqNone.ne_str_none (aT I q rfl)
  | bl j=>cases k;exact PySem.EqMixed.ne_str_bool (aT I q rfl)
  | int j=>obtain⟨E,rfl⟩:=k;exact PySem.EqMixed.ne_str_int (aT I q rfl)
  | str j=>obtain⟨E,rfl⟩:=k;exact ne_str (aT I q (af7 not zI))
  | _=>exact absurd (show false=true from A) ac3
 | x9 i=>
  obtain⟨t,rfl⟩:=d;cases y with
  | x9 j=>obtain⟨E,rfl⟩:=k;exact PySem.W.ne_bytes (aT I q (af7 not zK))
  | _=>exact absurd (show false=true from A) ac3
 | _=>exact absurd (show false=true from A) ac3
theorem n9:g6 X (compareOp .Lt) (Cr fun i j=> .bl (decide (i < j))):=Iw fun _ _ _ _ _ _ _ q=>lt_int q
theorem Qu:g6 X (compareOp .LtE) (Cr fun i j=> .bl (decide (i<=j))):=Iw fun _ _ _ _ _ _ _ q=>le_int q
theorem Qv:g6 X (compareOp .Gt) (Cr fun i j=> .bl (decide (j < i))):=Iw fun _ _ _ _ _ _ _ q=>gt_int q
theorem KA:g6 X (compareOp .GtE) (Cr fun i j=> .bl (decide (j<=i))):=Iw fun _ _ _ _ _ _ _ q=>ge_int q
theorem dF(b:Expr)(h:op≠ .In:=by decide)(g:op≠ .NotIn:=by decide):behindInMarks op b=false:=by
 have u:(op==CmpOp.In)=false:=by cases op <;> first | rfl | exact absurd rfl h
 have x:(op==CmpOp.NotIn)=false:=by cases op <;> first | rfl | exact absurd rfl g
 cases b <;> simp [behindInMarks,u,x]
theorem zd(i:g6 X (compareOp op) r)(e:PE X a ta)(f:PE X b tb)(z:behindInMarks op b=false):PE X (.Compare a [op] [b] pos) (OP r ta tb):=by
 intro d s k H Q I h;exact wpAny_Compare1 (Oo e f I h fun v u w x y C J g j q=>i d w k C x y v u Q J g j q) z
def Ko(t:TE):TT:=fun d H Q=>t d H fun x v=> ∃k,x= .bl k/\Q k v
theorem kq(m:g6 X (compareOp op) r)(g:PE X a ta)(j:PE X b tb)(A:behindInMarks op b=false):PT X (.Compare a [op] [b] pos) (Ko (OP r ta tb)):=by
 intro d s f H Q I h;refine wpAny_isTrue_Compare1 (aP (g d s f H _ I h) fun v M ⟨x,l,W,q,o⟩=>aP (j d M f l _ W o) fun u w ⟨y,C,J,R,Z⟩=>
  aP (m d w f C x y v u _ J q R Z) fun c t ⟨z,O,i,L,k,e,P⟩=>?_) A
 subst e;cases L;exact ah1 ⟨O,i,P⟩
def Ou(K:PySem.W.Frag)(x:V)(H:Hp)(k:Bool):Prop:=
 match x with
 | .aN=>k=false
 | .bl b=>k=b
 | .int i=>k=(i !=0)
 | .str y=>y.length<=sizeLine/\k=((y.length:Int) !=0)
 | .x9 y=>y.size<=sizeLine/\k=((y.size:Int) !=0)
 | .ref p=>(∃e,cc K H p e/\k=!e.isEmpty)\/(∃e,dm K H p e/\k=!e.isEmpty)\/ ∃z,H p=some (.dK z)/\k=!z.isEmpty
 | _=>False
theorem xE(r:KV aF vs):(!vs.isEmpty)=!aF.isEmpty:=by
 cases r <;> rfl
theorem oF(r:Vals xs ao):(!ao.toArray.isEmpty)=!xs.isEmpty:=by
 cases r <;> simp
theorem lQ:(sizeLine:Nat) < 2^63:=by rw[ao6];decide
theorem CY:XH X (fun x H Q=> ∃k,Ou X.K x H k/\Q k H):=by
 intro n s E H x v Q I g h;obtain⟨k,e,q⟩:=h;have C:=lQ;have D:sizeLine=16777216:=ao6;cases x with
 | aN=>
  cases g;have R:k=false:=e;subst R;exact truthy_none ⟨H,I,q⟩
 | bl b=>
  cases g;have R:k=b:=e;subst R;exact ah1 ⟨H,I,q⟩
 | int i=>
  obtain⟨t,rfl⟩:=g;have R:k=(i !=0):=e;subst R;exact PySem.P.truthy_int ⟨H,I,q⟩
 | str y=>
  obtain⟨t,rfl⟩:=g;obtain⟨B,R⟩:y.length<=sizeLine/\k=((y.length:Int) !=0):=e;subst R;exact PySem.P.truthy_str (by lia) ⟨H,I.tok _,q⟩
 | x9 y=>
  obtain⟨t,rfl⟩:=g;obtain⟨B,R⟩:y.size<=sizeLine/\k=((y.size:Int) !=0):=e;subst R;exact PySem.W.truthy_bytes (by lia) ⟨H,I.tok _,q⟩
 | ref p=>
  cases g;have R:(∃f,cc X.K H p f/\k=!f.isEmpty)\/(∃f,dm X.K H p f/\k=!f.isEmpty)\/ ∃z,H p=some (.dK z)/\k=!z.isEmpty:=e;rcases R with ⟨f,j,R⟩ | ⟨f,j,R⟩ | ⟨z,j,R⟩
  . subst R;obtain⟨A,r,J,l⟩:=I.list j;have d:=r.length;exact wpAny_truthy_list J.isList (by simp only [ac2];lia) ⟨H,I.tok _,by rw[oF r];exact q⟩
  . subst R;obtain⟨A,r,J,l⟩:=I.tuple j;have d:=r.length;exact truthy_tuple J (by simp only [ac2];lia) ⟨H,I.tok _,by rw[oF r];exact q⟩
  . subst R;obtain⟨l,o,u,r,m⟩:z.length<=sizeLine/\(p==sysModules)=false/\ ∃u,KV z u/\s.heap.DictOf (aY X.prog X.w) p u:=I.bc p _ j;have d:z.length=u.length:=Paired.length r;exact wpAny_truthy_dict o m (by lia) ⟨H,I.tok _,by rw[xE r];exact q⟩
 | _=>exact(show False from e).elim
theorem DC(g:PE X a ta)(E: ∀d,isTrue a X.env d=(do let v<-d;standAt a.pos;holding [v] (truthy v))):
  PT X a (fun f H Q=>ta f H fun x w=> ∃k,Ou X.K x w k/\Q k w):=by
 intro e s f H Q I h;exact isTrue_plain (aP (g e s f H _ I h) fun v J D=>(by obtain⟨x,l,W,q,o⟩:=D;exact(CY e J f l x v Q W q o))) (E _)
theorem vals1(r:Vals [x] us): ∃u,us= [u]/\RelV x u:=by
 cases r with
 | cons r1 r2=>cases r2;exact⟨_,rfl,r1⟩
theorem vals2(r:Vals [x,y] us): ∃u D,us= [u,D]/\RelV x u/\RelV y D:=by
 cases r with
 | cons r1 r2=>
  cases r2 with
  | cons r3 r4=>cases r4;exact⟨_,_,rfl,r1,r3⟩
theorem B0(l:X.calm=true):fK X (.builtin "max") (fun e H Q=> ∃i j,e= [.int i,.int j]/\Q (.int (if j > i then j else i)) H):=by
 intro d s f H e N Q I r h;obtain⟨i,j,rfl,q⟩:=h;obtain⟨u,D,rfl,⟨t,rfl⟩,⟨E,rfl⟩⟩:=vals2 r;refine max_two_ints (I.ok.hd l) fun F v k=>⟨_,H,I.kept k,?_,q⟩
 by_cases V:j > i
 . rw[if_pos V,if_pos V];exact⟨_,rfl⟩
 . rw[if_neg V,if_neg V];exact⟨_,rfl⟩
theorem BZ(l:X.calm=true):fK X (.builtin "min") (fun e H Q=> ∃i j,e= [.int i,.int j]/\Q (.int (if j < i then j else i)) H):=by
 intro d s f H e N Q I r h;obtain⟨i,j,rfl,q⟩:=h;obtain⟨u,D,rfl,⟨t,rfl⟩,⟨E,rfl⟩⟩:=vals2 r;refine min_two_ints (I.ok.hd l) fun F v k=>⟨_,H,I.kept k,?_,q⟩
 by_cases V:j < i
 . rw[if_pos V,if_pos V];exact⟨_,rfl⟩
 . rw[if_neg V,if_neg V];exact⟨_,rfl⟩
end
structure ye(h:Heap)(x dx C:Addr)(mA:Str->Option Value):Prop where
 obj:h.get? x=some (PySem.W.instObj C dx)
 ns:h.Ns1 dx mA
 ne:dx≠x
theorem Bk{h:Heap}(n:h.Ns1 dx mA): ∃G,h.get? dx=some G/\ ∀U,PySem.W.lookIn U G=some (mA U):=by
 obtain⟨o,B,C,i,r,R,_,A⟩:=n;refine⟨o,i,fun U=>?_⟩;have e:=A U;unfold nsFind findBy at e;rw[<-Array.find?_toList] at e;unfold PySem.W.lookIn;rw[r];dsimp only;split
 . rename_i y q;rw[q] at e;exact af7 some e
 . rename_i q;rw[q] at e;have a:B.toList.any (·.refKey)=false:=by
    rw[List.any_eq_false];intro y c;obtain⟨z,t,b⟩:=R y (Array.mem_toList_iff.mp c);simp [DictEntry.refKey,b]
   have J: ¬B.toList.any (·.refKey)=true:=by rw[a];exact ac3
   rw[if_neg J];exact af7 some e
theorem ye.look(I:ye h x dx C mA): ∃G,PySem.W.InstAt h x (PySem.W.instObj C dx) C (some G)/\ ∀U,PySem.W.lookIn U G=some (mA U):=
 let ⟨G,ho,hl⟩:=Bk I.ns
 ⟨G,⟨I.obj,rfl,rfl,ho⟩,hl⟩
section
variable{prog:Program}{w:World}{A:Around}{E:Value->Shared->Prop}{s:Shared}{K:PySem.W.Frag}{x dx C f:Addr}{mA:Str->Option Value}{name:Str}{v:Value}
theorem get_map(X:K.In s.heap)(I:ye s.heap x dx C mA)(S:PySem.W.plainGet K C name=true)(R:PySem.W.hasDictIn K C=true)(d:PySem.W.findIn K (.ref C) name=some none)(c:mA name=some v)(n:PySem.W.handedIn v=true)(h:Q v {s with toks:=s.toks+1}):
  wpAny (model prog w) A (getAttr (.ref x) name expr) Q E s:=by
 obtain⟨G,J,y⟩:=I.look;exact PySem.W.get_value X J (PySem.W.plainGet_of S).1 (PySem.W.findObj_own R d rfl (by rw[y,c])) n h
theorem Fl(X:K.In s.heap)(I:ye s.heap x dx C mA)(S:PySem.W.plainGet K C name=true)(t:PySem.W.findIn K (.ref C) name=some (some (.ref f)))(q:PySem.W.isFn K (.ref f)=true)(c:mA name=none)(h:Q (.ref f,[.ref x]) s):
  wpAny (model prog w) A (getMethod (.ref x) name pl) Q E s:=by
 obtain⟨G,J,y⟩:=I.look;exact PySem.W.method_fn X J (PySem.W.plainGet_of S).1 (PySem.W.plainGet_of S).2 t (ai7.mp q) (by show(PySem.W.lookIn name G).map (·.isSome)=some false;rw[y,c];rfl) h
theorem HK(X:K.In s.heap)(I:ye s.heap x dx C mA)(hs:PySem.W.findIn K (.ref C) "__setattr__"=some (some (.builtin "object.__setattr__")))(t:PySem.W.plainOver K C=true)(u:PySem.W.takerIn K C name=some none)(R:PySem.W.hasDictIn K C=true)(g:PySem.Within mA ns)(hsz:ns.length<=sizeLine)(h: ∀F,ye F x dx C (fun y=>if y=name then some v else mA y)->Heap.SameBut dx s.heap F->Q () {s with heap:=F,toks:=s.toks+2}):
  wpAny (model prog w) A (setAttr (.ref x) name v) Q E s:=by
 obtain⟨L,J,B⟩:=I.look;refine PySem.W.set_plain X J hs (PySem.W.osa_open (s:={s with toks:=s.toks+1}) (r:=none) X J t u fun b=>?_);obtain⟨z,l,c⟩:=PySem.W.any_some R;have i:s.heap.get? x=some ⟨.ref C,some dx,.plain,#[]⟩:=I.obj;refine aa5 (ab2 (aa5 (aa5 (wpAny_loadPart i (aa5 (PySem.W.Looks.here (s:={s with toks:=s.toks+1}) (PySem.W.looks_clsIn X l) ?_))))));rw[c];refine ab2 (a:=some dx) (aa5 (ab2 (aa5 ?_)));refine wpAny_nsSet1 (s:={s with toks:=s.toks+1}) I.ns fun F m n=>?_;obtain⟨d,H,G,o,p,q⟩:=m.count (PySem.Within.cons name v g);refine aa5 (wpAny_lookBehind o (by rw[p];exact pastItsLine_dict (ad9 q (by rw[ad3];lia))) ?_);exact ab2 (h _ ⟨(n.2 _ (Ne.symm I.ne)).trans I.obj,m,I.ne⟩ n)
theorem EC (X : K.In s.heap) (z : PySem.W.makesIn K C = true) (hi : PySem.W.findIn K (.ref C) "__init__" = some (some (.ref f))) (u : PySem.W.typeIn K (.ref f) = some (.type "function")) (h : codeAny (model prog w) (A.under (.builtin "type.__call__" ⟨.ref C :: vs, kw⟩)) (.call (.ref f) ⟨.ref (s.heap.objs.size + 1) :: vs, kw⟩) (PySem.W.InitBack (s.heap.objs.size + 1) R)
   {s with heap:=(s.heap.push PySem.W.emptyDict).push (PySem.W.instObj C s.heap.objs.size)}):
  codeAny (model prog w) A (.call (.ref C) ⟨vs,kw⟩) R s:=by
 obtain⟨Q,g,d,t,i⟩:=s;exact PySem.W.make_core (PySem.W.makes_of X z) (PySem.W.looks_findIn X hi) (fun y=>PySem.W.bind_fn X y u) (.inl rfl) h
end
noncomputable def iD(f:Str)(v:V):List (Str × V)->List (Str × V)
 | []=> [(f,v)]
 | (g,x)::r=>if g=f then(g,v)::r else(g,x)::iD f v r
theorem mq(f g:Str)(v:V): ∀z:List (Str × V),(iD f v z).lookup g=if g=f then some v else z.lookup g
 | []=>by
  show List.lookup g [(f,v)]=_;by_cases h:g=f
  . have c:(g==f)=true:=ai7.mpr h;simp only [List.lookup,c,if_pos h]
  . have c:(g==f)=false:=ah6.mpr h;simp only [List.lookup,c,if_neg h]
 | (k,x)::r=>by
  have y:=mq f g v r;rw[show iD f v ((k,x)::r)=(if k=f then(k,v)::r else(k,x)::iD f v r) from rfl];by_cases R:k=f
  . rw[if_pos R];by_cases h:g=k
    . have c:(g==k)=true:=ai7.mpr h;simp only [List.lookup,c,if_pos (h.trans R)]
    . have c:(g==k)=false:=ah6.mpr h;simp only [List.lookup,c,if_neg (fun e:g=f=>h (e.trans R.symm))]
  . rw[if_neg R];by_cases h:g=k
    . have c:(g==k)=true:=ai7.mpr h;simp only [List.lookup,c,if_neg (fun e:g=f=>R (h.symm.trans e))]
    . have c:(g==k)=false:=ah6.mpr h;simp only [List.lookup,c];exact y
theorem lR(f:Str)(v:V): ∀z:List (Str × V),f∈(iD f v z).map (·.1)/\ ∀g,g∈z.map (·.1)->g∈(iD f v z).map (·.1)
 | []=>⟨by simp [iD],fun g h=>by simp at h⟩
 | (k,x)::r=>by
  obtain⟨t,S⟩:=lR f v r;rw[show iD f v ((k,x)::r)=(if k=f then(k,v)::r else(k,x)::iD f v r) from rfl];by_cases R:k=f
  . rw[if_pos R];subst R;exact⟨by simp,fun g h=>by simpa using h⟩
  . rw[if_neg R];refine⟨?_,fun g h=>?_⟩
    . rw[ad5];exact ab5 _ t
    . rw[ad5] at h ⊢;rcases ab9.mp h with e | e
      . exact ab9.mpr (.inl e)
      . exact ab5 _ (S g e)
theorem mr(f:Str)(v:V): ∀z:List (Str × V),(iD f v z).length<=z.length+1
 | []=>by simp [iD]
 | (k,x)::r=>by
  have y:=mr f v r;rw[show iD f v ((k,x)::r)=(if k=f then(k,v)::r else(k,x)::iD f v r) from rfl];by_cases R:k=f
  . rw[if_pos R,ad3,ad3];lia
  . rw[if_neg R,ad3,ad3];lia
theorem jj.some_of(r:jj (some v) o): ∃u,o=some u/\RelV v u:=by
 cases o with
 | none=>exact(show False from r).elim
 | some u=>exact⟨u,rfl,r⟩
theorem jj.none_of(r:jj none o):o=none:=by
 cases o with
 | none=>rfl
 | some u=>exact(show False from r).elim
theorem Bx(r:RelV v u):PySem.W.handedIn u=true:=by
 cases v with
 | aN=>cases (show u=Value.none from r);rfl
 | bl b=>cases (show u=Value.bool b from r);rfl
 | int i=>obtain⟨t,e⟩:=(show∃t,u=Value.int i t from r);cases e;rfl
 | str x=>obtain⟨t,e⟩:=(show∃t,u=Value.str x t from r);cases e;rfl
 | x9 b=>obtain⟨t,e⟩:=(show∃t,u=Value.bytes b t from r);cases e;rfl
 | Hj b=>obtain⟨t,e⟩:=(show∃t,u=Value.float b t from r);cases e;rfl
 | ref a=>cases (show u=Value.ref a from r);rfl
 | ty n=>cases (show u=Value.type n from r);rfl
theorem sL(I:jk P w H h)(e:H a=some (.ins C dx fs)): ∃s,ye h a dx C s/\(∀f,jj (fs.lookup f) (s f))/\PySem.Within s (fs.map (·.1))/\fs.length<=1000/\H dx=some (.own a):=by
 obtain⟨d,z,D,J,s,n,r,q⟩:=(show bW P w H h a (.ins C dx fs) from I a _ e)
 exact⟨s,⟨J,n,D⟩,r,q,z,d⟩
structure Cm(K:PySem.W.Frag)(C:Addr):Prop where
 pg:PySem.W.plainGet K C Str.empty=true
 hd:PySem.W.hasDictIn K C=true
 po:PySem.W.plainOver K C=true
 sa:PySem.W.findIn K (.ref C) "__setattr__"=some (some (.builtin "object.__setattr__"))
theorem Cm.get{K:PySem.W.Frag}(c:Cm K C)(f:Str):PySem.W.plainGet K C f=true:=c.pg
def gS(K:PySem.W.Frag)(C:Addr)(f:Str):Prop:=PySem.W.findIn K (.ref C) f=some none
theorem gS.Pu{K:PySem.W.Frag}(n:gS K C f):PySem.W.takerIn K C f=some none:=by
 unfold PySem.W.takerIn;rw[show PySem.W.findIn K (.ref C) f=some none from n];rfl
structure Meth(K:PySem.W.Frag)(C:Addr)(m:Str)(f:Addr):Prop where
 at_:PySem.W.findIn K (.ref C) m=some (some (.ref f))
 fn:PySem.W.isFn K (.ref f)=true
 kp:PySem.W.keepIn K (.ref f)=true
theorem xO(I:Inv X pins σ H s)(e:H a=some (.ins C dx fs))(c:Cm X.K C)(n:gS X.K C f)(l:fs.lookup f=some v)(h: ∀u m,Inv X pins σ H m->RelV v u->Q u m):wpAny (model X.prog X.w) A (getAttr (.ref a) f b) Q E s:=by
 obtain⟨t,O,r,_,_,_⟩:=sL I.bc e;obtain⟨u,p,J⟩:=jj.some_of (v:=v) (o:=t f) (by rw[<-l];exact r f);exact get_map I.xD O (c.get f) c.hd n p (Bx J) (h u _ (I.tok _) J)
theorem oM(I:Inv X pins σ H s)(e:H a=some (.ins C dx fs))(c:Cm X.K C)(k:Meth X.K C m g)(l:fs.lookup m=none)(h:Q (.ref g,[.ref a]) s):wpAny (model X.prog X.w) A (getMethod (.ref a) m pl) Q E s:=by
 obtain⟨t,O,r,_,_,_⟩:=sL I.bc e;have i:t m=none:=jj.none_of (by rw[<-l];exact r m);exact Fl I.xD O (c.get m) k.at_ k.fn i h
theorem wV(I:Inv X pins σ H s)(e:H a=some (.ins C dx fs))(c:Cm X.K C)(n:gS X.K C f)(G:fs.length < 1000)(l:RelV y u)(h: ∀m,Inv X pins σ (upd H a (.ins C dx (iD f y fs))) m->Q () m):wpAny (model X.prog X.w) A (setAttr (.ref a) f u) Q E s:=by
 obtain⟨t,O,r,k,_,i⟩:=sL I.bc e;have j:(fs.map (·.1)).length<=sizeLine:=by rw[aa4,ao6];lia
 refine HK I.xD O c.sa c.po n.Pu c.hd k j fun F B D=>h _ ?_;have v: ∃o,F.get? dx=some o:=let ⟨o,_,_,e',_⟩:=B.ns;⟨o,e'⟩;refine I.write (x:=a) (e:=dx) (by rw[e];exact True.intro) (.inr i) (fun b q d z=>(D.2 b d).trans z) v ?_;refine⟨by rw[ah O.ne];exact i,?_,O.ne,B.obj,_,B.ns,fun g=>?_,fun g S=>?_⟩
 . have:=mr f y fs;lia
 . show jj ((iD f y fs).lookup g) (if g=f then some u else t g);rw[mq];by_cases q:g=f
   . rw[if_pos q,if_pos q];exact l
   . rw[if_neg q,if_neg q];exact r g
 . by_cases q:g=f
   . rw[q];exact(lR f y fs).1
   . refine(lR f y fs).2 g (k g fun z=>S ?_);show(if g=f then some u else t g)=none;rw[if_neg q];exact z
theorem Inv.made(I:Inv X pins σ H s):Inv X pins σ (upd (upd H s.heap.objs.size (.own (s.heap.objs.size+1))) (s.heap.objs.size+1) (.ins C s.heap.objs.size []))
  {s with heap:=(s.heap.push PySem.W.emptyDict).push (PySem.W.instObj C s.heap.objs.size)}:=by
 have v:(s.heap.push PySem.W.emptyDict).get? s.heap.objs.size=some PySem.W.emptyDict:=ac9 s.heap rfl;have x:((s.heap.push PySem.W.emptyDict).push (PySem.W.instObj C s.heap.objs.size)).get? (s.heap.objs.size+1)=some (PySem.W.instObj C s.heap.objs.size):=by
  have:=ac9 (s.heap.push PySem.W.emptyDict) (o:=PySem.W.instObj C s.heap.objs.size) rfl;rwa [ag4] at this
 have Z:(s.heap.push PySem.W.emptyDict).Ns s.heap.objs.size (fun _=>none):=⟨PySem.W.emptyDict,#[],_,v,rfl,(fun e E=>absurd E (by simp)),fun _=>rfl⟩
 have Y:=I.laid (a:=s.heap.objs.size) (o:= .own (s.heap.objs.size+1)) (h':=s.heap.push PySem.W.emptyDict) (t':=s.toks) (fun b u q=>aa7 _ q) (ab3 _) ⟨_,v⟩;refine Y.laid (a:=s.heap.objs.size+1) (o:= .ins C s.heap.objs.size []) (t':=s.toks) (fun b u q=>aa7 _ q) (Nat.le_of_eq (ag4 _ _)) ?_;have D:s.heap.objs.size≠s.heap.objs.size+1:=af4 (aq5 _);refine⟨by rw[ah D,af],ag0 _,D,x,fun _=>none,(Heap.Ns1.of_empty Z).at fun o q=>aa7 _ q,fun _=>True.intro,fun y c=>absurd rfl c⟩
theorem JZ(c:attributeBase e f env (eval e env)=eval e env)(h:wpAny (model prog w) A (eval e env) (fun o U=>wpAny (model prog w) A (getAttr o f true) Q E U) E s):wpAny (model prog w) A (eval (.Attribute e f pos) env) Q E s:=
 Attribute_any_ h (by rw[arm_eval_Attribute,c])
def UZ(K:PySem.W.Frag)(e:TE)(f:Str):TE:=fun b H Q=>e b H fun x k=> ∃a C D z v,x= .ref a/\k a=some (.ins C D z)/\Cm K C/\gS K C f/\z.lookup f=some v/\Q v k
def Vc(K:PySem.W.Frag)(e G:TE)(f:Str):TS:=fun D b H=>G b H fun y k=>e b k fun x E=> ∃a C F z,x= .ref a/\E a=some (.ins C F z)/\Cm K C/\gS K C f/\z.length < 1000/\
 D.nx b (upd E a (.ins C F (iD f y z)))
theorem rY(E:PE X e ta)(d:attributeBase e f X.env (eval e X.env)=eval e X.env):PE X (.Attribute e f pos) (UZ X.K ta f):=by
 intro b s i H Q I h;refine JZ d (aP (E b s i H _ I h) fun u N G=>?_);obtain⟨x,k,W,g,a,C,D,z,v,r,M,c,n,l,q⟩:=G;subst r;obtain rfl:u=Value.ref a:=g;exact xO W M c n l fun O w J L=>⟨v,k,J,L,q⟩
theorem xa(e:PE X o ta)(g:PE X value tv)(hs:swapsWith value (some (.Attribute o f pos')) pos.line X.env=pure false):PS X (.Assign [.Attribute o f pos'] value pos) (Vc X.K ta tv f):=by
 intro b s d H D I h;refine plainObj_wpAny_Assign_Attribute (aP (g b s d H _ I h) fun u N ⟨y,k,W,m,q⟩=>aP (e b N d k _ W q) fun Y v L=>?_) hs;obtain⟨x,E,J,j,a,C,F,z,r,M,c,n,l,Z⟩:=L;subst r;obtain rfl:Y=Value.ref a:=j;exact wV J M c n l m fun t i=>⟨d,_,i,Z⟩
structure bC(k:Nat)(A:Around):Prop where
 hd:A.handled=none
 dp:A.depth+3*k+5 < recursionLimit
 un:A.units+16*k+200 < cLine
 gd:A.guards=some []
theorem bC.mono(r:bC k A)(h:j<=k):bC j A:=⟨r.hd,by have:=r.dp;lia,by have:=r.un;lia,r.gd⟩
theorem bC.deeper(r:bC (k+1) A)(env:Env):bC k (A.deeper env):=
 ⟨r.hd,by have:=r.dp;show A.depth+1+3*k+5 < _;lia,by have:=r.un;show A.units+3+16*k+200 < _;lia,r.gd⟩
theorem xy{A:Around}:(A.under (.builtin "type.__call__" ⟨.ref C::us,kw⟩)).depth=A.depth+1:=by
 first | rfl | simp [Around.under,Code.weight,Code.isCreation,Code.isGuard,Code.isCaller,Code.frames,Code.isFrame,guardIds]
theorem xx{A:Around}:(A.under (.builtin "type.__call__" ⟨.ref C::us,kw⟩)).units=A.units+1:=by
 first | rfl | simp [Around.under,Code.cUnits,Code.frames,Code.isFrame]
theorem uZ{A:Around}:(A.under (.builtin "type.__call__" ⟨.ref C::us,kw⟩)).guards=A.guards:=by
 first | rfl | simp [Around.under,Code.weight,Code.isCreation,Code.isGuard,Code.isCaller,Code.frames,Code.isFrame,guardIds]
theorem bC.make(r:bC (k+1) A)(C:Addr)(us:List Value)(s:List (Str × Value)):bC k (A.under (.builtin "type.__call__" ⟨.ref C::us,s⟩)):=
 ⟨r.hd,by have:=r.dp;rw[xy];lia,by have:=r.un;rw[xx];lia,by rw[uZ];exact r.gd⟩
theorem bC.depth(r:bC k A):A.depth < recursionLimit:=by have:=r.dp;lia
theorem bC.units(r:bC k A):A.units+64 < cLine:=by have:=r.un;lia
theorem bC.nC(r:bC k A):A.units < cLine:=by have:=r.un;lia
def AD:TA:=fun _ H Q=>Q [] H
def yG(e:TE)(y:TA):TA:=fun b H Q=>e b H fun x k=>y b k fun f C=>Q (x::f) C
section
variable{X:Cx}{e:Expr}{es:List Expr}{te:TE}{t:TA}{pos:Pos}
theorem bQ:PA X [] AD:=fun _ _ _ _ H Q I h=>Calls.spliced_nil ⟨[],H,I,.nil,h⟩
theorem a8(d:PE X e te)(m:PA X es t)(hs:starEach (e::es) X.env=(false,eval e X.env)::starEach es X.env:=by rfl):PA X (e::es) (yG te t):=by
 intro pos a s b H Q I h;rw[hs];show wpAny _ _ (spliced ((false,eval e X.env)::backTo pos (starEach es X.env))) _ _ s;refine Calls.spliced_cons (aP (d a s b H _ I h) fun u N M=>?_);obtain⟨x,k,W,q,o⟩:=M;exact aP (m pos a N b k _ W o) fun O v L=>(by obtain⟨f,C,J,P,Z⟩:=L;exact(⟨x::f,C,J,.cons q P,Z⟩))
def UQ(t:TA):TE:=fun b H Q=>t b H fun f k=>f.length<=sizeLine/\ ∀p,k p=none->Q (.ref p) (upd k p (.tup f))
def PN(t:TA):TE:=fun b H Q=>t b H fun f k=>f.length<=sizeLine/\ ∀p,k p=none->Q (.ref p) (upd k p (.lst f))
theorem DQ{x1}(h:PA X es t):PE X (.Tuple es x1 pos) (UQ t):=by
 intro a s c H Q I R;refine wpAny_Tuple_spliced (aP (h pos a s c H _ I R) fun N J ⟨f,k,W,r,z,q⟩=>⟨by rw[<-r.length];exact z,?_⟩);have v:k J.heap.objs.size=none:=W.bc.fresh (ab3 _);refine⟨.ref J.heap.objs.size,upd k J.heap.objs.size (.tup f),W.laid (t':=J.toks) (fun b u e=>aa7 _ e) (ab3 _) ?_,rfl,q _ v⟩;exact⟨z,N,r,⟨_,ac9 _ rfl,rfl,rfl,_,rfl⟩⟩
theorem jG(h:PA X es t):PE X (.List es pos) (PN t):=by
 intro a s c H Q I R;refine wpAny_List_spliced (aP (h pos a s c H _ I R) fun N J ⟨f,k,W,r,z,q⟩=>⟨by rw[<-r.length];exact z,?_⟩);have v:k J.heap.objs.size=none:=W.bc.fresh (ab3 _);refine⟨.ref J.heap.objs.size,upd k J.heap.objs.size (.lst f),W.laid (t':=J.toks) (fun b u e=>aa7 _ e) (ab3 _) ?_,rfl,q _ v⟩;exact⟨z,N,0,r,ac9 _ rfl⟩
end
abbrev Sp:=List V->Hp->VK->XK->Prop
abbrev Ho:=List Env->Hp->Shared->XK->Value->Shared->Prop
structure yt(P:Program)(w:World)(K:PySem.W.Frag)(mg:Str->Option Value)(base:Heap)(A:Around)(outer:List Env)(s:Shared)(H:Hp):Prop where
 frames:A.frames=some outer
 mod:Mod K mg base
 bs: ∀b o,base.get? b=some o->s.heap.get? b=some o/\H b=none
 JW:base.objs.size<=s.heap.objs.size
 mM:s.heap.FunFrames base outer
 NA: ∀b∈tT outer,H b=none
 bc:jk P w H s.heap
 bare:AllBare s.gens
def CE(outer:List Env)(P:Program)(w:World)(H:Hp)(s:Shared)(Q:VK)(u:Value)(s':Shared):Prop:=
 ∃v x,s'.os=s.os/\AllBare s'.gens/\Un (tT outer) [] H x s.heap s'.heap/\jk P w x s'.heap/\RelV v u/\Q v x
def CR(CX:Ho)(outer:List Env)(P:Program)(w:World)(H:Hp)(s:Shared)(Q:VK)(E:XK)(r:Result)(s':Shared):Prop:=
 match r with
 | .ok (.ret u)=>CE outer P w H s Q u s'
 | .ok _=>False
 | .error e=>CX outer H s E e s'
structure aK(P:Program)(w:World)(K:PySem.W.Frag)(mg:Str->Option Value)(base:Heap)(CX:Ho)(k:Nat)(f:Addr)(fd:FuncData)(ps:List Str)(sp:Sp):Prop where
 len: ∀vs H Q E,sp vs H Q E->vs.length=ps.length
 run: ∀(A:Around) (outer:List Env) (s:Shared) (H:Hp) (args:Args) (us:List Value) (vs:List V) (Q:VK) (E:XK),bC k A->yt P w K mg base A outer s H->BindsTo s fd args (ps.zip us)->Vals vs us->sp vs H Q E->
  codeAny (model P w) A (.call (.ref f) args) (CR CX outer P w H s Q E) s
theorem aK.imp{P:Program}{w:World}{K:PySem.W.Frag}{k:Nat}(F:aK P w K mg base CX k f fd ps sp)(h: ∀t H Q E,sp' t H Q E->sp t H Q E):aK P w K mg base CX k f fd ps sp':=
 ⟨fun t H Q E q=>F.len t H Q E (h _ _ _ _ q),fun A I s H G N t Q E m J c d B=>F.run A I s H G N t Q E m J c d (h _ _ _ _ B)⟩
theorem yt.make{P:Program}{w:World}{K:PySem.W.Frag}(e:yt P w K mg base A outer s H)(C:Addr)(us:List Value)(r:List (Str × Value)):
  yt P w K mg base (A.under (.builtin "type.__call__" ⟨.ref C::us,r⟩)) outer s H:=⟨by first | exact e.frames | (simpa [Around.under,Code.envs,Code.isFrame,pushEnvs] using e.frames),e.mod,e.bs,e.JW,e.mM,e.NA,e.bc,e.bare⟩
theorem Inv.RL(I:Inv X pins σ H s):yt X.prog X.w X.K X.mg X.base X.A X.stack s H:=
 ⟨I.ok.frames,I.ok.mod,I.bs,ad9 I.ok.JW I.sz,I.stack,I.yH,I.bc,I.bare⟩
theorem Inv.after(I:Inv X pins σ H s)(h:CE X.stack X.prog X.w H s Q u s'):EP X pins σ Q u s':=by
 obtain⟨v,y,i,J,p,L,r,q⟩:=h;obtain⟨R,g,d,t,x⟩:=s';obtain rfl:x=s.os:=i;exact⟨v,y,I.call (h':=R) (g':=g) (d':=d) (t':=t) (ch:= []) p L J (fun b z=>absurd z (by simp)),r,q⟩
def C7(sp:Sp)(dvs:List V)(E:XK)(t:TA):TE:=fun b H Q=>t b H fun u k=>sp (u++dvs) k Q E
def Kr(C:Addr)(m:Str)(sp:Sp)(dvs:List V)(E:XK)(e:TE)(t:TA):TE:=fun b H Q=>e b H fun x k=> ∃a F z,x= .ref a/\k a=some (.ins C F z)/\z.lookup m=none/\
 t b k fun u D=>sp (x::(u++dvs)) D Q E
def PM(C:Addr)(sp:Sp)(dvs:List V)(E:XK)(t:TA):TE:=fun b H Q=>t b H fun u k=> ∀x D,k x=none->k D=none->D≠x->
 sp (.ref x::(u++dvs)) (upd (upd k D (.own x)) x (.ins C D [])) (fun v F=>v= .aN/\Q (.ref x) F) E
def Binds(K:PySem.W.Frag)(V:FuncData)(ps:List Str)(ds:List Value):Prop:=
 ∀(s:Shared) (us:List Value),K.In s.heap->(us++ds).length=ps.length->BindsTo s V ⟨us,[]⟩ (ps.zip (us++ds))
theorem Binds.all{K:PySem.W.Frag}{ps:List Str}(h: ∀N:List Value,N.length=ps.length->bindArgs fd ⟨N,[]⟩=pure (ps.zip N)):Binds K fd ps []:=fun s N _ w=>by
 rw[ag3] at w ⊢;exact .of_eq (h N w)
def Passes(CX:Ho)(X:Cx)(E:XK):Prop:= ∀(pins:List (Addr × Obj)) (σ:St) (H:Hp) (s:Shared) (e:Value) (s':Shared),Inv X pins σ H s->CX X.stack H s E e s'->X.xe e s'
section
variable{X:Cx}{CX:Ho}{k:Nat}{f C:Addr}{fd:FuncData}{ps:List Str}{sp:Sp}{dvs:List V}{ds:List Value}{E:XK}{x m:Str}{p pos apos:Pos}{e o:Expr}{es:List Expr}{ta:TE}{t:TA}
theorem rV(F:aK X.prog X.w X.K X.mg X.base CX k f fd ps sp)(n:bC k X.A)(c:Binds X.K fd ps ds)(v:Vals dvs ds)(i:Passes CX X E)(I:Inv X pins σ H s)(r:Vals vs us)(h:sp (vs++dvs) H Q E):wpAny (model X.prog X.w) X.A (call (.ref f) us) (EP X pins σ Q) X.xe s:=by
 have P:Vals (vs++dvs) (us++ds):=r.append v;have y:(us++ds).length=ps.length:=by rw[<-P.length];exact F.len _ _ _ _ h
 refine wpAny_call (aq1 (F.run X.A X.stack s H ⟨us,[]⟩ (us++ds) (vs++dvs) Q E n I.RL (c s us I.xD y) P h) fun r q R=>?_);cases r with
 | error e=>exact i pins σ H s e q I R
 | ok fl=>
  cases fl with
  | ret u=>exact I.after R
  | next=>exact False.elim R
  | brk=>exact False.elim R
  | cont=>exact False.elim R
theorem Io(F:aK X.prog X.w X.K X.mg X.base CX k f fd ps sp)(n:bC k X.A)(S:Gl X x)(z:X.mg x=some (.ref f))(R:PySem.W.keepIn X.K (.ref f)=true)(c:Binds X.K fd ps ds)(u:Vals dvs ds)(i:Passes CX X E)
  (d:PA X (e::es) t) (g:(x==("__debug__":Str))=false:=by decide) (G:starEach (e::es) X.env=(false,eval e X.env)::starEach es X.env:=by rfl) (y:(backTo pos (starEach es X.env)).any (·.1)=false:=by rfl):
  PE X (.Call (.Name x p) (e::es) [] pos) (C7 sp dvs E t):=by
 intro a s b H Q I h;refine al7 (sD I S z ?_ g);refine ar9 (h₀:=X.base) I.ok.mod.OW R (aP (d pos a s b H _ I h) fun N J ⟨v,l,Y,r,q⟩=>⟨Y.xD,?_⟩) G y;exact rV F n c u i Y r q
theorem Ih (G : PE X o ta) (c : Cm X.K C) (z : Meth X.K C m f) (F : aK X.prog X.w X.K X.mg X.base CX k f fd ps sp) (D : bC k X.A) (i : Binds X.K fd ps ds) (B : Vals dvs ds) (j : Passes CX X E) (g : PA X (e :: es) t) (R : starEach (e :: es) X.env = (false, eval e X.env) :: starEach es X.env := by rfl) (y : (backTo pos (starEach es X.env)).any (·.1) = false := by rfl) (N : eval (.Call (.Attribute o m apos) (e :: es) [] pos) X.env = (do
   let Z<-eval o X.env
   standAt apos.atName
   let (f,first)<-holding [Z] (getMethod Z m pl)
   callWith pos f first (backTo pos (starEach (e::es) X.env)) (backToKw pos (keywordEach [] X.env))):=by rfl):
  PE X (.Call (.Attribute o m apos) (e::es) [] pos) (Kr C m sp dvs E ta t):=by
 intro b s d H Q I h;refine PySem.W.methodCall_KW (pl:=pl) (aP (G b s d H _ I h) fun u S L=>?_) N;obtain⟨x,n,Y,P,a,dx,fs,v,M,l,q⟩:=L;subst v;obtain rfl:u=Value.ref a:=P;refine oM Y M c z l ?_;refine ar9 (first:= [.ref a]) (h₀:=X.base) I.ok.mod.OW z.kp (aP (g pos b S d n _ Y q) fun T s2 ⟨U,H2,J,r,O⟩=>⟨J.xD,?_⟩) R y;exact rV (us:= .ref a::T) (vs:= .ref a::U) F D i B j J (.cons rfl r) O
theorem nY (G : PE X o ta) (c : Cm X.K C) (z : Meth X.K C m f) (F : aK X.prog X.w X.K X.mg X.base CX k f fd ps sp) (n : bC k X.A) (d : Binds X.K fd ps ds) (v : Vals dvs ds) (i : Passes CX X E) (y : eval (.Call (.Attribute o m apos) [] [] pos) X.env = (do
   let Z<-eval o X.env
   standAt apos.atName
   let (f,first)<-holding [Z] (getMethod Z m pl)
   callWith pos f first (backTo pos (starEach [] X.env)) (backToKw pos (keywordEach [] X.env))):=by rfl):
  PE X (.Call (.Attribute o m apos) [] [] pos) (Kr C m sp dvs E ta AD):=by
 intro b s j H Q I h;refine PySem.W.methodCall_KW (pl:=pl) (aP (G b s j H _ I h) fun u L M=>?_) y;obtain⟨x,B,Y,g,a,D,J,r,N,l,q⟩:=M;subst r;obtain rfl:u=Value.ref a:=g;refine oM Y N c z l ?_;exact PySem.W.callWith_K0 (first:= [.ref a]) Y.xD z.kp (rV (us:= [.ref a]) (vs:= [.ref a]) F n d v i Y (.cons rfl .nil) q)
structure Mk(K:PySem.W.Frag)(C f:Addr):Prop where
 makes:PySem.W.makesIn K C=true
 init:PySem.W.findIn K (.ref C) "__init__"=some (some (.ref f))
 fn:PySem.W.isFn K (.ref f)=true
 kp:PySem.W.keepIn K (.ref C)=true
theorem Dv(M:Mk X.K C f)(F:aK X.prog X.w X.K X.mg X.base CX k f fd ps sp)(q:bC (k+1) X.A)(c:Binds X.K fd ps ds)(B:Vals dvs ds)(j:Passes CX X E)(I:Inv X pins σ H s)(r:Vals vs us)(h: ∀x D,H x=none->H D=none->D≠x->sp (.ref x::(vs++dvs)) (upd (upd H D (.own x)) x (.ins C D [])) (fun v G=>v= .aN/\Q (.ref x) G) E):
  wpAny (model X.prog X.w) X.A (call (.ref C) us) (EP X pins σ Q) X.xe s:=by
 have R:=h (s.heap.objs.size+1) s.heap.objs.size (I.bc.fresh (ap4 _)) (I.bc.fresh (ab3 _)) (af4 (aq5 _));have J:=Inv.made (C:=C) I;have P:Vals (V.ref (s.heap.objs.size+1)::(vs++dvs)) (Value.ref (s.heap.objs.size+1)::(us++ds)):= .cons rfl (r.append B);have L:(Value.ref (s.heap.objs.size+1)::us++ds).length=ps.length:=by
  have e:=P.length;rw[F.len _ _ _ _ R] at e;exact e.symm
 refine wpAny_call (EC (f:=f) I.xD M.makes M.init (ai7.mp M.fn) (aq1 (F.run _ X.stack _ _ ⟨Value.ref (s.heap.objs.size+1)::us,[]⟩ (Value.ref (s.heap.objs.size+1)::(us++ds)) _ _ E (q.make C us [])
  (J.RL.make C us []) (c _ (Value.ref (s.heap.objs.size+1)::us) J.xD L) P R) fun r O z=>?_))
 cases r with
 | error e=>exact j pins σ _ _ e O J z
 | ok fl=>
  cases fl with
  | ret u=>
   obtain⟨v,y,i,N,n,S⟩:=J.after z;subst n;exact⟨N,⟨V.ref (s.heap.objs.size+1),y,i,rfl,S⟩⟩
  | next=>exact False.elim z
  | brk=>exact False.elim z
  | cont=>exact False.elim z
theorem Ij(M:Mk X.K C f)(F:aK X.prog X.w X.K X.mg X.base CX k f fd ps sp)(n:bC (k+1) X.A)(S:Gl X x)(z:X.mg x=some (.ref C))(c:Binds X.K fd ps ds)(u:Vals dvs ds)(i:Passes CX X E)
  (d:PA X (e::es) t) (g:(x==("__debug__":Str))=false:=by decide) (G:starEach (e::es) X.env=(false,eval e X.env)::starEach es X.env:=by rfl) (y:(backTo pos (starEach es X.env)).any (·.1)=false:=by rfl):
  PE X (.Call (.Name x p) (e::es) [] pos) (PM C sp dvs E t):=by
 intro a s b H Q I h;refine al7 (sD I S z ?_ g);refine ar9 (h₀:=X.base) I.ok.mod.OW M.kp (aP (d pos a s b H _ I h) fun N J ⟨v,l,W,r,q⟩=>⟨W.xD,?_⟩) G y;exact Dv M F n c u i W r q
end
def PK(X:Cx)(N:List Keyword)(t:TA):Prop:=
 ∀(pos:Pos) (pins:List (Addr × Obj)) (s:Shared) (σ:St) (H:Hp) (Q:List V->Hp->Prop),Inv X pins σ H s->t σ H Q->wpAny (model X.prog X.w) X.A (evalAll ((backToKw pos (keywordEach N X.env)).map (·.2))) (AP X pins σ Q) X.xe s
theorem DI:PK X [] AD:=fun _ _ _ _ H Q I h=>wpAny_evalAll_nil ⟨[],H,I,.nil,h⟩
theorem zb(d:PE X e te)(m:PK X mv t):PK X (⟨nm,e,sE⟩::mv) (yG te t):=by
 intro J a s b H Q I h;show wpAny _ _ (evalAll ((do let v<-eval e X.env;standAt J;pure v)::(backToKw J (keywordEach mv X.env)).map (·.2))) _ _ s;refine wpAny_evalAll_cons (aa5 (aP (d a s b H _ I h) fun u M ⟨x,k,W,q,o⟩=>aa5 (ai5 (ab2 ?_))));exact aP (m J a M b k _ W o) fun N w O=>(by obtain⟨f,C,L,P,Z⟩:=O;exact(⟨x::f,C,L,.cons q P,Z⟩))
structure av(N P:List Str)(sc:Scope):Prop where
 kind:sc.kind= .function
 co:sc.isCoroutine=false
 gen:sc.isGenerator=false
 nd:N.Nodup
 pre:N.take P.length=P
 par: ∀x∈P,sc.names.lookup x=some .local\/sc.names.lookup x=some .cell
 ML: ∀y∈sc.names,y.2≠ .free
theorem qM{V:Str->Option NameKind}: ∀{binds:List (Str × Value)} {m:Str->Option Value},(∀v,(x,v)∉binds)->bindL V binds m x=m x
 | [],_,_=>rfl
 | (n,v)::r,m,h=>by
  unfold bindL;rw[qM fun w f=>h w (ab5 _ f)];split
  . have:x≠n:=by rintro rfl;exact h v ab4
    simp [this]
  . rfl
theorem qO{V:Str->Option NameKind}: ∀{binds:List (Str × Value)} {m:Str->Option Value},(∀v,(x,v)∉binds)->bindC V binds m x=m x
 | [],_,_=>rfl
 | (n,v)::r,m,h=>by
  unfold bindC;rw[qO fun w f=>h w (ab5 _ f)];split
  . rfl
  . have:x≠n:=by rintro rfl;exact h v ab4
    simp [this]
theorem qN{V:Str->Option NameKind}: ∀{P:List Str} {vs:List Value} {i:Nat} {m:Str->Option Value},P.Nodup->P[i]?=some x->vs[i]?=some v->V x=some .local->
  bindL V (P.zip vs) m x=some v
 | [],_,_,_,_,h,_,_=>by simp at h
 | _::_,[],_,_,_,_,h,_=>by simp at h
 | p::P,w::vs,0,m,nd,h1,h2,hk=>by
  simp at h1 h2;subst h1;subst h2;show bindL V ((p,w)::P.zip vs) m p=_;unfold bindL;rw[qM fun v c=>(ak1.mp nd).1 (List.of_mem_zip c).1,if_pos hk];simp
 | p::P,w::vs,i+1,m,nd,h1,h2,hk=>by
  show bindL V ((p,w)::P.zip vs) m x=_;unfold bindL;exact qN (i:=i) (ak1.mp nd).2 (by simpa using h1) (by simpa using h2) hk
theorem qP{V:Str->Option NameKind}: ∀{P:List Str} {vs:List Value} {i:Nat} {m:Str->Option Value},P.Nodup->P[i]?=some x->vs[i]?=some v->V x≠some .local->
  bindC V (P.zip vs) m x=some v
 | [],_,_,_,_,h,_,_=>by simp at h
 | _::_,[],_,_,_,_,h,_=>by simp at h
 | p::P,w::vs,0,m,nd,h1,h2,hk=>by
  simp at h1 h2;subst h1;subst h2;show bindC V ((p,w)::P.zip vs) m p=_;unfold bindC;rw[qO fun v c=>(ak1.mp nd).1 (List.of_mem_zip c).1,if_neg hk];simp
 | p::P,w::vs,i+1,m,nd,h1,h2,hk=>by
  show bindC V ((p,w)::P.zip vs) m x=_;unfold bindC;exact qP (i:=i) (ak1.mp nd).2 (by simpa using h1) (by simpa using h2) hk
noncomputable def start(N:List Str)(vs:List V):St:=vs.map some++List.replicate (N.length - vs.length) none
noncomputable def mO(CX:Ho)(P:Program)(w:World)(K:PySem.W.Frag)(C:Str->Option Value)(base:Heap)(N:List Str)(qual:Str)(scope:Scope)(f:Addr)(l:Value)(A:Around)(outer:List Env)(s:Shared)(H:Hp)(E:XK):Cx where
 prog:=P
 w:=w
 K:=K
 mg:=C
 base:=base
 A:=A.deeper (envOfC qual scope s.heap.objs.size f l)
 N:=N
 s₀:=s
 H₀:=H
 env:=envOfC qual scope s.heap.objs.size f l
 outer:=outer
 stack:=envOfC qual scope s.heap.objs.size f l::outer
 ex:= []
 calm:=true
 fn:=fun _=>true
 pn:= []
 xe:=fun e m=>wpAny (model P w) (A.deeper (envOfC qual scope s.heap.objs.size f l)) (leaving (envOfC qual scope s.heap.objs.size f l) e) (fun _ B=>CX outer H s E e B) (fun Q B=>CX outer H s E Q B) m
theorem kS{a:Scope}(h:a.names.lookup x=some .cell): ∃c,(cellsFrom n a.names []).lookup x=some c:=by
 have q:=PySem.W.cellsFrom_some a.names n [] (.inl h);exact Option.isSome_iff_exists.mp q
theorem Bs{CX:Ho}{P:Program}{w:World}{K:PySem.W.Frag}{A:Around}{vs:List V}(S:av N ps scope)(C:A.handled=none)(Q:yt P w K mg base A outer s H)(G:vs.length=ps.length)(r:Vals vs us)(x:InCallC s s.heap.objs.size (bindL (envOfC qual scope s.heap.objs.size f cd).kindOf (ps.zip us) fun _=>none) (cellsFrom (s.heap.objs.size+1) scope.names []) (bindC (envOfC qual scope s.heap.objs.size f cd).kindOf (ps.zip us) fun _=>none) s1):
  Inv (mO CX P w K mg base N qual scope f cd A outer s H E) [] (start N vs) H s1:=by
 have F:ps.length<=N.length:=by have:=af7 List.length S.pre;rw[ak5] at this;lia
 obtain⟨j,J,rfl,R⟩:=x.done;have B: ∀b:Addr,b∉(mO CX P w K mg base N qual scope f cd A outer s H E).ex:=fun b z=>absurd (show b∈([]:List Addr) from z) (by simp);refine⟨⟨Q.mod,S.kind,rfl,rfl,ab3 _,fun y z c j g=>?_,fun y d=>?_,fun y c _ h=>?_,fun _=>C,Around.frames_deeper Q.frames,.inr ⟨rfl,rfl⟩,fun b z=>absurd z (B b),Q.bs,Q.JW,fun b _ _=>B b,fun b z=>absurd z (B b),Q.mM,Q.NA⟩,
  rfl,Q.bare,Un.kept R,⟨_,x.toInCall.ns,fun i y v j g T=>?_⟩,fun y c h=>⟨_,x.cell y c h⟩,Q.bc.fresh (ab3 _),fun y c h=>?_,fun p t=>absurd (show p∈([]:List (Addr × Obj)) from t) (by simp),Q.bc.kept R,?_⟩
 . exact name_of_addr x.apart (ah0 j) (ah0 g)
 . have d:scope.names.lookup y=some .cell\/scope.names.lookup y=some .free:=d;rcases d with d | d
   . exact kS d
   . exact absurd rfl (S.ML _ (ah0 d))
 . exact Nat.le_of_lt (x.above y c (ah0 h))
 . have I : i < vs.length := by
     unfold start at g;by_cases I:i < vs.length
     . exact I
     . rw[af2 (by simpa using I)] at g;rw[ad2] at g;split at g <;> cases g
   have m:vs[i]?=some v:=by
    unfold start at g;rw[ae4 (by simpa using I),aa9] at g;cases e:vs[i]? with
    | none=>rw[e] at g;cases g
    | some a=>rw[e] at g;cases g;rfl
   obtain⟨u,l,D⟩:=r.get m;have t:ps[i]?=some y:=by
    rw[<-S.pre,List.getElem?_take_of_lt (by lia)];exact j
   have M:ps.Nodup:=by rw[<-S.pre];exact S.nd.sublist (List.take_sublist _ _)
   refine⟨u,D,?_⟩;rcases S.par y (ac8 t) with k | k
   . exact .inl ⟨k,qN M t l k⟩
   . obtain⟨c,e⟩:=kS (n:=s.heap.objs.size+1) k;refine .inr ⟨.inl k,c,e,?_⟩;have q:=x.cell y c e;rw[qP M t l (by show scope.names.lookup y≠_;rw[k];decide)] at q;exact q
 . exact Q.bc.fresh (Nat.le_of_lt (x.above y c (ah0 h)))
 . unfold start;show _=N.length;rw[ac1,aa4,ah5];lia
theorem RE {CX : Ho} {P : Program} {w : World} {K : PySem.W.Frag} {F : Str -> Option Value} {base : Heap} {k : Nat} {f : Addr} {name qual : Str} {L : Arguments} {M : List Stmt} {scope : Scope} {c Z l a j ct oc : Value} (lk : K.lookup f = some ⟨oc, od, .func (PySem.W.fnOf name qual L M scope c Z l a an j ct), Mz⟩) (g : PySem.W.codeIn K j qual = true) (S : av N ps scope) (D : ∀ z H Q E, sp z H Q E -> z.length = ps.length) (gm : ∀ (A : Around) (outer : List Env) (s : Shared) (H : Hp) (z : List V) (Q : VK) (E : XK), bC k (A.deeper (envOfC qual scope s.heap.objs.size f j)) -> sp z H Q E ->
   ∃t,tN (mO CX P w K F base N qual scope f j A outer s H E) M t/\t {nx:=fun _ B=>Q .aN B,rt:=Q} (start N z) H):
  aK P w K F base CX (k+1) f (PySem.W.fnOf name qual L M scope c Z l a an j ct) ps sp:=by
 refine⟨D,fun A outer s H Y us z Q E m R hb r T=>?_⟩;have hl:=D _ _ _ _ T;have U:K.In s.heap:=R.mod.OW.keeps fun b o e=>(R.bs b o e).1;have G:s.heap.NoLimit:=R.mod.nolimit.keeps fun b o e=>(R.bs b o e).1;have h: ∀y∈ps.zip us,scope.names.lookup y.1=some .local\/(scope.names.lookup y.1=some .cell/\((cellsFrom (s.heap.objs.size+1) scope.names []).lookup y.1).isSome=true):=fun i hy=>(by obtain⟨n,v⟩:=i;exact(by
  rcases S.par n (List.of_mem_zip hy).1 with q | q
  . exact .inl q
  . exact .inr ⟨q,PySem.W.cellsFrom_some _ _ _ (.inl q)⟩))
 refine codeAny_call_function m.depth (U _ _ lk) rfl S.co S.gen rfl (PySem.W.codeRec_of U g) (hb _ _ _ _ ?_);refine wpAny_newFunctionEnv_cells S.kind h fun env he d x=>?_;subst he;refine⟨G.keeps x.toInCall.keep,codeAny_func ?_⟩;obtain⟨t,ht,hq⟩:=gm A outer s H z Q E (m.deeper _) T;have I:Inv (mO CX P w K F base N qual scope f j A outer s H E) [] (start N z) H d:=Bs S m.hd R hl r x;refine ae8 (ht [] d (start N z) H _ I hq) (fun fl O C=>?_) fun e O C=>C;have fin: ∀{X:St} {B:Hp} {v:V} {u:Value},Inv (mO CX P w K F base N qual scope f j A outer s H E) [] X B O->RelV v u->Q v B->CE outer P w H s Q u O:=
  fun{X B v u} J p q=>⟨v,B,J.os,J.bare,J.base,J.bc,p,q⟩
 cases fl with
 | ret u=>
  obtain⟨v,X,B,J,p,q⟩:=C;exact fin J p q
 | next=>
  obtain⟨X,B,J,q⟩:=C;exact fin (v:=V.aN) (u:=Value.none) J rfl q
 | brk=>
  obtain⟨_,_,_,q⟩:=C;exact False.elim q
 | cont=>
  obtain⟨_,_,_,q⟩:=C;exact False.elim q
section
variable{X:Cx}{x:Str}{p pos:Pos}{e:Expr}{es:List Expr}{t:TA}{id T:String}{r:List V->Hp->VK->Prop}
def U0(r:List V->Hp->VK->Prop)(t:TA):TE:=fun b H Q=>t b H fun u k=>r u k Q
theorem nZ(l:fK X (.builtin id) r)(U:Gl X x)(z:X.mg x=none)(c:bootBuiltins x=some (.builtin id))(d:PA X (e::es) t)(g:x≠"__name__":=by decide)(i:(x==("__debug__":Str))=false:=by decide)
  (E:starEach (e::es) X.env=(false,eval e X.env)::starEach es X.env:=by rfl) (w:(backTo pos (starEach es X.env)).any (·.1)=false:=by rfl):PE X (.Call (.Name x p) (e::es) [] pos) (U0 r t):=by
 intro a s b H Q I h;refine al7 (ez I U z c ?_ g i);exact PyProof.Rows.callWith_builtin1 (aP (d pos a s b H _ I h) fun N J S=>(by obtain⟨u,k,W,q,o⟩:=S;exact(l a J b k u N Q W q o))) E w
theorem gg(l:fK X (.type T) r)(S:Gl X x)(z:X.mg x=none)(c:bootBuiltins x=some (.type T))(d:PA X (e::es) t)(g:x≠"__name__":=by decide)(i:(x==("__debug__":Str))=false:=by decide)
  (E:starEach (e::es) X.env=(false,eval e X.env)::starEach es X.env:=by rfl) (w:(backTo pos (starEach es X.env)).any (·.1)=false:=by rfl):PE X (.Call (.Name x p) (e::es) [] pos) (U0 r t):=by
 intro a s b H Q I h;refine al7 (ez I S z c ?_ g i);exact ag7 (aP (d pos a s b H _ I h) fun N J U=>(by obtain⟨u,k,W,q,o⟩:=U;exact(l a J b k u N Q W q o))) E w
end
end L2
namespace HT
open PySem PyProof.Rows
section
variable{prog:Program}{w:World}{A:Around}{E:Value->Shared->Prop}{s:Shared}
theorem JU{vs G:List Value}(q:IsTup s.heap t vs.toArray)(o:IsTup s.heap b G.toArray)(g:vs≠ [])(k:G= []->Q (.ref t) s)(m:G≠ []->Q (.ref s.heap.objs.size) {s with heap:=s.heap.push {cls:= .type "tuple",data:= .seq (vs++G).toArray}})(hsz:vs.length+G.length<=sizeLine):wpAny (model prog w) A (binaryOp .Add (.ref t) (.ref b)) Q E s:=by
 obtain⟨⟨cls,R,data,j⟩,h,l,n,r⟩:=id q;obtain⟨⟨U,N,u,O⟩,c,d,i,y⟩:=id o;simp only at l r d y;subst l r d y;have e:vs.toArray++G.toArray=(vs++G).toArray:=by simp
 by_cases f:G= []
 . exact concat_meets ⟨_, h, rfl⟩ ⟨_, c, rfl⟩ noFill_tuple_add seq_tuple_add PySem.F.slot_tuple_add as7 (as4 _ _)
     (tuple_addW1 t b vs.toArray G.toArray n i R N j O (by simpa using g) (by simp [f])) ⟨h,c,k f⟩
 . refine concat_meets ⟨_, h, rfl⟩ ⟨_, c, rfl⟩ noFill_tuple_add seq_tuple_add PySem.F.slot_tuple_add as7 (as4 _ _)
     (tuple_addW2 t b vs.toArray G.toArray n i R N j O (by simpa using g) (by simpa using f) (by rw[ac2,ac2];exact hsz)) ⟨h,c,?_⟩
   rw[e];exact m f
noncomputable def da(n d:Nat):Option Int->Nat
 | none=>d
 | some v=>if v < 0 then(v+(n:Int)).toNat else min v.toNat n
theorem fX(n d:Nat):da n d none=d:=rfl
theorem ki(n d k:Nat):da n d (some (k:Int))=min k n:=by
 show(if (k:Int) < 0 then((k:Int)+(n:Int)).toNat else min (k:Int).toNat n)=min k n;rw[if_neg (by lia),af0]
theorem Dr(n d:Nat)(r:d<=n)(o:Option Int):da n d o<=n:=by
 cases o with
 | none=>exact r
 | some v=>
  show(if v < 0 then(v+(n:Int)).toNat else min v.toNat n)<=n;by_cases c:v < 0
  . rw[if_pos c];lia
  . rw[if_neg c];exact Nat.min_le_right _ _
theorem zW(v:Int)(n d:Nat):(if v < 0 then max (v+(n:Int)) 0 else min v (n:Int))=((da n d (some v):Nat):Int):=by
 show(if v < 0 then max (v+(n:Int)) 0 else min v (n:Int))=(((if v < 0 then(v+(n:Int)).toNat else min v.toNat n):Nat):Int)
 by_cases c:v < 0
 . simp only [if_pos c];lia
 . simp only [if_neg c];lia
theorem yc(lo hi:Option Int)(n:Nat):Builtin.Slice.sliceAdjust lo hi 1 (n:Int)=(((da n 0 lo:Nat):Int),((da n n hi:Nat):Int)):=by
 have f: ¬((1:Int) < 0):=by lia
 unfold Builtin.Slice.sliceAdjust;simp only [f,if_false];refine Prod.ext ?_ ?_
 . cases lo with
   | none=>rfl
   | some v=>exact zW v n 0
 . cases hi with
   | none=>rfl
   | some v=>exact zW v n n
theorem xc(i j:Nat):Builtin.Slice.slicePlaces (i:Int) (j:Int) 1=j - i:=by
 unfold Builtin.Slice.slicePlaces;have f:(1:Int) > 0:=by lia
 simp only [f,ar2,Int.ediv_one];split <;> lia
theorem nK(p:IsPart v o)(h:Q o s):wpAny (model prog w) A (Builtin.Slice.slicePartIndex v) Q E s:=by
 cases p with
 | none=>exact slicePart_none h
 | int i t=>exact slicePart_int h
theorem fW{e:Addr}{c d:Value}{lo hi:Option Int}{n:Nat}{Q:Int × Int × Nat->Shared->Prop}(hs:s.heap.IsSliceOf e c d .none)(pl:IsPart c lo)(o:IsPart d hi)
  (h:Q (((da n 0 lo:Nat):Int),1,da n n hi - da n 0 lo) s):wpAny (model prog w) A (Builtin.Slice.sliceApplied (.ref e) (pure (n:Int))) Q E s:=by
 obtain⟨i,l,f,m⟩:=id hs;unfold Builtin.Slice.sliceApplied Builtin.Slice.sliceFields;refine aa5 (aa5 (aj5 l m (x:=c) rfl (aa5 (aj5 l m (x:=d) rfl (aa5 (aj5 l m (x:= .none) rfl (ab2 ?_)))))));refine aa5 (slicePart_none ?_);show wpAny _ _ (if ((1:Int)==0)=true then _ else _) _ _ s;rw[if_neg (by decide)];refine aa5 (nK pl (aa5 (nK o (aa5 (ab2 ?_)))));show wpAny _ _ (match Builtin.Slice.sliceAdjust lo hi 1 (n:Int) with | (lo,hi)=>pure (lo,(1:Int),Builtin.Slice.slicePlaces lo hi 1)) _ _ s;rw[yc lo hi n];show wpAny _ _ (pure (((da n 0 lo:Nat):Int),(1:Int),Builtin.Slice.slicePlaces ((da n 0 lo:Nat):Int) ((da n n hi:Nat):Int) 1)) _ _ s;rw[xc];exact ab2 h
theorem DK(f:Array Value)(i k:Nat):((List.range k).filterMap fun(m:Nat)=>f[((i:Int)+(m:Int)*1).toNat]?).toArray=((f.toList.drop i).take k).toArray:=by
 have e:(fun(m:Nat)=>f[((i:Int)+(m:Int)*1).toNat]?)=fun m=>f[i+m]?:=by
  funext m
  have:((i:Int)+(m:Int)*1).toNat=i+m:=by lia
  rw[this]
 rw[e];have:=pick_run f i k;rw[List.filterMap_map] at this;have y:((fun x=>f[x]?) ∘ fun x=>i+x)=fun m=>f[i+m]?:=rfl;rw[y] at this;rw[this]
theorem kI{t d:Addr}{items:Array Value}{c e:Value}{lo hi:Option Int}(r:IsTup s.heap t items)(hs:s.heap.IsSliceOf d c e .none)(pl:IsPart c lo)(o:IsPart e hi)(i: ¬(da items.size 0 lo=0/\da items.size items.size hi=items.size))(h:Q (.ref s.heap.objs.size) {s with heap:=s.heap.push {cls:= .type "tuple",data:= .seq ((items.toList.drop (da items.size 0 lo)).take (da items.size items.size hi - da items.size 0 lo)).toArray}})(hsz:items.size<=sizeLine):wpAny (model prog w) A (getItem (.ref t) (.ref d)) Q E s:=by
 have f:sizeOk (.seq ((items.toList.drop (da items.size 0 lo)).take (da items.size items.size hi - da items.size 0 lo)).toArray):=by
  show((items.toList.drop (da items.size 0 lo)).take (da items.size items.size hi - da items.size 0 lo)).toArray.size<=sizeLine;rw[ac2,ak5,an3,aj1];lia
 have V:da items.size items.size hi<=items.size:=Dr _ _ (ab3 _) hi;obtain⟨j,l,g,p⟩:=id hs;have v:s.TypeIs (.ref d) "slice":=⟨j,l,g⟩
 unfold getItem;try with_reducible refine ai6 ?_
 first | refine aa5 (ab2 ?_) | skip
 refine aa5 (wpAny_sequenceKey r.typeIs (by decide) ?_);refine aa5 (ak7 (name:=Str.ofString "__getitem__") r.typeIs al8
  (an2 al8 r.typeIs entry_tuple_getitem ?_ (args_tuple_getitem _ _)))
 show wpAny _ _ (Builtin.Tuple.tupleItemsOf (.ref t) >>=_) _ _ s;refine aa5 (tupleItemsOf_ r ?_);refine aa5 (wpAny_typeOf v ?_);rw[if_pos (by decide)];refine aa5 (fW hs pl o ?_);have n: ¬((((da items.size 0 lo:Nat):Int)==0 && (1:Int)==1 && (da items.size items.size hi - da items.size 0 lo)==items.size)=true):=by
  intro q;rw[ae3,ae3] at q;have u:((da items.size 0 lo:Nat):Int)=0:=eq_of_beq q.1.1;have Z:da items.size items.size hi - da items.size 0 lo=items.size:=eq_of_beq q.2;exact i ⟨by lia,by lia⟩
 show wpAny _ _ (if (((da items.size 0 lo:Nat):Int)==0 && (1:Int)==1 && (da items.size items.size hi - da items.size 0 lo)==items.size)=true then _ else _) _ _ s;rw[if_neg n,DK];first
  | exact aa5 (m:=Builtin.Tuple.tupleExact _) (ah8 (ab2 ⟨_,rfl,ab2 h⟩) f)
  | exact aa5 (m:=Builtin.Tuple.tupleExact _) (ah8 (aa5 (ab2 (ab2 ⟨_,rfl,ab2 h⟩))) f)
  | exact aa5 (aa5 (m:=Builtin.Tuple.tupleExact _) (ah8 (ab2 (ab2 ⟨_,rfl,ab2 h⟩)) f))
  | exact aa5 (aa5 (m:=Builtin.Tuple.tupleExact _) (ah8 (ab2 ⟨_,rfl,ab2 h⟩) f))
end
end HT
namespace L2
open PySem PySem.Spec PyProof.Rows
abbrev TO:=St->Hp->(Option Int->Hp->Prop)->Prop
def PO(X:Cx)(e:Option Expr)(t:TO):Prop:=
 ∀(pins:List (Addr × Obj)) (s:Shared) (σ:St) (H:Hp) (Q:Option Int->Hp->Prop),Inv X pins σ H s->t σ H Q->
  wpAny (model X.prog X.w) X.A (evalPart e X.env) (fun u m=> ∃o v,Inv X pins σ v m/\IsPart u o/\Q o v) X.xe s
def HG:TO:=fun _ H Q=>Q none H
def PD(t:TE):TO:=fun b H Q=>t b H fun x k=> ∃i,x= .int i/\Q (some i) k
theorem intsAre_of{D:List Int}: ∀{us:List Value},Vals (D.map V.int) us->IntsAre us D:=by
 induction D with
 | nil=>intro us r;rw[List.map_nil] at r;cases r;exact .nil
 | cons n D ih=>
  intro us r;rw[ad5] at r;cases r with
  | cons r1 r2=>
   obtain⟨t,e⟩:=r1;subst e;exact .cons n t (ih r2)
section
variable{X:Cx}{e:Expr}{te:TE}{lo hi:Option Expr}{tl th:TO}{pos p2:Pos}
theorem za:PO X none HG:=by
 intro a s b H Q I h;rw[evalPart_none];exact ab2 ⟨none,H,I,.none,h⟩
theorem y9(h:PE X e te):PO X (some e) (PD te):=by
 intro a s b H Q I f;rw[evalPart_some];refine aP (h a s b H _ I f) fun u J V=>?_;obtain⟨x,k,W,r,o⟩:=V;obtain⟨i,rfl,q⟩:=o;obtain⟨t,rfl⟩:=r;exact⟨some i,k,W,.int i t,q⟩
def nu(X:Cx)(r:V->Option Int->Option Int->Hp->VK->Prop):Prop:=
 ∀(pins:List (Addr × Obj)) (s:Shared) (σ:St) (H:Hp) (x:V) (v vl vu:Value) (lo hi:Option Int) (sl:Addr) (Q:VK),Inv X pins σ H s->RelV x v->s.heap.IsSliceOf sl vl vu .none->IsPart vl lo->IsPart vu hi->r x lo hi H Q->
  ∃T P,typeLookup (.type T) "__getitem__"=pure (some (.builtin P))/\s.TypeIs v T/\wpAny (model X.prog X.w) X.A (getItem v (.ref sl)) (EP X pins σ Q) X.xe s
def tSl(r:V->Option Int->Option Int->Hp->VK->Prop)(te:TE)(tl th:TO):TE:=fun b H Q=>te b H fun x k=>tl b k fun l C=>th b C fun u O=>r x l u O Q
theorem nX(m:nu X r)(E:PE X e te)(z:PO X lo tl)(n:PO X hi th):PE X (.Subscript e (.Slice lo hi none p2) pos) (tSl r te tl th):=by
 intro a s c H Q I h;refine Subscript_ (aP (E a s c H _ I h) fun v N Z=>?_);obtain⟨x,k,W,D,p⟩:=Z;refine wpAny_Slice (aP (z a N c k _ W p) fun d F ⟨l,C,J,M,g⟩=>aP (n a F c C _ J g) fun f t Y=>?_);obtain⟨u,O,i,o,P⟩:=Y;rw[evalPart_none];refine ab2 ?_;have L:Inv X a c O {t with heap:=t.heap.push {cls:= .type "slice",data:= .fields #[d,f,.none]}}:=i.kept (t':=t.toks) fun b U q=>aa7 _ q;obtain⟨T,R,y,B,S⟩:=m a {t with heap:=t.heap.push {cls:= .type "slice",data:= .fields #[d,f,.none]}} c O x v d f l u t.heap.objs.size Q L D (Heap.IsSliceOf.new ..) M o P;show wpAny (model X.prog X.w) X.A (subscriptTail e (.Slice lo hi none p2) v (.ref t.heap.objs.size)) (EP X a c Q) X.xe {t with heap:=t.heap.push {cls:= .type "slice",data:= .fields #[d,f,.none]}};exact tail_any (ops:= [.ref t.heap.objs.size,v]) B y S (by with_unfolding_all rfl)
noncomputable def mP(f:List V)(lo hi:Option Int):List V:=(f.drop (HT.da f.length 0 lo)).take (HT.da f.length f.length hi - HT.da f.length 0 lo)
theorem mB(f:List V)(lo hi:Option Int):(mP f lo hi).length<=f.length:=by
 unfold mP;rw[ak5,an3];lia
theorem Vals.sv(r:Vals xs us):us= []↔xs= []:=by
 cases r with
 | nil=>simp
 | cons _ _=>simp
end
noncomputable def zw(n:Nat)(i:Int):Option Nat:=if 0<=i then(if i < n then some i.toNat else none) else if -(n:Int)<=i then some (i+n).toNat else none
noncomputable def jh{α:Type}(e:List α)(i:Int):Option α:=(zw e.length i).bind fun j=>e[j]?
theorem zv(h:zw n i=some j):seqIndex? i n=some j/\j < n/\ -(n:Int)<=i/\i < n:=by
 unfold zw at h;by_cases k:0<=i
 . rw[if_pos k] at h;by_cases f:i < n
   . rw[if_pos f] at h;have e:i.toNat=j:=Option.some.inj h;exact⟨by rw[seqIndex_of k f,e],by lia,by lia,f⟩
   . rw[if_neg f] at h;cases h
 . rw[if_neg k] at h;by_cases f: -(n:Int)<=i
   . rw[if_pos f] at h;have e:(i+n).toNat=j:=Option.some.inj h;exact⟨by rw[seqIndex_neg (by lia) f,e],by lia,f,by lia⟩
   . rw[if_neg f] at h;cases h
theorem tL(h:jh xs i=some v): ∃j,seqIndex? i xs.length=some j/\xs[j]?=some v/\j < xs.length/\ -(xs.length:Int)<=i/\i < xs.length:=by
 unfold jh at h;cases e:zw xs.length i with
 | none=>rw[e] at h;cases h
 | some j=>
  rw[e] at h;obtain⟨f,g,T,H⟩:=zv e;exact⟨j,f,h,g,T,H⟩
theorem bw{j:Nat}(h:xs[j]?=some v):jh xs (j:Int)=some v:=by
 have V:j < xs.length:=(ab0.mp h).1;have e:zw xs.length (j:Int)=some j:=by
  unfold zw;rw[if_pos (by lia),if_pos (by lia)];simp
 unfold jh;rw[e];exact h
theorem oZ(f:List α)(v:α):jh (f++ [v]) (-1)=some v:=by
 have w:(f++ [v]).length=f.length+1:=by simp
 have e:zw (f++ [v]).length (-1)=some f.length:=by
  unfold zw;rw[w,if_neg (by decide),if_pos (by lia)];congr 1
  lia
 unfold jh;rw[e];show(f++ [v])[f.length]?=some v;simp
def tM(b:Expr):Prop:= ∀o i,subscripted b false o i=operate [o,i] (getItem o i)
def J8(X:Cx)(r:R2):Prop:=
 ∀(value slice:Expr) (pins:List (Addr × Obj)) (s:Shared) (σ:St) (H:Hp) (x y:V) (v u:Value) (Q:VK),Inv X pins σ H s->RelV x v->RelV y u->r x y H Q->
  subscripted slice false v u=operate [v,u] (getItem v u)->wpAny (model X.prog X.w) X.A (subscriptTail value slice v u) (EP X pins σ Q) X.xe s
def T1(X:Cx)(id:String)(r:V->List V->Hp->VK->Prop):Prop:=
 ∀(pins:List (Addr × Obj)) (s:Shared) (σ:St) (H:Hp) (x:V) (xs:List V) (v:Value) (us:List Value) (Q:VK),Inv X pins σ H s->RelV x v->Vals xs us->r x xs H Q->
  wpAny (model X.prog X.w) X.A (call (.builtin id) (v::us)) (EP X pins σ Q) X.xe s
section
variable{X:Cx}{a b:Expr}{ta tb:TE}{pos:Pos}
theorem J8.or(h:J8 X r)(h':J8 X r'):J8 X (fun x y H Q=>r x y H Q\/r' x y H Q):=by
 intro A k c s e H x y v u Q I d j q B;rcases q with q | q
 . exact h A k c s e H x y v u Q I d j q B
 . exact h' A k c s e H x y v u Q I d j q B
theorem DU(m:J8 X r)(d:PE X a ta)(e:PE X b tb)(hs:tM b):PE X (.Subscript a b pos) (OP r ta tb):=by
 intro c s g H Q I h;exact Subscript_ (Oo d e I h fun v u w x y C J f j q=>m a b c w g C x y v u Q J f j q (hs _ _))
def Qb(K:PySem.W.Frag):R2:=fun x y H Q=> ∃p e i v,x= .ref p/\y= .int i/\cc K H p e/\jh e i=some v/\Q v H
def P9(K:PySem.W.Frag):R2:=fun x y H Q=> ∃p e i v,x= .ref p/\y= .int i/\dm K H p e/\jh e i=some v/\Q v H
def Qa:R2:=fun x y H Q=> ∃z i c,x= .str z/\y= .int i/\z.length<=sizeLine/\jh z.cps.toList i=some c/\Q (.str ⟨#[c]⟩) H
theorem sG:J8 X (Qb X.K):=by
 intro A k c s d H x y v u Q I e m h C;obtain⟨p,O,i,z,rfl,rfl,R,E,q⟩:=h;cases e;obtain⟨t,rfl⟩:=m;obtain⟨D,r,J,N⟩:=I.list R;obtain⟨j,f,g,T,L,M⟩:=tL E;obtain⟨w,B,G⟩:=r.get g;have F:=r.length;have o:=lQ;have fin:EP X c d Q w s:=⟨z,H,I,G,q⟩
 by_cases l:0<=i
 . have V : i.toNat = j := by
     rw[seqIndex_of l M] at f;exact Option.some.inj f
   exact item_listR J.isList l (by lia) (by rw[V];simpa using B) fin C
 . have V : (i + (D.toArray.size : Int)).toNat = j := by
     rw[seqIndex_neg (by lia) L] at f;rw[ac2,<-F];exact Option.some.inj f
   exact subscriptTail_builtinR (x:=w) J.isList.typeIs slot_list_getitem.lookup
    (wpAny_getItem_list_neg (Q:=fun r n=>r=w/\EP X c d Q r n) J.isList (by lia) (by rw[ac2] <;> lia) (by lia) (by rw[V];simpa using B) ⟨rfl,fin⟩) C
theorem MZ:J8 X (P9 X.K):=by
 intro A k c s d H x y v u Q I e l h D;obtain⟨p,N,i,z,rfl,rfl,R,E,q⟩:=h;cases e;obtain⟨t,rfl⟩:=l;obtain⟨G,r,J,o⟩:=I.tuple R;obtain⟨j,f,g,T,L,M⟩:=tL E;obtain⟨w,B,F⟩:=r.get g;have C:=r.length;have n:=lQ;have fin:EP X c d Q w s:=⟨z,H,I,F,q⟩
 exact subscriptTail_builtinR (x:=w) J.typeIs slot_tuple_getitem.lookup
  (getItem_tuple (j:=j) (Q:=fun r m=>r=w/\EP X c d Q r m) J (by lia) (by lia) (by rw[ac2,<-C];exact f) (by simpa using B) ⟨rfl,fin⟩) D
theorem M5:J8 X Qa:=by
 intro A k d s o H x y v u Q I e l h D;obtain⟨z,i,c,rfl,rfl,n,E,q⟩:=h;obtain⟨t,rfl⟩:=e;obtain⟨F,rfl⟩:=l;obtain⟨j,f,g,T,J,L⟩:=tL E;have C:z.cps.toList.length=z.length:=by simp [Str.length]
 rw[C] at f J L;have m:=lQ;exact tail_any (typeIs_str s z t) slot_str_getitem.lookup (getItem_str (c:=c) (by
  have w:decide (i < -(2^63:Int))=false:=ad1 (by lia);have B:decide (i>=2^63)=false:=ad1 (by lia);rw[w,B,Bool.or_false]) (by rw[f];simpa using g) ⟨.str ⟨#[c]⟩,H,I.tok _,⟨_,rfl⟩,q⟩) D
def Yd(K:PySem.W.Frag):R2:=fun x y H Q=>Qb K x y H Q\/P9 K x y H Q\/Qa x y H Q
theorem M6:J8 X (Yd X.K):=sG.or (MZ.or M5)
theorem xw(s:List Value)(n j:Nat)(u:Value):Obj.mapSeq (·.setIfInBounds j u) {cls:= .type "list",data:= .seq s.toArray n}={cls:= .type "list",data:= .seq (s.set j u).toArray n}:=by
 simp [Obj.mapSeq]
theorem Inv.lst{c:List (Addr × Obj)}{d:St}{H:Hp}{s:Shared}{p:Addr}{f:List V}(I:Inv X c d H s)(h:H p=some (.lst f)):
  ∃(ao:List Value) (n:Nat),Vals f ao/\s.heap.get? p=some {cls:= .type "list",data:= .seq ao.toArray n}/\f.length<=sizeLine:=by
 obtain⟨z,ao,n,r,e⟩:=I.bc p _ h;exact⟨ao,n,r,e,z⟩
theorem Inv.MR{v its':List Value}(I:Inv X pins σ H s)(h:H p=some (.lst xs))(i:s.heap.get? p=some {cls:= .type "list",data:= .seq v.toArray n})(w:f {cls:= .type "list",data:= .seq v.toArray n}={cls:= .type "list",data:= .seq its'.toArray n'})(r:Vals ys its')(g:ys.length<=sizeLine)(t:Nat):
  Inv X pins σ (upd H p (.lst ys)) {s with heap:=s.heap.update p f,toks:=t}:=by
 have e:(s.heap.update p f).get? p=some {cls:= .type "list",data:= .seq its'.toArray n'}:=by
  rw[ao2 f i (by rw[w] <;> rfl),w]
 refine I.write (x:=p) (e:=p) (by rw[h];trivial) (.inl rfl) (fun b u c q=>(aj9 _ _ (Ne.symm c)).trans q) ⟨_,e⟩ ?_;exact⟨g,its',n',r,e⟩
def P7:V->V->V->Hp->(Hp->Prop)->Prop:=fun o i v H Q=> ∃p e k j,o= .ref p/\i= .int k/\H p=some (.lst e)/\zw e.length k=some j/\Q (upd H p (.lst (e.set j v)))
theorem set_list:SV X P7:=by
 intro c s A H o i v E D u Q I Y Z z h;obtain⟨p,g,k,j,rfl,rfl,y,V,q⟩:=h;cases Y;obtain⟨t,rfl⟩:=Z;obtain⟨x,n,r,l,e⟩:=I.lst y;obtain⟨f,B,T,J⟩:=zv V;have w:=r.length;have C:=lQ;have d:Inv X c A (upd H p (.lst (g.set j v))) {s with heap:=s.heap.update p (Obj.mapSeq (·.setIfInBounds j u))}:=
  I.MR y l (xw x n j u) (r.set z j) (by rw[ae5];exact e) s.toks
 by_cases m:0<=k
 . have R : k.toNat = j := by
     rw[seqIndex_of m J] at f;exact Option.some.inj f
   exact PySem.W.ki_setAt l m (by lia) (by rw[ac2,<-w];exact J) (by rw[R];exact⟨_,d,q⟩)
 . have R : (k + (x.toArray.size : Int)).toNat = j := by
     rw[seqIndex_neg (by lia) T] at f;rw[ac2,<-w];exact Option.some.inj f
   exact PySem.W.ki_setBack l (by lia) (by rw[ac2,<-w];exact T) (by lia) (by rw[R];exact⟨_,d,q⟩)
theorem rF(lo hi:Option Int)(n:Nat):(sliceBounds lo hi none n).1=((HT.da n 0 lo:Nat):Int)/\(sliceBounds lo hi none n).2.1=((HT.da n n hi:Nat):Int)/\(sliceBounds lo hi none n).2.2=1:=by
 refine⟨?_,?_,rfl⟩
 . cases lo with
   | none=>simp [sliceBounds,HT.da]
   | some i=>
    simp only [sliceBounds,HT.da,Option.getD_none,show(1:Int) > 0 by decide,ar2];by_cases h:i < 0
    . simp only [h,ar2] <;> lia
    . simp only [h,if_false] <;> lia
 . cases hi with
   | none=>simp [sliceBounds,HT.da]
   | some i=>
    simp only [sliceBounds,HT.da,Option.getD_none,show(1:Int) > 0 by decide,ar2];by_cases h:i < 0
    . simp only [h,ar2] <;> lia
    . simp only [h,if_false] <;> lia
theorem pG(s:List Value)(lo hi:Option Int):slicePick s.toArray lo hi none=((s.drop (HT.da s.length 0 lo)).take (HT.da s.length s.length hi - HT.da s.length 0 lo)).toArray:=by
 obtain⟨f,g,T⟩:=rF lo hi s.toArray.size;unfold slicePick;rw[f,g,T];simp only [sliceRange_one,pick_run,ac2] <;> rfl
def Vi(K:PySem.W.Frag):V->Option Int->Option Int->Hp->VK->Prop:=fun x z I H Q=> ∃a e,x= .ref a/\cc K H a e/\ ∀p,H p=none->Q (.ref p) (upd H p (.lst (mP e z I)))
theorem yM:nu X (Vi X.K):=by
 intro d s m H x v k l z J j Q I g A L n h;obtain⟨a,e,rfl,i,q⟩:=h;cases g;obtain⟨u,r,t,f⟩:=I.list i;have c:=r.length;refine⟨"list",_,slot_list_getitem.lookup,t.isList.typeIs,?_⟩;refine wpAny_getItem_list_slice t.isList A L n .none (by simp) ?_ (by rw[ac2] <;> lia);rw[pG,<-c];refine⟨.ref s.heap.objs.size,_,I.laid (t':=s.toks) (o:= .lst (mP e z J)) (fun b M q=>aa7 _ q) (ab3 _) ?_,rfl,q _ (I.bc.fresh (ab3 _))⟩;exact⟨ad9 (mB e z J) f,_,0,(r.drop (HT.da e.length 0 z)).take (HT.da e.length e.length J - HT.da e.length 0 z),ac9 _ rfl⟩
noncomputable def cJ:V->Bool
 | .aN=>true
 | .bl _=>true
 | .int _=>true
 | .str _=>true
 | _=>false
noncomputable def oQ:V->V->Bool
 | .aN,.aN=>true
 | .bl a,.bl b=>a==b
 | .bl a,.int b=>(if a then 1 else 0)==b
 | .int a,.bl b=>a==(if b then 1 else 0)
 | .int a,.int b=>a==b
 | .str a,.str b=>a==b
 | _,_=>false
theorem xS(j:RelV y u)(d:RelV x v)(U:cJ y=true)(M:cJ x=true):SeqAt.EqAt A s u v (oQ y x):=by
 cases y with
 | aN=>
  cases j;cases x with
  | aN=>cases d;exact SeqAt.EqAt.same _
  | bl b=>cases d;exact SeqAt.EqAt.none_bool b
  | int b=>obtain⟨t,rfl⟩:=d;exact SeqAt.EqAt.none_int b t
  | str b=>obtain⟨t,rfl⟩:=d;exact SeqAt.EqAt.none_str b t
  | _=>exact absurd (show false=true from M) ac3
 | bl a=>
  cases j;cases x with
  | aN=>cases d;exact SeqAt.EqAt.bool_none a
  | bl b=>cases d;exact SeqAt.EqAt.bool_bool a b
  | int b=>obtain⟨t,rfl⟩:=d;exact SeqAt.EqAt.bool_int a b t
  | str b=>obtain⟨t,rfl⟩:=d;exact SeqAt.EqAt.bool_str a b t
  | _=>exact absurd (show false=true from M) ac3
 | int a=>
  obtain⟨E,rfl⟩:=j;cases x with
  | aN=>cases d;exact SeqAt.EqAt.int_none a E
  | bl b=>cases d;exact SeqAt.EqAt.int_bool a E b
  | int b=>obtain⟨t,rfl⟩:=d;exact SeqAt.EqAt.int_int a E b t
  | str b=>obtain⟨t,rfl⟩:=d;exact SeqAt.EqAt.int_str a E b t
  | _=>exact absurd (show false=true from M) ac3
 | str a=>
  obtain⟨E,rfl⟩:=j;cases x with
  | aN=>cases d;exact SeqAt.EqAt.str_none a E
  | bl b=>cases d;exact SeqAt.EqAt.str_bool a E b
  | int b=>obtain⟨t,rfl⟩:=d;exact SeqAt.EqAt.str_int a E b t
  | str b=>obtain⟨t,rfl⟩:=d;exact SeqAt.EqAt.str_str a E b t
  | _=>exact absurd (show false=true from M) ac3
 | _=>exact absurd (show false=true from U) ac3
noncomputable def xR(x:V)(u:Value):Bool:=match u with
 | .none=>oQ .aN x
 | .bool b=>oQ (.bl b) x
 | .int i _=>oQ (.int i) x
 | .str z _=>oQ (.str z) x
 | _=>false
theorem Fz(r:RelV y u)(f:cJ y=true):xR x u=oQ y x:=by
 cases y with
 | aN=>cases r;rfl
 | bl b=>cases r;rfl
 | int i=>obtain⟨t,rfl⟩:=r;rfl
 | str z=>obtain⟨t,rfl⟩:=r;rfl
 | _=>exact absurd (show false=true from f) ac3
theorem kX: ∀{xs:List V} {us:List Value},Vals xs us->xs.all cJ=true->us.any (xR x)=xs.any fun y=>oQ y x
 | _,_,.nil,_=>rfl
 | y::xs,u::us,.cons r t,f=>by
  rw[ar1,ae3] at f;rw[ao3,ao3,Fz r f.1,kX t f.2]
theorem iG(d:RelV x v)(M:cJ x=true): ∀{xs:List V} {us:List Value},Vals xs us->xs.all cJ=true-> ∀u∈us,SeqAt.EqAt A s u v (xR x u)
 | _,_,.nil,_=>fun u l=>by cases l
 | y::xs,u::us,.cons r t,f=>fun G l=>by
  rw[ar1,ae3] at f;rcases ab9.mp l with rfl | l
  . rw[Fz r f.1];exact xS r d f.1 M
  . exact iG d M t f.2 G l
noncomputable def pJ(x:V)(e:List V):Bool:=e.any fun y=>oQ y x
def Vk(K:PySem.W.Frag)(m:Bool):R2:=fun x y H Q=> ∃p e,y= .ref p/\(cc K H p e\/dm K H p e)/\cJ x=true/\e.all cJ=true/\Q (.bl (if m then !pJ x e else pJ x e)) H
theorem qi:g6 X (compareOp .In) (Vk X.K false):=by
 intro c s i H x y v u Q I d j h;obtain⟨p,g,rfl,R,M,z,q⟩:=h;cases j;rcases R with R | R
 . obtain⟨t,r,J,e⟩:=I.list R;refine SeqAt.in_listAt (xR x) J.isList (fun w f=>iG d M r z w (by simpa using f)) ⟨.bl _,H,I,rfl,?_⟩;rw[show t.toArray.any (xR x)=t.any (xR x) by simp,kX r z];exact q
 . obtain⟨t,r,J,e⟩:=I.tuple R;refine SeqAt.in_tupleAt (xR x) J (fun w f=>iG d M r z w (by simpa using f)) ⟨.bl _,H,I,rfl,?_⟩;rw[show t.toArray.any (xR x)=t.any (xR x) by simp,kX r z];exact q
theorem sd:g6 X (compareOp .NotIn) (Vk X.K true):=by
 intro c s i H x y v u Q I d j h;obtain⟨p,g,rfl,R,M,z,q⟩:=h;cases j;rcases R with R | R
 . obtain⟨t,r,J,e⟩:=I.list R;refine SeqAt.notIn_listAt (xR x) J.isList (fun w f=>iG d M r z w (by simpa using f)) ⟨.bl _,H,I,rfl,?_⟩;rw[show t.toArray.any (xR x)=t.any (xR x) by simp,kX r z];exact q
 . obtain⟨t,r,J,e⟩:=I.tuple R;refine SeqAt.notIn_tupleAt (xR x) J (fun w f=>iG d M r z w (by simpa using f)) ⟨.bl _,H,I,rfl,?_⟩;rw[show t.toArray.any (xR x)=t.any (xR x) by simp,kX r z];exact q
theorem kU:fK X (.builtin "len") (fun e H Q=> ∃p n,e= [.ref p]/\(cc X.K H p n\/dm X.K H p n)/\Q (.int n.length) H):=by
 intro d s j H e N Q I r h;obtain⟨p,n,rfl,R,q⟩:=h;obtain⟨u,rfl,g⟩:=vals1 r;cases g;have i:=lQ;rcases R with R | R
 . obtain⟨t,C,J,f⟩:=I.list R;have c:=C.length;exact Calls.call_len_list J.isList (by simp only [ac2] <;> lia) ⟨.int n.length,H,I.tok _,⟨s.toks+1,by rw[ac2,c]⟩,q⟩
 . obtain⟨t,C,J,f⟩:=I.tuple R;have c:=C.length;exact len_tuple J (by simp only [ac2] <;> lia) ⟨.int n.length,H,I.tok _,⟨s.toks+1,by rw[ac2,c]⟩,q⟩
theorem kT:fK X (.type "list") (fun g H Q=> ∃p v,g= [.ref p]/\(cc X.K H p v\/dm X.K H p v)/\ ∀l,H l=none->Q (.ref l) (upd H l (.lst v))):=by
 intro d s k H g N Q I r h;obtain⟨p,v,rfl,R,q⟩:=h;obtain⟨u,rfl,j⟩:=vals1 r;cases j;have fin: ∀(t:List Value),Vals v t->v.length<=sizeLine-> ∀(F:Heap) (Y:Nat),(∀b M,s.heap.get? b=some M->F.get? b=some M)->
   F.get? s.heap.objs.size=some {cls:= .type "list",dict:=none,data:= .seq t.toArray Y,slots:= #[]}->EP X d k Q (.ref s.heap.objs.size) {s with heap:=F}:=fun t C f F Y U e=>
  ⟨.ref s.heap.objs.size,_,I.laid (t':=s.toks) U (ab3 _) (show bW X.prog X.w _ F _ (.lst v) from⟨f,t,Y,C,e⟩),rfl,q _ (I.bc.fresh (ab3 _))⟩
 rcases R with R | R
 . obtain⟨t,C,J,f⟩:=I.list R;have c:=C.length;obtain⟨o,i,m,n,x⟩:=J.isList;exact call_list_seq p (.inl rfl) i m x (fun F Y U e=>fin t C f F Y U e) (by simp only [ac2] <;> lia)
 . obtain⟨t,C,J,f⟩:=I.tuple R;have c:=C.length;obtain⟨o,i,m,n,x⟩:=J;exact call_list_seq p (.inr rfl) i m x (fun F Y U e=>fin t C f F Y U e) (by simp only [ac2] <;> lia)
theorem jv:fK X (.type "tuple") (fun g H Q=> ∃p n,g= [.ref p]/\((cc X.K H p n/\ ∀l,H l=none->Q (.ref l) (upd H l (.tup n)))\/(dm X.K H p n/\Q (.ref p) H))):=by
 intro c s i H g N Q I r h;obtain⟨p,n,rfl,h⟩:=h;obtain⟨u,rfl,j⟩:=vals1 r;cases j;rcases h with ⟨R,q⟩ | ⟨R,q⟩
 . obtain⟨t,C,J,f⟩:=I.list R;have d:=C.length;refine call_tuple_list J.isList (fun F U=>?_) (by simp only [ac2] <;> lia);have W:Inv X c i H {s with heap:=F}:=I.kept (t':=s.toks) U;have L:Inv X c i (upd H F.objs.size (.tup n)) {s with heap:=F.push {cls:= .type "tuple",data:= .seq t.toArray}}:=
    W.laid (t':=s.toks) (fun b o e=>aa7 _ e) (ab3 _) (show bW X.prog X.w _ _ _ (.tup n) from⟨f,t,C,pf.new _ _⟩)
   exact⟨.ref F.objs.size,_,L,rfl,q _ (W.bc.fresh (ab3 _))⟩
 . obtain⟨t,C,J,f⟩:=I.tuple R;exact call_tuple_same J ⟨.ref p,H,I,rfl,q⟩
def UK(K:PySem.W.Frag)(T:String)(x:V)(H:Hp):Prop:=match x with
 | .str _=>T="str"
 | .int _=>T="int"
 | .ref p=>(T="list"/\ ∃e,cc K H p e)\/(T="tuple"/\ ∃o,K.lookup p=some o/\o.cls= .type "tuple"/\o.dict=none)\/
   (T="dict"/\((∃y,H p=some (.dK y))\/ ∃y,H p=some (.dT y)))\/(T="set"/\ ∃S n,H p=some (.set S n))\/(T="tuple"/\ ∃e,H p=some (.tup e))
 | _=>False
theorem CV(I:Inv X pins σ H s)(r:RelV x v)(q:UK X.K T x H):
  s.TypeIs v T/\ ∀a,v= .ref a-> ∃J,s.heap.get? a=some J/\J.dict=none:=by
 cases x with
 | str z=>
  obtain⟨t,rfl⟩:=r;cases (show T="str" from q);exact⟨typeIs_str s z t,fun _ e=>nomatch e⟩
 | int i=>
  obtain⟨t,rfl⟩:=r;cases (show T="int" from q);exact⟨typeIs_int s i t,fun _ e=>nomatch e⟩
 | ref p=>
  cases r;rcases q with ⟨rfl,f,Q⟩ | ⟨rfl,o,R,l,A⟩ | ⟨rfl,R⟩ | ⟨rfl,S,n,R⟩ | ⟨rfl,f,R⟩
  . obtain⟨C,_,L,_⟩:=I.list Q;refine⟨L.isList.typeIs,fun a e=>?_⟩;cases e;obtain⟨o,n,e,c,A,_⟩:=L;exact⟨o,e,A⟩
  . refine⟨⟨o,I.xD p o R,l⟩,fun a e=>?_⟩;cases e;exact⟨o,I.xD _ o R,A⟩
  . have z : ∃ o, s.heap.get? p = some o /\ o.ExactDict := by
      rcases R with ⟨B,R⟩ | ⟨B,R⟩
      . obtain⟨_,_,_,_,o,_,_,e,u,_⟩:=I.bc p _ R;exact⟨o,e,u⟩
      . obtain⟨_,_,_,_,o,_,_,e,u,_⟩:=I.bc p _ R;exact⟨o,e,u⟩
    obtain⟨o,e,u⟩:=z;refine⟨⟨o,e,u.1⟩,fun a y=>?_⟩;cases y;exact⟨o,e,u.2.1⟩
  . obtain⟨o,_,_,_,e,u,_⟩:=I.bc p _ R;refine⟨⟨o,e,u.1⟩,fun a y=>?_⟩;cases y;exact⟨o,e,u.2.1⟩
  . obtain⟨_,_,_,o,e,c,d,_⟩:=(show bW X.prog X.w H s.heap p (.tup f) from I.bc p _ R)
    refine⟨⟨o,e,c⟩,fun a y=>?_⟩;cases y;exact⟨o,e,d⟩
 | _=>exact False.elim q
def U1(K:PySem.W.Frag)(T:String)(r:V->List V->Hp->VK->Prop)(q:TE):TE:=fun c H Q=>q c H fun x k=>UK K T x k/\r x [] k Q
def X6(K:PySem.W.Frag)(T:String)(r:V->List V->Hp->VK->Prop)(q:TE)(t:TA):TE:=fun c H Q=>q c H fun x k=>UK K T x k/\t c k fun e C=>r x e C Q
variable{o e:Expr}{es:List Expr}{to:TE}{t:TA}{name:Str}{apos cV:Pos}{T id:String}{r:V->List V->Hp->VK->Prop}
theorem Mx(N:PlainAttrs T)(d:Slot T name id)(w:typeOf (.builtin id)=pure (.type "method_descriptor"))(z:T1 X id r)(l:PE X o to)
  (L:attributeBase o name X.env (eval o X.env)=eval o X.env:=by rfl) (M:(apos.endLine==cV.line)=true:=by rfl):PE X (.Call (.Attribute o name apos) [] [] cV) (U1 X.K T r to):=by
 intro c s f H Q I h;refine wpAny_Call_method0_late L M (aP (l c s f H _ I h) fun v J g=>?_);obtain⟨x,k,W,q,u,p⟩:=g;obtain⟨i,j⟩:=CV W q u;exact⟨T,id,N,d,w,i,j,Calls.callWith_builtin rfl (PySem.evalArgs_none (z c J f k x [] v [] Q W q .nil p))⟩
theorem ze(N:PlainAttrs T)(d:Slot T name id)(w:typeOf (.builtin id)=pure (.type "method_descriptor"))(z:T1 X id r)(n:PE X o to)(m:PA X (e::es) t)
  (L:attributeBase o name X.env (eval o X.env)=eval o X.env:=by rfl)
  (E:((backTo cV (starEach (e::es) X.env)).all (fun x=>!x.1) && (backToKw cV (keywordEach [] X.env)).all (fun x=>x.1.isSome)
   && decide ((e::es).length+([]:List Keyword).length+(if ([]:List Keyword).isEmpty then 0 else 1) < 30))=true:=by rfl)
  (M:(apos.endLine==cV.line)=true:=by rfl) (hs:starEach (e::es) X.env=(false,eval e X.env)::starEach es X.env:=by rfl) (u:(backTo cV (starEach es X.env)).any (·.1)=false:=by rfl):
  PE X (.Call (.Attribute o name apos) (e::es) [] cV) (X6 X.K T r to t):=by
 intro c s f H Q I h;refine wpAny_Call_method_late L E M rfl (aP (n c s f H _ I h) fun v O i=>?_);obtain⟨x,k,W,q,B,y⟩:=i;obtain⟨j,l⟩:=CV W q B;refine⟨T,id,N,d,w,j,l,?_⟩;have p:=m cV c O f k _ W y;rw[hs] at p ⊢;refine Calls.callWith_builtin (by show(false || (backTo cV (starEach es X.env)).any (·.1))=false;rw[u] <;> rfl) (Calls.evalArgs_plain ?_);exact aP p fun R A g=>(by obtain⟨D,C,J,P,Z⟩:=g;exact(z c A f C x D v R Q J q P Z))
end
def ZR(X:Cx)(id:String)(r:V->List V->Hp->VK->Prop):Prop:=
 ∀(pins:List (Addr × Obj)) (s:Shared) (σ:St) (H:Hp) (x:V) (xs:List V) (v:Value) (us:List Value) (Q:VK),Inv X pins σ H s->RelV x v->Vals xs us->r x xs H Q->
  wpAny (model X.prog X.w) X.A (call (.builtin id) (v::us)) (EP X pins σ Q) X.xe s
theorem Vals.one: ∀{x:V} {us:List Value},Vals [x] us-> ∃u,us= [u]/\RelV x u
 | _,_,.cons r .nil=>⟨_,rfl,r⟩
theorem Vals.zero: ∀{us:List Value},Vals [] us->us= []
 | _,.nil=>rfl
theorem Vals.reverse(h:Vals xs us):Vals xs.reverse us.reverse:=by
 induction h with
 | nil=>exact .nil
 | cons r t ih=>rw[at1,at1];exact Vals.append ih (.cons r .nil)
theorem Vals.rep(h:Vals xs us): ∀k:Nat,Vals (List.replicate k xs).flatten (List.replicate k us).flatten
 | 0=> .nil
 | k+1=>by
  rw[ah7,ah7,ag2,ag2];exact Vals.append h (Vals.rep h k)
theorem foldl_rep(s:List Value): ∀(k:Nat) (acc:List Value),
  List.foldl (fun n f=>n++f) acc.toArray (List.replicate k s.toArray)=(acc++(List.replicate k s).flatten).toArray
 | 0,acc=>by simp
 | k+1,acc=>by
  have e:acc.toArray++s.toArray=(acc++s).toArray:=by simp
  have x:(acc++s)++(List.replicate k s).flatten=acc++(List.replicate (k+1) s).flatten:=by
   rw[ah7,ag2,ag8]
  rw[<-x,<-foldl_rep s k (acc++s),<-e,ah7,List.foldl_cons]
theorem Inv.QN{t its':List Value}(I:Inv X pins σ H s)(g:H l=some (.lst xs))(e:s.heap.get? l=some {cls:= .type "list",data:= .seq t.toArray n})(v:f t.toArray=its'.toArray)(d:Vals ys its')(h:ys.length<=sizeLine):
  Inv X pins σ (upd H l (.lst ys)) {s with heap:=s.heap.update l (Obj.mapSeq f),toks:=t'}:=by
 have q:=PySem.IsL.update e f;rw[v] at q;refine I.write (x:=l) (e:=l) (by rw[g];exact trivial) (.inl rfl) (fun i u c m=>(aj9 s.heap (Obj.mapSeq f) (Ne.symm c)).trans m) ⟨_,q⟩ ?_;exact⟨h,its',_,d,q⟩
theorem Inv.QO(I:Inv X pins σ H s)(c:Vals ys ao)(e:ys.length<=sizeLine):
  Inv X pins σ (upd H s.heap.objs.size (.lst ys)) {s with heap:=s.heap.push {cls:= .type "list",data:= .seq ao.toArray},toks:=t'}:=
 I.laid (fun _ _ q=>aa7 _ q) (ab3 _) ⟨e,ao,0,c,ac9 _ rfl⟩
theorem Inv.fresh(I:Inv X pins σ H s):H s.heap.objs.size=none:=I.bc.fresh (ab3 _)
theorem Inv.EE(I:Inv X pins σ H s)(f:H l=some (.lst xs)):xs.length<=sizeLine/\ ∃(ao:List Value) (n:Nat),Vals xs ao/\xs.length=ao.length/\s.heap.get? l=some {cls:= .type "list",data:= .seq ao.toArray n}:=by
 obtain⟨z,ao,n,r,e⟩:=I.bc l _ f;exact⟨z,ao,n,r,r.length,e⟩
theorem Es(h:n<=sizeLine):Builtin.List.listTooLong n=false:=by
 unfold Builtin.List.listTooLong;exact ad1 (by lia)
section
variable{X:Cx}
def HY:V->List V->Hp->VK->Prop:=fun x t H Q=> ∃l e y,x= .ref l/\t= [y]/\H l=some (.lst e)/\e.length < sizeLine/\Q .aN (upd H l (.lst (e++ [y])))
theorem i7:ZR X "list.append" HY:=by
 intro a s b H x A v N Q I d p h;obtain⟨l,i,y,rfl,rfl,f,g,q⟩:=h;cases d;obtain⟨u,rfl,J⟩:=p.one;obtain⟨z,t,n,r,w,e⟩:=I.EE f;refine ap1 F.slot_list_append ⟨_,e,rfl⟩ F.entry_list_append (F.args_list_append_2 _ _) (PySem.list_append l t.toArray n u (by rw[ac2];lia)) ⟨e,?_⟩;refine⟨.aN,_,I.QN (its':=t++ [u]) f e (by simp) (r.append (.cons J .nil)) ?_,rfl,q⟩;rw[ac1,List.length_singleton];lia
def DA:V->List V->Hp->VK->Prop:=fun x t H Q=> ∃l e,x= .ref l/\t= []/\H l=some (.lst e)/\Q .aN (upd H l (.lst e.reverse))
theorem xt:ZR X "list.reverse" DA:=by
 intro a s b H x u v N Q I d p h;obtain⟨l,g,rfl,rfl,f,q⟩:=h;cases d;have y:=p.zero;subst y;obtain⟨z,t,n,r,w,e⟩:=I.EE f;refine ap1 F.slot_list_reverse ⟨_,e,rfl⟩ F.entry_list_reverse (F.args_list_reverse_1 _) (AutoSeq1.list_reverse_list_0 l t.toArray n (by rw[ac2];lia)) ⟨e,?_⟩;refine⟨.aN,_,I.QN (its':=t.reverse) f e (by simp) r.reverse ?_,rfl,q⟩;rw[List.length_reverse];lia
def Qe:R2:=fun x y H Q=> ∃l b e B,x= .ref l/\y= .ref b/\H l=some (.lst e)/\H b=some (.lst B)/\e.length+B.length<=sizeLine/\ ∀p,H p=none->Q (.ref p) (upd H p (.lst (e++B)))
theorem MD:g6 X (binaryOp .Add) Qe:=by
 intro a s c H x y v u Q I d j h;obtain⟨l,b,m,C,rfl,rfl,f,w,g,q⟩:=h;cases d;cases j;obtain⟨z,t,n,r,B,e⟩:=I.EE f;obtain⟨p,o,k,R,i,A⟩:=I.EE w;refine PySem.P.add_list e A ?_ (by rw[ac2,ac2];lia);have M:t.toArray++o.toArray=(t++o).toArray:=by simp
 rw[M];exact⟨.ref _,_,I.QO (t':=s.toks) (r.append R) (by rw[ac1];lia),rfl,q _ I.fresh⟩
def P8:R2:=fun x y H Q=> ∃l k e,x= .ref l/\y= .int k/\H l=some (.lst e)/\ -(2^63)<=k/\k < 2^63/\e.length*k.toNat<=sizeLine/\
 ∀p,H p=none->Q (.ref p) (upd H p (.lst (List.replicate k.toNat e).flatten))
theorem len_rep{α:Type}(e:List α)(k:Nat):(List.replicate k e).flatten.length=k*e.length:=by
 induction k with
 | zero=>simp
 | succ k ih=>rw[ah7,ag2,ac1,ih,Nat.succ_mul,Nat.add_comm]
theorem MB:g6 X (binaryOp .Mult) P8:=by
 intro c s N H x y v u Q I d J h;obtain⟨l,k,M,rfl,rfl,E,p,D,g,q⟩:=h;cases d;obtain⟨t,rfl⟩:=J;obtain⟨z,w,n,r,G,e⟩:=I.EE E;have b:w.toArray.size*k.toNat<=sizeLine:=by rw[ac2,<-G];exact g
 have B: ¬w.toArray.size*k.toNat > (2^63 - 1) / 8:=by
  have:(sizeLine:Nat)<=(2^63 - 1) / 8:=by decide
  lia
 have A: ¬(!Builtin.List.listFitsIndex k)=true:=by
  rw[fitsIndex_both p D];exact ac3
 have j: ¬Builtin.List.listTooLong (w.toArray.size*k.toNat)=true:=by
  rw[Es b];exact ac3
 have i:List.foldl (fun o f=>o++f) #[] (List.replicate (if w.toArray.isEmpty=true then 0 else k.toNat) w.toArray)=(List.replicate k.toNat w).flatten.toArray:=by
  have C: ∀m:Nat,List.foldl (fun o f=>o++f) #[] (List.replicate m w.toArray)=(List.replicate m w).flatten.toArray:=fun m=>by
   have:=foldl_rep w m [];rw[List.nil_append] at this;exact this
  rw[C];cases w with
  | nil=>simp
  | cons a r'=>rw[if_neg (by simp)]
 refine wpAny_binaryOp_repeat_ref (T:="list") (U:="int") (by decide) ⟨_,e,rfl⟩ (fun L=>typeIs_int L k t) noFill_list_mul F.fills_int_mul F.slot_int_rmul repeat_list F.slot_int_index.lookup
  (ap1 F.slot_int_rmul (typeIs_int s k t) F.entry_int_rmul (F.args_int_rmul_2 _ _) (int___rmul___int_list k t l w.toArray n)
   ⟨e,rfl,⟨_,e,rfl⟩,ap1 F.slot_list_mul ⟨_,e,rfl⟩ F.entry_list_mul (F.args_list_mul_2 _ _) (AutoListH.list___mul___list_int_3 l w.toArray n k t A B j) ⟨e,?_⟩⟩)
 rw[i];exact⟨.ref _,_,I.QO (t':=s.toks) (r.rep k.toNat) (by rw[len_rep,Nat.mul_comm];exact g),rfl,q _ I.fresh⟩
end
section
variable{κ:Type}[DecidableEq κ]
noncomputable def gx(x:List (κ × V))(k:κ):Option V:=(x.find? fun y=>decide (y.1=k)).map (·.2)
noncomputable def putK(x:List (κ × V))(k:κ)(v:V):List (κ × V):=
 if (x.any fun y=>decide (y.1=k))=true then x.map (fun y=>if y.1=k then(y.1,v) else y) else x++ [(k,v)]
theorem nA{p:κ × V}(e:p.1=k):gx (p::r) k=some p.2:=by simp [gx,ap2,e]
theorem nB{p:κ × V}(e: ¬p.1=k):gx (p::r) k=gx r k:=by simp [gx,ap2,e]
theorem t9(k:κ): ∀x:List (κ × V),(x.any fun y=>decide (y.1=k))=(gx x k).isSome
 | []=>rfl
 | p::r=>by
  rw[ao3];by_cases e:p.1=k
  . simp only [nA e,ab8 e,Bool.true_or,Option.isSome_some]
  . rw[nB e,ad1 e,Bool.false_or];exact t9 k r
theorem dU(x:List (κ × V))(k:κ)(v:V):(putK x k v).length<=x.length+1:=by
 unfold putK;split
 . rw[aa4];lia
 . rw[ac1,ad3,ar4];lia
theorem jj.Br(r:jj o u):o.isSome=u.isSome:=by
 cases o with
 | none=>cases u with
  | none=>rfl
  | some _=>exact(show False from r).elim
 | some _=>cases u with
  | none=>exact(show False from r).elim
  | some _=>rfl
theorem KV.val(r:KV aF vs)(k:κ):jj (gx aF k) (valueAt vs k):=by
 unfold KV at r;induction r with
 | nil=>exact True.intro
 | @cons p q ps qs h t ih=>
  obtain⟨f,g⟩:=h;by_cases e:p.1=k
  . have Q:q.1=k:=f.symm.trans e;have b:valueAt (q::qs) k=some q.2:=by simp [valueAt,ap2,Q]
    rw[nA e,b];exact g
  . have Q: ¬q.1=k:=fun z=>e (f.trans z);have b:valueAt (q::qs) k=valueAt qs k:=by simp [valueAt,ap2,Q]
    rw[nB e,b];exact ih
theorem KV.any(r:KV aF vs)(k:κ):(aF.any fun y=>decide (y.1=k))=vs.any fun y=>decide (y.1=k):=by
 unfold KV at r;induction r with
 | nil=>rfl
 | cons h t ih=>rw[ao3,ao3,ih,h.1]
theorem KV.Mg(r:KV aF vs)(k:κ)(j:RelV y u):
  KV (aF.map fun A=>if A.1=k then(A.1,y) else A) (vs.map fun A=>if A.1=k then(A.1,u) else A):=by
 unfold KV at r ⊢;induction r with
 | nil=>exact .nil
 | @cons p q ps qs h t ih=>
  rw[ad5,ad5];refine .cons ?_ ih;obtain⟨f,g⟩:=h;by_cases e:p.1=k
  . rw[if_pos e,if_pos (f.symm.trans e)];exact⟨f,j⟩
  . rw[if_neg e,if_neg (fun z=>e (f.trans z))];exact⟨f,g⟩
theorem KV.put(r:KV aF vs)(k:κ)(j:RelV y u):KV (putK aF k y) (stored vs k u):=by
 unfold putK stored;rw[r.any k];by_cases e:(vs.any fun z=>decide (z.1=k))=true
 . rw[if_pos e,if_pos e];exact r.Mg k j
 . rw[if_neg e,if_neg e];exact Paired.snoc r ⟨rfl,j⟩
theorem KV.length{x:List (κ × V)}(r:KV x vs):x.length=vs.length:=Paired.length r
end
theorem vb(r:RelV (kV k) u):(aY P w).is k u=true:=by
 cases k with
 | inl i=>obtain⟨t,e⟩:=(show∃t,u=Value.int i t from r);subst e;exact uX P w i t
 | inr x=>obtain⟨t,e⟩:=(show∃t,u=Value.str x t from r);subst e;exact uW P w x t
theorem qm: ∀{ks:List Key} {us:List Value},Vals (ks.map kV) us->ItemsAre (aY P w) ks us
 | [],_,r=>by rw[List.map_nil] at r;cases r;exact .nil
 | k::ks,_,r=>by
  rw[ad5] at r;cases r with
  | cons h t=>exact .cons (vb h) (qm t)
abbrev KT(H:Hp):List (List Key × V)->List (List Key × Addr × Value)->Prop:=Paired fun p q=>p.1=q.1/\H q.2.1=some (.tup (p.1.map kV))/\RelV p.2 q.2.2
theorem KT.val(r:KT H aF xs)(k:List Key):jj (gx aF k) ((atKey xs k).map (·.2)):=by
 induction r with
 | nil=>exact True.intro
 | @cons p q ps qs h t ih=>
  obtain⟨f,_,g⟩:=h;by_cases e:p.1=k
  . have Q:q.1=k:=f.symm.trans e;have b:atKey (q::qs) k=some q.2:=by simp [atKey,ap2,Q]
    rw[nA e,b];exact g
  . have Q: ¬q.1=k:=fun z=>e (f.trans z);have b:atKey (q::qs) k=atKey qs k:=by simp [atKey,ap2,Q]
    rw[nB e,b];exact ih
theorem KT.Mg(r:KT H aF xs)(k:List Key)(j:RelV y u):
  KT H (aF.map fun A=>if A.1=k then(A.1,y) else A) (xs.map (putAt k u)):=by
 induction r with
 | nil=>exact .nil
 | @cons p q ps qs h t ih=>
  rw[ad5,ad5];refine .cons ?_ ih;obtain⟨f,g,T⟩:=h;unfold putAt;by_cases e:p.1=k
  . rw[if_pos e,if_pos (f.symm.trans e)];exact⟨f,g,j⟩
  . rw[if_neg e,if_neg (fun z=>e (f.trans z))];exact⟨f,g,T⟩
theorem KT.put(r:KT H aF xs)(k:List Key)(c:H b=some (.tup (k.map kV)))(j:RelV y u):
  KT H (putK aF k y) (storedH xs k b u):=by
 have e:(aF.any fun z=>decide (z.1=k))=(atKey xs k).isSome:=by
  rw[t9,(r.val k).Br,Option.isSome_map]
 unfold putK storedH;rw[e];by_cases q:(atKey xs k).isSome=true
 . rw[if_pos q,if_pos q];exact r.Mg k j
 . rw[if_neg q,if_neg q];exact Paired.snoc r ⟨rfl,c,j⟩
theorem KT.keeps(r:KT H aF xs)(q: ∀b n,H b=some (.tup n)->H' b=some (.tup n)):KT H' aF xs:=
 Paired.MP r fun _ _ z=>⟨z.1,q _ _ z.2.1,z.2.2⟩
theorem Kw(v:jk P w H h)(e:Rd H a u):bW P w H h a u:=e.ok v
theorem FL(u:jk P w H h)(e:Rd H a (.dK aF)):aF.length<=sizeLine/\(a==sysModules)=false/\ ∃t,KV aF t/\h.DictOf (aY P w) a t:=
 show bW P w H h a (.dK aF) from Kw u e
theorem FN(u:jk P w H h)(e:H a=some (.dK aF)):aF.length<=sizeLine/\(a==sysModules)=false/\ ∃t,KV aF t/\h.DictOf (aY P w) a t:=FL u (.inl e)
theorem sF{ks:List Key}(u:jk P w H h)(e:H a=some (.tup (ks.map kV))):(tupleKind (aY P w)).is h ks a:=by
 obtain⟨_,s,r,o,f,g,_,n,T⟩:=(show bW P w H h a (.tup (ks.map kV)) from u a _ e)
 exact⟨o,s.toArray,n,f,g,T,by simpa using qm r⟩
theorem FJ(u:jk P w H h)(e:Rd H a (.dT aF)):aF.length<=sizeLine/\(a==sysModules)=false/\
  ∃f,KT H aF f/\h.DictOfH (tupleKind (aY P w)) a f:=by
 obtain⟨z,y,f,r,o,B,A,g,j,T,I,L⟩:=(show bW P w H h a (.dT aF) from Kw u e)
 refine⟨z,y,f,r,o,B,A,g,j,T,I,fun x i=>?_,L⟩;have c: ∀{l:List (List Key × V)} {m:List (List Key × Addr × Value)},KT H l m-> ∀x∈m,(tupleKind (aY P w)).is h x.1 x.2.1:=by
  intro l m q;induction q with
  | nil=>intro x i;exact nomatch i
  | @cons p q ps qs hq t ih=>
   intro x i;rcases ab9.mp i with e | i
   . subst e;exact sF u (by rw[<-hq.1];exact hq.2.1)
   . exact ih x i
 exact c r x i
theorem zF(u:jk P w H h)(e:H a=some (.dT aF)):aF.length<=sizeLine/\(a==sysModules)=false/\
  ∃f,KT H aF f/\h.DictOfH (tupleKind (aY P w)) a f:=FJ u (.inl e)
def mQ(H:Hp)(a:Addr)(y:V)(r:Option V):Prop:=
 (∃x k,Rd H a (.dK x)/\y=kV k/\r=gx x k)\/ ∃x k b,Rd H a (.dT x)/\y= .ref b/\H b=some (.tup (k.map kV))/\r=gx x k
def pw(H:Hp)(a:Addr)(y v:V)(H':Hp):Prop:=
 (∃x k,H a=some (.dK x)/\y=kV k/\x.length < sizeLine/\H'=upd H a (.dK (putK x k v)))\/
 ∃x k b,H a=some (.dT x)/\y= .ref b/\H b=some (.tup (k.map kV))/\x.length < sizeLine/\H'=upd H a (.dT (putK x k v))
theorem mQ.k{H:Hp}{a:Addr}{x:List (Key × V)}{k:Key}(e:H a=some (.dK x)):mQ H a (kV k) (gx x k):= .inl ⟨x,k,.inl e,rfl,rfl⟩
theorem mQ.t{k:List Key}(e:H a=some (.dT aF))(I:H b=some (.tup (k.map kV))):mQ H a (.ref b) (gx aF k):= .inr ⟨aF,k,b,.inl e,rfl,I,rfl⟩
theorem pw.k{H:Hp}{a:Addr}{x:List (Key × V)}{k:Key}(e:H a=some (.dK x))(w:x.length < sizeLine):pw H a (kV k) v (upd H a (.dK (putK x k v))):= .inl ⟨x,k,e,rfl,w,rfl⟩
theorem pw.t{k:List Key}(e:H a=some (.dT aF))(I:H b=some (.tup (k.map kV)))(w:aF.length < sizeLine):
  pw H a (.ref b) v (upd H a (.dT (putK aF k v))):= .inr ⟨aF,k,b,e,rfl,I,w,rfl⟩
theorem Inv.big(I:Inv X pins σ H s):sysModules < s.heap.objs.size:=by
 have h:mainGlobals < s.heap.objs.size:=(I.mod.glob.keeps I.bk).lt;exact Nat.lt_trans (by decide) h
theorem BP(n:A.units+1 < cLine)(I:Inv X pins σ H s)(g:mQ H a y (some v))(j:RelV y u)(h: ∀D m,Inv X pins σ H m->RelV v D->Q D m):
  wpAny (model X.prog X.w) A (getItem (.ref a) u) Q E s:=by
 rcases g with ⟨B,k,e,G,l⟩ | ⟨B,k,b,e,G,J,l⟩
 . subst G;obtain⟨z,r,t,M,R⟩:=FL I.bc e;obtain⟨D,f,x⟩:=jj.some_of (v:=v) (o:=valueAt t k) (by rw[l];exact M.val k);exact wpAny_getItem_of (vb j) R.mapOf f (h D _ (I.tok _) x)
 . subst G;cases (show u=Value.ref b from j);obtain⟨z,r,i,M,R⟩:=FJ I.bc e;obtain⟨D,f,x⟩:=jj.some_of (v:=v) (o:=(atKey i k).map (·.2)) (by rw[l];exact M.val k);obtain⟨p,q,N⟩:=ai3.mp f;refine wpAny_getItem_heap (tupleKind_room_in1 n) (sF I.bc J) R q ?_;rw[N];exact h D _ (I.tok _) x
theorem i9(I:Inv X pins σ H s)(F:S5 (H a))(hs:Heap.SameBut a s.heap h')(E: ∃q,h'.get? a=some q)(U:bW X.prog X.w (upd H a ob) h' a ob):
  Inv X pins σ (upd H a ob) {s with heap:=h',toks:=t'}:=
 I.write (x:=a) (e:=a) F (.inl rfl) (fun b q c z=>(hs.2 b c).trans z) E U
theorem xV{h':Heap}{x:List (Key × V)}(z:x.length<=sizeLine)(r:(a==sysModules)=false)(M:KV x vs)(R:h'.DictOf (aY P w) a vs):
  bW P w H' h' a (.dK x):=⟨z,r,vs,M,R⟩
theorem BO(n:A.units+1 < cLine)(I:Inv X pins σ H s)(g:pw H a y v H')(j:RelV y u)(p:RelV v r)(h: ∀m,Inv X pins σ H' m->Q () m):
  wpAny (model X.prog X.w) A (setItem (.ref a) u r) Q E s:=by
 rcases g with ⟨x,k,e,G,l,V⟩ | ⟨x,k,b,e,G,J,l,V⟩
 . subst G V;obtain⟨z,B,Y,M,S⟩:=FN I.bc e;have f:Y.length<=sizeLine:=by rw[<-M.length];exact z
   have C:(putK x k v).length<=sizeLine:=by have:=dU x k v;lia
   refine wpAny_setItem_pairs (hsz:=f) (vb j) S fun F t D=>h _ ?_;have W: ∃q,F.get? a=some q:=let ⟨q,_,_,R,_⟩:=t;⟨q,R⟩;exact i9 I (by rw[e];exact True.intro) D W (xV C B (M.put k p) t)
 . subst G V;cases (show u=Value.ref b from j);obtain⟨z,B,o,M,S⟩:=zF I.bc e;have f:o.length<=sizeLine:=by rw[<-Paired.length M];exact z
   have C:(putK x k v).length<=sizeLine:=by have:=dU x k v;lia
   refine wpAny_setItem_heap (hsz:=f) (tupleKind_room_in1 n) (sF I.bc J) S fun F t D=>h _ ?_;obtain⟨q,O,L,R,i,T,P,_,U⟩:=t;refine i9 I (by rw[e];exact True.intro) D ⟨q,R⟩ ⟨C,B,_,(M.put k J p).keeps fun c Z N=>?_,q,O,L,R,i,T,P,U⟩;rw[ah (zm N e (fun z=>nomatch z))];exact N
def OA(i:Expr):Prop:= ∀W j,subscripted i false W j=operate [W,j] (getItem W j)
theorem HH{prog:Program}{w:World}{A:Around}{E:Value->Shared->Prop}{s:Shared}{env:Env}{B k:Expr}{pos:Pos}{T id:String}(z:typeLookup (.type T) "__getitem__"=pure (some (.builtin id)))(hs:OA k)(h:wpAny (model prog w) A (eval B env) (fun o U=>wpAny (model prog w) A (eval k env) (fun i j=>j.TypeIs o T/\wpAny (model prog w) A (getItem o i) Q E j) E U) E s):
  wpAny (model prog w) A (eval (.Subscript B k pos) env) Q E s:=by
 refine Subscript_ (ae8 h (fun o U m=>ae8 m (fun i j F=>?_) fun _ _ x=>x) fun _ _ x=>x);obtain⟨y,F⟩:=F;unfold subscriptTail;refine aa5 ?_;rw[getitemInPython_of_ne y.not_modules];refine aa5 (wpAny_specialOf y z ?_);have fin:wpAny (model prog w) A (subscripted k false o i) (fun r l=>wpAny (model prog w) A (letTemporaryGo B o r >>=fun _=>pure r) Q E l) E j:=by
  rw[hs o i];exact wpAny_operating (ae8 F (fun r l G=>aa5 (wpAny_letTemporaryGo (ab2 G))) fun _ _ x=>x)
 first
  | exact ab2 (aa5 fin)
  | exact aa5 (ab2 (aa5 fin))
  | exact aa5 fin
theorem vH(I:Inv X pins σ H s)(g:mQ H a y o):s.TypeIs (.ref a) "dict":=by
 rcases g with ⟨x,k,e,_,_⟩ | ⟨x,k,b,e,_,_,_⟩
 . obtain⟨_,_,t,_,R⟩:=FL I.bc e;exact R.typeIs
 . obtain⟨_,_,f,_,R⟩:=FJ I.bc e;exact R.typeIs
def PU(A o:TE):TE:=fun b H Q=>A b H fun x k=>o b k fun y C=> ∃a v,x= .ref a/\mQ C a y (some v)/\Q v C
def P1(A o F:TE):TS:=fun D b H=>F b H fun v k=>A b k fun x C=>o b C fun y O=> ∃a t,x= .ref a/\pw O a y v t/\D.nx b t
theorem ky(m:X.A.units+1 < cLine)(l:PE X o td)(hi:PE X i ty)(hs:OA i):PE X (.Subscript o i pos) (PU td ty):=by
 intro b s c H Q I h;refine HH PySem.F.slot_dict_getitem.lookup hs (aP (l b s c H _ I h) fun u L ⟨x,k,W,d,p⟩=>aP (hi b L c k _ W p) fun q z f=>?_);obtain⟨y,C,J,n,a,v,r,g,Z⟩:=f;subst r;obtain rfl:u=Value.ref a:=d;exact⟨vH J g,BP m J g n fun D t j w=>⟨v,C,j,w,Z⟩⟩
theorem y6(n:X.A.units+1 < cLine)(m:PE X o td)(hi:PE X i ty)(d:PE X value tv)(hs:swapsWith value (some (.Subscript o i pos')) pos.line X.env=pure false):
  PS X (.Assign [.Subscript o i pos'] value pos) (P1 td ty tv):=by
 intro b s c H D I h;refine wpAny_Assign_Subscript (aP (d b s c H _ I h) fun r M ⟨v,k,W,q,p⟩=>aP (m b M c k _ W p) fun u B ⟨x,C,J,e,Z⟩=>aP (hi b B c C _ J Z) fun E F l=>?_) hs;obtain⟨y,O,j,z,a,t,w,g,P⟩:=l;subst w;obtain rfl:u=Value.ref a:=e;exact BO n j g z q fun Q L=>⟨c,t,L,P⟩
theorem FO(h:Heap)(c:sysModules < h.objs.size):bW P w H (h.push {cls:= .type "dict",data:= .dict #[]}) h.objs.size (.dK []):=
 ⟨ag0 _,ah6.mpr (Ne.symm (af4 c)),[],.nil,Heap.DictOf.new h⟩
theorem oT(h:Heap)(c:sysModules < h.objs.size):bW P w H (h.push {cls:= .type "dict",data:= .dict #[]}) h.objs.size (.dT []):=
 ⟨ag0 _,ah6.mpr (Ne.symm (af4 c)),[],.nil,_,#[],0,ac9 _ rfl,⟨rfl,rfl,rfl⟩,rfl,rfl,aj4⟩
def LR:TE:=fun _ H Q=> ∀p,H p=none->Q (.ref p) (upd H p (.dT []))
theorem DW:PE X (.Dict [] [] pos) LR:=fun b s c H Q I h=>
 wpAny_Dict_empty ⟨.ref s.heap.objs.size,_,I.laid (a:=s.heap.objs.size) (o:= .dT []) (t':=s.toks) (fun _ _ q=>aa7 _ q) (ab3 _) (oT s.heap I.big),rfl,h _ (I.bc.fresh (ab3 _))⟩
def wJ:List (TE × TE)->St->Hp->(List (V × V)->Hp->Prop)->Prop
 | [],_,H,Q=>Q [] H
 | (tk,tv)::r,σ,H,Q=>tk σ H fun x k=>tv σ k fun y C=>wJ r σ C fun Z O=>Q ((x,y)::Z) O
abbrev VV:List (V × V)->List (Value × Value)->Prop:=Paired fun p q=>RelV p.1 q.1/\RelV p.2 q.2
def TV(X:Cx)(pos:Pos)(D:List (Option Expr))(W:List Expr)(B:List (TE × TE)):Prop:=
 ∀(pins:List (Addr × Obj)) (s:Shared) (σ:St) (H:Hp) (Q:List (V × V)->Hp->Prop),Inv X pins σ H s->wJ B σ H Q->
  wpAny (model X.prog X.w) X.A (evalPairs (pairTrees D W X.env pos)) (fun t m=> ∃Z v,Inv X pins σ v m/\VV Z t/\Q Z v) X.xe s
theorem Ic:TV X pos [] [] []:=fun a s b H Q I h=>pairTrees_nil_walk ⟨[],H,I,.nil,h⟩
theorem uN(R:PE X k tk)(c:PE X v tv)(o:TV X pos ks vs LG):
  TV X pos (some k::ks) (v::vs) ((tk,tv)::LG):=fun a s b H Q I h=>
 pairTrees_cons_walk (aP (R a s b H _ I h) fun u L n=>(by obtain⟨x,l,W,e,p⟩:=n;exact(aP (c a L b l _ W p) fun r w m=>(by obtain⟨y,C,J,q,d⟩:=m;exact(
  aP (o a w b C _ J d) fun F t j=>(by obtain⟨Z,O,i,M,P⟩:=j;exact(⟨(x,y)::Z,O,i,.cons ⟨e,q⟩ M,P⟩)))))))
noncomputable def jJ(x A:List (Key × V)):List (Key × V):=A.foldl (fun G y=>putK G y.1 y.2) x
theorem KV.merge: ∀{more:List (Key × V)} {rs:List (Key × Value)} {aF:List (Key × V)} {vs:List (Key × Value)},KV more rs->KV aF vs->KV (jJ aF more) (merged vs rs):=by
 intro more rs aF vs r;unfold KV at r;induction r generalizing aF vs with
 | nil=>intro q;exact q
 | @cons p q ps qs h t ih=>
  intro H;have e:KV (putK aF p.1 p.2) (stored vs q.1 q.2):=by
   have:=H.put p.1 h.2;rw[<-h.1];exact this
  exact ih e
theorem jq: ∀(more aF:List (Key × V)),(jJ aF more).length<=aF.length+more.length
 | [],aF=>by show aF.length<=aF.length+0;lia
 | p::r,aF=>by
  have f:=jq r (putK aF p.1 p.2);have g:=dU aF p.1 p.2;show(jJ (putK aF p.1 p.2) r).length<=_;rw[ad3];lia
theorem oX: ∀{aF:List (Key × V)} {ws:List (Value × Value)},VV (aF.map fun y=>(kV y.1,y.2)) ws-> ∃o,Carries (aY P w) ws o/\KV aF o
 | [],_,r=>by rw[List.map_nil] at r;cases r;exact⟨[],True.intro,.nil⟩
 | p::aF,_,r=>by
  rw[ad5] at r;cases r with
  | @cons a b as bs h t=>
   obtain⟨o,c,q⟩:=oX (P:=P) (w:=w) t;obtain⟨T,u⟩:=b;exact⟨(p.1,u)::o,⟨vb h.1,rfl,c⟩,.cons ⟨rfl,h.2⟩ q⟩
def Ks(B:List (TE × TE)):TE:=fun b H Q=> ∀p,H p=none->wJ B b (upd H p (.dK [])) fun Z C=>C p=some (.dK [])/\ ∃x:List (Key × V),Z=x.map (fun y=>(kV y.1,y.2))/\x.length<=15/\Q (.ref p) (upd C p (.dK (jJ [] x)))
theorem Il(h:TV X pos keys values LG)(k:keys.all (·.isSome)=true)(y:keys.length=values.length)(j:keys≠ [])(C:keys.length<=15):PE X (.Dict keys values pos) (Ks LG):=by
 intro b s d H Q I q;have g:=I.bc.fresh (ab3 s.heap.objs.size);have W:=I.laid (a:=s.heap.objs.size) (o:= .dK []) (h':=s.heap.push {cls:= .type "dict",data:= .dict #[]}) (t':=s.toks) (fun _ _ q=>aa7 _ q) (ab3 _) (FO s.heap I.big);refine wpAny_Dict_walk (knd:=aY X.prog X.w) k y j C (aP (h b _ d _ _ W (q _ g)) fun O v l=>?_);obtain⟨n,N,J,M,e,x,A,m,Z⟩:=l;subst A;obtain⟨p,c,D⟩:=oX (P:=X.prog) (w:=X.w) M;obtain⟨z,t,G,L,R⟩:=FN J.bc e;cases L;refine⟨p,c,R,fun F r B=>⟨.ref s.heap.objs.size,_,?_,rfl,Z⟩⟩;have i:(jJ [] x).length<=sizeLine:=by
  have f:=jq x [];rw[ar4] at f;rw[ao6];lia
 have E: ∃q,F.get? s.heap.objs.size=some q:=let ⟨q,_,_,hq,_⟩:=r;⟨q,hq⟩;exact i9 J (by rw[e];exact True.intro) B E (xV i t (D.merge .nil) r)
end L2
namespace ZW
open PySem PySem.W PySem.Calls PyProof.Rows
theorem mI: ∀(ns:List Int) (vs:List Value),WellAll P h vs (ns.map WData.int)->IntsAre vs ns:=by
 intro ns;induction ns with
 | nil=>
  intro vs w;rw[List.map_nil] at w;cases w;exact .nil
 | cons n ns ih=>
  intro vs w;rw[ad5] at w;cases w with
  | cons a b=>
   cases a;exact .cons _ _ (ih _ b)
theorem AI{l:OpenLaw}(i:l.most=some n)(j:l.row.toRowW.claim.pre args=true)(E:WellAll P h vals args):
  ∃a t D,vals= [Value.ref a]/\args= [WData.list (D.map WData.int)]/\h.get? a=some {cls:= .type "list",data:= .seq t.toArray}/\IntsAre t D/\D.length<=n:=by
 have F:WShape.hasAll [] args [.list .int]=true:=(pre_splitW j).1;have m:l.pre.holds [] {args:=args}=true:=(pre_splitW j).2;obtain⟨d,r,rfl,f,g⟩:=hasAllW_cons F;obtain rfl:=hasAllW_nil g;obtain⟨e,rfl,T⟩:=hasW_list f;obtain⟨D,rfl⟩:=items_int T;have b:D.length<=n:=by
  unfold OpenLaw.pre at m;have H:(WTm.not (.lt (.lit (.int (n:Int))) (.len (.arg 0)))).holds [] {args:= [.list (D.map .int)]}=true:=by
   have H:=(holds_andW m).1;rw[i] at H;exact H
  have L:=condW_of H (w_not (w_lt w_lit (w_len_list (w_arg rfl))));rw[aa4] at L;refine Nat.le_of_not_lt fun q=>?_;have V:(n:Int) < ((D.length:Nat):Int):=by lia
  first
   | (rw[ab8 V] at L;exact absurd L (by decide))
   | (simp at L;lia)
 cases E with
 | cons w1 w2=>
  cases w2;cases w1 with
  | list ho Nu=>exact⟨_,_,D,rfl,rfl,ho,mI D _ Nu,b⟩
theorem AR(l:OpenLaw)(args:List WData):l.row.toRowW.claim.post args (.bool true) args=true:=
 postW_of (r:=l.row.toRowW) (X:=(true==true))
  (show WShape.has [] (.bool true) .bool=true by first | rfl | decide | simp [WShape.has,WShape.arms,WShape.armsAll])
  (show(WTm.eq .res (.lit (.bool true))).value [] {args:=args,res:=some (.bool true),after:=args}=some (.bool (true==true)) from w_eq_bool (w_res rfl) w_lit) rfl
theorem vU {l : OpenLaw} {d : DefRec} (h : l.most = some n) (E : d.params.defaults = []) (F : ∀ (w : World) (s₀ s₁ : Shared) (mg mb : Str -> Option Value) (fa : Addr) (o : Obj) (pm cd doc : Value) (a : Addr) (t : List Value) (ns : List Int),
   Ground q loose [] XP w s₀ mg mb s₁.heap->YP w s₁.heap->
   s₁.heap.get? fa=some o->o.data= .func (docDef d.name d.params d.body d.scope pm cd doc)->s₁.heap.CodeRec cd d.name->mg d.name=some (.ref fa)->
   s₁.heap.get? a=some {cls:= .type "list",data:= .seq t.toArray}->IntsAre t ns->ns.length<=n->s₁.gens= #[]->
   codeAny (model l.prog w) callerA (.call (.ref fa) ⟨[.ref a],[]⟩) (fun r m=>r= .ok (.ret (.bool true))/\OldK s₁.heap m.heap/\m.os=s₁.os/\AllBare m.gens) s₁):
  WalkO q loose XP YP l.row.toRowW d [] (fun f t=>PySem.call f t):=by
 intro w s₀ s₁ mg mb G Y fa o pm cd doc c N i v P p J S H Q C j u y L x;obtain rfl:c= .none:=Dflts.none p E;obtain rfl:N= .none:=Dflts.noKw p;obtain⟨a,t,ns,rfl,rfl,I,s,b⟩:=AI h j L;refine enter_call (aq1 (F w s₀ s₁ mg mb fa o pm cd doc a t ns G Y i (fd_plain v) P J I s b S) fun r m R=>?_);obtain⟨rfl,g,T,M⟩:=R;exact⟨.inl ⟨.bool true,.bool true,[],rfl,fun _=>rfl,.bool true,AR l _,fun _=>⟨List.Pairwise.nil,fun _ z=>(nomatch z)⟩⟩,g,T,M⟩
end ZW
namespace L2
open PySem PySem.Spec PyProof.Rows
theorem p6: ∀{vs:List Value} {ns:List Int},IntsAre vs ns->Vals (ns.map V.int) vs
 | _,_,.nil=> .nil
 | _,_,.cons n t h=> .cons ⟨t,rfl⟩ (p6 h)
def Oz(H:Hp):Prop:= ∀b,H b=none\/ ∃o e,H b=some (.wa o (.lst e))
theorem EF{K:PySem.W.Frag}{U:Shared}{vs:List Value}(y:K.In U.heap)(C:U.heap.Ns mainGlobals mg)(c:U.heap.Ns builtinsNs mb)(YV: ∀x:Str,x≠"__name__"->mb x=bootBuiltins x)(Wm:U.heap.NoLimit)(hg:U.gens= #[])(f:U.heap.get? a=some {cls:= .type "list",data:= .seq vs.toArray})(hi:IntsAre vs ns)(N:ns.length<=sizeLine)(hr:bC k callerA)(F: ∀L:Heap,K.In L->L.Ns mainGlobals mg->aK P w K mg L CX k fa fd [x] sp)(i: ∀(s:Shared) (u:Value),BindsTo s fd ⟨[u],[]⟩ [(x,u)])(Y: ∀H:Hp,Oz H->cc K H a (ns.map V.int)->sp [.ref a] H (fun v _=>v= .bl true) fun _ _ _=>False)(WO: ∀H e p,CX [] H U (fun _ _ _=>False) e p->False):
  codeAny (model P w) callerA (.call (.ref fa) ⟨[.ref a],[]⟩) (fun r p=>r= .ok (.ret (.bool true))/\OldK U.heap p.heap/\p.os=U.os/\AllBare p.gens) U:=by
 have O:=p6 hi;have j:=hi.length;have D: ∀H:Hp,Oz H->cc K H a (ns.map V.int)->jk P w H U.heap->(∀b,H b≠none->b=a)->(H a≠none->K.lookup a=none)->
   codeAny (model P w) callerA (.call (.ref fa) ⟨[.ref a],[]⟩) (fun r p=>r= .ok (.ret (.bool true))/\OldK U.heap p.heap/\p.os=U.os/\AllBare p.gens) U:=by
  intro H M hS J G hK;have S: ∀{b:Addr} {o:Obj},U.heap.get? b=some o->H b=none->(sQ U.heap H).get? b=some o:=fun e n=>EZ e n;have g: ∀{b:Addr} {o:Obj} {B:Array DictEntry} {A:Nat},U.heap.get? b=some o->o.data= .dict B A->H b=none:=fun{b o B A} e d=>by
   cases q:H b with
   | none=>rfl
   | some u=>
    have Q:b=a:=G b (by rw[q];simp);subst Q;rw[f] at e;cases e;have d':Data.seq vs.toArray _=Data.dict B A:=d;cases d'
  have l: ∀{b:Addr} {m:Str->Option Value},U.heap.Ns b m->(sQ U.heap H).Ns b m:=fun{b m} Z=>(by obtain⟨o,B,A,e,d,r⟩:=Z;exact(⟨o,B,A,S e (g e d),d,r⟩))
  have T:K.In (sQ U.heap H):=fun b o e=>S (y b o e) (by
   cases q:H b with
   | none=>rfl
   | some u=>
    have Q:b=a:=G b (by rw[q];simp);subst Q;rw[hK (by rw[q];simp)] at e;cases e)
  have hM:Mod K mg (sQ U.heap H):=⟨T,l C,⟨mb,l c,YV⟩,let ⟨mc,h1,h2⟩:=Wm;⟨mc,l h1,h2⟩⟩
  have e0:yt P w K mg (sQ U.heap H) callerA [] U H:=⟨rfl,hM,fun b o e=>IM e,Nat.le_of_eq (Bu _ _),trivial,fun b c=>absurd (show b∈([]:List Addr) from c) (by simp),J,.of_eq hg⟩
  refine aq1 ((F _ T (l C)).run callerA [] U H ⟨[.ref a],[]⟩ [.ref a] [.ref a] _ _ hr e0 (i U (.ref a)) (.cons rfl .nil) (Y H M hS)) fun r p h=>?_;cases r with
  | error e=>exact(WO H e p h).elim
  | ok fl=>
   cases fl with
   | next=>exact False.elim h
   | brk=>exact False.elim h
   | cont=>exact False.elim h
   | ret u=>
    obtain⟨v,H',os,I,X,Wh,r',q⟩:=h;have q':v= .bl true:=q;subst q';obtain rfl:u=Value.bool true:=r';refine⟨rfl,OldK.of_keep fun b o e=>?_,os,I⟩;cases q:H b with
    | none=>exact X.keep b o e q (by intro z;exact absurd (show b∈([]:List Addr) from z) (by simp)) (by simp)
    | some u=>
     rcases M b with z | ⟨ob,xs,z⟩
     . rw[q] at z;cases z
     . have z2:=X.sV b ob _ z;obtain⟨E,_⟩:=J b _ z;obtain⟨e2,_⟩:=Wh b _ z2;rw[e] at E;cases E;exact e2
 cases R:K.lookup a with
 | some o=>
  have e:=y a o R;rw[f] at e;cases e;refine D (fun _=>none) (fun _=> .inl rfl) (.inr ⟨_,vs.toArray,_,R,rfl,rfl,rfl,by rw[ac2,j];exact N,by simpa using O⟩) (fun b u z=>by have t:(none:Option HO)=some u:=z;cases t) (fun b z=>absurd rfl z) fun z=>absurd rfl z
 | none=>
  refine D (fun b=>if b=a then some (.wa {cls:= .type "list",data:= .seq vs.toArray} (.lst (ns.map V.int))) else none) (fun b=>?_) (.inl (.inr ⟨{cls:= .type "list",data:= .seq vs.toArray},if_pos rfl⟩)) (fun b u z=>?_) (fun b z=>?_) fun _=>R
  . by_cases c:b=a
    . exact .inr ⟨_,_,if_pos c⟩
    . exact .inl (if_neg c)
  . by_cases c:b=a
    . have t:=(if_pos c).symm.trans z;cases t;subst c;exact⟨f,by rw[aa4];exact N,vs,_,O,f⟩
    . have t:=(if_neg c).symm.trans z;cases t
  . by_cases c:b=a
    . exact c
    . exact absurd (if_neg c) z
theorem Hy {l : PySem.W.OpenLaw} {n k : Nat} {q : Program} {t : List Str} {O : (Str -> Option Value) -> Heap -> Prop} {I : World -> Heap -> Prop} {d : DefRec} {K : Params -> PySem.W.Frag} {CX : World -> Ho} {sp : World -> Sp} (Q : l.most = some n) (m : n <= sizeLine) (E : d.params.defaults = []) (R : bC k callerA) (P : ∀ (w : World) (h : Heap), I w h -> (K w.params).In h) (F : ∀ (w : World) (mg : Str -> Option Value) (fa : Addr) (h : Heap), (K w.params).In h -> h.Ns mainGlobals mg -> mg d.name = some (.ref fa) ->
   ∃X:FuncData,(∀(s:Shared) (u:Value),BindsTo s X ⟨[u],[]⟩ [(x,u)])/\
    ∀L:Heap,(K w.params).In L->L.Ns mainGlobals mg->aK l.prog w (K w.params) mg L (CX w) k fa X [x] (sp w)) (A: ∀(w:World) (H:Hp) (a:Addr) (ns:List Int),ns.length<=n->Oz H->cc (K w.params) H a (ns.map V.int)->sp w [.ref a] H (fun v _=>v= .bl true) fun _ _ _=>False) (N: ∀(w:World) (H:Hp) (s:Shared) (e:Value) (s':Shared),CX w [] H s (fun _ _ _=>False) e s'->False):
  PySem.W.WalkO q t O I l.row.toRowW d [] (fun f z=>PySem.call f z):=by
 refine ZW.vU Q E fun w D U mg mb fa o pm cd p a z ns G Y ho hd Z M J r c S=>?_;have y:=P w _ Y;obtain⟨X,j,B⟩:=F w mg fa _ y G.T.g M;exact EF y G.T.g G.T.b G.T.builtins G.T.nolimit S J r (ad9 c m) R B j (fun H C i=>A w H a ns c C i) fun H e s'=>N w H U e s'
noncomputable def bg(s:Stmt):Arguments:=match s with
 | .FunctionDef _ a _ _ _ _ _ _ _ _=>a
 | _=>{posonlyargs:= [],args:= [],vararg:=none,kwonlyargs:= [],kw_defaults:= [],kwarg:=none,defaults:= []}
noncomputable def aS(s:Stmt):List Stmt:=match s with
 | .FunctionDef _ _ b _ _ _ _ _ _ _=>b
 | _=> []
noncomputable def ab(s:Stmt):Scope:=match s with
 | .FunctionDef _ _ _ _ _ _ sc _ _ _=>sc
 | _=>{kind:= .function,names:= [],isGenerator:=false,isCoroutine:=false}
abbrev bD:Ho:=fun _ _ _ _ _ _=>False
abbrev E0:XK:=fun _ _ _=>False
theorem n4:Passes bD X E0:=fun _ _ _ _ _ _ _ h=>h.elim
structure dj(K:PySem.W.Frag)(x qual:Str)(st:Stmt)(f:Addr)(fd:FuncData):Prop where
 ex: ∃(oc:Value) (od:Option Addr) (kV doc pm:Value) (an:Option Addr) (bq ct:Value) (Mz:Array (Option Value)),
  fd=PySem.W.fnOf x qual (bg st) (aS st) (ab st) .none kV doc pm an bq ct/\K.lookup f=some ⟨oc,od,.func fd,Mz⟩/\PySem.W.codeIn K bq qual=true
 kp:PySem.W.keepIn K (.ref f)=true
section
variable{P:Program}{w:World}{K:PySem.W.Frag}{mg:Str->Option Value}{base:Heap}
theorem dj.ok {x qual : Str} {st : Stmt} {k : Nat} (F : dj K x qual st f fd) (S : av N ps (ab st)) (v : ∀ u H Q E, sp u H Q E -> u.length = ps.length) (T : ∀ (bq : Value) (A : Around) (outer : List Env) (s : Shared) (H : Hp) (u : List V) (Q : VK) (E : XK), bC k (A.deeper (envOfC qual (ab st) s.heap.objs.size f bq)) -> sp u H Q E ->
   ∃t,tN (mO bD P w K mg base N qual (ab st) f bq A outer s H E).Hd (aS st) t/\t {nx:=fun _ y=>Q .aN y,rt:=Q} (start N u) H):aK P w K mg base bD (k+1) f fd ps sp:=by
 obtain⟨C,G,I,l,p,X,bq,L,o,rfl,n,R⟩:=F.ex;refine RE n R S v fun A outer s H u Q E m B=>?_;obtain⟨t,h,q⟩:=T bq A outer s H u Q E m B;exact⟨t,h.Hd,q⟩
theorem iQ{x qual:Str}{st:Stmt}{f:Addr}{C:Value}{G X:Option Addr}{o:Array (Option Value)}{I m n j ct:Value}(l:K.lookup f=some ⟨C,G, .func (PySem.W.fnOf x qual (bg st) (aS st) (ab st) .none I m n X j ct),o⟩)
  (c:PySem.W.codeIn K j qual=true) (k:PySem.W.keepIn K (.ref f)=true):dj K x qual st f (PySem.W.fnOf x qual (bg st) (aS st) (ab st) .none I m n X j ct):=⟨⟨C,G,I,m,n,X,j,ct,o,rfl,l,c⟩,k⟩
end
theorem fh(m:bC k A):A.units+1 < cLine:=an9 (Nat.add_le_add_left (by decide:1<=64) _) m.units
theorem qe(h:n<=1000):n < sizeLine:=an9 h (by decide)
theorem pv(i:Nat)(p:X.N[i]?=some x:=by rfl)(c:TU X.env.scope x:=by first | exact Or.inl rfl | exact Or.inr (Or.inl rfl) | exact Or.inr (Or.inr rfl))(r:(x==("__debug__":Str))=false:=by decide)(P:(x==("__classdict__":Str))=false:=by decide):PE X (.Name x pos) (fV i):=DP p c r P
theorem aW{A B:Prop}(h:B):if false=true then A else B:=by
 rw[if_neg ac3];exact h
theorem cm{A B:Prop}(h:A):if true=true then A else B:=by
 rw[if_pos rfl];exact h
theorem VW{c A B:Prop} [Decidable c](f:c->A)(g: ¬c->B):if c then A else B:=by
 by_cases h:c
 . rw[if_pos h];exact f h
 . rw[if_neg h];exact g h
def aD(H H':Hp):Prop:= ∀b o,H b=some o->H' b=some o
noncomputable def oY(scope:Scope)(i:List (Str × Addr))(C:Addr)(env:Env):Env:=
 {scope:=relabel scope env,locals:=C,globals:=env.globals,cells:=cellsFrom (C+1) scope.names i,qual:=env.qual,func:=none,code:=env.code,frame:=env.frame,builtins:=env.builtins}
noncomputable def eD(X:Cx)(N:List Str)(scope:Scope)(s:Shared)(H:Hp)(i:List (Str × Addr))(C:Addr)(ex:List Addr):Cx:=
 {X with N:=N,s₀:=s,H₀:=H,env:=oY scope i C X.env,outer:=X.stack,ex:=ex,fn:=fun x=>decide (scope.names.lookup x=some .cell),pn:= [],xe:=fun _ _=>False}
theorem bp: ∀(names:List (Str × NameKind)) (n:Nat) (acc:List (Str × Addr)),cellsFrom n names acc=cellsFrom n names []++acc
 | [],_,_=>rfl
 | (name,kind)::r,n,acc=>by
  unfold cellsFrom;split
  . rw[bp r (n+1) ((name,n)::acc),bp r (n+1) [(name,n)],ag8];rfl
  . exact bp r n acc
theorem fR: ∀(names:List (Str × NameKind)) (n:Nat) {x:Str} {c:Addr},(x,c)∈cellsFrom n names []->(x,NameKind.cell)∈names
 | [],_,_,_,h=>by simp [cellsFrom] at h
 | (name,kind)::r,n,x,c,h=>by
  unfold cellsFrom at h;split at h
  . rename_i R;rw[bp] at h;rcases ad8.mp h with q | q
    . exact ab5 _ (fR r _ q)
    . have e:(x,c)=(name,n):=by simpa using q
      cases e;have:kind= .cell:=by simpa using R
      subst this;exact ab4
  . exact ab5 _ (fR r _ h)
theorem fO{α:Type}: ∀{l:List (Str × α)} {x:Str} {v:α},(l.map (·.1)).Nodup->(x,v)∈l->l.lookup x=some v
 | (k,w)::r,x,v,nd,h=>by
  rw[ad5] at nd;obtain⟨f,g⟩:=ak1.mp nd;rw[ae7];rcases ab9.mp h with e | F
  . cases e;simp
  . have y : (x == k) = false := by
      rw[ah6];intro e;exact f (e▸ab6.mpr ⟨(x,v),F,rfl⟩)
    rw[y];exact fO g F
theorem iH{env:Env}: ∀{names:List (Str × NameKind)} {x:Str} {k:NameKind},
  (names.map fun(n,k)=>if (k==NameKind.free && env.scope.kind== .function && env.kindOf n==some .cell) then(n,NameKind.cell) else(n,k)).lookup x=some k->
  names.lookup x=some k\/(k= .cell/\names.lookup x=some .free)
 | [],_,_,h=>by simp at h
 | (n,k0)::r,x,k,h=>by
  have y:= @iH env r x k;rw[ad5] at h;cases i:x==n with
  | true=>
   by_cases l:(k0==NameKind.free && env.scope.kind== .function && env.kindOf n==some .cell)=true
   . dsimp only at h;rw[if_pos l,ae7,i] at h;cases h;right;refine⟨rfl,?_⟩;rw[ae7,i];simp only [ae3] at l;have:k0= .free:=by simpa using l.1.1
     rw[this]
   . dsimp only at h;rw[if_neg l,ae7,i] at h;left;rw[ae7,i];exact h
  | false=>
   have F:(r.map fun(n,k)=>if (k==NameKind.free && env.scope.kind== .function && env.kindOf n==some .cell) then(n,NameKind.cell) else(n,k)).lookup x=some k:=by
    by_cases l:(k0==NameKind.free && env.scope.kind== .function && env.kindOf n==some .cell)=true
    . dsimp only at h;rw[if_pos l,ae7,i] at h;exact h
    . dsimp only at h;rw[if_neg l,ae7,i] at h;exact h
   rw[ae7,i];exact y F
theorem eB{env:Env}: ∀{names:List (Str × NameKind)} {x:Str},names.lookup x=some .free->
  (names.map fun(n,k)=>if (k==NameKind.free && env.scope.kind== .function && env.kindOf n==some .cell) then(n,NameKind.cell) else(n,k)).lookup x=some .free\/
  (names.map fun(n,k)=>if (k==NameKind.free && env.scope.kind== .function && env.kindOf n==some .cell) then(n,NameKind.cell) else(n,k)).lookup x=some .cell
 | [],_,h=>by simp at h
 | (n,k0)::r,x,h=>by
  have y:= @eB env r x;rw[ad5];dsimp only;cases i:x==n with
  | true=>
   rw[ae7,i] at h;cases h;by_cases l:(NameKind.free==NameKind.free && env.scope.kind== .function && env.kindOf n==some .cell)=true
   . right;rw[if_pos l,ae7,i]
   . left;rw[if_neg l,ae7,i]
  | false=>
   rw[ae7,i] at h;by_cases l:(k0==NameKind.free && env.scope.kind== .function && env.kindOf n==some .cell)=true
   . rw[if_pos l];simp only [ae7,i];exact y h
   . rw[if_neg l];simp only [ae7,i];exact y h
theorem gQ{scope:Scope}{env:Env}(h: ∀x∈scope.names,x.2= .free-> ∃c,env.cells.lookup x.1=some c):
  ∃j,closureFor scope env=pure j/\(∀x c,(x,c)∈j->env.cells.lookup x=some c)/\ ∀x,(x,NameKind.free)∈scope.names-> ∃c,(x,c)∈j:=by
 have M: ∀(names:List (Str × NameKind)) (G:List (Str × Addr)),(∀x∈names,x.2= .free-> ∃c,env.cells.lookup x.1=some c)->(∀x c,(x,c)∈G->env.cells.lookup x=some c)->
   ∃j,(forIn names G (fun(x:Str × NameKind) (N:List (Str × Addr))=>match x with | (name,kind)=>if kind== .free then(do let a<-cellOf env name;pure (ForInStep.yield ((name,a)::N))) else pure (ForInStep.yield N)):Sem (List (Str × Addr)))=pure j/\
    (∀x c,(x,c)∈j->env.cells.lookup x=some c)/\(∀p∈G,p∈j)/\ ∀x,(x,NameKind.free)∈names-> ∃c,(x,c)∈j:=by
  intro names;induction names with
  | nil=>intro G _ f;exact⟨G,by rw[List.forIn_nil],f,fun _ s=>s,fun x i=>by simp at i⟩
  | cons p r ih=>
   intro G g f;obtain⟨n,k⟩:=p;rw[List.forIn_cons];by_cases R:(k==NameKind.free)=true
   . have o:k= .free:=by simpa using R
     obtain⟨c,l⟩:=g (n,k) ab4 o;obtain⟨j,u,y,W,d⟩:=ih ((n,c)::G) (fun x i=>g x (ab5 _ i)) (fun x X i=>by
      rcases ab9.mp i with e | i
      . cases e;exact l
      . exact f x X i)
     refine⟨j,?_,y,fun q Q=>W q (ab5 _ Q),fun x i=>?_⟩
     . dsimp only;rw[if_pos R];have:cellOf env n=pure c:=by unfold cellOf;rw[l]
       rw[this];exact u
     . rcases ab9.mp i with e | i
       . cases e;exact⟨c,W _ ab4⟩
       . exact d x i
   . obtain⟨j,u,y,W,d⟩:=ih G (fun x i=>g x (ab5 _ i)) f;refine⟨j,?_,y,W,fun x i=>?_⟩
     . dsimp only;rw[if_neg R];exact u
     . rcases ab9.mp i with e | i
       . cases e;exact absurd rfl R
       . exact d x i
 obtain⟨j,u,y,_,d⟩:=M scope.names [] h (fun _ _ i=>nomatch i);refine⟨j,?_,y,d⟩;unfold closureFor;first
  | exact u
  | (simp only [bind_pure];exact u)
theorem tD (I : Nat -> Shared -> Prop) (turn : ∀ n s, I n s -> wpAny (model prog w) A (pyNext it) (fun r U => match r with
   | none=>R (.ok .next) U
   | some v=>wpAny (model prog w) A (letOwnedTupleGo target it v) (fun _ D=>wpAny (model prog w) A (assign target env v) (fun _ i=>
     wpAny (model prog w) A (forIn ifs true fun c r=>if r=true then do let u<-isTrue c env (eval c env);pure (ForInStep.yield u) else pure (ForInStep.yield r)) (fun u l=>
      if u=true then wpAny (model prog w) A (eval elt env) (fun x H=>
       wpAny (model prog w) A (call (.builtin "list.append") [acc,x]) (fun _ Y=> ∃m,m < n/\I m Y) (fun _ _=>False) H) (fun _ _=>False) l
      else∃m,m < n/\I m l) (fun _ _=>False) i) (fun _ _=>False) D) (fun _ _=>False) U) (fun _ _=>False) s) (n:Nat) (h:I n s):codeAny (model prog w) A (.compLoop (.ListComp elt [⟨target,iter,ifs,0⟩] scope pos) 0 it acc env) R s:=by
 refine codeAny_loop rfl I (fun n s J=>?_) n h;show wpAny _ A ((compTurn (.ListComp elt [⟨target,iter,ifs,0⟩] scope pos) 0 it acc env).onRaise (fun x=>do noteFrame x env;theTreesLotGoes x)) _ _ s;refine wpAny_noted ?_;rw[compTurn_list];refine aa5 (ai5 (aa5 (ae8 (turn n s J) (fun r U k=>?_) fun _ _ F=>F.elim)));cases r with
 | none=>exact ab2 k
 | some v=>
  refine aa5 (ae8 k (fun _ D B=>?_) fun _ _ F=>F.elim);refine aa5 (ae8 B (fun _ i E=>aa5 (ae8 E (fun u l G=>?_) fun _ _ F=>F.elim)) fun _ _ F=>F.elim);cases u with
  | false=>exact ab2 ⟨rfl,G⟩
  | true=>
   exact aa5 (aa5 (ae8 G (fun x H Z=>aa5 (ae8 Z (fun _ Y P=>ab2 (ab2 ⟨rfl,P⟩)) fun _ _ F=>F.elim)) fun _ _ F=>F.elim))
def PF(X:Cx)(ifs:List Expr)(t:TT):Prop:=
 ∀(pins:List (Addr × Obj)) (s:Shared) (σ:St) (H:Hp) (Q:Bool->Hp->Prop),Inv X pins σ H s->t σ H Q->
  wpAny (model X.prog X.w) X.A (forIn ifs true fun c r=>if r=true then do let u<-isTrue c X.env (eval c X.env);pure (ForInStep.yield u) else pure (ForInStep.yield r)) (TP X pins σ Q) X.xe s
def PB:TT:=fun _ H Q=>Q true H
theorem Mv:PF X [] PB:=fun _ _ _ H _ I h=>wpAny_tests_nil ⟨H,I,h⟩
theorem Mu(h:PT X c t):PF X [c] t:=fun a s b H Q I f=>wpAny_tests_one (h a s b H Q I f)
noncomputable def lB(nt:Nat)(js:List Nat)(b:St):St:=List.replicate nt none++js.map fun j=>(b[j]?).join
structure k9(X:Cx)(N:List Str)(nt:Nat)(js:List Nat)(scope:Scope):Prop where
 kind:scope.kind= .function
 nd:(scope.names.map (·.1)).Nodup
 len:nt<=N.length
 ZK:js.map (fun j=>X.N[j]?)=(N.drop nt).map some
 fr: ∀x∈N.drop nt,scope.names.lookup x=some .free
 OT: ∀x∈scope.names,x.2= .free->X.env.kindOf x.1=some .cell\/X.env.kindOf x.1=some .free
theorem k9.names(S:k9 X N nt js scope): ∀x∈scope.names,x.2= .local->scope.names.lookup x.1=some .local:=fun x h e=>by
 obtain⟨n,k⟩:=x;cases e;exact fO S.nd h
theorem l5(S:k9 X N nt js scope)(hc:X.calm=true)(I:Inv X pins σ H s)(D: ∀b∈fp,dW X pins H b)(Z: ∀b∈fp,b < s.heap.objs.size)(c1: ∀x c,(x,c)∈cl->X.env.cells.lookup x=some c)(c2: ∀x,(x,NameKind.free)∈scope.names-> ∃c,(x,c)∈cl):
  Inv (eD X N scope s H cl s.heap.objs.size fp) [] (lB nt js σ) H {s with heap:=pushCells (s.heap.push {cls:= .type "dict",data:= .dict #[]}) scope.names,toks:=tk}:=by
 have A: ∀b o,s.heap.get? b=some o->(pushCells (s.heap.push {cls:= .type "dict",data:= .dict #[]}) scope.names).get? b=some o:=fun b o e=>al9 _ _ b o (aa7 _ e);have F:=cellsFrom_ok scope.names (s.heap.push {cls:= .type "dict",data:= .dict #[]}) (s.heap.objs.size+1) [] ⟨fun _ _ hm=>(nomatch hm),List.Pairwise.nil⟩ (by rw[ag4];exact ab3 _);rw[ag4] at F;have split: ∀x c,(cellsFrom (s.heap.objs.size+1) scope.names cl).lookup x=some c->(x,c)∈cellsFrom (s.heap.objs.size+1) scope.names []\/(x,c)∈cl:=fun x c e=>by
  rw[bp] at e;exact ad8.mp (ah0 e)
 have P: ∀x c,(x,c)∈cl->c < s.heap.objs.size:=fun x c h=>by
  obtain⟨v,q⟩:=I.cell x c (c1 x c h);exact q.lt
 have U: ∀x c,(x,c)∈cellsFrom (s.heap.objs.size+1) scope.names []->s.heap.objs.size+1<=c:=fun x c h=>(F.empty x c h).2;have O: ∀b,s.heap.objs.size<=b->H b=none:=fun b f=>I.bc.fresh f;have W: ∀x,scope.names.lookup x=some .free-> ∀c,X.env.cells.lookup x=some c->(cellsFrom (s.heap.objs.size+1) scope.names cl).lookup x=some c:=fun x E c R=>by
  obtain⟨c',KU⟩:=c2 x (ah0 E);have w:(cellsFrom (s.heap.objs.size+1) scope.names []).lookup x=none:=by
   cases e:(cellsFrom (s.heap.objs.size+1) scope.names []).lookup x with
   | none=>rfl
   | some d=>
    have:=fO S.nd (fR _ _ (ah0 e));rw[E] at this;cases this
  have B: ∃d,cl.lookup x=some d:=by
   cases e:cl.lookup x with
   | some d=>exact⟨d,rfl⟩
   | none=>
    exfalso;have: ∀{l:List (Str × Addr)},(x,c')∈l->l.lookup x≠none:=fun{l}=>by
     induction l with
     | nil=>intro h;simp at h
     | cons p r ih=>
      intro h;obtain⟨k,v⟩:=p;rw[ae7];cases f:x==k with
      | true=>simp
      | false=>
       rcases ab9.mp h with q | q
       . cases q;simp at f
       . exact ih q
    exact this KU e
  obtain⟨d,hd⟩:=B;have:d=c:=by
   have:=c1 x d (ah0 hd);rw[R] at this;cases this;rfl
  subst this;rw[bp,List.lookup_append,w,hd];rfl
 have Q: ∀b,b≠X.env.locals->b∉X.fs->b∉tT X.stack:=fun b t g f=>(ab9.mp (I.wK b f)).elim t g;refine⟨⟨I.ok.mod,S.kind,I.ok.glob,I.ok.blt,ab3 _,fun x y c w B=>?_,fun x E=>?_,fun x c t g=>?_,I.ok.hd,I.ok.frames,.inl rfl,fun b f=>⟨?_,fun x c e=>?_⟩,fun b o e=>⟨I.bk b o e,(I.bs b o e).2⟩,?_,fun b o e f=>?_,fun b f=>?_,I.stack,I.yH⟩,
  rfl,I.bare,Un.kept A,⟨_,(Heap.Ns.new s.heap (.type "dict")).keeps (al9 _ _),fun i x v w B e3=>?_⟩,fun x c e=>?_,O _ (ab3 _),fun x c e=>?_,fun p hp=>absurd (show p∈([]:List (Addr × Obj)) from hp) (by simp),I.bc.kept A,?_⟩
 . rcases split x c w with t | t <;> rcases split y c B with g | g
   . exact name_of_addr F.apart t g
   . exact absurd (ae0 (P y c g) (ap7 (U x c t))) (ag6 _)
   . exact absurd (ae0 (P x c t) (ap7 (U y c g))) (ag6 _)
   . exact I.ok.inj x y c (c1 x c t) (c1 y c g)
 . have T : scope.names.lookup x = some .cell -> ∃ c, (cellsFrom (s.heap.objs.size + 1) scope.names cl).lookup x = some c := fun h => by
     obtain⟨c,e⟩:=kS (n:=s.heap.objs.size+1) h;exact⟨c,by rw[bp,List.lookup_append,e];rfl⟩
   have a:scope.names.lookup x=some .free-> ∃c,(cellsFrom (s.heap.objs.size+1) scope.names cl).lookup x=some c:=fun h=>by
    obtain⟨c,e⟩:=I.ok.has x (S.OT _ (ah0 h) rfl);exact⟨c,W x h c e⟩
   rcases E with h | h <;> rcases iH h with q | ⟨z,q⟩
   . exact T q
   . exact a q
   . exact a q
   . cases z
 . have t:scope.names.lookup x=some .cell:=by simpa [eD] using t
   obtain⟨d,e⟩:=kS (n:=s.heap.objs.size+1) t;have g:(cellsFrom (s.heap.objs.size+1) scope.names cl).lookup x=some c:=g;rw[bp,List.lookup_append,e] at g;have:d=c:=by simpa using g
   subst this;exact ap7 (U x d (ah0 e))
 . exact af4 (Z b f)
 . rcases split x c e with h | h
   . exact aq2 (ae0 (Z b f) (ap7 (U x c h)))
   . exact(D b f).2.2.2.2.1 x c (c1 x c h)
 . exact ad9 I.ok.JW I.sz
 . rcases(D b f).2.2.2.1 with z | z
   . exact I.ok.Et b o e z
   . exact absurd (ae0 (ad7 e) (ad9 I.ok.JW z)) (ag6 _)
 . exact Q b (D b f).2.1 (D b f).2.2.1
 . have hi : nt <= i := by
     apply Nat.le_of_not_lt;intro eM;unfold lB at B;rw[ae4 (by simpa using eM),ad2,if_pos eM] at B;cases B
   have J:(js.map fun j=>(σ[j]?).join)[i - nt]?=some (some v):=by
    unfold lB at B;rw[af2 (by simpa using hi),ah5] at B;exact B
   rw[aa9] at J;have Y:(N.drop nt)[i - nt]?=some x:=by
    rw[List.getElem?_drop];have:nt+(i - nt)=i:=by lia
    rw[this];exact w
   cases V:js[i - nt]? with
   | none=>rw[V] at J;cases J
   | some j=>
    rw[V] at J;have C:(σ[j]?).join=some v:=by simpa using J
    have G:σ[j]?=some (some v):=by
     cases q:σ[j]? with
     | none=>rw[q] at C;cases C
     | some o=>rw[q] at C;simpa using C
    have hX:X.N[j]?=some x:=by
     have:=af7 (fun l=>l[i - nt]?) S.ZK;simp only [aa9,V,Y,Option.map_some] at this;exact Option.some.inj this
    have L:=S.fr x (ac8 Y);have hk:=S.OT _ (ah0 L) rfl;obtain⟨m,_,hl⟩:=I.loc;obtain⟨u,ru,lk⟩:=hl j x v hX G (by rcases hk with q | q;exact .inr (.inl q);exact .inr (.inr q));refine⟨u,ru,?_⟩;rcases lk with ⟨M,_⟩ | ⟨_,c,Nr,qr⟩
    . rcases hk with q | q <;> rw[q] at M <;> cases M
    . refine .inr ⟨?_,c,W x L c Nr,qr.keeps A⟩;rcases eB (env:=X.env) L with q | q
      . exact .inr q
      . exact .inl q
 . rcases split x c e with h | h
   . exact⟨none,(F.empty x c h).1⟩
   . obtain⟨v,q⟩:=I.cell x c (c1 x c h);exact⟨v,q.keeps A⟩
 . rcases split x c e with h | h
   . exact O _ (ap7 (U x c h))
   . exact I.iS x c (c1 x c h)
 . unfold lB;show _=N.length;rw[ac1,ah5,aa4];have:=af7 List.length S.ZK;rw[aa4,aa4,an3] at this;have:=S.len;lia
def k6(nt:Nat)(g:TG):Prop:= ∀v σ H (Q:St->Hp->Prop),g v σ H Q->g v σ H fun X w=>Q X w/\X.length=σ.length/\ ∀k,nt<=k->X[k]?=σ[k]?
def Ai(nt:Nat)(g:Ow):Prop:= ∀vs σ H (Q:St->Hp->Prop),g vs σ H Q->g vs σ H fun X v=>Q X v/\X.length=σ.length/\ ∀k,nt<=k->X[k]?=σ[k]?
theorem bf(h:i < nt:=by decide):k6 nt (cB i):=fun v b H Q q=>⟨q,by simp,fun k R=>by rw[ab7 (by lia)]⟩
theorem Fj:Ai nt xP:=fun t b H Q U=>(by obtain⟨e,q⟩:=U;exact(⟨e,q,rfl,fun _ _=>rfl⟩))
def Ah(g:Ow):Prop:= ∀vs σ H (Q Q':St->Hp->Prop),(∀X v,Q X v->Q' X v)->g vs σ H Q->g vs σ H Q'
theorem qv:Ah xP:=fun t b H Q P R w=>(by obtain⟨e,q⟩:=w;exact(⟨e,R _ _ q⟩))
theorem xN(l:Ah u):Ah (fF (cB i) u):=fun t b H Q P R f=>(by obtain⟨v,r,e,q⟩:=f;exact(⟨v,r,e,l r _ _ Q P R q⟩))
theorem qx(h:i < nt:=by decide)(A:Ah u)(l:Ai nt u):Ai nt (fF (cB i) u):=fun t b H Q U=>(by obtain⟨v,r,e,q⟩:=U;exact(by
 refine⟨v,r,e,A _ _ _ _ _ (fun X w z=>?_) (l r (b.set i (some v)) H Q q)⟩;obtain⟨N,o,J⟩:=z;refine⟨N,by simpa using o,fun k R=>?_⟩;rw[J k R,ab7 (by lia)]))
theorem Fi{nt n:Nat}{K:PySem.W.Frag}(h:Ai nt t):k6 nt (BB K n t):=fun v b H Q w=>(by obtain⟨a,f,e,x,l,q⟩:=w;exact(⟨a,f,e,x,l,h f b H Q q⟩))
def Ha(nt:Nat)(js:List Nat)(g:TG)(u:TT)(j:TE)(c:St)(Q:VK)(D:Addr)(J:It)(s:Hp):Prop:=
 ∃W:Nat->Nat->List V->Hp->Prop,(∃m,W 0 m [] s)/\ ∀i m G H,W i m G H->
  (J.stop i H/\Q (.ref D) H)\/(J.go i H/\G.length < sizeLine/\ ∃B:List V->Hp->Prop,(∀S w,B S w-> ∃a,a < m/\W (i+1) a S w)/\ ∀x w,J.wy i H x w->g x (lB nt js c) w fun L C=>
   u L C fun b O=>if b=true then j L O fun v t=>t D=some (.lst G)/\B (G++ [v]) (upd t D (.lst (G++ [v]))) else B G O)
def C6(nt:Nat)(js:List Nat)(l:TI)(g:TG)(t:TT)(j:TE):TE:=fun b H Q=>l b H fun J k=> ∀D,k D=none->Ha nt js g t j b Q D J (upd k D (.lst []))
theorem fL{s:Shared}(h: ∀u:Env,{u with scope:=relabel scope env}=oY scope cl s.heap.objs.size env->u.locals=s.heap.objs.size->Q u {s with heap:=pushCells (s.heap.push {cls:= .type "dict",data:= .dict #[]}) scope.names}):
  wpAny M A (newFunctionEnv scope env.globals cl [] env.qual none .none (some env)) Q E s:=by
 simp only [newFunctionEnv,Option.isSome_some,ar2];refine aa5 (wpAny_alloc ?_);refine aa5 (wpAny_layCells _ (fun U J R=>by cases S:J==NameKind.cell <;> simp [S]) _ _ _ _ ?_);rw[show({s with heap:=s.heap.push {cls:= .type "dict",data:= .dict #[]}}:Shared).heap.objs.size=s.heap.objs.size+1 from ag4 ..];first
  | exact ab2 (h _ rfl rfl)
  | exact aa5 (ab2 (ab2 (h _ rfl rfl)))
theorem qH{elt tg iter:Expr}{ifs:List Expr}{pos:Pos}{g:TG}{tc:TT}{te:TE}{j:List (Str × Addr)}{Q:VK}{E:Value->Shared->Prop}{RR:Value->Addr->Result->Shared->Prop}(S:k9 X N nt js scope)(hc:X.calm=true)(hg: ∀s H j C z,PG (eD X N scope s H j C z) tg g)(fQ:k6 nt g)(hf: ∀s H j C z,PF (eD X N scope s H j C z) ifs tc)(he: ∀s H j C z,PE (eD X N scope s H j C z) elt te){tn:Nat->Heap->Prop}(I:Inv X pins σ H s)(T:Turn X.prog X.w X.K tg J fp it tn)(st:tn 0 s.heap)(O: ∀b∈fp,dW X pins H b)(c1: ∀x c,(x,c)∈j->X.env.cells.lookup x=some c)(c2: ∀x,(x,NameKind.free)∈scope.names-> ∃c,(x,c)∈j)(R: ∀D,H D=none->Ha nt js g tc te σ Q D J (upd H D (.lst [])))(fin: ∀(D C:Addr) (s':Shared) (H':Hp),Inv X pins σ H' s'->dW X pins H' C->(∃m,s'.heap.Ns C m)->Q (.ref D) H'->RR (.ref D) C (.ok .next) s'):
  wpAny (model X.prog X.w) X.A (newList []) (fun G s₃=>wpAny (model X.prog X.w) X.A (newFunctionEnv scope X.env.globals j [] X.env.qual none .none (some X.env)) (fun jQ s₄=>
   codeAny (model X.prog X.w) X.A (.compStart (.ListComp elt [⟨tg,iter,ifs,0⟩] scope pos) 0 (.ref it) G {jQ with scope:=relabel scope X.env}) (RR G jQ.locals) s₄) E s₃) E s:=by
 refine ah8 (fL fun jQ vC FH=>?_);rw[vC,FH];dsimp only;have hD:H s.heap.objs.size=none:=I.bc.fresh (ab3 _);obtain⟨W,⟨m0,w0⟩,turn⟩:=R s.heap.objs.size hD;have kD: ∀b u,s.heap.get? b=some u->(s.heap.push {cls:= .type "list",data:= .seq ([]:List Value).toArray}).get? b=some u:=fun b u e=>aa7 _ e;have I3:Inv X pins σ (upd H s.heap.objs.size (.lst [])) {s with heap:=s.heap.push {cls:= .type "list",data:= .seq ([]:List Value).toArray},toks:=s.toks}:=
  I.laid kD (ab3 _) ⟨ag0 _,[],_,.nil,ac9 _ rfl⟩
 have fs: ∀b∈fp,b < s.heap.objs.size:=fun b f=>by
  obtain⟨o,e,_⟩:=T.obj _ _ st b f;exact ad7 e
 have K1: ∀b∈fp,dW X pins (upd H s.heap.objs.size (.lst [])) b:=fun b f=>⟨by rw[ah (af4 (fs b f))];exact(O b f).1,(O b f).2⟩
 have L:=l5 (tk:=s.toks) S hc I3 K1 (fun b f=>by show b < (s.heap.push _).objs.size;rw[ag4];exact ak9 (fs b f)) c1 c2;dsimp only at L;have RB:(s.heap.push {cls:= .type "list",data:= .seq ([]:List Value).toArray}).objs.size=s.heap.objs.size+1:=ag4 ..;generalize hY:eD X N scope {s with heap:=s.heap.push {cls:= .type "list",data:= .seq ([]:List Value).toArray},toks:=s.toks} (upd H s.heap.objs.size (.lst [])) j (s.heap.push {cls:= .type "list",data:= .seq ([]:List Value).toArray}).objs.size fp=Y at L;have YW:=hY;have o6:Y.env=oY scope j (s.heap.push {cls:= .type "list",data:= .seq ([]:List Value).toArray}).objs.size X.env:=by rw[<-hY];rfl
 have M:Y.prog=X.prog:=by rw[<-hY];rfl
 have F:Y.w=X.w:=by rw[<-hY];rfl
 have YA:Y.A=X.A:=by rw[<-hY];rfl
 have YK:Y.K=X.K:=by rw[<-hY];rfl
 have kY:Y.calm=true:=by rw[<-hY];exact hc
 have tU:Y.xe=fun _ _=>False:=by rw[<-hY];rfl
 have vW:Y.ex=fp:=by rw[<-hY];rfl
 have SN:Y.pn= []:=by rw[<-hY];rfl
 have SO:Y.fs=tT X.stack:=by rw[<-hY];rfl
 have Li:Y.s₀={s with heap:=s.heap.push {cls:= .type "list",data:= .seq ([]:List Value).toArray},toks:=s.toks}:=by rw[<-hY];rfl
 have SQ:Y.H₀=upd H s.heap.objs.size (.lst []):=by rw[<-hY];rfl
 have Rr:PG Y tg g:=by rw[<-hY];exact hg _ _ _ _ _
 have Wx:PF Y ifs tc:=by rw[<-hY];exact hf _ _ _ _ _
 have WA:PE Y elt te:=by rw[<-hY];exact he _ _ _ _ _
 have hm:(Y.N.length:Nat)=(lB nt js σ).length:=L.len.symm;rw[<-o6,<-M,<-F,<-YA];have Fq: ∀{H':Hp} (_: ∀b∈fp,H' b=none),∀b∈fp,dW Y [] H' b:=fun{H'} hn b f=>by
  refine⟨hn b f,(L.ok.K2 b (by rw[vW];exact f)).1,L.ok.xQ b (by rw[vW];exact f),.inl (by rw[vW];exact f),(L.ok.K2 b (by rw[vW];exact f)).2,fun p hp=>?_⟩;rw[SN] at hp;simp at hp
 have P: ∀{H':Hp} {s':Shared} {σ':St},Inv Y [] σ' H' s'->Inv X pins σ H' s'/\dW X pins H' Y.env.locals/\ ∃m,s'.heap.Ns Y.env.locals m:=fun{H' s' σ'} J=>by
  have f:Un (tT X.stack) fp (upd H s.heap.objs.size (.lst [])) H' (s.heap.push {cls:= .type "list",data:= .seq ([]:List Value).toArray}) s'.heap:=by
   have:=J.base;rw[SO,vW,SQ,Li] at this;exact this
  have loc:Y.env.locals=s.heap.objs.size+1:=by rw[o6];exact RB
  have os:s'.os=s.os:=by
   have:=J.os;rw[Li] at this;exact this
  have bc:jk X.prog X.w H' s'.heap:=by
   have:=J.bc;rw[M,F] at this;exact this
  refine⟨I3.Gx (ch:=fp) os f bc J.bare fun b f=>⟨(O b f).2.2.2.1,(O b f).2.1,(O b f).2.2.2.2.1,(O b f).2.2.2.2.2⟩,?_,let ⟨m,q,_⟩:=J.loc;⟨m,q⟩⟩;exact I.sW (by rw[loc];exact ap4 _) J.free
 have a:codeAny (model Y.prog Y.w) Y.A (.compLoop (.ListComp elt [⟨tg,iter,ifs,0⟩] scope pos) 0 (.ref it) (.ref s.heap.objs.size) Y.env) (RR (.ref s.heap.objs.size) Y.env.locals)
   {s with heap:=pushCells ((s.heap.push {cls:= .type "list",data:= .seq ([]:List Value).toArray}).push {cls:= .type "dict",data:= .dict #[]}) scope.names}:=by
  refine tD (fun n s'=> ∃i G H',Inv Y [] (lB nt js σ) H' s'/\tn i s'.heap/\(∀b∈fp,H' b=none)/\W i n G H') ?_ m0
   ⟨0,[],_,L,T.keep _ _ _ st fun b _ o e=>al9 _ _ b o (aa7 _ (kD b o e)),fun b f=>(K1 b f).1,w0⟩
  rintro n s5 ⟨i,G,H5,I5,wR,BD,w5⟩
  rcases turn i n G H5 w5 with ⟨stop,q⟩ | ⟨go,hlen,B,hB,step⟩
  . have U:=T.done Y M F YK kY i [] s5 _ H5 (fun _ _=>False) I5 (Fq BD) wR stop;rw[<-M,<-F] at U;refine aP U fun r s6 lr=>?_;obtain⟨hr,I6⟩:=lr;subst hr;obtain⟨b1,b2,b3⟩:=P I6;exact fin _ _ _ _ b1 b2 b3 q
  . have U:=T.item Y M F YK kY i [] s5 _ H5 (fun _ _=>False) I5 (Fq BD) wR go;rw[<-M,<-F] at U;refine aP U fun r s6 lq=>?_;obtain⟨u,hr,h6⟩:=lq;subst hr;refine aP h6 fun _ s7 qU=>?_;obtain⟨x,H7,I7,r7,y7,wQ,NC⟩:=qU;have OH:=I7.pinned (Fq NC) (T.obj _ _ wQ);have g7:=fQ _ _ _ _ (step x H7 y7);have h7:=Rr _ s7 _ H7 x u _ OH r7 g7;rw[tU] at h7;refine aP h7 fun _ s8 tV=>?_;obtain⟨l,H8,I8,q8,l8,k8⟩:=tV;have h8:=Wx _ s8 l H8 _ I8 q8;rw[tU] at h8;refine aP h8 fun b s9 gw=>?_;obtain⟨H9,I9,q9⟩:=gw;have h: ∀{Z:Hp} {t:Shared} {cf:List V},Inv Y ([]++jF fp s7.heap) l Z t->B cf Z-> ∃m,m < n/\ ∃i G H',Inv Y [] (lB nt js σ) H' t/\tn i t.heap/\(∀b∈fp,H' b=none)/\W i m G H':=fun{Z t cf} v7 Lg=>by
     obtain⟨m',Hf,Lz⟩:=hB cf Z Lg;refine⟨m',Hf,i+1,cf,Z,v7.eQ.weak l8.symm fun k v e=>?_,T.keep _ _ _ wQ fun b f o e=>(v7.pin (b,o) (ac0 _ (ac0 _ (bH f e)))).1,fun b f=>?_,Lz⟩
     . by_cases hk:nt<=k
       . rw[k8 k hk];exact e
       . exfalso;unfold lB at e;rw[ae4 (by simp;lia),ad2,if_pos (by lia)] at e;cases e
     . obtain⟨o,e,d⟩:=T.obj _ _ wQ b f;exact(v7.pin (b,o) (ac0 _ (ac0 _ (bH f e)))).2.1
    cases b with
    | false=>
     rw[if_neg ac3] at q9 ⊢;exact h I9 q9
    | true=>
     rw[if_pos rfl] at q9 ⊢;have h9:=WA _ s9 l H9 _ I9 q9;rw[tU] at h9;refine aP h9 fun y t gv=>?_;obtain⟨v,Z,v7,Qf,Ny,Mi⟩:=gv;have Jn:=(i7 (X:=Y) _ t l Z (.ref s.heap.objs.size) [v] (.ref s.heap.objs.size) [y] (fun _ H'=>B (G++ [v]) H') v7 rfl (.cons Qf .nil) ⟨_,G,v,rfl,rfl,Ny,hlen,Mi⟩)
     rw[tU] at Jn;refine aP Jn fun _ Cq wq=>?_;obtain⟨_,Hn,J9,_,Vl⟩:=wq;exact h J9 Vl
 have vB:(s.heap.push {cls:= .type "list",data:= .seq ([]:List Value).toArray}).objs.size=Y.env.locals:=by rw[o6];rfl
 rw[vB];exact codeAny_compStart_list a (by rw[M,F,YA] at*;exact T.self _ 0 _ _ _ (T.keep _ _ _ st fun b _ o e=>al9 _ _ b o (aa7 _ (kD b o e))) a)
theorem Im(S:k9 X N nt js scope)(P:X.calm=true)(hi:PI X tg iter wi)(Y: ∀s H i C r,PG (eD X N scope s H i C r) tg g)(V:k6 nt g)(W: ∀s H i C r,PF (eD X N scope s H i C r) ifs tc)(U: ∀s H i C r,PE (eD X N scope s H i C r) elt te)(hs: ∀x,foldedSetIterable iter X.env x=pure x:=by intro _;rfl):PE X (.ListComp elt [⟨tg,iter,ifs,0⟩] scope pos) (C6 nt js wi g tc te):=by
 intro a s c H Q I h;obtain⟨i,M,E,t⟩:=gQ (scope:=scope) (env:=X.env) fun x hx e=>I.ok.has x.1 (S.OT x hx e);rw[eval_ListComp];refine ap0 (use:=none) rfl hs M S.kind S.names (aP (hi a s c H _ I h) fun v s1 k=>aP k fun OX s2 n=>?_);obtain⟨it,fp,tn,J,H2,rfl,L,T,F,j,R⟩:=n;refine qH (RR:=fun G C=>compPost (model X.prog X.w) X.A X.xe none (EP X a c Q) G C) S P Y V W U L T F j E t R fun D C s' y d O jx q=>?_;obtain⟨m,Z⟩:=jx;refine⟨m,Z,fun h' sb=>⟨.ref D,y,?_,rfl,q⟩⟩;obtain⟨z,f,_,u,l,B⟩:=O;exact d.turned (t':=s'.toks) (fun b o p e=>(sb.2 b p).trans e) z f u l B
theorem Ia{pos Y d:Pos}(hN:X.N.Nodup)(W:X.N[i]?=some y)(hy:Loc X.env.scope y)(S:k9 X N nt js scope)(hc:X.calm=true)(hi:PI X tg iter wi)(hg: ∀s H j C r,PG (eD X N scope s H j C r) tg g)(fQ:k6 nt g)(hf: ∀s H j C r,PF (eD X N scope s H j C r) ifs tc)(he: ∀s H j C r,PE (eD X N scope s H j C r) elt te)(U:swapsWith (.ListComp elt [⟨tg,iter,ifs,0⟩] scope pos) (some (.Name y d)) Y.line X.env=pure true:=by rfl)(hs: ∀x,foldedSetIterable iter X.env x=pure x:=by intro _;rfl)(M:X.fn y=true\/X.env.scope.names.lookup y=some .local:=by first | exact .inl rfl | exact .inr rfl | assumption):
  PS X (.Assign [.Name y d] (.ListComp elt [⟨tg,iter,ifs,0⟩] scope pos) Y) (C8 (C6 nt js wi g tc te) (cB i)):=by
 intro c s u H D I h;obtain⟨j,O,V,c2⟩:=gQ (scope:=scope) (env:=X.env) fun x hx e=>I.ok.has x.1 (S.OT x hx e);rw[exec_Assign_Name_used _ _ _ _ U];refine aa5 (ai5 (aa5 ?_));show wpAny _ _ (do let _<-comprehension (.ListComp elt [⟨tg,iter,ifs,0⟩] scope pos) scope X.env _ (newList []) false (eval iter X.env) (some (assign (.Name y d) X.env))) _ _ s;refine aa5 (ae8 (ap0 (use:=some (assign (.Name y d) X.env)) (Q:=fun _ n=>SP X c D .next n) rfl hs O S.kind S.names
  (aP (hi c s u H _ I h) fun v s1 h1=>aP h1 fun OX s2 h2=>?_)) (fun _ n hq=>ab2 (ab2 hq)) fun _ _ e=>e)
 obtain⟨it,fp,tn,J,H2,rfl,L,T,gV,f2,R⟩:=h2;refine qH (RR:=fun G C=>compPost (model X.prog X.w) X.A X.xe (some (assign (.Name y d) X.env)) (fun _ n=>SP X c D .next n) G C) (Q:=fun x E=>cB i x u E D.nx) S hc hg fQ hf he L T gV f2 V c2 R fun l C n B F fo wo q=>?_;obtain⟨m,hn⟩:=wo;show wpAny _ _ (assign (.Name y d) X.env (.ref l)) _ _ _;obtain⟨f0,p,_,f3,t,f5⟩:=fo;refine wpAny_assign_Name (qd F hN W hy (v:= .ref l) rfl (fun P Z qX=>?_) M);obtain⟨a,sb,ha⟩:=qX;have f:C≠a:=by
  rcases ha with z | z
  . rw[z];exact p
  . exact Ne.symm (t _ _ z)
 refine⟨m,hn.sameBut sb f,fun h' k=>⟨_,B,?_,q⟩⟩;exact Z.turned (t':=P.toks) (fun b o hb e=>(k.2 b hb).trans e) f0 p f3 t f5
open AutoSeq1 (wpAny_loadPart')
theorem M7(o:typeLookup (.type T) "__init__"=pure (some (.builtin "object.__init__")))(Z:Bind.madeBy (.type T)=pure (some newId))(P:(some newId !=some "object.__new__")=true):Meets (Builtin.«object.__init__» ⟨me::more,kw⟩) (fun _ R s=>s.TypeIs me T/\R (.ok (.ret .none)) s):=by
 refine Meets.of_wp fun i w A R s U=>?_;obtain⟨x,Q⟩:=U;cases more with
 | nil=>
  cases kw with
  | nil=>exact ab2 ⟨_,rfl,Q⟩
  | cons p r=>
   repeat (any_goals (first | assumption | wp_step))
   all_goals exact⟨_,rfl,Q⟩
 | cons a r=>
  repeat (any_goals (first | assumption | wp_step))
  all_goals exact⟨_,rfl,Q⟩
theorem i0(u:TypeCalled T newId "object.__init__")(D:(some newId !=some "object.__new__")=true)(c1:checkTypeCall T ⟨xs,kw⟩=pure ())(c2:checkBuiltinCall newId ⟨.type T::xs,kw⟩=pure ())(c3: ∀I,argsOk "object.__init__" ⟨I::xs,kw⟩)(y:entryFor table newId=some B)(W:Meets (B ⟨.type T::xs,kw⟩) S)(h:S A.in1 (wants (fun I z=>z.TypeIs I T/\Q I z) E) s):wpAny (model prog w) A (call (.type T) xs kw) Q E s:=by
 obtain⟨c,J,G⟩:=u.mro;have b:=u.made;have L:=u.sub;refine wpAny_call (codeAny_of_tree (show wpAny _ _ (callAny (.type T) _) _ _ _ from ab2 ⟨Code.quiet_builtin _ (by decide+kernel),codeAny_builtin F.entry_type_call ?_⟩));rw[Around.under_plain (weight_type_call_type T xs kw) (units_type_call_type T xs kw)];have U:=u.notType;have g:=u.canCreate;repeat (any_goals (first | assumption | wp_step))
 refine aq1 (codeAny_call_builtin u.plain y (wpAny_of_eq c2 (W prog w A.in1 _ s h))) fun r z m=>?_;match r,m with
 | .error e,m=>exact m
 | .ok (.ret I),m=>
  obtain⟨x,R⟩:=m;have Y:=u.init.lookup;have d:=u.init.bind I;repeat (any_goals (first | assumption | wp_step))
  refine aq1 (codeAny_call_builtin u.init.plain F.entry_object_init (u.init.check _ _ _ _ _ _ _ _ x (c3 I) (M7 u.init.lookup u.made D prog w A.in1 (wants (fun v n=>v= .none/\Q I n) E) z ⟨x,rfl,R⟩))) fun P o p=>?_;match P,p with
  | .error e,p=>exact p
  | .ok (.ret v),p=>
   obtain⟨rfl,C⟩:=p;repeat (any_goals (first | assumption | wp_step))
  | .ok .next,p=>exact p.elim
  | .ok .brk,p=>exact p.elim
  | .ok .cont,p=>exact p.elim
 | .ok .next,m=>exact m.elim
 | .ok .brk,m=>exact m.elim
 | .ok .cont,m=>exact m.elim
open AutoSeq1 (wpAny_loadPart')
noncomputable def kN(h:Heap)(t:Addr)(k:Int):Heap:=
 (h.push {cls:= .type "tuple_iterator",data:= .fields #[.ref t,.int 0 0]}).push {cls:= .type "enumerate",data:= .fields #[.none,.bool false,.ref h.objs.size,rawInt k,.none,.none]}
def oR(t:Addr)(k:Int):PySem.Spec:=fun _ R s=>(∃Z,s.heap.IsTuple t Z)/\R (.ok (.ret (.ref (s.heap.push {cls:= .type "tuple_iterator",data:= .fields #[.ref t,.int 0 0]}).objs.size))) {s with heap:=kN s.heap t k}
theorem FG(t:Addr):Meets (Builtin.«enumerate.__new__» ⟨[.type "enumerate",.ref t],[]⟩) (oR t 0):=
 .of_wp fun i w A R s U=>(by obtain⟨⟨Z,x⟩,h⟩:=U;exact(by
  obtain⟨p,g,d,u,j⟩:=s;have I:=sub_enumerate;obtain⟨⟨c,b,L,e⟩,y,l,n,r⟩:=id x;replace l:c= .type "tuple":=l
  replace r:L= .seq Z n:=r
  subst l r;wp_walk using af3 y
  refine wpAny_stack_any fun Y=>ab2 ?_;split
  . rename_i c _ _ _ _ _;cases (c==Value.type "enumerate") <;> (wp_walk using af3 y,ai1 x;exact⟨_,rfl,h⟩)
  . wp_walk using af3 y,ai1 x
    exact⟨_,rfl,h⟩))
theorem FE(t:Addr)(u:Tok):Meets (Builtin.«enumerate.__new__» ⟨[.type "enumerate",.ref t],[("start",.int 1 u)]⟩) (oR t 1):=
 .of_wp fun i w A R s z=>(by obtain⟨⟨Z,x⟩,h⟩:=z;exact(by
  obtain⟨p,g,d,v,j⟩:=s;have I:=sub_enumerate;obtain⟨⟨c,b,L,e⟩,y,l,n,r⟩:=id x;replace l:c= .type "tuple":=l
  replace r:L= .seq Z n:=r
  subst l r;wp_walk using af3 y
  refine wpAny_stack_any fun Y=>ab2 ?_;split
  . rename_i c _ _ _ _ _;cases (c==Value.type "enumerate") <;> (wp_walk using af3 y,ai1 x;exact⟨_,rfl,h⟩)
  . wp_walk using af3 y,ai1 x
    exact⟨_,rfl,h⟩))
theorem FF(t:Addr)(u:Tok):Meets (Builtin.«enumerate.__new__» ⟨[.type "enumerate",.ref t,.int 1 u],[]⟩) (oR t 1):=
 .of_wp fun i w A R s e=>(by obtain⟨⟨Z,x⟩,h⟩:=e;exact(by
  obtain⟨p,g,d,v,j⟩:=s;have I:=sub_enumerate;obtain⟨⟨c,b,L,f⟩,y,l,n,r⟩:=id x;replace l:c= .type "tuple":=l
  replace r:L= .seq Z n:=r
  subst l r;wp_walk using af3 y
  refine wpAny_stack_any fun Y=>ab2 ?_;split
  . rename_i c _ _ _ _ _;cases (c==Value.type "enumerate") <;> (wp_walk using af3 y,ai1 x;exact⟨_,rfl,h⟩)
  . wp_walk using af3 y,ai1 x
    exact⟨_,rfl,h⟩))
open AutoSeq1 (wpAny_loadPart')
theorem uh(G:s.heap.IsTupleIter it t j)(c:s.heap.IsTuple t ao)(r:ao[j]?=some y)(k: ∀H,H.IsTupleIter it t (j+1)->Heap.SameBut it s.heap H->Q y {s with heap:=H}):wpAny (model prog w) A (Builtin.SmallTypes.nextOf (.ref it)) Q E s:=by
 obtain⟨I,T,u,f⟩:=id G;obtain⟨B,O,_,W,m⟩:=c;unfold Builtin.SmallTypes.nextOf;refine aa5 (ak7 (name:=Str.ofString "__next__") G.typeIs ao4 (an2 ao4 G.typeIs F.entry_tuple_iterator_next ?_ (F.args_tuple_iterator_next_1 _)));show wpAny _ _ (field (.ref it) 0 >>=_) _ _ s;refine aa5 (aj5 T f (x:= .ref t) rfl ?_);show wpAny _ _ (if (Value.ref t==Value.none)=true then _ else _) _ _ s;rw[if_neg (show¬(Value.ref t==Value.none)=true from fun z=>nomatch (show false=true from z))];show wpAny _ _ (field (.ref it) 1 >>=_) _ _ s;refine aa5 (aj5 T f (x:= .int j 0) rfl ?_);show wpAny _ _ (seqItems? (.ref t) >>=_) _ _ s;refine aa5 (ak6 O m ?_);simp only [af0,r];refine aa5 (wpAny_setField T f (by simp) (ab2 ⟨y,rfl,ab2 (k _ ⟨_,ao2 _ T (Obj.isFreed_of_fields (Obj.data_mapFields f _)),(Obj.cls_mapFields ..).trans u,by rw[Obj.data_mapFields f];simp [rawInt]⟩ (Heap.SameBut.update ..))⟩))
theorem ui(R:A.handled=none)(G:s.heap.IsTupleIter it t j)(c:s.heap.IsTuple t ao)(r:ao[j]?=none)(k: ∀H e,Heap.ExtBut it s.heap H->(∃o,H.get? e=some o/\o.cls= .type "StopIteration")->E (.ref e) {s with heap:=H}):wpAny (model prog w) A (Builtin.SmallTypes.nextOf (.ref it)) Q E s:=by
 obtain⟨I,T,u,f⟩:=id G;obtain⟨B,O,_,W,n⟩:=c;unfold Builtin.SmallTypes.nextOf;refine aa5 (ak7 (name:=Str.ofString "__next__") G.typeIs ao4 (an2 ao4 G.typeIs F.entry_tuple_iterator_next ?_ (F.args_tuple_iterator_next_1 _)));show wpAny _ _ (field (.ref it) 0 >>=_) _ _ s;refine aa5 (aj5 T f (x:= .ref t) rfl ?_);show wpAny _ _ (if (Value.ref t==Value.none)=true then _ else _) _ _ s;rw[if_neg (show¬(Value.ref t==Value.none)=true from fun z=>nomatch (show false=true from z))];show wpAny _ _ (field (.ref it) 1 >>=_) _ _ s;refine aa5 (aj5 T f (x:= .int j 0) rfl ?_);show wpAny _ _ (seqItems? (.ref t) >>=_) _ _ s;refine aa5 (ak6 O n ?_);simp only [af0,r];refine aa5 (aq4 (aa5 (wpAny_setField T f (by simp) ?_)));show wpAny _ _ (newExc (.type "StopIteration") [] >>=_) _ _ _;refine aa5 ?_;simp only [newExc,newTuple];refine aa5 (ah8 ?_ (by size_fits));refine aa5 (m:=firstArgMember _ _) (wpAny_of_eq (a:=Value.none) (by first | rfl | (simp only [firstArgMember];rfl)) (ah8 ?_ (by size_fits)));simp only [raiseNew];refine aa5 (wpAny_handled ?_);first | rw[show A.in1.handled=none from R] | rw[R]
 exact aa5 (ab2 (wpAny_throw (k _ _ (((Heap.SameBut.update ..).extBut.push _).push _) ⟨_,ac9 _ rfl,rfl⟩)))
theorem vD{prog:Program}{w:World}{A:Around}(V:A.handled=none)(z t:Addr)(D:t≠z)(u:Array Value)(k:Nat):
  Draws prog w A z [z,t] (u.size+k) (fun i v=>k<=i/\u[i - k]?=some v) (fun i h=>k<=i/\h.IsTupleIter z t (i - k)/\h.IsTuple t u) where
 live:=fun _ _ U=>(by obtain⟨_,Y,_⟩:=U;exact(let ⟨o,ho,_⟩:=Y;⟨o,ho⟩))
 frame:=fun _ _ _ x R=>(by obtain⟨l,Y,B⟩:=x;exact(⟨l,let ⟨o,q,r⟩:=Y;⟨o,R z (by simp) o q,r⟩,let ⟨o,q,r⟩:=B;⟨o,R t (by simp) o q,r⟩⟩))
 item:=fun i s Q E I ⟨l,Y,B⟩ T=>by
  have S:i - k < u.size:=by grind
  refine uh Y B (y:=u[i - k]) (by simp [S]) fun F p Z=>T _ F s.toks ⟨l,by simp [S]⟩ ⟨by grind,?_,?_⟩ Z
  . rw[show i+1 - k=i - k+1 by grind];exact p
  . obtain⟨o,q,r⟩:=B;exact⟨o,(Z.2 t D).trans q,r⟩
 done:=fun s Q E j C=>(by obtain⟨l,Y,B⟩:=j;exact(ui V Y B (by simp) C))
section
variable{X:Cx}{pins:List (Addr × Obj)}{σ:St}{H:Hp}{s:Shared}
theorem Inv.ly{h':Heap}{t':Nat}{ch:List Addr}(I:Inv X pins σ H s)(l: ∀b∈ch,dW X pins H b)(x:s.heap.objs.size<=T)(k: ∀b u,b∉ch->s.heap.get? b=some u->h'.get? b=some u)(V:bW X.prog X.w (upd H T o) h' T o):Inv X pins σ (upd H T o) {s with heap:=h',toks:=t'}:=by
 have U:H T=none:=I.bc.fresh x;have E: ∀b u,s.heap.get? b=some u->b≠T:=fun b u e z=>absurd (ae0 (ad7 e) (z▸x)) (ag6 _);have W: ∀b u,H b=some u->b∉ch:=fun b u e z=>by rw[(l b z).1] at e;cases e
 refine I.step (g':=s.gens) (d':=s.drawn) (ch:=ch) (fun b d=>?_) (fun b u _ _ g e _=>k b u g e) (fun b u _ _ g e _=>⟨u.slots,k b u g e⟩) (fun b u g e n=>by rw[ah (E b u e)];exact n)
  (fun b u g e=>⟨u,k b u g e⟩) (fun b i e=>by rw[ah (ar e U)];exact e) (fun b J u e=>by rw[ah (ar e U)];exact e) (fun b Z e=>⟨#[],by rw[ah (ar e U),e];simp⟩) (fun m D=>?_) (fun b u e=>?_) I.bare
 . obtain⟨F,f,j,t,p,y⟩:=l b d;exact⟨t,f,p,y⟩
 . obtain⟨J,C,B,h,r⟩:=D;exact⟨J,C,B,k _ J (fun z=>(l _ z).2.1 rfl) h,r⟩
 . by_cases d:b=T
   . subst d;rw[af] at e;cases e;exact V
   . rw[ah d] at e;refine(I.bc b u e).wM (fun c v A q=>k c v ?_ q) (fun c q=>by rw[ah (ar q U)];exact q) fun c i q=>by rw[ah (ar q U)];exact q
     rcases A with z | z
     . rw[z];exact W b u e
     . exact W c _ z
noncomputable def OG(K:PySem.W.Frag)(a:Addr)(k:Nat):It:=
 ⟨fun i H=> ∃e x,dm K H a e/\e[i]?=some x,fun i H x v=> ∃p y,x= .ref p/\H p=none/\v=upd H p (.tup [.int ((i+k:Nat):Int),y])/\ ∀e,dm K H a e->e[i]?=some y,fun i H=> ∃e,dm K H a e/\e.length=i⟩
theorem Aw{P:Program}{w:World}{K:PySem.W.Frag}{es:List Expr}{x1}{tp:Pos}(a e B:Addr)(k:Nat)(O:e≠B):
  Turn P w K (.Tuple es x1 tp) (OG K a k) [e,B] e (fun i h=>(∃N,IsEnum h e B ((i+k:Nat):Int) N)/\h.IsTupleIter B a i) where
 mem:=by simp
 obj:=fun i h Y b c=>by
  obtain⟨⟨N,F⟩,C⟩:=Y;rcases ab9.mp c with q | q
  . subst q;exact⟨_,F,fun v z=>nomatch (show Data.fields _=Data.cell v from z)⟩
  . have q:b=B:=by simpa using q
    subst q;obtain⟨o,r,Z,q3⟩:=C;exact⟨o,r,fun v z=>by rw[q3] at z;cases z⟩
 keep:=fun i h M Y kk=>by
  obtain⟨⟨N,F⟩,C⟩:=Y;exact⟨⟨N,kk e (by simp) _ F⟩,C.at fun o q=>kk B (by simp) o q⟩
 item:=by
  intro X U g f l i pins s σ H E I G Y V;subst U g f;obtain⟨xs,x,R,j⟩:=V;obtain⟨t,L,p,hz⟩:=I.tuple R;obtain⟨u,hu,ru⟩:=L.get j;obtain⟨⟨N,F⟩,C⟩:=Y;have ha: ∃o,s.heap.get? a=some o:=let ⟨o,q,_⟩:=p;⟨o,q⟩;have WE:a≠e:=by
   rintro rfl
   obtain⟨o,r,Z,_⟩:=p;rw[F] at r;cases r;injection Z with z;exact absurd z (by decide)
  have T:a≠B:=by
   rintro rfl
   obtain⟨o,r,Z,_⟩:=p;obtain⟨o',J,m,_⟩:=C;rw[J] at r;cases r;rw[m] at Z;injection Z with z;exact absurd z (by decide)
  have D:=vD (prog:=X.prog) (w:=X.w) (A:=X.A.in1) (I.ok.hd l) B a T t.toArray k;have hlen:i < t.length:=(ab0.mp hu).1;refine wpAny_pyNext_enum_itemD D F ⟨by lia,by rw[show i+k - k=i by lia];exact C,p⟩ (by simp;lia) O (by simp [O,Ne.symm WE]) fun y M tk d ho He ht hsz hk=>?_;obtain⟨_,d⟩:=d;rw[show i+k - k=i by lia] at d;have ey:y=u:=by
   have:t[i]?=some y:=by simpa using d
   rw[hu] at this;cases this;rfl
  subst ey;refine⟨_,rfl,?_⟩;refine wpAny_letOwnedTupleGo_enum ho fun h2 WB S=>?_;have n:e < s.heap.objs.size:=ad7 F;have EY:B < s.heap.objs.size:=let ⟨o,q,_⟩:=C;ad7 q;have I1:Inv X pins σ (upd H s.heap.objs.size (.tup [.int ((i+k:Nat):Int),x])) {s with heap:=h2,toks:=tk+1}:=by
   refine I.ly (ch:= [e,B]) G (ab3 _) (fun b o c q=>?_) ⟨by show 2<=sizeLine;decide,[.int ((i+k:Nat):Int) tk,y],.cons ⟨_,rfl⟩ (.cons ru .nil),?_⟩
   . have h1:b≠e:=fun z=>c (by simp [z]);have vh:b≠B:=fun z=>c (by simp [z]);exact(S.2 b h1).trans (hk b o h1 vh q)
   . exact⟨_,(S.2 _ (aq2 n)).trans ht,rfl,rfl,_,rfl⟩
  refine⟨.ref s.heap.objs.size,_,I1,rfl,⟨_,x,rfl,I.bc.fresh (ab3 _),rfl,fun ys d=>by rw[I.p7 d R];exact j⟩,⟨⟨y,?_⟩,?_⟩,fun b c=>?_⟩
  . rw[show((i+1+k:Nat):Int)=((i+k:Nat):Int)+1 by lia];exact WB
  . obtain⟨_,q,_⟩:=He;rw[show i+k+1 - k=i+1 by lia] at q;exact q.at fun o z=>(S.2 B (Ne.symm O)).trans z
  . rw[ah (fun z=>?_)]
    . exact(G b c).1
    . rcases ab9.mp c with q | q
      . subst q;exact absurd (z▸n) (ag6 _)
      . have q:b=B:=by simpa using q
        subst q;exact absurd (z▸EY) (ag6 _)
 done:=by
  intro X U g f l i pins s σ H E I G Y V;subst U g f;obtain⟨xs,R,j⟩:=V;obtain⟨t,L,p,hz⟩:=I.tuple R;obtain⟨⟨N,F⟩,C⟩:=Y;have T:a≠B:=by
   rintro rfl
   obtain⟨o,r,Z,_⟩:=p;obtain⟨o',J,m,_⟩:=C;rw[J] at r;cases r;rw[m] at Z;injection Z with z;exact absurd z (by decide)
  have hl:=L.length;have D:=vD (prog:=X.prog) (w:=X.w) (A:=X.A.in1) (I.ok.hd l) B a T t.toArray k;obtain⟨f0,f1,f2,f3,f4,f5⟩:=G B (by simp);refine wpAny_pyNext_enum_endD D F ⟨by simp,?_,p⟩ fun M eb=>⟨rfl,I.turned (t':=s.toks) (fun b o c q=>eb b o c q) f0 f1 f3 f4 f5⟩
  rw[show t.toArray.size+k - k=i by simp;lia];exact C
 self:=fun A i s Q E Y h=>by
  obtain⟨⟨N,F⟩,_⟩:=Y;exact as8 F h
end
section
variable{X:Cx}{tg:Expr}{a b:Expr}{ta tb:TE}{pos:Pos}
def Q5(K:PySem.W.Frag)(k:Nat)(ta:TA):TI:=fun c H R=>ta c H fun t l=> ∃a,t= [.ref a]/\(∃e,dm K l a e)/\R (OG K a k) l
def Na(K:PySem.W.Frag)(ta:TA):TI:=fun c H R=>ta c H fun t k=> ∃a,t= [.ref a,.int 1]/\(∃e,dm K k a e)/\R (OG K a 1) k
def M9(K:PySem.W.Frag)(ta:TA)(tk:TA):TI:=fun c H R=>ta c H fun t k=>tk c k fun B C=> ∃a,t= [.ref a]/\B= [.int 1]/\(∃e,dm K C a e)/\R (OG K a 1) C
theorem iV{x1}{k:Nat}(I:Inv X pins σ H s)(q:R (OG X.K p k) H):
  wpAny (model X.prog X.w) X.A (pyIter (.ref (s.heap.push {cls:= .type "tuple_iterator",data:= .fields #[.ref p,.int 0 0]}).objs.size)) (SW X pins σ (.Tuple es x1 tp) R) E {s with heap:=kN s.heap p k,toks:=tk}:=by
 have z:(s.heap.push {cls:= .type "tuple_iterator",data:= .fields #[.ref p,.int 0 0]}).objs.size=s.heap.objs.size+1:=ag4 ..;have F:IsEnum (kN s.heap p k) (s.heap.objs.size+1) s.heap.objs.size k .none:=by
  have:=ac9 (s.heap.push {cls:= .type "tuple_iterator",data:= .fields #[.ref p,.int 0 0]}) (o:={cls:= .type "enumerate",data:= .fields #[.none,.bool false,.ref s.heap.objs.size,rawInt k,.none,.none]}) rfl;rw[z] at this;exact this
 have J:(kN s.heap p k).IsTupleIter s.heap.objs.size p 0:=⟨_,aa7 _ (ac9 _ rfl),rfl,rfl⟩
 rw[z];refine as8 F ?_;refine⟨s.heap.objs.size+1,[s.heap.objs.size+1,s.heap.objs.size],_,OG X.K p k,H,rfl,I.kept fun c o e=>aa7 _ (aa7 _ e),Aw p _ _ k (Nat.succ_ne_self _),⟨⟨.none,?_⟩,J⟩,fun c l=>?_,q⟩
 . rw[Nat.zero_add];exact F
 . have g : s.heap.objs.size <= c := by
     rcases ab9.mp l with q | q
     . rw[q];exact ap4 _
     . have q:c=s.heap.objs.size:=by simpa using q
       rw[q];exact ab3 _
   exact I.sW g (I.bc.fresh g)
theorem DO{x1}(S:Gl X "enumerate")(z:X.mg "enumerate"=none)(d:PA X [e] t)(hs:starEach [e] X.env= [(false,eval e X.env)]:=by rfl):
  PI X (.Tuple es x1 tp) (.Call (.Name "enumerate" p) [e] [] pos) (Q5 X.K 0 t):=by
 intro c s f H R I h;refine Call_ (ez I S z boot_enumerate (ag7 (aP (d pos c s f H _ I h) fun N M U=>?_) hs rfl));obtain⟨x,l,W,r,o⟩:=U;obtain⟨p,rfl,⟨j,Q⟩,q⟩:=o;obtain⟨u,rfl,L⟩:=vals1 r;cases L;obtain⟨v,w,J,g⟩:=W.tuple Q;exact i0 as3 (by decide) (F.typeCall_enumerate_1 _) (F.newCall_enumerate_1 _) (fun i=>F.args_object_init_2 i _) aq3 (FG p) ⟨⟨_,J⟩,⟨_,ac9 _ rfl,rfl⟩,iV (k:=0) W q⟩
theorem BH(a b:Value):checkTypeCall "enumerate" ⟨[a,b],[]⟩=pure ():=by kernel_rfl
theorem BK(a b:Value):checkBuiltinCall "enumerate.__new__" ⟨[.type "enumerate",a,b],[]⟩=pure ():=by kernel_rfl
theorem BG(a b:Value):checkTypeCall "enumerate" ⟨[a],[("start",b)]⟩=pure ():=by kernel_rfl
theorem BJ(a b:Value):checkBuiltinCall "enumerate.__new__" ⟨[.type "enumerate",a],[("start",b)]⟩=pure ():=by kernel_rfl
theorem Er(a b c:Value):argsOk "object.__init__" ⟨[a,b,c],[]⟩:=by unfold argsOk;kernel_rfl
theorem Ep(a b c:Value):argsOk "object.__init__" ⟨[a,b],[("start",c)]⟩:=by unfold argsOk;kernel_rfl
theorem DM{x1}(S:Gl X "enumerate")(z:X.mg "enumerate"=none)(d:PA X [e,f] t)(hs:starEach [e,f] X.env= [(false,eval e X.env),(false,eval f X.env)]:=by rfl)(m:starEach [f] X.env= [(false,eval f X.env)]:=by rfl):
  PI X (.Tuple es x1 tp) (.Call (.Name "enumerate" p) [e,f] [] pos) (Na X.K t):=by
 intro c s g H R I h;refine Call_ (ez I S z boot_enumerate (ag7 (aP (d pos c s g H _ I h) fun N M w=>?_) (by rw[hs,m]) (by rw[m];rfl)));obtain⟨B,l,W,r,o⟩:=w;obtain⟨p,rfl,⟨n,Q⟩,q⟩:=o;obtain⟨u,A,rfl,L,⟨v,rfl⟩⟩:=vals2 r;cases L;obtain⟨x,y,J,j⟩:=W.tuple Q;exact i0 as3 (by decide) (BH _ _) (BK _ _) (fun i=>Er i _ _) aq3 (FF p v) ⟨⟨_,J⟩,⟨_,ac9 _ rfl,rfl⟩,iV (k:=1) W q⟩
theorem pR{M:Model}{A:Around}{E:Value->Shared->Prop}{s:Shared}{env:Env}{pos:Pos}{T:String}{Q:Value->Shared->Prop}{e:Expr}{rest:List Expr}(h:wpAny M A (spliced (backTo pos (starEach (e::rest) env))) (fun t z=>wpAny M A (evalAll ((backToKw pos (keywordEach mv env)).map (·.2))) (fun C o=>wpAny M A (call (.type T) t (((backToKw pos (keywordEach mv env)).filterMap (·.1)).zip C)) Q E o) E z) E s)(U:backTo pos (starEach (e::rest) env)=(false,eval e env)::backTo pos (starEach rest env):=by rfl)(i:(backTo pos (starEach (e::rest) env)).any (·.1)=false:=by rfl)(F:(backToKw pos (keywordEach mv env)).all (·.1.isSome)=true:=by rfl)(w:(backToKw pos (keywordEach mv env)).any (·.1.isNone)=false:=by rfl):
  wpAny M A (callWith pos (.type T) [] (backTo pos (starEach (e::rest) env)) (backToKw pos (keywordEach mv env))) Q E s:=by
 have g:wpAny M A (evalArgs (.type T) true (backTo pos (starEach (e::rest) env)) (backToKw pos (keywordEach mv env))) (fun a z=>wpAny M A (call (.type T) ([]++a.pos) a.kw) Q E z) E s:=by
  rw[U] at h ⊢;exact evalArgs_kwB F h
 unfold callWith;refine aa5 (ai6 (ae8 g (fun a z B=>aa5 (ai5 ?_)) fun _ _ x=>x));simp only [i,w,Bool.or_false];exact aa5 (ab2 (aa5 (ae8 B (fun r o m=>aa5 (ai6 (wpAny_point (ab2 m)))) fun _ _ x=>x)))
theorem DL{x1}(S:Gl X "enumerate")(z:X.mg "enumerate"=none)(g:PA X [e] t)(T:PK X mv tk)(f:(backToKw pos (keywordEach mv X.env)).filterMap (·.1)=(["start"]:List Str):=by rfl)(U:backTo pos (starEach [e] X.env)=(false,eval e X.env)::backTo pos (starEach [] X.env):=by rfl)(n:(backTo pos (starEach [e] X.env)).any (·.1)=false:=by rfl)(E:(backToKw pos (keywordEach mv X.env)).all (·.1.isSome)=true:=by rfl)(w:(backToKw pos (keywordEach mv X.env)).any (·.1.isNone)=false:=by rfl):
  PI X (.Tuple es x1 tp) (.Call (.Name "enumerate" p) [e] mv pos) (M9 X.K t tk):=by
 intro c s d H R I h;refine al7 (ez I S z boot_enumerate (pR (aP (g pos c s d H _ I h) fun O N j=>?_) U n E w));obtain⟨G,l,W,r,o⟩:=j;refine aP (T pos c N d l _ W o) fun P B m=>?_;obtain⟨Y,D,J,v,Z⟩:=m;obtain⟨p,rfl,rfl,⟨V,Q⟩,q⟩:=Z;obtain⟨u,rfl,M⟩:=vals1 r;cases M;obtain⟨F,rfl,⟨C,rfl⟩⟩:=vals1 v;obtain⟨x,A,L,y⟩:=J.tuple Q;rw[f];exact i0 as3 (by decide) (BG _ _) (BJ _ _) (fun i=>Ep i _ _) aq3 (FE p C) ⟨⟨_,L⟩,⟨_,ac9 _ rfl,rfl⟩,iV (k:=1) J q⟩
def yX(K:PySem.W.Frag):R2:=fun x y H Q=> ∃p q e,x= .ref p/\y= .ref q/\cc K H p e/\cc K H q []/\Q (.bl e.isEmpty) H
def yW(K:PySem.W.Frag):R2:=fun x y H Q=> ∃p q e,x= .ref p/\y= .ref q/\cc K H p e/\cc K H q []/\Q (.bl (!e.isEmpty)) H
theorem lK(l:X.A.units < cLine):g6 X (compareOp .Eq) (yX X.K):=by
 intro c s m H x y v u Q I d k h;obtain⟨p,q,i,rfl,rfl,f,g,R⟩:=h;cases d;cases k;obtain⟨w,t,J,_⟩:=I.list f;obtain⟨B,o,z,_⟩:=I.list g;cases o;cases t with
 | nil=>exact SeqAt.eq_listAt (e:=fun _=>true) J.isList z.isList rfl l (fun j f _=>absurd f (by simp)) ⟨.bl true,H,I,rfl,R⟩
 | cons r rr=>exact SeqAt.eq_list_lengthsAt J.isList z.isList (by simp) l ⟨.bl false,H,I,rfl,R⟩
def Tg(i j:Int):Prop:=0 < j/\j < 2^64
theorem VL(f:0 < j)(g:j < 2^64):Builtin.divisionGoesByPylong i j=false:=by
 have e:j.natAbs < 2^64:=by lia
 have l:j.natAbs.log2 < 64:=by
  rw[Nat.log2_lt (by lia)];exact e
 unfold Builtin.divisionGoesByPylong;have: ¬(if (j==0)=true then 0 else j.natAbs.log2 / 30+1) > 300:=by
  split <;> lia
 simp only [ad1 this,Bool.false_and]
theorem kW:fK X (.builtin "divmod") (fun f H Q=> ∃i j,f= [.int i,.int j]/\Tg i j/\ ∀p,H p=none->Q (.ref p) (upd H p (.tup [.int (i / j),.int (i % j)]))):=by
 intro c s d H f N Q I r h;obtain⟨i,j,rfl,⟨g,k⟩,q⟩:=h;obtain⟨u,x,rfl,⟨t,rfl⟩,⟨E,rfl⟩⟩:=vals2 r;refine divmod_int (by lia) ?_ (.inl (VL g k));rw[Int.fdiv_eq_ediv_of_nonneg i (by lia),Int.fmod_eq_emod_of_nonneg i (by lia)];refine⟨.ref s.heap.objs.size,_,I.laid (o:= .tup [.int (i / j),.int (i % j)]) (fun b o e=>aa7 _ e) (ab3 _) ⟨by show 2<=sizeLine;decide,[.int (i / j) s.toks,.int (i % j) (s.toks+1)],.cons ⟨_,rfl⟩ (.cons ⟨_,rfl⟩ .nil),_,ac9 s.heap rfl,rfl,rfl,0,rfl⟩,rfl,q _ (I.bc.fresh (ab3 _))⟩
end
inductive gT:List Value->List Bool->Prop
 | nil:gT [] []
 | cons (b:Bool) {vs:List Value} {bs:List Bool}:gT vs bs->gT (.bool b::vs) (b::bs)
theorem gT.of: ∀{bs:List Bool} {us:List Value},Vals (bs.map V.bl) us->gT us bs
 | [],_,.nil=> .nil
 | b::bs,_,.cons r rr=>by
  cases (show _=Value.bool b from r);exact .cons b (gT.of rr)
theorem gT.get(h:gT vs bs): ∀(i:Nat) (v:Value),vs[i]?=some v-> ∃b,bs[i]?=some b/\v= .bool b:=by
 induction h with
 | nil=>intro i v e;simp at e
 | cons b _ ih=>
  intro i v e;cases i with
  | zero=>simp at e;subst e;exact⟨b,rfl,rfl⟩
  | succ i=>simpa using ih i v (by simpa using e)
theorem Dz(r:List Bool):((List.range r.length).all fun i=>(r[i]?).getD true)=r.all id:=by
 rw[am0,af6,af6];constructor
 . intro h b c;obtain⟨i,I,e⟩:=ak0 c;have:=h i (af9.mpr I);simp only [aa6 I,al4,e] at this;exact this
 . intro h i I;have s:=af9.mp I;simp only [aa6 s,al4];exact h _ (List.getElem_mem s)
theorem Gw{X:Cx}(l:X.calm=true):fK X (.builtin "all") (fun f H Q=> ∃a t,f= [.ref a]/\cc X.K H a (List.map V.bl t)/\Q (.bl (t.all id)) H):=by
 intro d s j H f N Q I r h;obtain⟨a,t,rfl,W,q⟩:=h;obtain⟨u,rfl,L⟩:=vals1 r;cases L;obtain⟨w,p,J,_⟩:=I.list W;have y:=J.isList;have g:=gT.of p;have c:w.length=t.length:=by rw[<-p.length,aa4]
 have T:a < s.heap.objs.size:=by obtain⟨_,e,_⟩:=y;exact ad7 e
 refine call_all_walk (ak8 y ?_);refine⟨s.heap.objs.size,[s.heap.objs.size,a],[s.heap.objs.size],w.toArray.size,_,_,fun i=>(t[i]?).getD true,rfl,Walks.list (A:=X.A.in1) (I.ok.hd l) _ a (af4 T) w.toArray,
  ⟨⟨_,ac9 _ rfl,rfl,rfl⟩,y.push _⟩,fun i v m P Y R S=>?_,fun F B U=>?_⟩
 . obtain⟨b,e,rfl⟩:=g.get i v (by simpa using R);simp only [e,al4] at S;exact ah1 S
 . have e : ((List.range w.toArray.size).all fun i => (t[i]?).getD true) = t.all id := by
     rw[ac2,c];exact Dz t
   rw[e];exact⟨.bl (t.all id),H,I.kept fun b x e=>U b x (fun z=>by rw[ab1.mp z] at e;exact ag6 _ (ad7 e)) (aa7 _ e),rfl,q⟩
end L2
namespace L2
open PySem PySem.Spec PyProof.Rows HT
def vX(H:Hp)(B:List V)(p:Addr)(H':Hp):Prop:=(H'=H/\H p=some (.tup B))\/(H p=none/\H'=upd H p (.tup B))
theorem vX.at(h:vX H zs p H'):H' p=some (.tup zs):=by
 rcases h with ⟨rfl,h⟩ | ⟨_,rfl⟩
 . exact h
 . exact af
theorem vX.keep(h:vX H zs p H'):aD H H':=by
 rcases h with ⟨rfl,h⟩ | ⟨h,rfl⟩
 . exact fun _ _ e=>e
 . exact fun b o e=>by rw[ah (ar e h)];exact e
theorem Gp{vs H:List Value}(q:IsTup s.heap t vs.toArray)(d:IsTup s.heap b H.toArray)(e:vs= [])(h:Q (.ref b) s):wpAny (model prog w) A (binaryOp .Add (.ref t) (.ref b)) Q E s:=by
 obtain⟨⟨D,O,x,Y⟩,G,c,o,r⟩:=id q;obtain⟨⟨v,m,p,g⟩,T,u,i,f⟩:=id d;simp only at c r u f;subst c r u f;exact concat_meets ⟨_,G,rfl⟩ ⟨_,T,rfl⟩ noFill_tuple_add seq_tuple_add PySem.F.slot_tuple_add as7 (as4 _ _) (tuple_addW0 t b vs.toArray H.toArray o i O m Y g (by simp [e])) ⟨G,T,h⟩
theorem kJ{t d:Addr}{items:Array Value}{c e:Value}{lo hi:Option Int}(q:IsTup s.heap t items)(hs:s.heap.IsSliceOf d c e .none)(pl:IsPart c lo)(n:IsPart e hi)(f:da items.size 0 lo=0/\da items.size items.size hi=items.size)(h:Q (.ref t) s):wpAny (model prog w) A (getItem (.ref t) (.ref d)) Q E s:=by
 obtain⟨i,l,g,m⟩:=id hs;have v:s.TypeIs (.ref d) "slice":=⟨i,l,g⟩
 unfold getItem;try with_reducible refine ai6 ?_
 first | refine aa5 (ab2 ?_) | skip
 refine aa5 (wpAny_sequenceKey q.typeIs (by decide) ?_);refine aa5 (ak7 (name:=Str.ofString "__getitem__") q.typeIs al8
  (an2 al8 q.typeIs entry_tuple_getitem ?_ (args_tuple_getitem _ _)))
 show wpAny _ _ (Builtin.Tuple.tupleItemsOf (.ref t) >>=_) _ _ s;refine aa5 (tupleItemsOf_ q ?_);refine aa5 (wpAny_typeOf v ?_);rw[if_pos (by decide)];refine aa5 (fW hs pl n ?_);rw[f.1,f.2];obtain⟨I,T,j,F⟩:=id q;show wpAny _ _ (if (((0:Nat):Int)==0 && (1:Int)==1 && (items.size - 0)==items.size)=true then _ else _) _ _ s;rw[if_pos (by simp)];wp_walk using AutoSeq1.wpAny_loadPart' T
 all_goals exact⟨_,rfl,ab2 h⟩
section
variable{X:Cx}{e:Expr}{te:TE}{pos p2:Pos}
def Ky:R2:=fun x y H Q=> ∃a b f n,x= .ref a/\y= .ref b/\H a=some (.tup f)/\H b=some (.tup n)/\f.length+n.length<=sizeLine/\ ∀p v,vX H (f++n) p v->Q (.ref p) v
theorem Iu:g6 X (binaryOp .Add) Ky:=by
 intro c s l H x y v u Q I d k h;obtain⟨a,b,j,n,rfl,rfl,f,g,i,q⟩:=h;cases d;cases k;obtain⟨t,r,O,_⟩:=I.tuple (dm.of f);obtain⟨p,P,p2,_⟩:=I.tuple (dm.of g);by_cases w:t= []
 . have A:j= []:=r.sv.mp w;refine Gp O p2 w ⟨.ref b,H,I,rfl,q b H (.inl ⟨rfl,?_⟩)⟩;rw[A];exact g
 . refine JU O p2 w (fun z=>⟨.ref a,H,I,rfl,q a H (.inl ⟨rfl,?_⟩)⟩) (fun z=>?_) (by rw[<-r.length,<-P.length];exact i)
   . have G:n= []:=P.sv.mp z;rw[G,ag3];exact f
   . refine⟨.ref s.heap.objs.size,_,I.laid (t':=s.toks) (o:= .tup (j++n)) (fun b J q=>aa7 _ q) (ab3 _) ⟨by rw[ac1];exact i,_,r.append P,pf.new _ _⟩,rfl,q _ _ (.inr ⟨I.bc.fresh (ab3 _),rfl⟩)⟩
def Vj:V->Option Int->Option Int->Hp->VK->Prop:=fun x z I H Q=> ∃a f,x= .ref a/\H a=some (.tup f)/\ ∀p v,vX H (mP f z I) p v->Q (.ref p) v
theorem HJ:nu X Vj:=by
 intro d s w H x v m p z J l Q I k A L n h;obtain⟨a,f,rfl,i,q⟩:=h;cases k;obtain⟨u,r,t,j⟩:=I.tuple (dm.of i);have c:u.toArray.size=f.length:=by rw[ac2];exact r.length.symm
 refine⟨"tuple",_,PyProof.Rows.slot_tuple_getitem.lookup,t.typeIs,?_⟩;by_cases g:da f.length 0 z=0/\da f.length f.length J=f.length
 . refine kJ t A L n (by rw[c];exact g) ⟨.ref a,H,I,rfl,q a H (.inl ⟨rfl,?_⟩)⟩;unfold mP;rw[g.1,g.2,an1,Nat.sub_zero,al5];exact i
 . refine HT.kI t A L n (by rw[c];exact g) ?_ (by rw[c];exact j);rw[c];refine⟨.ref s.heap.objs.size,_,I.laid (t':=s.toks) (o:= .tup (mP f z J)) (fun b M q=>aa7 _ q) (ab3 _) ?_,rfl,q _ _ (.inr ⟨I.bc.fresh (ab3 _),rfl⟩)⟩;exact⟨ad9 (mB f z J) j,_,(r.drop (HT.da f.length 0 z)).take (HT.da f.length f.length J - HT.da f.length 0 z),pf.new _ _⟩
end
end L2
namespace L2
open PySem PySem.Spec PyProof.Rows
theorem J0(h:0<=i)(e:xs[i.toNat]?=some v):jh xs i=some v:=by
 have:i=((i.toNat:Nat):Int):=by lia
 rw[this];exact bw e
theorem Ja{n:Nat}{i:Int}(h:0<=i)(w:i < n):zw n i=some i.toNat:=by
 unfold zw;rw[if_pos h,if_pos w]
def cj(P:Program)(w:World)(K:PySem.W.Frag)(A:Str->Option Value)(base:Heap)(x:Str)(k:Nat)(ps:List Str)(sp:Sp):Prop:=
 ∃f V,A x=some (.ref f)/\PySem.W.keepIn K (.ref f)=true/\Binds K V ps []/\aK P w K A base bD k f V ps sp
theorem jH{X:Cx}(h:cj X.prog X.w X.K X.mg X.base x k ps sp)(m:bC k X.A)(S:Gl X x)(d:PA X (e::es) t)(j:(x==("__debug__":Str))=false:=by decide)(E:starEach (e::es) X.env=(false,eval e X.env)::starEach es X.env:=by rfl)(y:(backTo pos (starEach es X.env)).any (·.1)=false:=by rfl):
  PE X (.Call (.Name x p) (e::es) [] pos) (C7 sp [] E0 t):=by
 obtain⟨f,V,g,i,T,H⟩:=h;exact Io H m S g i T .nil n4 d j E y
end L2
namespace LB
open PySem L2 PyProof.Rows
theorem mC:bootBuiltins "tuple"=some (.type "tuple"):=by decide+kernel
theorem B5:bootBuiltins "sum"=some (.builtin "sum"):=by decide+kernel
theorem jS:bootBuiltins "list"=some (.type "list"):=by decide+kernel
theorem tJ:bootBuiltins "divmod"=some (.builtin "divmod"):=by decide+kernel
theorem VU: ¬(("cells":Str)="turn"):=by decide+kernel
noncomputable def bx(c:Addr)(t:Int):List (Key × V):= [(Sum.inr "cells",.ref c),(Sum.inr "turn",.int t)]
theorem vS(c:Addr)(t:Int):gx (bx c t) (Sum.inr "cells":Key)=some (.ref c):=by
 simp [gx,bx]
theorem JV(c:Addr)(t:Int):gx (bx c t) (Sum.inr "turn":Key)=some (.int t):=by
 simp [gx,bx,VU]
theorem Ol(c:Addr)(t u:Int):putK (bx c t) (Sum.inr "turn":Key) (.int u)=bx c u:=by
 simp [putK,bx,VU]
structure yx(H:Hp)(d c:Addr)(t:Int):Prop where
 dc:H d=some (.dK (bx c t))
 cs: ∃ns:List Int,H c=some (.lst (ns.map V.int))/\0 < ns.length/\ns.length<=63
 t0:0<=t
 t1:t<=1000000
theorem yx.ne(b:yx H d c t):d≠c:=let ⟨_,h,_⟩:=b.cs;zm b.dc h (by intro z;cases z)
def Kp(d c:Addr)(H H':Hp):Prop:= ∀b o,H b=some o->b≠d->b≠c->H' b=some o
theorem yx.same(b:yx H d c t)(s:aD H H'):yx H' d c t:=⟨s _ _ b.dc,let ⟨ns,h,r⟩:=b.cs;⟨ns,s _ _ h,r⟩,b.t0,b.t1⟩
def Dd:Sp:=fun u H Q _=> ∃(d c:Addr) (t m:Int),u= [.ref d,.int m]/\yx H d c t/\t < 1000000/\0 < m/\m < 2^64/\ ∀(r:Int) (H':Hp),0<=r->r < m->yx H' d c (t+1)->Kp d c H H'->Q (.int r) H'
def rE(K:PySem.W.Frag):Sp:=fun t H Q _=> ∃(a:Addr) (ns:List Int),t= [.ref a]/\cc K H a (ns.map V.int)/\ns.length<=63/\ ∀(d c:Addr) (H':Hp),yx H' d c 0->aD H H'->Q (.ref d) H'
theorem aD.new(h:H p=none):aD H (upd H p o):=fun b u e=>by rw[ah (ar e h)];exact e
end LB
namespace L2
open PySem PySem.Spec PyProof.Rows
theorem Gu(l:X.calm=true):fK X (.builtin "sum") (fun e H Q=> ∃a D,e= [.ref a]/\cc X.K H a (List.map V.int D)/\Q (.int D.sum) H):=by
 intro b s c H e N Q I r h;obtain⟨a,D,rfl,S,q⟩:=h;obtain⟨u,rfl,M⟩:=vals1 r;cases M;obtain⟨t,p,L,_⟩:=I.list S;have J:=intsAre_of p;obtain⟨e,i⟩:=J.allInts.items;have g:s.heap.IsList a (intItems e):=i▸L.isList;refine sum_intListG (I.ok.hd l) g fun F w E R=>?_;have v:D=e.toList.map (·.1):=by
  rw[<-nums_intItems,<-i];exact(show numsOf t.toArray.toList=D from J.numsOf).symm
 have x:preSum (numAt e) e.size=D.sum:=by
  rw[preSum_eq,ap6 (by simp),v]
 rw[x];exact⟨.int D.sum,H,I.kept R,⟨_,rfl⟩,q⟩
theorem t8: ∀{xs:List V} {us:List Value},xs.length=us.length->(∀(j:Nat) x u,xs[j]?=some x->us[j]?=some u->RelV x u)->Vals xs us
 | [],[],_,_=> .nil
 | [],_::_,h,_=>by simp at h
 | _::_,[],h,_=>by simp at h
 | x::xs,u::us,h,r=> .cons (r 0 x u rfl rfl) (t8 (by simpa using h) fun j y v f g=>r (j+1) y v (by simpa using f) (by simpa using g))
def tLR(e:TA):TE:=fun b H Q=>e b H fun t l=> ∃(i:Int) (n:Nat),t= [.int i,.int (i+n)]/\ -(2^61)<=i/\i < 2^61/\n<=1000/\ ∀p,l p=none->Q (.ref p) (upd l p (.lst ((List.range n).map fun k=>V.int (i+(k:Nat)))))
theorem DT(B:X.calm=true)(y:Gl X "list")(Y:X.mg "list"=none)(N:Gl X "range")(w:X.mg "range"=none)(A:PA X [a,b] ta)(D:starEach [.Call (.Name "range" p2) [a,b] [] xb] X.env= [(false,eval (.Call (.Name "range" p2) [a,b] [] xb) X.env)]:=by rfl)(hs:starEach [a,b] X.env= [(false,eval a X.env),(false,eval b X.env)]:=by rfl)(m:starEach [b] X.env= [(false,eval b X.env)]:=by rfl):
  PE X (.Call (.Name "list" p) [.Call (.Name "range" p2) [a,b] [] xb] [] pos) (tLR ta):=by
 intro c s f H Q I h;refine Call_ (ez I y Y LB.jS (ag7 ?_ D rfl));rw[D];show wpAny _ _ (spliced ((false,eval (.Call (.Name "range" p2) [a,b] [] xb) X.env)::backTo pos (starEach [] X.env))) _ _ s;refine Calls.spliced_cons (Call_ (ez I N w boot_range (ag7 (aP (A xb c s f H _ I h) fun us J U=>?_) (by rw[hs,m]) (by rw[m];rfl))));obtain⟨vs,r,W,M,F⟩:=U;obtain⟨i,n,rfl,h1,h2,g,q⟩:=F;obtain⟨u,u2,rfl,⟨t,rfl⟩,⟨P,rfl⟩⟩:=vals2 M;refine call_range_2 (Calls.spliced_nil ?_);have O:Builtin.Range.rangeSize i (i+n) 1=(n:Int):=by rw[rangeSize_one];split <;> lia
 refine call_list_range (n:=n) (I.ok.hd B) (IsRange.new ..) (small_one (by lia) (by lia) (by lia) (by lia)) O (ad9 g (by decide)) fun h' T G Z R z d=>?_;have L:Inv X c f r {J with heap:=J.heap.push {cls:= .type "range",data:= .fields #[.int i t,.int (i+n) P,.int 1 J.toks]},toks:=J.toks+1}:=W.kept fun b o e=>aa7 _ e;refine⟨.ref _,_,L.laid (t':=T) (o:= .lst ((List.range n).map fun k=>V.int (i+(k:Nat)))) R (ab3 _) ⟨by rw[aa4,ae2];exact ad9 g (by decide),G.toList,Z,?_,by simpa using z⟩,rfl,q _ (L.bc.fresh (ab3 _))⟩;refine t8 (by rw[aa4,ae2,aj1,d.1]) fun j x v l E=>?_;have C:j < n:=by
  have:=(ab0.mp l).1;rw[aa4,ae2] at this;exact this
 rw[aa9,ai4 C] at l;cases l;obtain⟨S,rfl⟩:=d.2 j v (by simpa using E);exact⟨S,by rw[Int.mul_one]⟩
theorem AZ(l:X.A.units < cLine):g6 X (compareOp .NotEq) (yW X.K):=by
 intro a s b H x y v u Q I d k h;obtain⟨p,q,i,rfl,rfl,f,g,R⟩:=h;cases d;cases k;obtain⟨w,t,J,_⟩:=I.list f;obtain⟨B,o,z,_⟩:=I.list g;cases o;cases t with
 | nil=>exact SeqAt.RcNeAt.lists (e:=fun _=>true) J.isList z.isList rfl l (fun j f _=>absurd f (by simp)) _ _ _ _ ⟨.bl false,H,I,rfl,R⟩
 | cons r rr=>exact SeqAt.RcNeAt.lists_lengths J.isList z.isList (by simp) l _ _ _ _ ⟨.bl true,H,I,rfl,R⟩
def o7(h:Heap)(y a:Addr)(e:Array Value)(k:Nat):Prop:=(h.IsListIter y a k/\h.IsList a e)\/(h.IsTupleIter y a k/\h.IsTuple a e)
theorem o7.ext{h h':Heap}(z:o7 h it a xs k)(u: ∀o,h.get? it=some o->h'.get? it=some o)(x: ∀o,h.get? a=some o->h'.get? a=some o):o7 h' it a xs k:=by
 rcases z with ⟨N,p⟩ | ⟨N,p⟩
 . exact .inl ⟨let ⟨o,q,r⟩:=N;⟨o,u o q,r⟩,let ⟨o,q,r⟩:=p;⟨o,x o q,r⟩⟩
 . exact .inr ⟨let ⟨o,q,r⟩:=N;⟨o,u o q,r⟩,let ⟨o,q,r⟩:=p;⟨o,x o q,r⟩⟩
theorem xr(z:o7 s.heap it a xs k)(x:a≠it)(b:xs[k]?=some y)(S: ∀F,o7 F it a xs (k+1)->Heap.SameBut it s.heap F->Q y {s with heap:=F}):wpAny (model prog w) A (Builtin.SmallTypes.nextOf (.ref it)) Q E s:=by
 rcases z with ⟨N,p⟩ | ⟨N,p⟩
 . exact wpAny_nextOf_list_item N p b fun F q B=>S F (.inl ⟨q,let ⟨o,e,r⟩:=p;⟨o,(B.2 a x).trans e,r⟩⟩) B
 . exact uh N p b fun F q B=>S F (.inr ⟨q,let ⟨o,e,r⟩:=p;⟨o,(B.2 a x).trans e,r⟩⟩) B
theorem Ew(R:A.handled=none)(z:o7 s.heap it a xs k)(b:xs[k]?=none)(B: ∀F e,Heap.ExtBut it s.heap F->(∃o,F.get? e=some o/\o.cls= .type "StopIteration")->E (.ref e) {s with heap:=F}):wpAny (model prog w) A (Builtin.SmallTypes.nextOf (.ref it)) Q E s:=by
 rcases z with ⟨N,p⟩ | ⟨N,p⟩
 . exact wpAny_nextOf_list_end R N p b B
 . exact ui R N p b B
theorem An{z R B t S j l:Addr}{T i:Nat}{m n:Array Value}{x y a b:Value}{Q:Value->Shared->Prop}(D:ZipApart z R B t S j l)(g:IsZip s.heap z R B .none)(Nx:IsPair s.heap R (.ref t) (.ref S))(Nw:IsPair s.heap B a b)
  (h1:o7 s.heap t j m T) (h2:o7 s.heap S l n i) (hx:m[T]?=some x) (hy:n[i]?=some y)
  (hQ: ∀G,IsZip G z R B (rawInt s.heap.objs.size)->IsPair G B x y->o7 G t j m (T+1)->o7 G S l n (i+1)->IsPair G s.heap.objs.size x y->G.objs.size=s.heap.objs.size+1->
   (∀c o,c≠z->c≠B->c≠t->c≠S->s.heap.get? c=some o->G.get? c=some o)->Q (.ref s.heap.objs.size) {s with heap:=G}):wpAny (model prog w) A (Builtin.«zip.__next__» ⟨[.ref z],[]⟩) (fun fin s'=> ∃v,fin= .done (.ret v)/\Q v s') E s:=by
 show wpAny _ _ (field (.ref z) 2 >>=_) _ _ _;refine aa5 (aj5 g rfl (x:= .bool false) rfl ?_);show wpAny _ _ (field (.ref z) 3 >>=_) _ _ _;refine aa5 (aj5 g rfl (x:= .ref R) rfl ?_);refine aa5 (ak6 Nx rfl ?_);show wpAny _ _ (Builtin.SmallTypes.ownedTupleIsFree (.ref z) >>=_) _ _ _;refine aa5 ?_;unfold Builtin.SmallTypes.ownedTupleIsFree;refine aa5 (aj5 g rfl (x:= .none) rfl (ab2 ?_));simp only [ar2];refine aa5 (aq4 ?_);refine aa5 (aj5 g rfl (x:= .ref B) rfl ?_);refine aa5 (an7 g (by simp) fun k mw X=>?_);replace mw:IsZip k z R B .ellipsis:=mw;refine aa5 ?_;simp only [List.zipIdx_cons,List.zipIdx_nil,List.forIn_cons,List.forIn_nil]
 refine aa5 (aa5 (wpAny_onRaise ?_));show wpAny _ _ (Builtin.SmallTypes.nextOf (.ref t) >>=_) _ _ _;refine aa5 (xr (h1.ext (fun o e=>X.extBut _ _ D.i1z e) fun o e=>X.extBut _ _ D.l1z e) D.l1i1 hx fun J KW Y=>ab2 ?_);have oK:IsPair J B a b:=Y.extBut _ _ D.TOi1 (X.extBut _ _ D.TOz Nw);refine aa5 (ak6 oK rfl ?_);refine aa5 (wpAny_updateSeq_pair oK fun H sU h=>?_);replace sU:IsPair H B x b:=sU;refine aa5 (ar3 (ab2 ?_));refine aa5 (aa5 (wpAny_onRaise ?_));show wpAny _ _ (Builtin.SmallTypes.nextOf (.ref S) >>=_) _ _ _;have W: ∀c o,c≠z->c≠t->c≠B->s.heap.get? c=some o->H.get? c=some o:=fun c o F u C e=>h.extBut _ _ C (Y.extBut _ _ u (X.extBut _ _ F e));refine aa5 (xr (h2.ext (fun o e=>W _ o D.i2z D.i12.symm D.TOi2.symm e) fun o e=>W _ o D.l2z D.l2i1 D.l2TO e) D.l2i2 hy fun Z Rz f=>ab2 ?_);have Fd:IsPair Z B x b:=f.extBut _ _ D.TOi2 sU;refine aa5 (ak6 Fd rfl ?_);refine aa5 (wpAny_updateSeq_pair Fd fun P L I=>?_);replace L:IsPair P B x y:=L;refine aa5 (ar3 (ab2 (ab2 ?_)));refine aa5 (ak6 L rfl ?_);refine aa5 (wpAny_newTuple ?_);have r:P.objs.size=s.heap.objs.size:=by rw[I.1,f.1,h.1,Y.1,X.1]
 have k5: ∀c o,c≠z->c≠B->c≠t->c≠S->s.heap.get? c=some o->P.get? c=some o:=fun c o F u C V e=>I.extBut _ _ u (f.extBut _ _ V (W c o F C u e));have KN:IsZip P z R B .ellipsis:=I.extBut _ _ D.TOz.symm (f.extBut _ _ D.i2z.symm (h.extBut _ _ D.TOz.symm (Y.extBut _ _ D.i1z.symm mw)));have f1:o7 P t j m (T+1):=KW.ext (fun o e=>I.extBut _ _ D.TOi1.symm (f.extBut _ _ D.i12 (h.extBut _ _ D.TOi1.symm e))) fun o e=>I.extBut _ _ D.l1TO (f.extBut _ _ D.l1i2 (h.extBut _ _ D.l1TO e));have f2:o7 P S l n (i+1):=Rz.ext (fun o e=>I.extBut _ _ D.TOi2.symm e) fun o e=>I.extBut _ _ D.l2TO e;have Pj:z < P.objs.size:=ad7 KN;show wpAny _ _ (Builtin.SmallTypes.ownedTupleHandOut (.ref z) (.ref P.objs.size) >>=_) _ _ _;refine aa5 ?_;unfold Builtin.SmallTypes.ownedTupleHandOut;have Q6:IsZip (P.push {cls:= .type "tuple",data:= .seq #[x,y]}) z R B .ellipsis:=aa7 _ KN;refine aa5 (an7 Q6 (by simp) fun d p U=>?_);replace p:IsZip d z R B (rawInt P.objs.size):=p;refine an7 p (by simp) fun O M N=>?_
 replace M:IsZip O z R B (rawInt P.objs.size):=M
 have q: ∀c o,c≠z->P.get? c=some o->O.get? c=some o:=fun c o F e=>N.extBut _ _ F (U.extBut _ _ F (aa7 _ e));have pT:IsPair O P.objs.size x y:=N.extBut _ _ (aq2 Pj) (U.extBut _ _ (aq2 Pj) (ac9 _ rfl));have s8:O.objs.size=P.objs.size+1:=by rw[N.1,U.1,ag4]
 rw[r] at M pT s8;refine ab2 ⟨_,rfl,?_⟩;show Q (.ref P.objs.size) _;rw[r];exact hQ O M (q _ _ D.TOz L) (f1.ext (fun o e=>q _ o D.i1z e) fun o e=>q _ o D.l1z e) (f2.ext (fun o e=>q _ o D.i2z e) fun o e=>q _ o D.l2z e) pT s8 fun c o F u C V e=>q c o F (k5 c o F u C V e)
theorem Al{z R B t T j W:Addr}{U i:Nat}(V:A.handled=none)(D:ZipApart z R B t T j W)(f:IsZip s.heap z R B .none)(Nx:IsPair s.heap R (.ref t) (.ref T))(Nw:IsPair s.heap B a b)(h1:o7 s.heap t j xs U)(h2:o7 s.heap T W ys i)(Nl:xs[U]?=none\/ys[i]?=none)(C: ∀I e,(∀c o,c≠z->c≠B->c≠t->c≠T->s.heap.get? c=some o->I.get? c=some o)->(∃o,I.get? e=some o/\o.cls= .type "StopIteration")->E (.ref e) {s with heap:=I}):wpAny (model prog w) A (Builtin.«zip.__next__» ⟨[.ref z],[]⟩) Q E s:=by
 show wpAny _ _ (field (.ref z) 2 >>=_) _ _ _;refine aa5 (aj5 f rfl (x:= .bool false) rfl ?_);show wpAny _ _ (field (.ref z) 3 >>=_) _ _ _;refine aa5 (aj5 f rfl (x:= .ref R) rfl ?_);refine aa5 (ak6 Nx rfl ?_);show wpAny _ _ (Builtin.SmallTypes.ownedTupleIsFree (.ref z) >>=_) _ _ _;refine aa5 ?_;unfold Builtin.SmallTypes.ownedTupleIsFree;refine aa5 (aj5 f rfl (x:= .none) rfl (ab2 ?_));simp only [ar2];refine aa5 (aq4 ?_);refine aa5 (aj5 f rfl (x:= .ref B) rfl ?_);refine aa5 (an7 f (by simp) fun k L X=>?_);replace L:IsZip k z R B .ellipsis:=L;refine aa5 ?_;simp only [List.zipIdx_cons,List.zipIdx_nil,List.forIn_cons,List.forIn_nil]
 refine aa5 (aa5 (wpAny_onRaise ?_));show wpAny _ _ (Builtin.SmallTypes.nextOf (.ref t) >>=_) _ _ _;have N:o7 k t j xs U:=h1.ext (fun o e=>X.extBut _ _ D.i1z e) fun o e=>X.extBut _ _ D.l1z e;cases h:xs[U]? with
 | none=>
  refine aa5 (Ew V N h fun F e Y J=>?_);obtain⟨r,S,d⟩:=J;have m:IsZip F z R B .ellipsis:=Y _ _ D.i1z.symm L;have p:e≠z:=fun y=>by subst y;rw[m] at S;cases S;simp at d
  exact an7 m (by simp) fun G _ g=>C G e (fun c o H _ v _ y=>g.extBut _ _ H (Y _ _ v (X.extBut _ _ H y))) ⟨r,g.extBut _ _ p S,d⟩
 | some x=>
  have hy:ys[i]?=none:=Nl.resolve_left fun q=>by rw[h] at q;cases q
  refine aa5 (xr N D.l1i1 h fun F KW Y=>ab2 ?_);have oK:IsPair F B a b:=Y.extBut _ _ D.TOi1 (X.extBut _ _ D.TOz Nw);refine aa5 (ak6 oK rfl ?_);refine aa5 (wpAny_updateSeq_pair oK fun G sU g=>?_);refine aa5 (ar3 (ab2 ?_));refine aa5 (aa5 (wpAny_onRaise ?_));show wpAny _ _ (Builtin.SmallTypes.nextOf (.ref T) >>=_) _ _ _;have M: ∀c o,c≠z->c≠t->c≠B->s.heap.get? c=some o->G.get? c=some o:=fun c o H u v e=>g.extBut _ _ v (Y.extBut _ _ u (X.extBut _ _ H e));refine aa5 (Ew V (h2.ext (fun o e=>M _ o D.i2z D.i12.symm D.TOi2.symm e) fun o e=>M _ o D.l2z D.l2i1 D.l2TO e) hy fun Z e n J=>?_);obtain⟨r,S,d⟩:=J;have l:IsZip Z z R B .ellipsis:=n _ _ D.i2z.symm (g.extBut _ _ D.TOz.symm (Y.extBut _ _ D.i1z.symm L));have p:e≠z:=fun y=>by subst y;rw[l] at S;cases S;simp at d
  exact an7 l (by simp) fun P _ O=>C P e (fun c o H u v c4 y=>O.extBut _ _ H (n _ _ c4 (M c o H v u y))) ⟨r,O.extBut _ _ p S,d⟩
theorem Am {z S B t R Y d : Addr} {T g : Nat} (D : ZipApart z S B t R Y d) (e : IsZip s.heap z S B .none) (V : IsPair s.heap S (.ref t) (.ref R)) (U : IsPair s.heap B a b) (h : o7 s.heap t Y xs T) (i : o7 s.heap R d ys g) (j : xs[T]? = some x) (k : ys[g]? = some y) (W : ∀ G, IsZip G z S B (rawInt s.heap.objs.size) -> IsPair G B x y -> o7 G t Y xs (T + 1) -> o7 G R d ys (g + 1) -> IsPair G s.heap.objs.size x y -> G.objs.size = s.heap.objs.size + 1 ->
   (∀c o,c≠z->c≠B->c≠t->c≠R->s.heap.get? c=some o->G.get? c=some o)->Q (some (.ref s.heap.objs.size)) {s with heap:=G}):wpAny (model prog w) A (pyNext (.ref z)) Q E s:=by
 have C:s.TypeIs (.ref z) "zip":=⟨_,e,rfl⟩;unfold pyNext;exact aa5 (wpAny_attempt (ak7 (name:=Str.ofString "__next__") C F.slot_zip_next (an2 F.slot_zip_next C F.entry_zip_next
   (An D e V U h i j k fun G H f r I J L M=>ab2 (W G H f r I J L M)) (F.args_zip_next_1 _))))
theorem CJ{z S x t R Y d:Addr}{U g:Nat}(Z:A.handled=none)(D:ZipApart z S x t R Y d)(f:IsZip s.heap z S x .none)(W:IsPair s.heap S (.ref t) (.ref R))(V:IsPair s.heap x a b)(h:o7 s.heap t Y xs U)(i:o7 s.heap R d ys g)(n:xs[U]?=none\/ys[g]?=none)(X: ∀G,(∀c o,c≠z->c≠x->c≠t->c≠R->s.heap.get? c=some o->G.get? c=some o)->Q none {s with heap:=G}):wpAny (model prog w) A (pyNext (.ref z)) Q E s:=by
 have y:s.TypeIs (.ref z) "zip":=⟨_,f,rfl⟩;unfold pyNext;refine aa5 (wpAny_attempt (ak7 (name:=Str.ofString "__next__") y F.slot_zip_next (an2 F.slot_zip_next y F.entry_zip_next (Al Z D f W V h i n fun G e j H=>?_) (F.args_zip_next_1 _))));obtain⟨o,k,l⟩:=H;refine aa5 (wpAny_isInstance (T:="StopIteration") (b:=true) ⟨o,k,l⟩ isSubtype_stop ?_);exact ab2 (X _ j)
open AutoSeq1 (wpAny_loadPart')
noncomputable def Bq(b:Bool)(a:Addr):Obj:={cls:= .type (if b then "tuple_iterator" else "list_iterator"),data:= .fields #[.ref a,.int 0 0]}
def yq(b:Bool)(h:Heap)(a:Addr)(e:Array Value):Prop:=match b with
 | true=>h.IsTuple a e
 | false=>h.IsList a e
noncomputable def fU(h:Heap)(T u:Bool)(G c:Addr):Heap:=(h.push (Bq T G)).push (Bq u c)
noncomputable def g8(h:Heap)(T u:Bool)(G c:Addr):Heap:=((fU h T u G c).push {cls:= .type "tuple",data:= .seq #[.ref h.objs.size,.ref (h.push (Bq T G)).objs.size]}).push {cls:= .type "tuple",data:= .seq #[.none,.none]}
noncomputable def dQ(h:Heap)(T u:Bool)(G c:Addr):Heap:=
 (g8 h T u G c).push {cls:= .type "zip",data:= .fields #[.none,.bool false,.bool false,.ref (fU h T u G c).objs.size,.ref ((fU h T u G c).push {cls:= .type "tuple",data:= .seq #[.ref h.objs.size,.ref (h.push (Bq T G)).objs.size]}).objs.size]}
theorem Lr(T u:Bool)(G c:Addr)(f n:Array Value):
  Meets (Builtin.«zip.__new__» ⟨[.type "zip",.ref G,.ref c],[]⟩) (fun _ R s=>yq T s.heap G f/\yq u s.heap c n/\R (.ok (.ret (.ref (g8 s.heap T u G c).objs.size))) {s with heap:=dQ s.heap T u G c}):=
 .of_wp fun l w A R s h=>by
  obtain⟨p,g,d,t,i⟩:=s;obtain⟨j,k,h⟩:=h;have I:=sub_zip;cases T <;> cases u
  . have q:Heap.IsList (Shared.heap ⟨p,g,d,t,i⟩) G f:=j;have Z:Heap.IsList (Shared.heap ⟨p.push {cls:= .type "list_iterator",data:= .fields #[.ref G, .int 0 0]},g,d,t,i⟩) c n:=Heap.IsList.push k _;wp_walk using ak8 q,ak8 Z
    exact⟨_,rfl,h⟩
  . have q:Heap.IsList (Shared.heap ⟨p,g,d,t,i⟩) G f:=j;have Z:Heap.IsTuple (Shared.heap ⟨p.push {cls:= .type "list_iterator",data:= .fields #[.ref G, .int 0 0]},g,d,t,i⟩) c n:=let ⟨o,e,r⟩:=k;⟨o,aa7 _ e,r⟩;wp_walk using ak8 q,ai1 Z
    exact⟨_,rfl,h⟩
  . have q:Heap.IsTuple (Shared.heap ⟨p,g,d,t,i⟩) G f:=j;have Z:Heap.IsList (Shared.heap ⟨p.push {cls:= .type "tuple_iterator",data:= .fields #[.ref G, .int 0 0]},g,d,t,i⟩) c n:=Heap.IsList.push k _;wp_walk using ai1 q,ak8 Z
    exact⟨_,rfl,h⟩
  . have q:Heap.IsTuple (Shared.heap ⟨p,g,d,t,i⟩) G f:=j;have Z:Heap.IsTuple (Shared.heap ⟨p.push {cls:= .type "tuple_iterator",data:= .fields #[.ref G, .int 0 0]},g,d,t,i⟩) c n:=let ⟨o,e,r⟩:=k;⟨o,aa7 _ e,r⟩;wp_walk using ai1 q,ai1 Z
    exact⟨_,rfl,h⟩
def pS(b:Bool)(H:Hp)(a:Addr)(e:List V):Prop:=match b with
 | true=>H a=some (.tup e)
 | false=>H a=some (.lst e)
theorem pS.inj(h:pS b H a xs)(k:pS b H a ys):xs=ys:=by
 cases b
 . have h:H a=some (.lst xs):=h;have k:H a=some (.lst ys):=k;rw[h] at k;cases k;rfl
 . have h:H a=some (.tup xs):=h;have k:H a=some (.tup ys):=k;rw[h] at k;cases k;rfl
theorem pS.some{b:Bool}{H:Hp}{a:Addr}{e:List V}(h:pS b H a e): ∃o,H a=some o:=by
 cases b
 . exact⟨_,h⟩
 . exact⟨_,h⟩
def CB(b:Bool)(h:Heap)(y a:Addr)(k:Nat):Prop:=match b with
 | true=>h.IsTupleIter y a k
 | false=>h.IsListIter y a k
theorem CB.obj(z:CB b h it a k): ∃o,h.get? it=Option.some o/\ ∀v,o.data≠ .cell v:=by
 cases b
 . obtain⟨o,q,_,d⟩:=(show h.IsListIter it a k from z);exact⟨o,q,fun v y=>by rw[d] at y;cases y⟩
 . obtain⟨o,q,_,d⟩:=(show h.IsTupleIter it a k from z);exact⟨o,q,fun v y=>by rw[d] at y;cases y⟩
theorem CB.keep{h h':Heap}(z:CB b h it a k)(e: ∀o,h.get? it=Option.some o->h'.get? it=Option.some o):CB b h' it a k:=by
 cases b
 . obtain⟨o,q,r⟩:=(show h.IsListIter it a k from z);exact(show h'.IsListIter it a k from⟨o,e o q,r⟩)
 . obtain⟨o,q,r⟩:=(show h.IsTupleIter it a k from z);exact(show h'.IsTupleIter it a k from⟨o,e o q,r⟩)
theorem CB.To(z:CB b h it a k)(q:yq b h a xs):o7 h it a xs k:=by
 cases b
 . exact .inl ⟨z,q⟩
 . exact .inr ⟨z,q⟩
theorem EM(z:o7 h it a xs k)(q:yq b h a xs):CB b h it a k:=by
 cases b
 . rcases z with ⟨N,_⟩ | ⟨_,o,u,x,_⟩
   . exact N
   . obtain⟨M,c,i,_⟩:=(show h.IsList a xs from q)
     rw[c] at u;cases u;rw[i] at x;injection x with y;exact absurd y (by decide)
 . rcases z with ⟨_,o,u,x,_⟩ | ⟨N,_⟩
   . obtain⟨M,c,i,_⟩:=(show h.IsTuple a xs from q)
     rw[c] at u;cases u;rw[i] at x;injection x with y;exact absurd y (by decide)
   . exact N
theorem Inv.OS(I:Inv X pins σ H s)(h:pS b H a xs): ∃t:List Value,Vals xs t/\yq b s.heap a t.toArray:=by
 cases b
 . obtain⟨t,p,J,_⟩:=I.list (cc.of (show H a=Option.some (.lst xs) from h));exact⟨t,p,J.isList⟩
 . obtain⟨t,p,J,_⟩:=I.tuple (dm.of (show H a=Option.some (.tup xs) from h));exact⟨t,p,J⟩
theorem Inv.As{h':Heap}{t':Nat}{ch:List Addr}(I:Inv X pins σ H s)(l: ∀b∈ch,dW X pins H b)(k: ∀b u,b∉ch->s.heap.get? b=some u->h'.get? b=some u):Inv X pins σ H {s with heap:=h',toks:=t'}:=by
 have V: ∀b u,H b=some u->b∉ch:=fun b u e z=>by rw[(l b z).1] at e;cases e
 refine I.step (g':=s.gens) (d':=s.drawn) (ch:=ch) (fun b f=>?_) (fun b u _ _ g e _=>k b u g e) (fun b u _ _ g e _=>⟨u.slots,k b u g e⟩) (fun _ _ _ _ n=>n)
  (fun b u g e=>⟨u,k b u g e⟩) (fun _ _ e=>e) (fun _ _ _ e=>e) (fun b Z e=>⟨#[],by rw[e];simp⟩) (fun m D=>?_) (fun b u e=>?_) I.bare
 . obtain⟨y,d,i,t,o,w⟩:=l b f;exact⟨t,d,o,w⟩
 . obtain⟨J,C,B,h,r⟩:=D;exact⟨J,C,B,k _ J (fun z=>(l _ z).2.1 rfl) h,r⟩
 . refine(I.bc b u e).wM (fun c v A q=>k c v ?_ q) (fun c q=>q) fun c j q=>q;rcases A with z | z
   . rw[z];exact V b u e
   . exact V c _ z
structure Z5(n:Nat):Prop where
 a:n+2≠n+4
 b:n+3≠n+4
 c:n≠n+4
 d:n+1≠n+4
 e:n+2≠n+3
 f:n+2≠n
 g:n+2≠n+1
 h:n+3≠n
 i:n+3≠n+1
 j:n≠n+1
theorem bI(n:Nat):Z5 n:=⟨by lia,by lia,by lia,by lia,by lia,by lia,by lia,by lia,by lia,by lia⟩
noncomputable def S6(T u:Bool)(G c:Addr):It:=
 ⟨fun i H=> ∃e x n y,pS T H G e/\e[i]?=some x/\pS u H c n/\n[i]?=some y,
  fun i H v w=> ∃p x y,v= .ref p/\H p=none/\w=upd H p (.tup [x,y])/\(∀e,pS T H G e->e[i]?=some x)/\ ∀n,pS u H c n->n[i]?=some y,
  fun i H=> ∃e n,pS T H G e/\pS u H c n/\(e.length<=i\/n.length<=i)⟩
theorem CW{P:Program}{w:World}{K:PySem.W.Frag}{es:List Expr}{x1}{tp:Pos}(b1 b2:Bool)(O U:Addr)(n:Nat):
  Turn P w K (.Tuple es x1 tp) (S6 b1 b2 O U) [n+4,n+2,n+3,n,n+1] (n+4) (fun i h=>IsZip h (n+4) (n+2) (n+3) .none/\IsPair h (n+2) (.ref n) (.ref (n+1))/\(∃a b,IsPair h (n+3) a b)/\CB b1 h n O i/\CB b2 h (n+1) U i) where
 mem:=by simp
 obj:=fun i h Y b l=>by
  obtain⟨N,C,⟨u,v,L⟩,T,G⟩:=Y;simp only [ab9,aa8,or_false] at l;rcases l with rfl | rfl | rfl | rfl | rfl
  . exact⟨_,N,fun v y=>nomatch (show Data.fields _=Data.cell v from y)⟩
  . exact⟨_,C,fun v y=>nomatch (show Data.seq _ _=Data.cell v from y)⟩
  . exact⟨_,L,fun v y=>nomatch (show Data.seq _ _=Data.cell v from y)⟩
  . exact T.obj
  . exact G.obj
 keep:=fun i h F Y J=>by
  obtain⟨N,C,⟨u,v,L⟩,T,G⟩:=Y;exact⟨J _ (by simp) _ N,J _ (by simp) _ C,⟨u,v,J _ (by simp) _ L⟩,T.keep fun o q=>J _ (by simp) o q,G.keep fun o q=>J _ (by simp) o q⟩
 item:=by
  intro X hP hw hK hc i t s σ H E I M Y hg;subst hP hw hK;obtain⟨xs,x,ys,y,p,hx,Z,hy⟩:=hg;obtain⟨ao,rv,p1⟩:=I.OS p;obtain⟨cT,mU,p2⟩:=I.OS Z;obtain⟨u,hu,ru⟩:=rv.get hx;obtain⟨u2,OY,Ve⟩:=mU.get hy;obtain⟨N,C,⟨c1,c2,L⟩,T,G⟩:=Y;have S: ∀{b:Bool} {a:Addr} {B:List V},pS b H a B-> ∀f∈ [n+4,n+2,n+3,n,n+1],a≠f:=fun R f r e=>by
   obtain⟨o,q⟩:=R.some;have:=(M f r).1;rw[<-e,q] at this;cases this
  have D:ZipApart (n+4) (n+2) (n+3) n (n+1) O U:=⟨(bI n).a,(bI n).b,(bI n).c,(bI n).d,(bI n).e,(bI n).f,(bI n).g,(bI n).h,(bI n).i,(bI n).j,S p _ (by simp),S p _ (by simp),S p _ (by simp),S p _ (by simp),S Z _ (by simp),S Z _ (by simp),S Z _ (by simp),S Z _ (by simp)⟩
  refine Am D N C L (T.To p1) (G.To p2) (x:=u) (y:=u2) (by simpa using hu) (by simpa using OY) fun F e1 e2 e3 e4 e5 e6 e7=>⟨_,rfl,?_⟩
  refine wpAny_letOwnedTupleGo_zip e1 fun h2 g1 sb=>?_;have Pj:n+4 < s.heap.objs.size:=ad7 N;have I1:Inv X t σ (upd H s.heap.objs.size (.tup [x,y])) {s with heap:=h2,toks:=s.toks}:=by
   refine I.ly (ch:= [n+4,n+2,n+3,n,n+1]) M (ab3 _) (fun b o l q=>?_) ⟨by show 2<=sizeLine;decide,[u,u2],.cons ru (.cons Ve .nil),?_⟩
   . have m: ∀f,f∈ [n+4,n+2,n+3,n,n+1]->b≠f:=fun f r e=>l (e▸r);exact(sb.2 b (m _ (by simp))).trans (e7 b o (m _ (by simp)) (m _ (by simp)) (m _ (by simp)) (m _ (by simp)) q)
   . exact⟨_,(sb.2 _ (aq2 Pj)).trans e5,rfl,rfl,_,rfl⟩
  have up: ∀b o,b≠n+4->F.get? b=some o->h2.get? b=some o:=fun b o l q=>(sb.2 b l).trans q;have KL: ∀{b:Bool} {a:Addr} {B:Array Value} {ws:List V},pS b H a ws->yq b s.heap a B->yq b F a B:=fun{b a B ws} R hs=>by
   have k: ∀o,s.heap.get? a=some o->F.get? a=some o:=fun o q=>e7 a o (S R _ (by simp)) (S R _ (by simp)) (S R _ (by simp)) (S R _ (by simp)) q;cases b
   . obtain⟨o,f1,f2⟩:=(show s.heap.IsList a B from hs);exact(show F.IsList a B from⟨o,k o f1,f2⟩)
   . obtain⟨o,f1,f2⟩:=(show s.heap.IsTuple a B from hs);exact(show F.IsTuple a B from⟨o,k o f1,f2⟩)
  refine⟨.ref s.heap.objs.size,_,I1,rfl,⟨_,x,y,rfl,I.bc.fresh (ab3 _),rfl,fun B hz=>by rw[hz.inj p];exact hx,fun B hz=>by rw[hz.inj Z];exact hy⟩,⟨g1,?_,⟨u,u2,up _ _ (bI n).b e2⟩,?_,?_⟩,fun b l=>?_⟩
  . exact up _ _ (bI n).a (e7 _ _ (bI n).a (bI n).e (bI n).f (bI n).g C)
  . exact(EM e3 (KL p p1)).keep fun o q=>up _ o (bI n).c q
  . exact(EM e4 (KL Z p2)).keep fun o q=>up _ o (bI n).d q
  . rw[ah (fun z=>?_)]
    . exact(M b l).1
    . have ZY:n+4 < s.heap.objs.size:=Pj;have: ∀f:Nat,f∈ [n+4,n+2,n+3,n,n+1]->f < s.heap.objs.size:=fun f r=>by
       simp only [ab9,aa8,or_false] at r;lia
      exact absurd (z▸this b l) (ag6 _)
 done:=by
  intro X hP hw hK hc i t s σ H E I M Y hg;subst hP hw hK;obtain⟨xs,ys,p,Z,hx⟩:=hg;obtain⟨ao,rv,p1⟩:=I.OS p;obtain⟨cT,mU,p2⟩:=I.OS Z;have l1:=rv.length;have l2:=mU.length;obtain⟨N,C,⟨c1,c2,L⟩,T,G⟩:=Y;have S: ∀{b:Bool} {a:Addr} {B:List V},pS b H a B-> ∀f∈ [n+4,n+2,n+3,n,n+1],a≠f:=fun R f r e=>by
   obtain⟨o,q⟩:=R.some;have:=(M f r).1;rw[<-e,q] at this;cases this
  have D:ZipApart (n+4) (n+2) (n+3) n (n+1) O U:=⟨(bI n).a,(bI n).b,(bI n).c,(bI n).d,(bI n).e,(bI n).f,(bI n).g,(bI n).h,(bI n).i,(bI n).j,S p _ (by simp),S p _ (by simp),S p _ (by simp),S p _ (by simp),S Z _ (by simp),S Z _ (by simp),S Z _ (by simp),S Z _ (by simp)⟩
  refine CJ (I.ok.hd hc) D N C L (T.To p1) (G.To p2) (hx.elim (fun h=> .inl (by rw[List.getElem?_toArray];exact ag1 (by lia))) fun h=> .inr (by rw[List.getElem?_toArray];exact ag1 (by lia))) fun F J=>⟨rfl,?_⟩
  refine I.As (ch:= [n+4,n+2,n+3,n,n+1]) M fun b o l q=>?_;have m: ∀f,f∈ [n+4,n+2,n+3,n,n+1]->b≠f:=fun f r e=>l (e▸r);exact J b o (m _ (by simp)) (m _ (by simp)) (m _ (by simp)) (m _ (by simp)) q
 self:=fun A i s Q E Y h=>wpAny_pyIter_zip Y.1 h
theorem B4:bootBuiltins "zip"=some (.type "zip"):=by decide+kernel
def Q1(e:TA):TI:=fun b H R=>e b H fun t k=> ∃T u G c f n,t= [.ref G,.ref c]/\pS T k G f/\pS u k c n/\R (S6 T u G c) k
theorem wx{x1}(I:Inv X pins σ H s)(q:R (S6 b1 b2 a1 a2) H):
  wpAny (model X.prog X.w) X.A (pyIter (.ref (g8 s.heap b1 b2 a1 a2).objs.size)) (SW X pins σ (.Tuple es x1 tp) R) E {s with heap:=dQ s.heap b1 b2 a1 a2,toks:=tk}:=by
 have N:(s.heap.push (Bq b1 a1)).objs.size=s.heap.objs.size+1:=ag4 ..;have p:(fU s.heap b1 b2 a1 a2).objs.size=s.heap.objs.size+2:=by unfold fU;rw[ag4,N]
 have J:((fU s.heap b1 b2 a1 a2).push {cls:= .type "tuple",data:= .seq #[.ref s.heap.objs.size,.ref (s.heap.push (Bq b1 a1)).objs.size]}).objs.size=s.heap.objs.size+3:=by rw[ag4,p]
 have P:(g8 s.heap b1 b2 a1 a2).objs.size=s.heap.objs.size+4:=by unfold g8;rw[ag4,J]
 have B: ∀c o,s.heap.get? c=some o->(dQ s.heap b1 b2 a1 a2).get? c=some o:=fun c o e=>by
  unfold dQ g8 fU;exact aa7 _ (aa7 _ (aa7 _ (aa7 _ (aa7 _ e))))
 have i:IsZip (dQ s.heap b1 b2 a1 a2) (s.heap.objs.size+4) (s.heap.objs.size+2) (s.heap.objs.size+3) .none:=by
  have:=ac9 (g8 s.heap b1 b2 a1 a2) (o:={cls:= .type "zip",data:= .fields #[.none,.bool false,.bool false,.ref (fU s.heap b1 b2 a1 a2).objs.size,.ref ((fU s.heap b1 b2 a1 a2).push {cls:= .type "tuple",data:= .seq #[.ref s.heap.objs.size,.ref (s.heap.push (Bq b1 a1)).objs.size]}).objs.size]}) rfl;rw[P,p,J] at this;unfold dQ;rw[p,J];exact this
 have L:IsPair (dQ s.heap b1 b2 a1 a2) (s.heap.objs.size+2) (.ref s.heap.objs.size) (.ref (s.heap.objs.size+1)):=by
  have:=ac9 (fU s.heap b1 b2 a1 a2) (o:={cls:= .type "tuple",data:= .seq #[.ref s.heap.objs.size,.ref (s.heap.push (Bq b1 a1)).objs.size]}) rfl;rw[p] at this;have j:(dQ s.heap b1 b2 a1 a2).get? (s.heap.objs.size+2)=some {cls:= .type "tuple",data:= .seq #[.ref s.heap.objs.size,.ref (s.heap.push (Bq b1 a1)).objs.size]}:=by
   unfold dQ g8;exact aa7 _ (aa7 _ this)
  rw[N] at j;exact j
 have U:IsPair (dQ s.heap b1 b2 a1 a2) (s.heap.objs.size+3) .none .none:=by
  have:=ac9 ((fU s.heap b1 b2 a1 a2).push {cls:= .type "tuple",data:= .seq #[.ref s.heap.objs.size,.ref (s.heap.push (Bq b1 a1)).objs.size]}) (o:={cls:= .type "tuple",data:= .seq #[.none,.none]}) rfl;rw[J] at this;unfold dQ g8;exact aa7 _ this
 have u:CB b1 (dQ s.heap b1 b2 a1 a2) s.heap.objs.size a1 0:=by
  have h:(dQ s.heap b1 b2 a1 a2).get? s.heap.objs.size=some (Bq b1 a1):=by
   unfold dQ g8 fU;refine aa7 _ (aa7 _ (aa7 _ (aa7 _ (ac9 _ ?_))));cases b1 <;> rfl
  cases b1
  . exact(show Heap.IsListIter _ _ _ _ from⟨_,h,rfl,rfl⟩)
  . exact(show Heap.IsTupleIter _ _ _ _ from⟨_,h,rfl,rfl⟩)
 have S:CB b2 (dQ s.heap b1 b2 a1 a2) (s.heap.objs.size+1) a2 0:=by
  have h:(dQ s.heap b1 b2 a1 a2).get? (s.heap.push (Bq b1 a1)).objs.size=some (Bq b2 a2):=by
   unfold dQ g8 fU;refine aa7 _ (aa7 _ (aa7 _ (ac9 _ ?_)));cases b2 <;> rfl
  rw[N] at h;cases b2
  . exact(show Heap.IsListIter _ _ _ _ from⟨_,h,rfl,rfl⟩)
  . exact(show Heap.IsTupleIter _ _ _ _ from⟨_,h,rfl,rfl⟩)
 rw[P];refine wpAny_pyIter_zip i ?_;refine⟨s.heap.objs.size+4,_,_,S6 b1 b2 a1 a2,H,rfl,I.kept B,CW b1 b2 a1 a2 s.heap.objs.size,⟨i,L,⟨_,_,U⟩,u,S⟩,fun c l=>?_,q⟩;have g:s.heap.objs.size<=c:=by
  have: ∀n f:Nat,f∈ [n+4,n+2,n+3,n,n+1]->n<=f:=fun n f t=>by
   simp only [ab9,aa8,or_false] at t;omega
  exact this _ _ l
 exact I.sW g (I.bc.fresh g)
theorem lD{x1}(S:Gl X "zip")(z:X.mg "zip"=none)(d:PA X [e,f] t)(hs:starEach [e,f] X.env= [(false,eval e X.env),(false,eval f X.env)]:=by rfl)(m:starEach [f] X.env= [(false,eval f X.env)]:=by rfl):
  PI X (.Tuple es x1 tp) (.Call (.Name "zip" p) [e,f] [] pos) (Q1 t):=by
 intro a s b H R I h;refine Call_ (ez I S z B4 (ag7 (aP (d pos a s b H _ I h) fun N L U=>?_) (by rw[hs,m]) (by rw[m];rfl)));obtain⟨D,k,W,y,x⟩:=U;obtain⟨T,w,G,c,j,n,rfl,V,g,q⟩:=x;obtain⟨u,C,rfl,J,r⟩:=vals2 y;cases J;cases r;obtain⟨v,B,O⟩:=W.OS V;obtain⟨o,A,Y⟩:=W.OS g;exact i0 F.called_zip (by decide) (F.typeCall_zip_2 _ _) (F.newCall_zip_2 _ _) (fun i=>F.args_object_init_3 i _ _) F.entry_zip_new (Lr T w G c v.toArray o.toArray) ⟨O,Y,⟨_,ac9 _ rfl,rfl⟩,wx W q⟩
end L2
namespace LW
open PySem L2 LB PyProof.Rows
theorem aD.none{H H':Hp}{a:Addr}(s:aD H H')(h:H' a=none):H a=none:=by
 cases e:H a with
 | none=>rfl
 | some o=>rw[s _ _ e] at h;cases h
end LW
namespace LD
open PySem PySem.Spec L2 LB PyProof.Rows
inductive Dt where
 | aN | bl (b:Bool) | int (i:Int) | str (x:Str) | lst (ds:List Dt) | tup (ds:List Dt) | Cv (ks:List Key) (ds:List Dt) | pB (ks:List (List Key)) (ds:List Dt)
noncomputable def Dt.VZ:Dt->Bool
 | .aN=>true
 | _=>false
inductive Rep(M:Addr->Prop)(H:Hp):V->Dt->Prop where
 | aN:Rep M H .aN .aN
 | bl (b:Bool):Rep M H (.bl b) (.bl b)
 | int (i:Int):Rep M H (.int i) (.int i)
 | str (x:Str):Rep M H (.str x) (.str x)
 | lst {a:Addr} {xs:List V} {ds:List Dt}:H a=some (.lst xs)-> ¬M a->xs.length=ds.length->(∀(i:Nat) x d,xs[i]?=some x->ds[i]?=some d->Rep M H x d)->Rep M H (.ref a) (.lst ds)
 | tup {a:Addr} {xs:List V} {ds:List Dt}:H a=some (.tup xs)-> ¬M a->xs.length=ds.length->(∀(i:Nat) x d,xs[i]?=some x->ds[i]?=some d->Rep M H x d)->Rep M H (.ref a) (.tup ds)
 | Cv {a:Addr} {vs:List (Key × V)} {ks:List Key} {ds:List Dt}:H a=some (.dK vs)-> ¬M a->vs.map (·.1)=ks->(vs.map (·.2)).length=ds.length->(∀(i:Nat) x d,(vs.map (·.2))[i]?=some x->ds[i]?=some d->Rep M H x d)->Rep M H (.ref a) (.Cv ks ds)
 | pB {a:Addr} {vs:List (List Key × V)} {ks:List (List Key)} {ds:List Dt}:H a=some (.dT vs)-> ¬M a->vs.map (·.1)=ks->(vs.map (·.2)).length=ds.length->(∀(i:Nat) x d,(vs.map (·.2))[i]?=some x->ds[i]?=some d->Rep M H x d)->Rep M H (.ref a) (.pB ks ds)
def aA(M:Addr->Prop)(H:Hp)(e:List V)(ds:List Dt):Prop:=e.length=ds.length/\ ∀(i:Nat) x d,e[i]?=some x->ds[i]?=some d->Rep M H x d
theorem Rep.mono(h:Rep M H v d)(m: ∀a o,H a=some o-> ¬M a->H' a=some o/\ ¬M' a):Rep M' H' v d:=by
 induction h with
 | aN=>exact .aN
 | bl b=>exact .bl b
 | int i=>exact .int i
 | str x=>exact .str x
 | lst h n l r ih=>exact .lst (m _ _ h n).1 (m _ _ h n).2 l ih
 | tup h n l r ih=>exact .tup (m _ _ h n).1 (m _ _ h n).2 l ih
 | Cv h n e l r ih=>exact .Cv (m _ _ h n).1 (m _ _ h n).2 e l ih
 | pB h n e l r ih=>exact .pB (m _ _ h n).1 (m _ _ h n).2 e l ih
theorem aA.mono(h:aA M H xs ds)(m: ∀a o,H a=some o-> ¬M a->H' a=some o/\ ¬M' a):aA M' H' xs ds:=⟨h.1,fun i x d f g=>(h.2 i x d f g).mono m⟩
theorem Rep.same(h:Rep M H v d)(s:aD H H'):Rep M H' v d:=h.mono fun a o e n=>⟨s _ _ e,n⟩
theorem aA.same(h:aA M H xs ds)(s:aD H H'):aA M H' xs ds:=h.mono fun a o e n=>⟨s _ _ e,n⟩
theorem aA.nil:aA M H [] []:=⟨rfl,fun i x d h=>by simp at h⟩
theorem aA.cons{M:Addr->Prop}{H:Hp}{x:V}{d:Dt}{k:List V}{ds:List Dt}(h:Rep M H x d)(r:aA M H k ds):aA M H (x::k) (d::ds):=
 ⟨by rw[ad3,ad3,r.1],fun i y e f g=>by
  cases i with
  | zero=>cases f;cases g;exact h
  | succ j=>exact r.2 j y e (by simpa using f) (by simpa using g)⟩
theorem aA.append(h:aA M H xs ds)(r:aA M H ys es):aA M H (xs++ys) (ds++es):=
 ⟨by rw[ac1,ac1,h.1,r.1],fun i y e f g=>by
  by_cases I:i < xs.length
  . rw[ae4 I] at f;rw[ae4 (by rw[<-h.1];exact I)] at g;exact h.2 i y e f g
  . rw[af2 (by omega)] at f;rw[af2 (by have:=h.1;omega),<-h.1] at g;exact r.2 _ y e f g⟩
theorem aA.one(h:Rep M H x d):aA M H [x] [d]:= .cons h .nil
theorem aA.get(h:aA M H xs ds){i:Nat}(e:ds[i]?=some d): ∃x,xs[i]?=some x/\Rep M H x d:=by
 have I:=(ab0.mp e).1;have j:xs[i]?=some (xs[i]'(by rw[h.1];exact I)):=aa6 _;exact⟨_,j,h.2 i _ _ j e⟩
theorem aA.take(h:aA M H xs ds)(n:Nat):aA M H (xs.take n) (ds.take n):=
 ⟨by rw[ak5,ak5,h.1],fun i y e f g=>by
  rw[List.getElem?_take] at f g;split at f
  . rename_i I;rw[if_pos I] at g;exact h.2 i y e f g
  . cases f⟩
theorem aA.drop(h:aA M H xs ds)(n:Nat):aA M H (xs.drop n) (ds.drop n):=
 ⟨by rw[an3,an3,h.1],fun i y e f g=>by
  rw[List.getElem?_drop] at f g;exact h.2 _ y e f g⟩
theorem aA.aG(h:aA M H xs (d::ds)): ∃x n,xs=x::n/\Rep M H x d/\aA M H n ds:=by
 cases xs with
 | nil=>have:=h.1;simp at this
 | cons x n=>exact⟨x,n,rfl,h.2 0 x d rfl rfl,⟨by have:=h.1;simpa using this,fun i y e f g=>h.2 (i+1) y e (by simpa using f) (by simpa using g)⟩⟩
theorem aA.cG(h:aA M H xs []):xs= []:=List.length_eq_zero_iff.mp (by rw[h.1];rfl)
theorem Rep.nG(h:H a=some (.lst xs))(n: ¬M a)(r:aA M H xs ds):Rep M H (.ref a) (.lst ds):= .lst h n r.1 r.2
theorem Rep.hU(h:H a=some (.tup xs))(n: ¬M a)(r:aA M H xs ds):Rep M H (.ref a) (.tup ds):= .tup h n r.1 r.2
theorem Rep.cA(h:Rep M H v (.lst ds)): ∃a e,v= .ref a/\H a=some (.lst e)/\ ¬M a/\aA M H e ds:=by
 cases h with
 | lst h n l r=>exact⟨_,_,rfl,h,n,l,r⟩
theorem Rep.bM(h:Rep M H v (.tup ds)): ∃a e,v= .ref a/\H a=some (.tup e)/\ ¬M a/\aA M H e ds:=by
 cases h with
 | tup h n l r=>exact⟨_,_,rfl,h,n,l,r⟩
theorem Rep.QC(h:Rep M H v (.pB ks ds)): ∃a t,v= .ref a/\H a=some (.dT t)/\ ¬M a/\t.map (·.1)=ks/\aA M H (t.map (·.2)) ds:=by
 cases h with
 | pB h n e l r=>exact⟨_,_,rfl,h,n,e,l,r⟩
theorem Rep.ofInt(h:Rep M H v (.int i)):v= .int i:=by cases h;rfl
theorem Rep.Eo(h:Rep M H v (.bl i)):v= .bl i:=by cases h;rfl
theorem Rep.ofStr(h:Rep M H v (.str i)):v= .str i:=by cases h;rfl
structure TY where
 rel:(Addr->Prop)->Hp->V->List Addr->Prop
 st: ∀{M M':Addr->Prop} {H H':Hp} {v:V} {as:List Addr},rel M H v as->(∀a∈as,∀o,H a=some o->H' a=some o)->(∀a o,H a=some o-> ¬M a->H' a=some o/\ ¬M' a)->rel M' H' v as
inductive Sl where
 | no | im (d:Dt) | ow (ds:List Dt) | bx (t:Int) | dk (ks:List Key) (ds:List Dt) | ob (R:TY) | fn (f:Addr)
def nu(M:Addr->Prop)(H:Hp)(o:Option V):Sl->List Addr->Prop
 | .no,as=>as= []
 | .im d,as=>as= []/\ ∃v,o=some v/\Rep M H v d
 | .ow ds,as=> ∃a e,as= [a]/\o=some (.ref a)/\H a=some (.lst e)/\aA M H e ds
 | .bx t,as=> ∃d c,as= [d,c]/\o=some (.ref d)/\yx H d c t
 | .dk ks ds,as=> ∃a u,as= [a]/\o=some (.ref a)/\H a=some (.dK u)/\u.map (·.1)=ks/\aA M H (u.map (·.2)) ds
 | .ob R,as=> ∃v,o=some v/\R.rel M H v as
 | .fn f,as=>as= []/\o=some (.ref f)
structure Wd where
 H0:Hp
 A0:Addr->Prop
 M0:Addr->Prop
 M1:Addr->Prop
 box:Option (Addr × Addr)
noncomputable def Sl.bz:Sl->Bool
 | .bx _=>true
 | _=>false
structure TR(W:Wd)(M:Addr->Prop)(α:List (List Addr))(H:Hp)(δ:List Sl):Prop where
 bs: ∀b o,W.H0 b=some o-> ¬W.A0 b->H b=some o
 ex: ∀b,W.H0 b≠none->H b≠none
 fr: ∀a∈α.flatten,W.A0 a\/W.H0 a=none
 m0: ∀a,W.M0 a->M a
 m1: ∀a,M a->W.M1 a\/W.H0 a=none
 bx: ∀d c,W.box=some (d,c)-> ∃t,δ[0]?=some (.bx t)/\α[0]?=some [d,c]
 fz: ∀(i:Nat) s as,δ[i]?=some s->α[i]?=some as->s.bz=false-> ∀a∈as,¬W.M0 a
def gZ(M:Addr->Prop)(H:Hp):Prop:= ∀a,M a-> ∃o,H a=some o/\ ∀e,o≠ .tup e
structure aB(Ws:List Wd)(M:Addr->Prop)(α:List (List Addr))(H:Hp)(σ:L2.St)(δ:List Sl):Prop where
 ls:σ.length=δ.length
 la:α.length=δ.length
 sl: ∀(i:Nat) (s:Sl),δ[i]?=some s-> ∃o as,σ[i]?=some o/\α[i]?=some as/\nu M H o s as
 nd:α.flatten.Nodup
 mu: ∀a∈α.flatten,M a
 al:gZ M H
 w: ∀W∈Ws,TR W M α H δ
def dz(α:List (List Addr))(H H':Hp):Prop:= ∀b o,H b=some o->b∉α.flatten->H' b=some o
theorem dz.rf:dz α H H:=fun _ _ e _=>e
theorem dz.tr(a:dz α H H1)(b:dz α H1 H2):dz α H H2:=fun x o e n=>b _ _ (a _ _ e n) n
theorem dz.of(s:aD H H'):dz α H H':=fun x o e _=>s _ _ e
theorem Rep.chg(h:Rep M H v d)(E:aB W M α H σ δ)(c:dz α H H'):Rep M H' v d:=h.mono fun a o e n=>⟨c _ _ e fun z=>n (E.mu a z),n⟩
theorem aA.chg(h:aA M H v d)(E:aB W M α H σ δ)(c:dz α H H'):aA M H' v d:=h.mono fun a o e n=>⟨c _ _ e fun z=>n (E.mu a z),n⟩
theorem nu.same(h:nu M H o s as)(z:aD H H'):nu M H' o s as:=by
 cases s with
 | no=>exact h
 | im d=>exact⟨h.1,let ⟨v,e,r⟩:=h.2;⟨v,e,r.same z⟩⟩
 | ow ds=>obtain⟨a,i,u,x,W,r⟩:=h;exact⟨a,i,u,x,z _ _ W,r.same z⟩
 | bx t=>obtain⟨d,c,u,x,r⟩:=h;exact⟨d,c,u,x,r.same z⟩
 | dk ks ds=>obtain⟨a,w,u,x,W,g,r⟩:=h;exact⟨a,w,u,x,z _ _ W,g,r.same z⟩
 | ob R=>obtain⟨v,e,r⟩:=h;exact⟨v,e,R.st r (fun a _ o q=>z _ _ q) fun a o q n=>⟨z _ _ q,n⟩⟩
 | fn f=>exact h
theorem aB.same(E:aB W M α H σ δ)(z:aD H H'):aB W M α H' σ δ:=by
 refine⟨E.ls,E.la,fun i s h=>?_,E.nd,E.mu,fun a h=>?_,fun W U=>let k:=E.w W U;⟨fun b o e n=>z _ _ (k.bs b o e n),fun b n y=>k.ex b n (LW.aD.none z y),k.fr,k.m0,k.m1,k.bx,k.fz⟩⟩
 . obtain⟨o,C,f,g,T⟩:=E.sl i s h;exact⟨o,C,f,g,T.same z⟩
 . obtain⟨o,e,n⟩:=E.al a h;exact⟨o,z _ _ e,n⟩
theorem aB.fresh(E:aB W M α H σ δ)(h:H p=none): ¬M p:=fun z=>let ⟨_,e,_⟩:=E.al p z;by rw[h] at e;cases e
theorem gZ.fresh(h:gZ M H)(e:H p=none): ¬M p:=fun z=>let ⟨_,e',_⟩:=h p z;by rw[e] at e';cases e'
theorem gZ.tup{M:Addr->Prop}{H:Hp}(h:gZ M H){p:Addr}{f:List V}(e:H p=some (.tup f)): ¬M p:=fun z=>let ⟨_,e',n⟩:=h p z;by rw[e] at e';cases e';exact n f rfl
theorem gZ.MM(h:gZ M H)(n:vX H xs p H'): ¬M p:=by
 rcases n with ⟨_,e⟩ | ⟨e,_⟩
 . exact h.tup e
 . exact h.fresh e
abbrev bJ:=List Sl->(Dt->List Sl->Prop)->Prop
abbrev ph:=List Sl->(Bool->List Sl->Prop)->Prop
abbrev fJ:=List Sl->(List Dt->List Sl->Prop)->Prop
inductive lE(t:bJ)(σ:L2.St)(H:Hp)(Q:VK):Prop
 | mk (W:List Wd) (M:Addr->Prop) (α:List (List Addr)) (δ:List Sl) (Qd:Dt->List Sl->Prop) (h1:aB W M α H σ δ) (h2:t δ Qd) (h3: ∀d δ' H' v,Qd d δ'->aB W M α H' σ δ'->dz α H H'->Rep M H' v d->Q v H')
inductive lT(t:ph)(σ:L2.St)(H:Hp)(Q:Bool->Hp->Prop):Prop
 | mk (W:List Wd) (M:Addr->Prop) (α:List (List Addr)) (δ:List Sl) (Qd:Bool->List Sl->Prop) (h1:aB W M α H σ δ) (h2:t δ Qd) (h3: ∀b δ' H',Qd b δ'->aB W M α H' σ δ'->dz α H H'->Q b H')
inductive lA(t:fJ)(σ:L2.St)(H:Hp)(Q:List V->Hp->Prop):Prop
 | mk (W:List Wd) (M:Addr->Prop) (α:List (List Addr)) (δ:List Sl) (Qd:List Dt->List Sl->Prop) (h1:aB W M α H σ δ) (h2:t δ Qd) (h3: ∀ds δ' H' vs,Qd ds δ'->aB W M α H' σ δ'->dz α H H'->aA M H' vs ds->Q vs H')
abbrev Ck:=List Sl->(List Dt->List Sl->Prop)->Prop
inductive lO(t:Ck)(σ:L2.St)(H:Hp)(Q:VK):Prop
 | mk (W:List Wd) (M:Addr->Prop) (α:List (List Addr)) (δ:List Sl) (Qd:List Dt->List Sl->Prop) (h1:aB W M α H σ δ) (h2:t δ Qd) (h3: ∀ds δ' H1 xs a,Qd ds δ'->aB W M α H1 σ δ'->dz α H H1->aA M H1 xs ds->H1 a=none->Q (.ref a) (upd H1 a (.lst xs)))
theorem PE.imp(h:PE X e t)(i: ∀b H Q,t' b H Q->t b H Q):PE X e t':=fun a s b H Q I q=>h a s b H Q I (i _ _ _ q)
theorem PT.imp(h:PT X e t)(i: ∀b H Q,t' b H Q->t b H Q):PT X e t':=fun a s b H Q I q=>h a s b H Q I (i _ _ _ q)
theorem PW.imp(h:PW X e t)(i: ∀b H Q,t' b H Q->t b H Q):PW X e t':=fun w a s b H Q I q=>h w a s b H Q I (i _ _ _ q)
theorem PA.imp(h:PA X e t)(i: ∀b H Q,t' b H Q->t b H Q):PA X e t':=fun J a s b H Q I q=>h J a s b H Q I (i _ _ _ q)
theorem PS.imp(h:PS X e t)(i: ∀D b H,t' D b H->t D b H):PS X e t':=fun a s b H D I q=>h a s b H D I (i _ _ _ q)
theorem tN.imp(h:tN X e t)(i: ∀D b H,t' D b H->t D b H):tN X e t':=fun a s b H D I q=>h a s b H D I (i _ _ _ q)
abbrev Ev(X:Cx)(e:Expr)(t:bJ):Prop:=PE X e (lE t)
abbrev Tv(X:Cx)(e:Expr)(t:ph):Prop:=PT X e (lT t)
abbrev Av(X:Cx)(B:List Expr)(t:fJ):Prop:=PA X B (lA t)
abbrev Ov(X:Cx)(e:Expr)(t:Ck):Prop:=PE X e (lO t)
section
variable{X:Cx}{a b c e:Expr}{es:List Expr}{ta tb t:bJ}{pos:Pos}
inductive JF(i:Nat)(δ:List Sl)(Q:Dt->List Sl->Prop):Prop
 | mk (d:_) (h1:δ[i]?=some (.im d)) (h2:Q d δ)
theorem aB.im(E:aB W M α H σ δ){i:Nat}(h:δ[i]?=some (.im d)): ∃v,σ[i]?=some (some v)/\Rep M H v d:=by
 obtain⟨o,C,f,_,_,v,rfl,r⟩:=E.sl i _ h;exact⟨v,f,r⟩
theorem aB.ow(E:aB W M α H σ δ){i:Nat}(h:δ[i]?=some (.ow ds)): ∃a f,σ[i]?=some (some (.ref a))/\α[i]?=some [a]/\H a=some (.lst f)/\aA M H f ds:=by
 obtain⟨o,C,g,j,a,f,rfl,rfl,e,r⟩:=E.sl i _ h;exact⟨a,f,g,j,e,r⟩
theorem NG(i:Nat)(h:PE X (.Name x pos) (fV i)):Ev X (.Name x pos) (JF i):=PE.imp h fun g H Q U=>(by obtain⟨W,M,N,j,y,E,⟨d,s,q⟩,k⟩:=U;exact(by
 obtain⟨v,f,r⟩:=E.im s;exact⟨v,f,k _ _ _ _ q E dz.rf r⟩))
theorem dv(i:Nat)(p:X.N[i]?=some x:=by rfl)(d:TU X.env.scope x:=by first | exact Or.inl rfl | exact Or.inr (Or.inl rfl) | exact Or.inr (Or.inr rfl))(r:(x==("__debug__":Str))=false:=by decide)(P:(x==("__classdict__":Str))=false:=by decide):Ev X (.Name x pos) (JF i):=NG i (DP p d r P)
def dC(d:Dt):bJ:=fun i Q=>Q d i
theorem aq{i j pos}:Ev X (.Constant (.int i) j pos) (dC (.int i)):=PE.imp ck fun d H Q w=>(by obtain⟨W,M,N,l,y,E,q,k⟩:=w;exact(k _ _ _ _ q E dz.rf (.int i)))
theorem jg{i j pos}:Ev X (.Constant (.bool i) j pos) (dC (.bl i)):=PE.imp Qs fun d H Q f=>(by obtain⟨W,M,N,l,y,E,q,k⟩:=f;exact(k _ _ _ _ q E dz.rf (.bl i)))
theorem fG{j pos}:Ev X (.Constant .none j pos) (dC .aN):=PE.imp DR fun d H Q l=>(by obtain⟨W,M,N,i,y,E,q,k⟩:=l;exact(k _ _ _ _ q E dz.rf .aN))
theorem iY{i j pos}:Ev X (.Constant (.str i) j pos) (dC (.str i)):=PE.imp iF fun d H Q w=>(by obtain⟨W,M,N,l,y,E,q,k⟩:=w;exact(k _ _ _ _ q E dz.rf (.str i)))
def dO(t:Ck):bJ:=fun i Q=>t i fun n j=>Q (.lst n) j
theorem Ov.ev{t:Ck}(h:Ov X e t):Ev X e (dO t):=PE.imp h fun d H Q U=>(by obtain⟨W,M,O,i,y,E,q,k⟩:=U;exact(by
 refine⟨W,M,O,i,_,E,q,fun n j l g a o N D r f=>?_⟩;have s:aD l (upd l a (.lst g)):=aD.new f;exact k _ _ _ _ o (N.same s) (D.tr (dz.of s)) (Rep.nG af (N.fresh f) (r.same s))))
abbrev D2:=Dt->Dt->(Dt->Prop)->Prop
def yu(r:R2)(R:D2):Prop:= ∀(M:Addr->Prop) (H:Hp) (x y:V) (d1 d2:Dt) (Qd:Dt->Prop) (Q:VK),gZ M H->Rep M H x d1->Rep M H y d2->R d1 d2 Qd->(∀w v d,Qd d->aD H w->Rep M w v d->Q v w)->r x y H Q
def nh(R:D2)(ta tb:bJ):bJ:=fun i Q=>ta i fun P B=>tb B fun m O=>R P m fun d=>Q d O
theorem mX(w:yu r R): ∀f H Q,lE (nh R ta tb) f H Q->OP r (lE ta) (lE tb) f H Q:=fun f H Q S=>(by obtain⟨W,M,O,i,F,E,q,k⟩:=S;exact(
 ⟨W,M,O,i,_,E,q,fun P B l x o N D z=>⟨W,M,O,B,_,N,o,fun m V C y Z g u U=>w M C x y P m _ _ g.al (z.chg N u) U Z fun A v d T s L=>k _ _ _ _ T (g.same s) ((D.tr u).tr (dz.of s)) L⟩⟩))
theorem vI(h:g6 X (binaryOp op) r)(s:yu r R)(d:Ev X a ta)(f:Ev X b tb):Ev X (.BinOp a op b pos) (nh R ta tb):=PE.imp (de h d f) (mX s)
theorem La(h:g6 X (compareOp op) r)(s:yu r R)(d:Ev X a ta)(f:Ev X b tb)(z:behindInMarks op b=false):Ev X (.Compare a [op] [b] pos) (nh R ta tb):=PE.imp (zd h d f z) (mX s)
inductive Xf(Q:Bool->List Sl->Prop)(d:Dt)(δ':List Sl):Prop
 | mk (c:_) (h1:d= .bl c) (h2:Q c δ')
def dT(t:bJ):ph:=fun i Q=>t i fun d j=>Xf Q d j
theorem dA: ∀σ H (Q:Bool->Hp->Prop),lT (dT t) σ H Q->lE t σ H fun x l=> ∃c,x= .bl c/\Q c l:=fun σ H Q g=>(by obtain⟨W,M,O,i,y,E,q,k⟩:=g;exact(
 ⟨W,M,O,i,_,E,q,fun d j w v F N D r=>(by obtain⟨c,e,o⟩:=F;exact(⟨c,by subst e;exact r.Eo,k _ _ _ o N D⟩))⟩))
theorem gM(j:g6 X (compareOp op) r)(s:yu r R)(d:Ev X a ta)(f:Ev X b tb)(z:behindInMarks op b=false):Tv X (.Compare a [op] [b] pos) (dT (nh R ta tb)):=
 PT.imp (kq j d f z) fun g H Q h=>mX s _ _ _ (dA _ _ _ h |> fun i=>(by obtain⟨W,M,N,l,y,E,q,k⟩:=i;exact(⟨W,M,N,l,y,E,q,k⟩)))
theorem iW(h:Ev X e t)(E: ∀d,isTrue e X.env d=(do let v<-d;standAt e.pos;holding [v] (truthy v)):=by intro _;rfl):Tv X e (dT t):=PT.imp (Mj h E) fun f H Q h=>dA _ _ _ h
def N8(ta:bJ):bJ:=fun i Q=>ta i fun d j=>Q (.bl d.VZ) j
def F7(ta:bJ):bJ:=fun i Q=>ta i fun d j=>Q (.bl (!d.VZ)) j
theorem EN(r:Rep M H v d):decide (v= .aN)=d.VZ:=by cases r <;> rfl
theorem vc: ∀f H Q,lE (N8 ta) f H Q->PQ (lE ta) f H Q:=fun f H Q i=>(by obtain⟨W,M,O,j,y,E,q,k⟩:=i;exact(
 ⟨W,M,O,j,_,E,q,fun d l w v o N D r=>by show Q (V.bl (decide (v=V.aN))) w;rw[EN r];exact k _ _ _ _ o N D (.bl _)⟩))
theorem qj: ∀f H Q,lE (F7 ta) f H Q->Kq (lE ta) f H Q:=fun f H Q G=>(by obtain⟨W,M,O,i,y,E,q,k⟩:=G;exact(
 ⟨W,M,O,i,_,E,q,fun d j w v o N D r=>by show Q (V.bl !decide (v=V.aN)) w;rw[EN r];exact k _ _ _ _ o N D (.bl _)⟩))
theorem zN{j pos'}(d:Ev X a ta):Ev X (.Compare a [.Is] [.Constant .none j pos'] pos) (N8 ta):=PE.imp (DZ (D1 d)) vc
theorem NS{j pos'}(d:Ev X a ta):Ev X (.Compare a [.IsNot] [.Constant .none j pos'] pos) (F7 ta):=PE.imp (DZ (zf d)) qj
theorem gU{j pos'}(d:Ev X a ta):Tv X (.Compare a [.Is] [.Constant .none j pos'] pos) (dT (N8 ta)):=PT.imp (DD (D1 d)) fun f H Q h=>vc _ _ _ (dA _ _ _ h)
theorem hZ{j pos'}(d:Ev X a ta):Tv X (.Compare a [.IsNot] [.Constant .none j pos'] pos) (dT (F7 ta)):=PT.imp (DD (zf d)) fun f H Q h=>qj _ _ _ (dA _ _ _ h)
end
section
variable{X:Cx}{a b c e:Expr}{es rest:List Expr}{ta tb t:bJ}{u v:ph}{pos:Pos}
def Xx(t u:ph):ph:=fun i Q=>t i fun c B=>if c=true then u B Q else Q false B
def dOr(t u:ph):ph:=fun i Q=>t i fun c B=>if c=true then Q true B else u B Q
def Sh(t:ph):ph:=fun i Q=>t i fun c B=>Q (!c) B
theorem jz(h:Tv X a u):PW X (.BoolOp .And [a] pos) (lT u):=pw_and1 h
theorem mi(h:Tv X a u):PW X (.BoolOp .Or [a] pos) (lT u):=pw_or1 h
theorem w_and(f:Tv X a u)(g:PW X (.BoolOp .And (b::rest) pos) (lT v)):PW X (.BoolOp .And (a::b::rest) pos) (lT (Xx u v)):=PW.imp (pw_and f g) fun h H Q m=>(by obtain⟨W,M,O,i,y,E,q,k⟩:=m;exact(
 ⟨W,M,O,i,_,E,q,fun c B l o N D=>by
  cases c with
  | true=>rw[if_pos rfl] at o ⊢;exact⟨W,M,O,B,_,N,o,fun w P C Z d r=>k _ _ _ Z d (D.tr r)⟩
  | false=>rw[if_neg ac3] at o ⊢;exact k _ _ _ o N D⟩))
theorem w_or(f:Tv X a u)(g:PW X (.BoolOp .Or (b::rest) pos) (lT v)):PW X (.BoolOp .Or (a::b::rest) pos) (lT (dOr u v)):=PW.imp (pw_or f g) fun h H Q J=>(by obtain⟨W,M,O,i,y,E,q,k⟩:=J;exact(
 ⟨W,M,O,i,_,E,q,fun c B l o N D=>by
  cases c with
  | false=>rw[if_neg ac3] at o ⊢;exact⟨W,M,O,B,_,N,o,fun w P C Z d r=>k _ _ _ Z d (D.tr r)⟩
  | true=>rw[if_pos rfl] at o ⊢;exact k _ _ _ o N D⟩))
theorem nH(d:Tv X a u):Tv X (.UnaryOp .Not a pos) (Sh u):=PT.imp (Ml d) fun g H Q f=>(by obtain⟨W,M,O,i,y,E,q,k⟩:=f;exact(⟨W,M,O,i,_,E,q,fun c B l o N D=>k _ _ _ o N D⟩))
inductive JS(tb:bJ)(Q:Dt->List Sl->Prop)(d:Dt)(δ1:List Sl):Prop
 | mk (c:_) (h1:d= .bl c) (h2:if c=true then tb δ1 Q else Q (.bl false) δ1)
def Ss(ta tb:bJ):bJ:=fun i Q=>ta i fun d B=>JS tb Q d B
inductive N1(tb:bJ)(Q:Dt->List Sl->Prop)(d:Dt)(δ1:List Sl):Prop
 | mk (c:_) (h1:d= .bl c) (h2:if c=true then Q (.bl true) δ1 else tb δ1 Q)
def Xk(ta tb:bJ):bJ:=fun i Q=>ta i fun d B=>N1 tb Q d B
theorem vJ{op}(h:Ev X a t):Ev X (.BoolOp op [a] pos) t:=Mw h
theorem zO(g:Ev X a ta)(h:Ev X (.BoolOp .And (b::rest) pos) tb):Ev X (.BoolOp .And (a::b::rest) pos) (Ss ta tb):=PE.imp (My g h) fun n H Q i=>(by obtain⟨W,M,O,j,z,E,q,k⟩:=i;exact(
 ⟨W,M,O,j,_,E,q,fun d B l x p N D r=>(by obtain⟨c,e,o⟩:=p;exact(⟨c,by subst e;exact r.Eo,by
  cases c with
  | true=>rw[if_pos rfl] at o ⊢;exact⟨W,M,O,B,_,N,o,fun m R C y Z f w P=>k _ _ _ _ Z f (D.tr w) P⟩
  | false=>rw[if_neg ac3] at o ⊢;exact k _ _ _ _ o N D (.bl _)⟩))⟩))
theorem Xa(g:Ev X a ta)(h:Ev X (.BoolOp .Or (b::rest) pos) tb):Ev X (.BoolOp .Or (a::b::rest) pos) (Xk ta tb):=PE.imp (Qr g h) fun j H Q R=>(by obtain⟨W,M,O,i,z,E,q,k⟩:=R;exact(
 ⟨W,M,O,i,_,E,q,fun d B l x S N D r=>(by obtain⟨c,e,o⟩:=S;exact(⟨c,by subst e;exact r.Eo,by
  cases c with
  | false=>rw[if_neg ac3] at o ⊢;exact⟨W,M,O,B,_,N,o,fun m T C y Z f w P=>k _ _ _ _ Z f (D.tr w) P⟩
  | true=>rw[if_pos rfl] at o ⊢;exact k _ _ _ _ o N D (.bl _)⟩))⟩))
def dIf(t:ph)(ta tb:bJ):bJ:=fun i Q=>t i fun c B=>if c=true then ta B Q else tb B Q
theorem cS(l:Tv X c u)(f:Ev X a ta)(g:Ev X b tb):Ev X (.IfExp c a b pos) (dIf u ta tb):=PE.imp (DV l f g) fun h H Q i=>(by obtain⟨W,M,N,j,z,E,q,k⟩:=i;exact(
 ⟨W,M,N,j,_,E,q,fun c B n o R D=>by
  cases c with
  | true=>rw[if_pos rfl] at o ⊢;exact⟨W,M,N,B,_,R,o,fun m O C y Z d w P=>k _ _ _ _ Z d (D.tr w) P⟩
  | false=>rw[if_neg ac3] at o ⊢;exact⟨W,M,N,B,_,R,o,fun m O C y Z d w P=>k _ _ _ _ Z d (D.tr w) P⟩⟩))
def JO:fJ:=fun i Q=>Q [] i
def vK(ta:bJ)(y:fJ):fJ:=fun i Q=>ta i fun d B=>y B fun n O=>Q (d::n) O
theorem ae:Av X [] JO:=PA.imp bQ fun d H Q r=>(by obtain⟨W,M,N,i,y,E,q,k⟩:=r;exact(k _ _ _ _ q E dz.rf .nil))
theorem aa(g:Ev X e ta)(m:Av X es tr)(hs:starEach (e::es) X.env=(false,eval e X.env)::starEach es X.env:=by rfl):Av X (e::es) (vK ta tr):=PA.imp (a8 g m hs) fun p H Q j=>(by obtain⟨W,M,O,i,y,E,q,k⟩:=j;exact(
 ⟨W,M,O,i,_,E,q,fun d B l x o N D r=>⟨W,M,O,B,_,N,o,fun n R C h Z f w P=>k _ _ _ _ Z f (D.tr w) (.cons (r.chg N w) P)⟩⟩))
def Xd(t:fJ):bJ:=fun i Q=>t i fun n j=>n.length<=sizeLine/\Q (.tup n) j
def Si(t:fJ):Ck:=fun i Q=>t i fun n j=>n.length<=sizeLine/\Q n j
theorem bL{x1}{t:fJ}(h:Av X es t):Ev X (.Tuple es x1 pos) (Xd t):=PE.imp (DQ h) fun d H Q x=>(by obtain⟨W,M,O,i,z,E,q,k⟩:=x;exact(
 ⟨W,M,O,i,_,E,q,fun n B m f y N D w=>(by obtain⟨l,o⟩:=y;exact(⟨by rw[w.1];exact l,fun p r=>by
  have s:aD m (upd m p (.tup f)):=aD.new r;exact k _ _ _ _ o (N.same s) (D.tr (dz.of s)) (Rep.hU af (N.fresh r) (w.same s))⟩))⟩))
theorem jo{t:fJ}(h:Av X es t):Ov X (.List es pos) (Si t):=PE.imp (jG h) fun d H Q J=>(by obtain⟨W,M,O,i,y,E,q,k⟩:=J;exact(
 ⟨W,M,O,i,_,E,q,fun n B m f L N D r=>(by obtain⟨l,o⟩:=L;exact(⟨by rw[r.1];exact l,fun p s=>k _ _ _ _ _ o N D r s⟩))⟩))
theorem gX{t:fJ}(h:Av X es t):Ev X (.List es pos) (dO (Si t)):=Ov.ev (jo h)
abbrev DN:=List Dt->(Dt->Prop)->Prop
def Tf(r:List V->Hp->VK->Prop)(R:DN):Prop:= ∀(M:Addr->Prop) (H:Hp) (xs:List V) (ds:List Dt) (Qd:Dt->Prop) (Q:VK),gZ M H->aA M H xs ds->R ds Qd->(∀w v d,Qd d->aD H w->Rep M w v d->Q v w)->r xs H Q
def BR(R:DN)(t:fJ):bJ:=fun i Q=>t i fun n j=>R n fun d=>Q d j
theorem qK{r:List V->Hp->VK->Prop}{R:DN}{t:fJ}(x:Tf r R): ∀f H Q,lE (BR R t) f H Q->U0 r (lA t) f H Q:=fun f H Q w=>(by obtain⟨W,M,O,i,A,E,q,k⟩:=w;exact(
 ⟨W,M,O,i,_,E,q,fun n B l g o N D y=>x M l g n _ _ N.al y o fun z v d P s L=>k _ _ _ _ P (N.same s) (D.tr (dz.of s)) L⟩))
theorem gN{id:String}{x:Str}{p:Pos}{r:List V->Hp->VK->Prop}{R:DN}{t:fJ}(l:fK X (.builtin id) r)(s:Tf r R)(S:Gl X x)(z:X.mg x=none)(f:bootBuiltins x=some (.builtin id))(d:Av X (e::es) t)(g:x≠"__name__":=by decide)(h:(x==("__debug__":Str))=false:=by decide)
  (E:starEach (e::es) X.env=(false,eval e X.env)::starEach es X.env:=by rfl) (w:(backTo pos (starEach es X.env)).any (·.1)=false:=by rfl):Ev X (.Call (.Name x p) (e::es) [] pos) (BR R t):=
 PE.imp (nZ l S z f d g h E w) (qK s)
theorem F3{T:String}{x:Str}{p:Pos}{r:List V->Hp->VK->Prop}{R:DN}{t:fJ}(l:fK X (.type T) r)(s:Tf r R)(S:Gl X x)(z:X.mg x=none)(f:bootBuiltins x=some (.type T))(d:Av X (e::es) t)(g:x≠"__name__":=by decide)(h:(x==("__debug__":Str))=false:=by decide)
  (E:starEach (e::es) X.env=(false,eval e X.env)::starEach es X.env:=by rfl) (w:(backTo pos (starEach es X.env)).any (·.1)=false:=by rfl):Ev X (.Call (.Name x p) (e::es) [] pos) (BR R t):=
 PE.imp (gg l S z f d g h E w) (qK s)
end
inductive OM(g:Int->Int->Dt)(d1:Dt)(d2:Dt)(Q:Dt->Prop):Prop
 | mk (i j:_) (h1:d1= .int i) (h2:d2= .int j) (h3:Q (g i j))
inductive OL(C:Int->Int->Prop)(g:Int->Int->Dt)(d1:Dt)(d2:Dt)(Q:Dt->Prop):Prop
 | mk (i j:_) (h1:d1= .int i) (h2:d2= .int j) (h3:C i j) (h4:Q (g i j))
theorem BM(h: ∀M H i j,Rep M H (g i j) (gd i j)):yu (Cr g) (OM gd):=fun M H x y O m B Q Y r P U k=>(by obtain⟨i,j,u,A,q⟩:=U;exact(by
 subst u;subst A;exact⟨i,j,r.ofInt,P.ofInt,k H _ _ q (fun _ _ z=>z) (h M H i j)⟩))
theorem K5(h: ∀M H i j,Rep M H (g i j) (gd i j)):yu (rI C g) (OL C gd):=fun M H x y O m B Q Y r P w k=>(by obtain⟨i,j,u,A,c,q⟩:=w;exact(by
 subst u;subst A;exact⟨i,j,r.ofInt,P.ofInt,c,k H _ _ q (fun _ _ z=>z) (h M H i j)⟩))
section
variable{X:Cx}{a b c e:Expr}{es rest:List Expr}{ta tb tc t:bJ}{pos:Pos}
abbrev Xy(ta tb:bJ):bJ:=nh (OM fun i j=> .int (i+j)) ta tb
abbrev Xg(ta tb:bJ):bJ:=nh (OM fun i j=> .int (i - j)) ta tb
theorem cM(d:Ev X a ta)(f:Ev X b tb):Ev X (.BinOp a .Add b pos) (Xy ta tb):=vI oa (BM fun _ _ _ _=> .int _) d f
theorem di(d:Ev X a ta)(f:Ev X b tb):Ev X (.BinOp a .Sub b pos) (Xg ta tb):=vI MA (BM fun _ _ _ _=> .int _) d f
theorem qD(d:Ev X a ta)(f:Ev X b tb):Ev X (.BinOp a .Mult b pos) (nh (OL yw fun i j=> .int (i*j)) ta tb):=vI jI (K5 fun _ _ _ _=> .int _) d f
theorem K8(d:Ev X a ta)(f:Ev X b tb):Ev X (.BinOp a .Pow b pos) (nh (OL Cn fun i j=> .int (i^j.toNat)) ta tb):=vI D4 (K5 fun _ _ _ _=> .int _) d f
abbrev XX:D2:=OM fun i j=> .bl (decide (i < j))
abbrev XY:D2:=OM fun i j=> .bl (decide (i<=j))
abbrev XZ:D2:=OM fun i j=> .bl (decide (j < i))
abbrev X0:D2:=OM fun i j=> .bl (decide (j<=i))
theorem Py(d:Ev X a ta)(f:Ev X b tb):Tv X (.Compare a [.Lt] [b] pos) (dT (nh XX ta tb)):=gM n9 (BM fun _ _ _ _=> .bl _) d f (dF _)
theorem Pz(d:Ev X a ta)(f:Ev X b tb):Tv X (.Compare a [.LtE] [b] pos) (dT (nh XY ta tb)):=gM Qu (BM fun _ _ _ _=> .bl _) d f (dF _)
theorem LP(d:Ev X a ta)(f:Ev X b tb):Tv X (.Compare a [.Gt] [b] pos) (dT (nh XZ ta tb)):=gM Qv (BM fun _ _ _ _=> .bl _) d f (dF _)
theorem UP(d:Ev X a ta)(f:Ev X b tb):Tv X (.Compare a [.GtE] [b] pos) (dT (nh X0 ta tb)):=gM KA (BM fun _ _ _ _=> .bl _) d f (dF _)
noncomputable def eq2:Dt->Dt->Option Bool
 | .aN,.aN=>some true | .aN,.int _=>some false | .int _,.aN=>some false | .aN,.bl _=>some false | .bl _,.aN=>some false | .aN,.str _=>some false | .str _,.aN=>some false
 | .int i,.int j=>some (decide (i=j)) | .bl i,.bl j=>some (decide (i=j)) | .str i,.str j=>some (decide (i=j))
 | .int _,.str _=>some false | .str _,.int _=>some false | .bl _,.str _=>some false | .str _,.bl _=>some false
 | _,_=>none
inductive ON(d1:Dt)(d2:Dt)(Q:Dt->Prop):Prop
 | mk (b:_) (h1:eq2 d1 d2=some b) (h2:Q (.bl b))
inductive Tc(d1:Dt)(d2:Dt)(Q:Dt->Prop):Prop
 | mk (b:_) (h1:eq2 d1 d2=some b) (h2:Q (.bl (!b)))
noncomputable def NF:Dt->Option V
 | .aN=>some .aN | .bl b=>some (.bl b) | .int i=>some (.int i) | .str x=>some (.str x) | _=>none
theorem Rep.fl(r:Rep M H v d)(h:NF d=some u):v=u:=by
 cases r <;> cases h <;> rfl
theorem dcI:decide (V.int i=V.int j)=decide (i=j):=by simp
theorem dcB:decide (V.bl i=V.bl j)=decide (i=j):=by simp
theorem dcS:decide (V.str i=V.str j)=decide (i=j):=by simp
inductive E2(d1 d2:Dt)(b:Bool):Prop
 | mk (u1 u2:V) (h1:NF d1=some u1) (h2:NF d2=some u2) (h3:HL u1 u2=true/\decide (u1=u2)=b)
def ZU(O m:Dt):Option Bool->Prop
 | none=>True
 | some b=>E2 O m b
theorem NJ:ZU d1 d2 (eq2 d1 d2):=by
 cases d1 with
 | lst _=>trivial
 | tup _=>trivial
 | Cv _ _=>trivial
 | pB _ _=>trivial
 | _=>cases d2 with
  | lst _=>trivial
  | tup _=>trivial
  | Cv _ _=>trivial
  | pB _ _=>trivial
  | _=>first | trivial | exact⟨_,_,rfl,rfl,rfl,rfl⟩ | exact⟨_,_,rfl,rfl,rfl,dcI⟩ | exact⟨_,_,rfl,rfl,rfl,dcB⟩ | exact⟨_,_,rfl,rfl,rfl,dcS⟩
theorem FC{b:Bool}(r:Rep M H x d1)(P:Rep M H y d2)(h:eq2 d1 d2=some b):HL x y=true/\decide (x=y)=b:=by
 have z:ZU d1 d2 (some b):=h▸NJ;obtain⟨d,B,u,A,q⟩:=z;rw[r.fl u,P.fl A];exact q
theorem K6:yu Ye ON:=fun M H x y O m A Q Y r P h k=>(by obtain⟨b,e,q⟩:=h;exact(by
 obtain⟨f,g⟩:=FC r P e;exact⟨f,by rw[g];exact k H _ _ q (fun _ _ z=>z) (.bl b)⟩))
theorem RO:yu Yc Tc:=fun M H x y O m A Q Y r P j k=>(by obtain⟨b,e,q⟩:=j;exact(by
 obtain⟨f,g⟩:=FC r P e;exact⟨f,by rw[g];exact k H _ _ q (fun _ _ z=>z) (.bl _)⟩))
theorem xY(d:Ev X a ta)(f:Ev X b tb):Ev X (.Compare a [.Eq] [b] pos) (nh ON ta tb):=La KC K6 d f (dF _)
theorem wI(d:Ev X a ta)(f:Ev X b tb):Tv X (.Compare a [.Eq] [b] pos) (dT (nh ON ta tb)):=gM KC K6 d f (dF _)
theorem uu(d:Ev X a ta)(f:Ev X b tb):Tv X (.Compare a [.NotEq] [b] pos) (dT (nh Tc ta tb)):=gM Qt RO d f (dF _)
inductive Ta(g:Int->Dt)(Q:Dt->List Sl->Prop)(d:Dt)(δ':List Sl):Prop
 | mk (i:_) (h1:d= .int i) (h2:Q (g i) δ')
def D_u(g:Int->Dt)(ta:bJ):bJ:=fun i Q=>ta i fun d j=>Ta g Q d j
theorem kO(f:Ev X a ta):Ev X (.UnaryOp .USub a pos) (D_u (fun i=> .int (-i)) ta):=PE.imp (Qq LC f) fun g H Q w=>(by obtain⟨W,M,P,j,y,E,q,k⟩:=w;exact(
 ⟨W,M,P,j,_,E,q,fun d B l x O N D r=>(by obtain⟨i,e,o⟩:=O;exact(⟨i,by subst e;exact r.ofInt,k _ _ _ _ o N D (.int _)⟩))⟩))
theorem tK(r:aA M H xs ds)(h:jh ds i=some d): ∃x,jh xs i=some x/\Rep M H x d:=by
 unfold jh at h ⊢;rw[r.1];cases g:zw ds.length i with
 | none=>rw[g] at h;cases h
 | some j=>rw[g] at h;exact r.get h
inductive Td(d1:Dt)(d2:Dt)(Q:Dt->Prop):Prop
 | mk (ds i d:_) (h1:(d1= .lst ds\/d1= .tup ds)) (h2:d2= .int i) (h3:jh ds i=some d) (h4:Q d)
theorem RP{K:PySem.W.Frag}:yu (Yd K) Td:=fun M H x y R m B Q Y r P O k=>(by obtain⟨o,i,d,u,A,h,q⟩:=O;exact(by
 subst A;rcases u with u | u
 . subst u;obtain⟨a,j,rfl,f,n,w⟩:=r.cA;obtain⟨v,g,p⟩:=tK w h;exact .inl ⟨a,j,i,v,rfl,P.ofInt,cc.of f,g,k H _ _ q (fun _ _ z=>z) p⟩
 . subst u;obtain⟨a,j,rfl,f,n,w⟩:=r.bM;obtain⟨v,g,p⟩:=tK w h;exact .inr (.inl ⟨a,j,i,v,rfl,P.ofInt,dm.of f,g,k H _ _ q (fun _ _ z=>z) p⟩)))
theorem cy(d:Ev X a ta)(f:Ev X b tb)(hs:tM b:=by exact fun _ _=>rfl):Ev X (.Subscript a b pos) (nh Td ta tb):=PE.imp (DU M6 d f hs) (mX RP)
noncomputable def cutD(ds:List Dt)(lo hi:Option Int):List Dt:=(ds.drop (HT.da ds.length 0 lo)).take (HT.da ds.length ds.length hi - HT.da ds.length 0 lo)
theorem aA.cut(r:aA M H xs ds)(lo hi:Option Int):aA M H (mP xs lo hi) (cutD ds lo hi):=by
 unfold mP cutD;rw[r.1];exact(r.drop _).take _
abbrev Pc:=List Sl->(Option Int->List Sl->Prop)->Prop
inductive lP(t:Pc)(σ:L2.St)(H:Hp)(Q:Option Int->Hp->Prop):Prop
 | mk (W:List Wd) (M:Addr->Prop) (α:List (List Addr)) (δ:List Sl) (Qd:Option Int->List Sl->Prop) (h1:aB W M α H σ δ) (h2:t δ Qd) (h3: ∀o δ' H',Qd o δ'->aB W M α H' σ δ'->dz α H H'->Q o H')
def Xl:Pc:=fun i Q=>Q none i
inductive JJ(Q:Option Int->List Sl->Prop)(d:Dt)(δ':List Sl):Prop
 | mk (i:_) (h1:d= .int i) (h2:Q (some i) δ')
def Sd(t:bJ):Pc:=fun i Q=>t i fun d j=>JJ Q d j
abbrev Pv(X:Cx)(o:Option Expr)(t:Pc):Prop:=PO X o (lP t)
theorem PO.imp{X:Cx}{e:Option Expr}{t t':L2.TO}(h:PO X e t)(i: ∀f H Q,t' f H Q->t f H Q):PO X e t':=fun d s f H Q I q=>h d s f H Q I (i _ _ _ q)
theorem n8:Pv X none Xl:=PO.imp za fun d H Q g=>(by obtain⟨W,M,N,i,y,E,q,k⟩:=g;exact(k _ _ _ q E dz.rf))
theorem n6(h:Ev X e t):Pv X (some e) (Sd t):=PO.imp (y9 h) fun f H Q F=>(by obtain⟨W,M,O,l,y,E,q,k⟩:=F;exact(
 ⟨W,M,O,l,_,E,q,fun d B m x j N D r=>(by obtain⟨i,e,o⟩:=j;exact(⟨i,by subst e;exact r.ofInt,k _ _ _ o N D⟩))⟩))
inductive NZ(Q:Dt->List Sl->Prop)(d:Dt)(lo:Option Int)(hi:Option Int)(δ3:List Sl):Prop
 | mk (ds:_) (h1:d= .tup ds) (h2:Q (.tup (cutD ds lo hi)) δ3)
def Xh(ta:bJ)(J f:Pc):bJ:=fun i Q=>ta i fun d B=>J B fun z O=>f O fun I L=>NZ Q d z I L
inductive N0(Q:Dt->List Sl->Prop)(d:Dt)(lo:Option Int)(hi:Option Int)(δ3:List Sl):Prop
 | mk (ds:_) (h1:d= .lst ds) (h2:Q (.lst (cutD ds lo hi)) δ3)
def Xi(ta:bJ)(J f:Pc):bJ:=fun i Q=>ta i fun d B=>J B fun z O=>f O fun I L=>N0 Q d z I L
theorem FX{lo hi:Option Expr}(f:Ev X a ta)(z:Pv X lo tl)(T:Pv X hi th):Ev X (.Subscript a (.Slice lo hi none p2) pos) (Xh ta tl th):=PE.imp (nX HJ f z T) fun I H Q U=>(by obtain⟨W,M,N,i,F,E,q,k⟩:=U;exact(
 ⟨W,M,N,i,_,E,q,fun d B l x o P D r=>⟨W,M,N,B,_,P,o,fun j O C Z g u=>⟨W,M,N,O,_,g,Z,fun m L S y R v=>(by obtain⟨G,e,V⟩:=y;exact(by
  subst e;obtain⟨a,h,rfl,f,n,A⟩:=((r.chg P u).chg g v).bM;refine⟨a,h,rfl,f,fun p w Y=>?_⟩;have s:aD S w:=Y.keep;exact k _ _ _ _ V (R.same s) (((D.tr u).tr v).tr (dz.of s)) (Rep.hU Y.at (R.al.MM Y) ((A.cut _ _).same s))))⟩⟩⟩))
theorem K7{lo hi:Option Expr}(f:Ev X a ta)(w:Pv X lo tl)(T:Pv X hi th):Ev X (.Subscript a (.Slice lo hi none p2) pos) (Xi ta tl th):=PE.imp (nX yM f w T) fun G H Q i=>(by obtain⟨W,M,N,l,A,E,q,k⟩:=i;exact(
 ⟨W,M,N,l,_,E,q,fun d B m x o P D y=>⟨W,M,N,B,_,P,o,fun U O C Z g u=>⟨W,M,N,O,_,g,Z,fun V L S j R v=>(by obtain⟨F,e,Y⟩:=j;exact(by
  subst e;obtain⟨a,h,rfl,f,n,z⟩:=((y.chg P u).chg g v).cA;refine⟨a,h,rfl,cc.of f,fun p r=>?_⟩;have s:aD S (upd S p (.lst (mP h U V))):=aD.new r;exact k _ _ _ _ Y (R.same s) (((D.tr u).tr v).tr (dz.of s)) (Rep.nG af (R.fresh r) ((z.cut _ _).same s))))⟩⟩⟩))
inductive G3(d1:Dt)(d2:Dt)(Q:Dt->Prop):Prop
 | mk (ds es:_) (h1:d1= .tup ds) (h2:d2= .tup es) (h3:ds.length+es.length<=sizeLine) (h4:Q (.tup (ds++es)))
inductive G4(d1:Dt)(d2:Dt)(Q:Dt->Prop):Prop
 | mk (ds es:_) (h1:d1= .lst ds) (h2:d2= .lst es) (h3:ds.length+es.length<=sizeLine) (h4:Q (.lst (ds++es)))
theorem Jz:yu Ky G3:=fun M H x y O m A Q Y r P g k=>(by obtain⟨s,es,u,z,l,q⟩:=g;exact(by
 subst u;subst z;obtain⟨a,h,rfl,d,n,w⟩:=r.bM;obtain⟨b,o,rfl,f,i,R⟩:=P.bM;exact⟨a,b,h,o,rfl,rfl,d,f,by rw[w.1,R.1];exact l,fun p v W=>k v _ _ q W.keep (Rep.hU W.at (Y.MM W) ((w.append R).same W.keep))⟩))
theorem JA:yu Qe G4:=fun M H x y O m B Q Y v P A k=>(by obtain⟨C,es,u,z,l,q⟩:=A;exact(by
 subst u;subst z;obtain⟨a,f,rfl,d,n,w⟩:=v.cA;obtain⟨b,o,rfl,g,h,R⟩:=P.cA;refine⟨a,b,f,o,rfl,rfl,d,g,by rw[w.1,R.1];exact l,fun p r=>?_⟩;have s:aD H (upd H p (.lst (f++o))):=aD.new r;exact k _ _ _ q s (Rep.nG af (Y.fresh r) ((w.append R).same s))))
theorem tj(d:Ev X a ta)(f:Ev X b tb):Ev X (.BinOp a .Add b pos) (nh G3 ta tb):=vI Iu Jz d f
theorem F2(d:Ev X a ta)(f:Ev X b tb):Ev X (.BinOp a .Add b pos) (nh G4 ta tb):=vI MD JA d f
inductive G0(d1:Dt)(d2:Dt)(Q:Dt->Prop):Prop
 | mk (ds k:_) (h1:d1= .lst ds) (h2:d2= .int k) (h3: -(2^63)<=k) (h4:k < 2^63) (h5:ds.length*k.toNat<=sizeLine) (h6:Q (.lst (List.replicate k.toNat ds).flatten))
theorem aA.rep(r:aA M H xs ds): ∀n:Nat,aA M H (List.replicate n xs).flatten (List.replicate n ds).flatten
 | 0=> .nil
 | n+1=>by
  rw[ah7,ah7,ag2,ag2];exact r.append (r.rep n)
theorem Jy:yu P8 G0:=fun M H x y O m A Q Y v P N k=>(by obtain⟨o,n,u,z,g,h,l,q⟩:=N;exact(by
 subst u;subst z;obtain⟨a,f,rfl,d,R,w⟩:=v.cA;refine⟨a,n,f,rfl,P.ofInt,d,g,h,by rw[w.1];exact l,fun p r=>?_⟩;have s:aD H (upd H p (.lst (List.replicate n.toNat f).flatten)):=aD.new r;exact k _ _ _ q s (Rep.nG af (Y.fresh r) ((w.rep _).same s))))
theorem NR(d:Ev X a ta)(f:Ev X b tb):Ev X (.BinOp a .Mult b pos) (nh G0 ta tb):=vI MB Jy d f
noncomputable def bO:Dt->Bool
 | .lst _=>false
 | .tup _=>false
 | .Cv _ _=>false
 | .pB _ _=>false
 | _=>true
noncomputable def zE:Dt->Dt->Bool
 | .aN,.aN=>true
 | .bl a,.bl b=>a==b
 | .bl a,.int b=>(if a then 1 else 0)==b
 | .int a,.bl b=>a==(if b then 1 else 0)
 | .int a,.int b=>a==b
 | .str a,.str b=>a==b
 | _,_=>false
noncomputable def inD(d:Dt)(ds:List Dt):Bool:=ds.any fun e=>zE e d
theorem gr(r:Rep M H v d)(h:bO d=true):cJ v=true:=by cases r <;> first | rfl | cases h
def EVo(d e:Dt):Option V->Option V->Prop
 | some u,some v=>oQ u v=zE d e
 | _,_=>False
theorem NI{d e:Dt}(h:bO d=true)(g:bO e=true):EVo d e (NF d) (NF e):=by
 cases d with
 | lst _=>cases h
 | tup _=>cases h
 | Cv _ _=>cases h
 | pB _ _=>cases h
 | _=>cases e with
  | lst _=>cases g
  | tup _=>cases g
  | Cv _ _=>cases g
  | pB _ _=>cases g
  | _=>exact(rfl:_=_)
theorem kL{M:Addr->Prop}{H:Hp}{v w:V}{d e:Dt}(r:Rep M H v d)(P:Rep M H w e)(h:bO d=true)(g:bO e=true):oQ v w=zE d e:=by
 have z:=NI h g;cases x:NF d with
 | none=>rw[x] at z;exact z.elim
 | some u=>
  cases y:NF e with
  | none=>rw[x,y] at z;exact z.elim
  | some u2=>
   rw[x,y] at z;rw[r.fl x,P.fl y];exact z
theorem lY(r:aA M H xs ds)(h:ds.all bO=true):xs.all cJ=true:=af6.mpr fun x j=>by
 obtain⟨i,I,e⟩:=ak0 j;have f:xs[i]?=some x:=by rw[aa6 I,e]
 have g:ds[i]?=some (ds[i]'(by rw[<-r.1];exact I)):=aa6 _;exact gr (r.2 i _ _ f g) (af6.mp h _ (ac8 g))
theorem zA(r:Rep M H v d)(s:bO d=true): ∀{xs:List V} {ds:List Dt},aA M H xs ds->ds.all bO=true->pJ v xs=inD d ds
 | [],[],_,_=>rfl
 | [],_::_,h,_=>by have:=h.1;simp at this
 | _::_,[],h,_=>by have:=h.1;simp at this
 | x::xs,e::ds,h,hf=>by
  obtain⟨y,n,u,A,W⟩:=h.aG;cases u;rw[ar1,ae3] at hf;have z:=zA r s W hf.2;unfold pJ inD at z ⊢;rw[ao3,ao3,z,kL A r hf.1 s]
inductive Kd(neg:Bool)(d1:Dt)(d2:Dt)(Q:Dt->Prop):Prop
 | mk (ds:_) (h1:(d2= .lst ds\/d2= .tup ds)) (h2:bO d1=true) (h3:ds.all bO=true) (h4:Q (.bl (if neg then !inD d1 ds else inD d1 ds)))
theorem FK{K:PySem.W.Frag}{m:Bool}:yu (Vk K m) (Kd m):=fun M H x y O p B Q Y r P S k=>(by obtain⟨o,A,g,i,q⟩:=S;exact(by
 have fin: ∀f,aA M H f o->cJ x=true/\f.all cJ=true/\Q (.bl (if m then !pJ x f else pJ x f)) H:=fun f w=>⟨gr r g,lY w i,by rw[zA r g w i];exact k H _ _ q (fun _ _ z=>z) (.bl _)⟩
 rcases A with A | A
 . subst A;obtain⟨a,f,rfl,d,n,w⟩:=P.cA;exact⟨a,f,rfl,.inl (cc.of d),fin f w⟩
 . subst A;obtain⟨a,f,rfl,d,n,w⟩:=P.bM;exact⟨a,f,rfl,.inr (dm.of d),fin f w⟩))
theorem Xb(d:Ev X a ta)(f:Ev X b tb)(z:behindInMarks .In b=false:=by rfl):Ev X (.Compare a [.In] [b] pos) (nh (Kd false) ta tb):=La qi FK d f z
theorem wH(d:Ev X a ta)(f:Ev X b tb)(z:behindInMarks .In b=false:=by rfl):Tv X (.Compare a [.In] [b] pos) (dT (nh (Kd false) ta tb)):=gM qi FK d f z
theorem rB(d:Ev X a ta)(f:Ev X b tb)(z:behindInMarks .NotIn b=false:=by rfl):Tv X (.Compare a [.NotIn] [b] pos) (dT (nh (Kd true) ta tb)):=gM sd FK d f z
inductive Lm(ds:List Dt)(Q:Dt->Prop):Prop
 | mk (es:_) (h1:(ds= [.lst es]\/ds= [.tup es])) (h2:Q (.int es.length))
theorem NP{K:PySem.W.Frag}:Tf (fun f H Q=> ∃p o,f= [.ref p]/\(cc K H p o\/dm K H p o)/\Q (.int o.length) H) Lm:=fun M H f u y Q Y r g k=>(by obtain⟨es,e,q⟩:=g;exact(by
 rcases e with e | e <;> subst e <;> obtain⟨x,o,rfl,s,P⟩:=r.aG <;> cases P.cG
 . obtain⟨a,B,rfl,d,n,w⟩:=s.cA;exact⟨a,B,rfl,.inl (cc.of d),by rw[w.1];exact k H _ _ q (fun _ _ z=>z) (.int _)⟩
 . obtain⟨a,B,rfl,d,n,w⟩:=s.bM;exact⟨a,B,rfl,.inr (dm.of d),by rw[w.1];exact k H _ _ q (fun _ _ z=>z) (.int _)⟩))
theorem cv(z:X.mg "len"=none)(d:Av X [e] tA)(S:Gl X "len":=by rfl)(E:starEach [e] X.env=(false,eval e X.env)::starEach [] X.env:=by rfl)(w:(backTo pos (starEach [] X.env)).any (·.1)=false:=by rfl):
  Ev X (.Call (.Name "len" p) [e] [] pos) (BR Lm tA):=gN kU NP S z PySem.boot_len d (by decide) (by decide) E w
inductive Aj(ds:List Dt)(Q:Dt->Prop):Prop
 | mk (es:_) (h1:(ds= [.lst es]\/ds= [.tup es])) (h2:Q (.tup es))
theorem FV{K:PySem.W.Frag}:Tf (fun f H Q=> ∃p o,f= [.ref p]/\((cc K H p o/\ ∀l,H l=none->Q (.ref l) (upd H l (.tup o)))\/(dm K H p o/\Q (.ref p) H))) Aj:=fun M H f v A Q Y r O k=>(by obtain⟨es,e,q⟩:=O;exact(by
 rcases e with e | e <;> subst e <;> obtain⟨x,o,rfl,u,P⟩:=r.aG <;> cases P.cG
 . obtain⟨a,B,rfl,d,n,y⟩:=u.cA;refine⟨a,B,rfl,.inl ⟨cc.of d,fun l w=>?_⟩⟩;have s:aD H (upd H l (.tup B)):=aD.new w;exact k _ _ _ q s (Rep.hU af (Y.fresh w) (y.same s))
 . obtain⟨a,B,rfl,d,n,y⟩:=u.bM;exact⟨a,B,rfl,.inr ⟨dm.of d,k H _ _ q (fun _ _ z=>z) u⟩⟩))
theorem gL(z:X.mg "tuple"=none)(d:Av X [e] tA)(S:Gl X "tuple":=by rfl)(E:starEach [e] X.env=(false,eval e X.env)::starEach [] X.env:=by rfl)(w:(backTo pos (starEach [] X.env)).any (·.1)=false:=by rfl):
  Ev X (.Call (.Name "tuple" p) [e] [] pos) (BR Aj tA):=F3 jv FV S z mC d (by decide) (by decide) E w
end
theorem cq{α:List (List Addr)}(h:x∈(α.set i as).flatten):x∈α.flatten\/x∈as:=by
 obtain⟨l,w,j⟩:=aq7.mp h;rcases List.mem_or_eq_of_mem_set w with y | y
 . exact .inl (aq7.mpr ⟨l,y,j⟩)
 . exact .inr (y▸j)
theorem bj{α:List (List Addr)}{i:Nat}(h:α[i]?=some as)(j:x∈as):x∈α.flatten:=aq7.mpr ⟨as,ac8 h,j⟩
theorem cX: ∀{α:List (List Addr)} {i:Nat} {as:List Addr},α.flatten.Nodup->as.Nodup->(∀x∈as,x∉α.flatten)->(α.set i as).flatten.Nodup
 | [],_,_,_,_,_=>by simp
 | l::r,0,as,h,ha,hx=>by
  rw[List.set_cons_zero,ag2];rw[ag2] at h;refine aj2.mpr ⟨ha,(aj2.mp h).2.1,fun x f y g e=>?_⟩;subst e;exact hx x f (by rw[ag2];exact ac0 _ g)
 | l::r,i+1,as,h,ha,hx=>by
  rw[List.set_cons_succ,ag2];rw[ag2] at h;obtain⟨f,g,T⟩:=aj2.mp h;refine aj2.mpr ⟨f,cX g ha fun x z y=>hx x z (by rw[ag2];exact ac0 _ y),fun x z y w e=>?_⟩;subst e;rcases cq w with q | q
  . exact T x z x q rfl
  . exact hx x q (by rw[ag2];exact ae6 _ z)
theorem gK: ∀{α:List (List Addr)} {i j:Nat} {as bs:List Addr} {x:Addr},α.flatten.Nodup->α[i]?=some as->α[j]?=some bs->i≠j->x∈as->x∉bs
 | [],i,j,as,bs,x,_,h1,_,_,_=>by simp at h1
 | l::r,i,j,as,bs,x,h,h1,h2,cU,hx=>by
  rw[ag2] at h;obtain⟨o,f,I⟩:=aj2.mp h;cases i with
  | zero=>
   cases j with
   | zero=>exact absurd rfl cU
   | succ j=>
    simp at h1 h2;subst h1;exact fun y=>I x hx x (bj h2 y) rfl
  | succ i=>
   cases j with
   | zero=>
    simp at h1 h2;subst h2;exact fun y=>I x y x (bj h1 hx) rfl
   | succ j=>exact gK f (by simpa using h1) (by simpa using h2) (by lia) hx
section
variable{Ws:List Wd}{M:Addr->Prop}{α:List (List Addr)}{H H':Hp}{σ:L2.St}{δ:List Sl}{i:Nat}{v:V}{d:Dt}{s:Sl}
def bZ(δ:List Sl)(i:Nat):Prop:= ∃s,δ[i]?=some s/\s.bz=false
theorem bZ.lt(h:bZ δ i):i < δ.length:=let ⟨s,e,_⟩:=h;(ab0.mp e).1
theorem aB.ig(E:aB Ws M α H σ δ)(r:Rep M H v d)(y:bZ δ i):aB Ws M (α.set i []) H (σ.set i (some v)) (δ.set i (.im d)):=by
 have I:=y.lt;obtain⟨R,D,S⟩:=y;refine⟨by rw[ae5,ae5,E.ls],by rw[ae5,ae5,E.la],fun j s X=>?_,cX E.nd aj4 (fun x m=>absurd m aa8),fun a f=>(cq f).elim (E.mu a) fun z=>absurd z aa8,E.al,fun W U=>?_⟩
 . by_cases n:i=j
   . subst n;rw[ac7 I] at X;cases X;exact⟨some v,[],by rw[ac7 (by rw[E.ls];exact I)],by rw[ac7 (by rw[E.la];exact I)],rfl,v,rfl,r⟩
   . rw[ab7 n] at X;obtain⟨o,C,h,g,T⟩:=E.sl j s X;exact⟨o,C,by rw[ab7 n];exact h,by rw[ab7 n];exact g,T⟩
 . have k:=E.w W U;refine⟨k.bs,k.ex,fun a f=>(cq f).elim (k.fr a) fun z=>absurd z aa8,k.m0,k.m1,fun d c e=>?_,fun j s C h g l=>?_⟩
   . obtain⟨t,u,A⟩:=k.bx d c e;have:i≠0:=fun z=>by subst z;rw[D] at u;cases u;cases S
     exact⟨t,by rw[ab7 this];exact u,by rw[ab7 this];exact A⟩
   . by_cases n:i=j
     . subst n;rw[ac7 (by rw[E.la];exact I)] at g;cases g;exact fun a f=>absurd f aa8
     . rw[ab7 n] at h g;exact k.fz j s C h g l
theorem aA.grow(r:aA M H xs ds)(q:H p=none):aA (fun b=>M b\/b=p) (upd H p o) xs ds:=r.mono fun a u e n=>⟨by rw[ah (ar e q)];exact e,fun z=>z.elim n (ar e q)⟩
theorem Rep.grow(r:Rep M H x d)(q:H p=none):Rep (fun b=>M b\/b=p) (upd H p o) x d:=r.mono fun a u e n=>⟨by rw[ah (ar e q)];exact e,fun z=>z.elim n (ar e q)⟩
theorem nu.grow(h:nu M H o s as)(y:H p=none):nu (fun b=>M b\/b=p) (upd H p u) o s as:=by
 have g:aD H (upd H p u):=aD.new y;cases s with
 | no=>exact h
 | im d=>exact⟨h.1,let ⟨v,e,r⟩:=h.2;⟨v,e,r.grow y⟩⟩
 | ow ds=>obtain⟨a,k,w,x,W,r⟩:=h;exact⟨a,k,w,x,g _ _ W,r.grow y⟩
 | bx t=>obtain⟨d,c,w,x,r⟩:=h;exact⟨d,c,w,x,r.same g⟩
 | dk ks ds=>obtain⟨a,A,w,x,W,j,r⟩:=h;exact⟨a,A,w,x,g _ _ W,j,r.grow y⟩
 | ob R=>obtain⟨v,e,r⟩:=h;exact⟨v,e,R.st r (fun a _ o q=>g _ _ q) fun a u q n=>⟨g _ _ q,fun z=>z.elim n (ar q y)⟩⟩
 | fn f=>exact h
theorem aB.rJ(E:aB Ws M α H σ δ)(r:H p=none)(O: ∀R,u≠ .tup R)(G:bZ δ i)(S:s.bz=false)(hs:nu (fun b=>M b\/b=p) (upd H p u) (some (.ref p)) s [p]):
  aB Ws (fun b=>M b\/b=p) (α.set i [p]) (upd H p u) (σ.set i (some (.ref p))) (δ.set i s):=by
 have I:=G.lt;have F:aD H (upd H p u):=aD.new r;have Q:p∉α.flatten:=fun z=>E.fresh r (E.mu p z);obtain⟨Y,J,D⟩:=G;refine⟨by rw[ae5,ae5,E.ls],by rw[ae5,ae5,E.la],fun j m X=>?_,cX E.nd (by simp) (fun x P=>by rw[ab1.mp P];exact Q),fun a f=>(cq f).elim (fun z=> .inl (E.mu a z)) fun z=> .inr (ab1.mp z),fun a f=>?_,fun W U=>?_⟩
 . by_cases q:i=j
   . subst q;rw[ac7 I] at X;cases X;exact⟨_,_,by rw[ac7 (by rw[E.ls];exact I)],by rw[ac7 (by rw[E.la];exact I)],hs⟩
   . rw[ab7 q] at X;obtain⟨o,C,l,g,T⟩:=E.sl j m X;exact⟨o,C,by rw[ab7 q];exact l,by rw[ab7 q];exact g,T.grow r⟩
 . rcases f with f | f
   . obtain⟨o,e,n⟩:=E.al a f;exact⟨o,F _ _ e,n⟩
   . subst f;exact⟨u,af,O⟩
 . have k:=E.w W U;have B:W.A0 p\/W.H0 p=none:=by
    by_cases z:W.A0 p
    . exact .inl z
    . right;cases e:W.H0 p with
      | none=>rfl
      | some o=>have:=k.bs p o e z;rw[r] at this;cases this
   refine⟨fun b o e n=>F _ _ (k.bs b o e n),fun b n y=>k.ex b n (LW.aD.none F y),fun a f=>(cq f).elim (k.fr a) fun z=>by rw[ab1.mp z];exact B,fun a h=> .inl (k.m0 a h),fun a h=>?_,fun d c e=>?_,fun j m C l g L=>?_⟩
   . rcases h with h | h
     . exact k.m1 a h
     . subst h;by_cases z:W.H0 a=none
       . exact .inr z
       . exact absurd r (k.ex a z)
   . obtain⟨t,A,N⟩:=k.bx d c e;have:i≠0:=fun z=>by subst z;rw[J] at A;cases A;cases D
     exact⟨t,by rw[ab7 this];exact A,by rw[ab7 this];exact N⟩
   . by_cases q:i=j
     . subst q;rw[ac7 (by rw[E.la];exact I)] at g;cases g;exact fun a f z=>by rw[ab1.mp f] at z;exact E.fresh r (k.m0 _ z)
     . rw[ab7 q] at l g;exact k.fz j m C l g L
theorem aB.mod(E:aB Ws M α H σ δ){s s':Sl}(hi:δ[i]?=some s)(ho:σ[i]?=some o)(g:α[i]?=some as)(O:s'.bz=s.bz)(hs:nu M H' o s' as)(A: ∀b u,H b=some u->b∉as->H' b=some u)(ex: ∀a∈as,∃u,H' a=some u/\ ∀L,u≠ .tup L):aB Ws M α H' σ (δ.set i s')/\dz α H H':=by
 have U:=(ab0.mp hi).1;have G: ∀a∈as,M a:=fun a h=>E.mu a (bj g h);have J: ∀{v:V} {d:Dt},Rep M H v d->Rep M H' v d:=fun r=>r.mono fun a u e n=>⟨A a u e fun z=>n (G a z),n⟩
 have N: ∀{v:List V} {d:List Dt},aA M H v d->aA M H' v d:=fun r=>r.mono fun a u e n=>⟨A a u e fun z=>n (G a z),n⟩
 refine⟨⟨by rw[ae5,E.ls],by rw[ae5,E.la],fun j F X=>?_,E.nd,E.mu,fun a h=>?_,fun W Q=>?_⟩,fun b u e n=>A b u e fun z=>n (bj g z)⟩
 . by_cases p:i=j
   . subst p;rw[ac7 U] at X;cases X;exact⟨o,as,ho,g,hs⟩
   . rw[ab7 p] at X;obtain⟨o2,m,l,D,T⟩:=E.sl j F X;have S: ∀x∈m,x∉as:=fun x hx=>gK E.nd D g (Ne.symm p) hx;refine⟨o2,m,l,D,?_⟩;cases F with
     | no=>exact T
     | im d=>exact⟨T.1,let ⟨v,e,r⟩:=T.2;⟨v,e,J r⟩⟩
     | ow ds=>obtain⟨a,L,B,C,Y,r⟩:=T;subst B;exact⟨a,L,rfl,C,A _ _ Y (S a (by simp)),N r⟩
     | bx t=>
      obtain⟨d,c,B,C,r⟩:=T;subst B;refine⟨d,c,rfl,C,A _ _ r.dc (S d (by simp)),?_,r.t0,r.t1⟩;obtain⟨ns,h,q⟩:=r.cs;exact⟨ns,A _ _ h (S c (by simp)),q⟩
     | dk ks ds=>obtain⟨a,vs,B,C,Y,P,r⟩:=T;subst B;exact⟨a,vs,rfl,C,A _ _ Y (S a (by simp)),P,N r⟩
     | ob R=>obtain⟨v,e,r⟩:=T;exact⟨v,e,R.st r (fun a g u q=>A _ _ q (S a g)) fun a u q n=>⟨A a u q fun z=>n (G a z),n⟩⟩
     | fn f=>exact T
 . by_cases z:a∈as
   . exact ex a z
   . obtain⟨u,e,n⟩:=E.al a h;exact⟨u,A _ _ e z,n⟩
 . have k:=E.w W Q;have I: ∀a∈as,W.A0 a\/W.H0 a=none:=fun a z=>k.fr a (bj g z);refine⟨fun b u e n=>A _ _ (k.bs b u e n) fun z=>?_,fun b n y=>?_,k.fr,k.m0,k.m1,fun d c e=>?_,fun j F m l D Z=>?_⟩
   . rcases I b z with q | q
     . exact n q
     . rw[q] at e;cases e
   . by_cases z:b∈as
     . obtain⟨u,e,_⟩:=ex b z;rw[e] at y;cases y
     . cases e:H b with
       | none=>exact k.ex b n e
       | some u=>rw[A _ _ e z] at y;cases y
   . obtain⟨t,B,C⟩:=k.bx d c e;by_cases p:i=0
     . subst p;rw[hi] at B;cases B;cases s' with
       | bx t'=>exact⟨t',by rw[ac7 U],C⟩
       | _=>cases O
     . exact⟨t,by rw[ab7 p];exact B,C⟩
   . by_cases p:i=j
     . subst p;rw[ac7 U] at l;cases l;exact k.fz i s m hi D (by rw[<-O];exact Z)
     . rw[ab7 p] at l;exact k.fz j F m l D Z
theorem aB.RD(E:aB Ws M α H σ δ)(hi:δ[i]?=some (.ow ds))(m:α[i]?=some [a]):aB Ws (fun b=>M b/\b≠a) (α.set i []) H σ (δ.set i (.im (.lst ds))):=by
 have S:=(ab0.mp hi).1;obtain⟨a',G,O,D,U,r⟩:=E.ow hi;rw[m] at D;cases D;have Z: ∀{v:V} {d:Dt},Rep M H v d->Rep (fun b=>M b/\b≠a) H v d:=fun r=>r.mono fun b u e n=>⟨e,fun z=>n z.1⟩
 have C: ∀{v:List V} {d:List Dt},aA M H v d->aA (fun b=>M b/\b≠a) H v d:=fun r=>r.mono fun b u e n=>⟨e,fun z=>n z.1⟩
 refine⟨by rw[ae5,E.ls],by rw[ae5,ae5,E.la],fun j s X=>?_,cX E.nd aj4 (fun x h=>absurd h aa8),fun b g=>?_,fun b g=>E.al b g.1,fun W P=>?_⟩
 . by_cases o:i=j
   . subst o;rw[ac7 S] at X;cases X;exact⟨some (.ref a),[],O,by rw[ac7 (by rw[E.la];exact S)],rfl,_,rfl,Rep.nG U (fun z=>z.2 rfl) (C r)⟩
   . rw[ab7 o] at X;obtain⟨o2,I,F,p,L⟩:=E.sl j s X;refine⟨o2,I,F,by rw[ab7 o];exact p,?_⟩;cases s with
     | no=>exact L
     | im d=>exact⟨L.1,let ⟨v,e,r⟩:=L.2;⟨v,e,Z r⟩⟩
     | ow ds=>obtain⟨b,G,A,B,Y,r⟩:=L;exact⟨b,G,A,B,Y,C r⟩
     | bx t=>exact L
     | dk ks ds=>obtain⟨b,vs,A,B,Y,N,r⟩:=L;exact⟨b,vs,A,B,Y,N,C r⟩
     | ob R=>obtain⟨v,e,r⟩:=L;exact⟨v,e,R.st r (fun _ _ _ q=>q) fun b u q n=>⟨q,fun z=>n z.1⟩⟩
     | fn f=>exact L
 . obtain⟨l,Q,h⟩:=aq7.mp g;obtain⟨j,X,e⟩:=ak0 Q;have T:(α.set i [])[j]?=some l:=by rw[aa6 X,e]
   by_cases o:i=j
   . subst o;rw[ac7 (by rw[E.la];exact S)] at T;cases T;exact absurd h aa8
   . rw[ab7 o] at T;refine⟨E.mu b (bj T h),fun z=>?_⟩;subst z;exact gK E.nd T m (Ne.symm o) h (by simp)
 . have k:=E.w W P;refine⟨k.bs,k.ex,fun b g=>(cq g).elim (k.fr b) fun z=>absurd z aa8,fun b z=>⟨k.m0 b z,fun y=>?_⟩,fun b z=>k.m1 b z.1,fun d c e=>?_,fun j s J F p nb=>?_⟩
   . subst y;exact k.fz i _ _ hi m rfl b (by simp) z
   . obtain⟨t,A,B⟩:=k.bx d c e;have:i≠0:=fun z=>by subst z;rw[hi] at A;cases A
     exact⟨t,by rw[ab7 this];exact A,by rw[ab7 this];exact B⟩
   . by_cases o:i=j
     . subst o;rw[ac7 (by rw[E.la];exact S)] at p;cases p;exact fun b g=>absurd g aa8
     . rw[ab7 o] at F p;exact k.fz j s J F p nb
theorem aB.wa(E:aB Ws M α H σ δ)(hi:δ[i]?=some (.ow ds)): ∃W h,aB Ws W h H σ (δ.set i (.im (.lst ds)))/\ ∀a,W a->M a:=by
 obtain⟨a,e,f,g,T,r⟩:=E.ow hi;exact⟨_,_,E.RD hi g,fun b z=>z.1⟩
theorem aB.drop(E:aB (W::Ws) M α H σ δ):aB Ws M α H σ δ:=⟨E.ls,E.la,E.sl,E.nd,E.mu,E.al,fun U h=>E.w U (ab5 _ h)⟩
theorem aB.loop(E:aB Ws M α H σ δ):aB (⟨H,M,fun _=>False,M,none⟩::Ws) M α H σ δ:=⟨E.ls,E.la,E.sl,E.nd,E.mu,E.al,fun W h=>by
 rcases ab9.mp h with e | e
 . subst e;exact⟨fun b o e _=>e,fun b n=>n,fun a h=> .inl (E.mu a h),fun a h=>h.elim,fun a h=> .inl h,fun d c e=>(by cases e),fun j s C _ _ _ a _ z=>z⟩
 . exact E.w W e⟩
end
structure dX where
 nx:List Sl->Prop
 rt:Dt->List Sl->Prop
 bk:List Sl->Prop:=fun _=>False
 ct:List Sl->Prop:=fun _=>False
abbrev mf:=dX->List Sl->Prop
structure Lk(Ws:List Wd)(D:Ends)(Δ:dX):Prop where
 nx: ∀M α H σ δ,aB Ws M α H σ δ->Δ.nx δ->D.nx σ H
 rt: ∀M α H σ δ v d,aB Ws M α H σ δ->Rep M H v d->Δ.rt d δ->D.rt v H
 bk: ∀M α H σ δ,aB Ws M α H σ δ->Δ.bk δ->D.bk σ H
 ct: ∀M α H σ δ,aB Ws M α H σ δ->Δ.ct δ->D.ct σ H
inductive lS(T:mf)(D:L2.Ends)(σ:L2.St)(H:Hp):Prop
 | mk (Ws:List Wd) (M:Addr->Prop) (α:List (List Addr)) (δ:List Sl) (Δ:dX) (h1:aB Ws M α H σ δ) (h2:Lk Ws D Δ) (h3:T Δ δ)
abbrev Ex(X:Cx)(s:Stmt)(T:mf):Prop:=PS X s (lS T)
abbrev CD(X:Cx)(s:List Stmt)(T:mf):Prop:=tN X s (lS T)
section
variable{X:Cx}{st:Stmt}{rest:List Stmt}{T U:mf}{e a b c:Expr}{es:List Expr}{t ta tb:bJ}{u:ph}{pos:Pos}
def Ld:mf:=fun M i=>M.nx i
def R7(T U:mf):mf:=fun M i=>T {M with nx:=U M} i
theorem bF:CD X [] Ld:=tN.imp mW fun D d H V=>(by obtain⟨l,M,O,i,N,E,L,q⟩:=V;exact(L.nx _ _ _ _ _ E q))
theorem aj(f:Ex X st T)(g:CD X rest U):CD X (st::rest) (R7 T U):=tN.imp (bt f g) fun D d H w=>(by obtain⟨l,M,O,i,N,E,L,q⟩:=w;exact(
 ⟨l,M,O,i,{N with nx:=U N},E,⟨fun M O H d i E q=>⟨l,M,O,i,N,E,L,q⟩,L.rt,L.bk,L.ct⟩,q⟩))
theorem aw(f:Ex X st T):CD X [st] T:=eI f
def Sb(t:bJ):mf:=fun M i=>t i M.rt
theorem aC(h:Ev X e t):Ex X (.Return (some e) pos) (Sb t):=PS.imp (nV h) fun D f H j=>(by obtain⟨l,M,O,i,P,E,L,q⟩:=j;exact(⟨l,M,O,i,_,E,q,fun d k w v o N F r=>L.rt _ _ _ _ _ _ _ N r o⟩))
def Sj(u:ph)(T U:mf):mf:=fun M i=>u i fun b j=>if b=true then T M j else U M j
theorem c7(m:Tv X c u)(d:CD X sa T)(f:CD X sb U):Ex X (.If c sa sb pos) (Sj u T U):=PS.imp (yZ m d f) fun D g H w=>(by obtain⟨l,M,N,i,P,E,L,q⟩:=w;exact(
 ⟨l,M,N,i,_,E,q,fun b j v o O F=>by
  cases b with
  | true=>rw[if_pos rfl] at o ⊢;exact⟨l,M,N,j,P,O,L,o⟩
  | false=>rw[if_neg ac3] at o ⊢;exact⟨l,M,N,j,P,O,L,o⟩⟩))
def Sr(t:bJ):mf:=fun M i=>t i fun _ j=>M.nx j
theorem dB(h:Ev X e t)(hs:swapsWith e none pos.line X.env=pure false:=by rfl):Ex X (.Expr e pos) (Sr t):=PS.imp (y4 h hs) fun D f H O=>(by obtain⟨l,M,P,i,Q,E,L,q⟩:=O;exact(⟨l,M,P,i,_,E,q,fun d j w v o N F r=>L.nx _ _ _ _ _ N o⟩))
def Xj(i:Nat)(t:bJ):mf:=fun M k=>t k fun d j=>bZ j i/\M.nx (j.set i (.im d))
theorem bY(i:Nat)(p:X.N.Nodup)(F:Ev X e t)(hi:X.N[i]?=some x:=by rfl)(h:Loc X.env.scope x:=by first | exact Or.inl rfl | exact Or.inr rfl)(hs:swapsWith e (some (.Name x pos')) pos.line X.env=pure false:=by rfl)(s:X.fn x=true\/X.env.scope.names.lookup x=some .local:=by first | exact .inl rfl | exact .inr rfl | assumption):
  Ex X (.Assign [.Name x pos'] e pos) (Xj i t):=PS.imp (dY p hi h F hs s) fun D f H P=>(by obtain⟨l,M,Q,j,R,E,L,q⟩:=P;exact(⟨l,M,Q,j,_,E,q,fun d k y v g O G r=>(by obtain⟨w,o⟩:=g;exact(L.nx _ _ _ _ _ (O.ig r w) o))⟩))
def F6(i:Nat)(t:Ck):mf:=fun M k=>t k fun n j=>bZ j i/\M.nx (j.set i (.ow n))
theorem AH{i:Nat}{t:Ck}: ∀D d H,lS (F6 i t) D d H->C8 (lO t) (cB i) D d H:=fun D d H F=>(by obtain⟨l,M,O,j,P,E,L,q⟩:=F;exact(⟨l,M,O,j,_,E,q,fun n k m g a h N G r f=>(by obtain⟨v,o⟩:=h;exact(
 L.nx _ _ _ _ _ (N.rJ (s:= .ow n) f (fun g z=>by cases z) v rfl ⟨a,g,rfl,rfl,af,r.grow f⟩) o))⟩))
theorem fN(i:Nat){x:Str}{Y:Pos}{t:Ck}(p:X.N.Nodup)(E:Ov X e t)(hi:X.N[i]?=some x:=by rfl)(h:Loc X.env.scope x:=by first | exact Or.inl rfl | exact Or.inr rfl)(hs:swapsWith e (some (.Name x Y)) pos.line X.env=pure false:=by rfl)(s:X.fn x=true\/X.env.scope.names.lookup x=some .local:=by first | exact .inl rfl | exact .inr rfl | assumption):
  Ex X (.Assign [.Name x Y] e pos) (F6 i t):=PS.imp (dY p hi h E hs s) AH
inductive Sk(i:Nat)(T:mf)(Δ:dX)(δ:List Sl):Prop
 | mk (ds:_) (h1:δ[i]?=some (.ow ds)) (h2:T Δ (δ.set i (.im (.lst ds))))
theorem Fp: ∀D d H,lS (Sk i T) D d H->lS T D d H:=fun D d H k=>(by obtain⟨l,M,O,m,N,E,L,n,h,q⟩:=k;exact(by
 obtain⟨W,j,V,_⟩:=E.wa h;exact⟨l,W,j,_,N,V,L,q⟩))
theorem ir(i:Nat)(h:Ex X st T):Ex X st (Sk i T):=PS.imp h Fp
theorem zg{Ws:List Wd}{M:Addr->Prop}{α:List (List Addr)}{H:Hp}{d:L2.St}{j:List Sl}{i:Nat}{ds k:List Dt}{a:Addr}(E:aB Ws M α H d j)(h:j[i]?=some (.ow ds))(f:d[i]?=some (some (.ref a)))(g:α[i]?=some [a])(r:aA M H Lx k):
  aB Ws M α (upd H a (.lst Lx)) d (j.set i (.ow k))/\dz α H (upd H a (.lst Lx)):=
 E.mod h f g rfl ⟨a,Lx,rfl,rfl,af,r.mono fun b u e n=>⟨by rw[ah (fun z=>n (by rw[z];exact E.mu a (bj g (by simp))))];exact e,n⟩⟩ (fun b u e n=>by rw[ah (fun z=>n (by rw[z];simp))];exact e) (fun b l=>by rw[ab1.mp l];exact⟨_,af,fun m z=>by cases z⟩)
inductive Gh(i:Nat)(Q:Dt->List Sl->Prop)(es:List Dt)(δ':List Sl):Prop
 | mk (ds d:_) (h1:es= [d]) (h2:δ'[i]?=some (.ow ds)) (h3:ds.length < sizeLine) (h4:Q .aN (δ'.set i (.ow (ds++ [d]))))
def Xw(i:Nat)(t:fJ):bJ:=fun k Q=>(∃M,k[i]?=some (.ow M))/\t k fun es j=>Gh i Q es j
theorem cK(i:Nat){f V N:Pos}(p:PE X (.Name x f) (fV i))(o:Av X [e] tA)(L:attributeBase (.Name x f) "append" X.env (eval (.Name x f) X.env)=eval (.Name x f) X.env:=by rfl)(G:((backTo N (starEach [e] X.env)).all (fun x=>!x.1) && (backToKw N (keywordEach [] X.env)).all (fun x=>x.1.isSome) && decide ([e].length+([]:List Keyword).length+(if ([]:List Keyword).isEmpty then 0 else 1) < 30))=true:=by rfl)(P:(V.endLine==N.line)=true:=by rfl)(hs:starEach [e] X.env=(false,eval e X.env)::starEach [] X.env:=by rfl)(s:(backTo N (starEach [] X.env)).any (·.1)=false:=by rfl):
  Ev X (.Call (.Attribute (.Name x f) "append" V) [e] [] N) (Xw i tA):=
 PE.imp (ze as6 PySem.F.slot_list_append PySem.F.type_list_append i7 p o L G P hs s) fun σ H Q Y=>(by obtain⟨W,M,J,δ,Qd,E,⟨⟨K4,n⟩,q⟩,k⟩:=Y;exact(by
  obtain⟨a,Z4,g,h2,Z,r3⟩:=E.ow n;refine⟨_,g,.inl ⟨rfl,_,cc.of Z⟩,W,M,J,δ,_,E,q,fun es δ' H' vs w O D A=>?_⟩;obtain⟨ds,d,e,r,l,z⟩:=w;subst e;obtain⟨y,ys,rfl,C,B⟩:=A.aG;cases B.cG;obtain⟨a',I,h,S,m,R⟩:=O.ow r;rw[g] at h;cases h;refine⟨a,I,y,rfl,rfl,m,by rw[R.1];exact l,?_⟩;obtain⟨j,v⟩:=zg O r g S (R.append (.one C));exact k _ _ _ _ z j (D.tr v) .aN))
inductive N6(i:Nat)(Q:Dt->List Sl->Prop)(d2:Dt)(δ':List Sl):Prop
 | mk (ds k d:_) (h1:δ'[i]?=some (.ow ds)) (h2:d2= .int k) (h3:jh ds k=some d) (h4:Q d δ')
def Xo(i:Nat)(tb:bJ):bJ:=fun k Q=>(∃M,k[i]?=some (.ow M))/\tb k fun m j=>N6 i Q m j
theorem zM(i:Nat)(m:PE X (.Name x xp) (fV i))(l:Ev X b tb)(hs:tM b:=by exact fun _ _=>rfl):Ev X (.Subscript (.Name x xp) b pos) (Xo i tb):=
 PE.imp (DU sG m l hs) fun σ H Q p=>(by obtain⟨W,M,O,B,G,E,⟨⟨P,j⟩,q⟩,k⟩:=p;exact(by
  obtain⟨a,Y,g,Z,h3,r3⟩:=E.ow j;refine⟨_,g,W,M,O,B,_,E,q,fun I C F v V N D w=>?_⟩;obtain⟨L,n,d,r,e,S,s⟩:=V;subst e;obtain⟨J,A,f,vh,h,R⟩:=N.ow r;rw[g] at f;cases f;obtain⟨y,o,z⟩:=tK R S;exact⟨a,A,n,y,rfl,w.ofInt,cc.of h,o,k _ _ _ _ s N D z⟩))
inductive R1(i:Nat)(δ:List Sl)(Q:Dt->List Sl->Prop):Prop
 | mk (ds:_) (h1:δ[i]?=some (.ow ds)) (h2:Q (.tup ds) δ)
theorem xX(i:Nat)(z:X.mg "tuple"=none)(h:PE X (.Name x xp) (fV i))(S:Gl X "tuple":=by rfl)(F:starEach [.Name x xp] X.env=(false,eval (.Name x xp) X.env)::starEach [] X.env:=by rfl)(y:(backTo pos (starEach [] X.env)).any (·.1)=false:=by rfl):
  Ev X (.Call (.Name "tuple" p) [.Name x xp] [] pos) (R1 i):=PE.imp (gg jv S z mC (a8 h bQ F) (by decide) (by decide) F y) fun d H Q A=>(by obtain⟨W,M,N,m,B,E,⟨n,r,q⟩,k⟩:=A;exact(by
  obtain⟨a,f,g,j,V,L⟩:=E.ow r;refine⟨_,g,a,f,rfl,.inl ⟨cc.of V,fun l w=>?_⟩⟩;have s:aD H (upd H l (.tup f)):=aD.new w;exact k _ _ _ _ q (E.same s) (dz.of s) (Rep.hU af (E.fresh w) (L.same s))))
inductive JP(Q:List Dt->List Sl->Prop)(ds:List Dt)(δ':List Sl):Prop
 | mk (es:_) (h1:(ds= [.lst es]\/ds= [.tup es])) (h2:Q es δ')
def dList(t:fJ):Ck:=fun i Q=>t i fun n j=>JP Q n j
theorem MI(A:X.mg "list"=none)(d:Av X [e] tA)(S:Gl X "list":=by rfl)(F:starEach [e] X.env=(false,eval e X.env)::starEach [] X.env:=by rfl)(z:(backTo pos (starEach [] X.env)).any (·.1)=false:=by rfl):
  Ov X (.Call (.Name "list" p) [e] [] pos) (dList tA):=PE.imp (gg kT S A jS d (by decide) (by decide) F z) fun g H Q h=>(by obtain⟨W,M,O,j,G,E,q,k⟩:=h;exact(
 ⟨W,M,O,j,_,E,q,fun s C m f i N D I=>(by obtain⟨es,e,o⟩:=i;exact(by
  rcases e with e | e <;> subst e <;> obtain⟨x,v,rfl,r,P⟩:=I.aG <;> cases P.cG
  . obtain⟨a,B,rfl,d,n,y⟩:=r.cA;exact⟨a,B,rfl,.inl (cc.of d),fun l w=>k _ _ _ _ _ o N D y w⟩
  . obtain⟨a,B,rfl,d,n,y⟩:=r.bM;exact⟨a,B,rfl,.inr (dm.of d),fun l w=>k _ _ _ _ _ o N D y w⟩))⟩))
inductive F8(Q:List Dt->List Sl->Prop)(ds:List Dt)(δ':List Sl):Prop
 | mk (i:Int) (n:Nat) (h1:ds= [.int i,.int (i+n)]) (h2: -(2^61)<=i) (h3:i < 2^61) (h4:n<=1000) (h5:Q ((List.range n).map fun k=> .int (i+(k:Nat))) δ')
def N4(t:fJ):Ck:=fun i Q=>t i fun n j=>F8 Q n j
theorem IP(r:X.calm=true)(Y:X.mg "list"=none)(l:X.mg "range"=none)(o:Av X [a,b] tA)(h:Gl X "list":=by rfl)(C:Gl X "range":=by rfl)(D:starEach [.Call (.Name "range" p2) [a,b] [] xb] X.env= [(false,eval (.Call (.Name "range" p2) [a,b] [] xb) X.env)]:=by rfl)(hs:starEach [a,b] X.env= [(false,eval a X.env),(false,eval b X.env)]:=by rfl)(v:starEach [b] X.env= [(false,eval b X.env)]:=by rfl):
  Ov X (.Call (.Name "list" p) [.Call (.Name "range" p2) [a,b] [] xb] [] pos) (N4 tA):=PE.imp (DT r h Y C l o D hs v) fun σ H Q P=>(by obtain⟨W,M,S,J,Qd,E,q,k⟩:=P;exact(
 ⟨W,M,S,J,_,E,q,fun ds δ1 H1 xs O N F I=>(by obtain⟨i,n,e,Z,w,z,A⟩:=O;exact(by
  subst e;obtain⟨x,ys,rfl,B,R⟩:=I.aG;obtain⟨y,zs,rfl,G,L⟩:=R.aG;cases L.cG;cases B.ofInt;cases G.ofInt;refine⟨i,n,rfl,Z,w,z,fun p s=>k _ _ _ _ _ A N F ⟨by simp,fun j x d f g=>?_⟩ s⟩;rw[aa9] at f g;cases V:(List.range n)[j]? with
  | none=>rw[V] at f;cases f
  | some m=>rw[V] at f g;cases f;cases g;exact .int _))⟩))
theorem gs(r:aA M H xs ds):xs.isEmpty=ds.isEmpty:=by
 have:=r.1;cases xs <;> cases ds <;> simp at this ⊢
noncomputable def Pq:Dt->Option Bool
 | .aN=>some false
 | .bl b=>some b
 | .int i=>some (i !=0)
 | .lst ds=>some (!ds.isEmpty)
 | .tup ds=>some (!ds.isEmpty)
 | _=>none
inductive NW(Q:Bool->List Sl->Prop)(d:Dt)(δ':List Sl):Prop
 | mk (b:_) (h1:Pq d=some b) (h2:Q b δ')
def Xe(t:bJ):ph:=fun i Q=>t i fun d j=>NW Q d j
theorem Pw(h:Ev X e t)(F: ∀f,isTrue e X.env f=(do let v<-f;standAt e.pos;holding [v] (truthy v)):=by intro _;rfl):Tv X e (Xe t):=
 PT.imp (DC h F) fun m H Q w=>(by obtain⟨W,M,P,i,y,E,q,k⟩:=w;exact(⟨W,M,P,i,_,E,q,fun d j x v O N D s=>(by obtain⟨b,g,o⟩:=O;exact(⟨b,by
  cases s with
  | aN=>cases g;rfl
  | bl c=>cases g;rfl
  | int c=>cases g;rfl
  | str c=>cases g
  | lst h n l r=>cases g;exact .inl ⟨_,cc.of h,by rw[gs ⟨l,r⟩]⟩
  | Cv h n e l r=>cases g
  | pB h n e l r=>cases g
  | tup h n l r=>cases g;exact .inr (.inl ⟨_,dm.of h,by rw[gs ⟨l,r⟩]⟩),k _ _ _ o N D⟩))⟩))
end
def a0(S:DN):Sp:=fun t H Q _=> ∃M n y,gZ M H/\aA M H t n/\S n y/\ ∀r v F,y r->aD H v->Rep M v F r->Q F v
abbrev DB:=Int->List Dt->(Dt->Int->Prop)->Prop
def Cp(S:DB):Sp:=fun u H Q _=> ∃M d c t G n y,u= .ref d::G/\gZ M H/\M d/\M c/\yx H d c t/\aA M H G n/\S t n y/\ ∀r E v F,y r E->Kp d c H v->yx v d c E->Rep M v F r->Q F v
section
variable{X:Cx}{e:Expr}{es:List Expr}{pos p:Pos}{x:Str}{k:Nat}{ps:List Str}
theorem aE(h:cj X.prog X.w X.K X.mg X.base x k ps (a0 S))(m:bC k X.A)(d:Av X (e::es) t)(T:Gl X x:=by rfl)(g:(x==("__debug__":Str))=false:=by decide)(F:starEach (e::es) X.env=(false,eval e X.env)::starEach es X.env:=by rfl)(y:(backTo pos (starEach es X.env)).any (·.1)=false:=by rfl):
  Ev X (.Call (.Name x p) (e::es) [] pos) (BR S t):=PE.imp (jH h m T d g F y) fun b H Q U=>(by obtain⟨W,M,O,i,B,E,q,k⟩:=U;exact(
 ⟨W,M,O,i,_,E,q,fun n j v z o N D u=>by
  show a0 S (z++ []) v Q E0;rw[ag3];exact⟨M,n,_,N.al,u,o,fun r C J Z s P=>k _ _ _ _ Z (N.same s) (D.tr (dz.of s)) P⟩⟩))
theorem aB.box{i:Nat}(E:aB Ws M α H σ δ)(h:δ[i]?=some (.bx t)): ∃d c,σ[i]?=some (some (.ref d))/\α[i]?=some [d,c]/\yx H d c t:=by
 obtain⟨o,C,f,g,d,c,rfl,rfl,r⟩:=E.sl i _ h;exact⟨d,c,f,g,r⟩
theorem JX(E:aB Ws M α H σ δ)(h:δ[i]?=some (.bx t))(g:σ[i]?=some (some (.ref d)))(j:α[i]?=some [d,c])(k:Kp d c H H')(B:yx H' d c t'):
  aB Ws M α H' σ (δ.set i (.bx t'))/\dz α H H':=
 E.mod h g j rfl ⟨d,c,rfl,rfl,B⟩ (fun b u e n=>k b u e (fun z=>n (by rw[z];simp)) (fun z=>n (by rw[z];simp))) (fun b f=>by
  simp only [ab9,aa8,or_false] at f;rcases f with rfl | rfl
  . exact⟨_,B.dc,fun l z=>by cases z⟩
  . obtain⟨D,h,_⟩:=B.cs;exact⟨_,h,fun l z=>by cases z⟩)
def Sn(S:DB)(i:Nat)(t:fJ):bJ:=fun l Q=>(∃L,l[i]?=some (.bx L))/\t l fun n j=> ∃t,j[i]?=some (.bx t)/\S t n fun r E=>Q r (j.set i (.bx E))
theorem gu(i:Nat)(h:cj X.prog X.w X.K X.mg X.base x k ps (Cp S))(I:bC k X.A)(G:PE X (.Name y yp) (fV i))(o:Av X es t)(T:Gl X x:=by rfl)(L:(x==("__debug__":Str))=false:=by decide)(F:starEach (.Name y yp::es) X.env=(false,eval (.Name y yp) X.env)::starEach es X.env:=by rfl)(C:(backTo pos (starEach es X.env)).any (·.1)=false:=by rfl):
  Ev X (.Call (.Name x p) (.Name y yp::es) [] pos) (Sn S i t):=PE.imp (jH h I T (a8 G o F) L F C) fun σ H Q U=>(by obtain⟨W,M,α,δ,Qd,E,⟨⟨t0,m⟩,q⟩,k⟩:=U;exact(by
  obtain⟨d,c,f,h2,B⟩:=E.box m;refine⟨_,f,W,M,α,δ,_,E,q,fun n δ' v u J N D b=>?_⟩;obtain⟨t,s,R⟩:=J;obtain⟨d',Y,g,O,j⟩:=N.box s;rw[f] at g;cases g;show Cp S ((V.ref d::u)++ []) v Q E0;rw[ag3];refine⟨M,d,Y,t,u,n,_,rfl,N.al,N.mu d (bj O (by simp)),N.mu Y (bj O (by simp)),j,b,R,fun r t' H2 v2 a Z P r2=>?_⟩;obtain⟨l,z⟩:=JX N s f O Z P;exact k _ _ _ _ a l (D.tr z) r2))
end
section
variable{P:Program}{w:World}{K:PySem.W.Frag}{mg:Str->Option Value}{base:Heap}
theorem qB(Y:gZ M H)(r:aA M H vs ds)(w: ∀W∈Ws,TR W M (List.replicate (ds.length+n) []) H (ds.map .im++List.replicate n .no)):
  aB Ws M (List.replicate (ds.length+n) []) H (vs.map some++List.replicate n none) (ds.map .im++List.replicate n .no):=by
 have b:(List.replicate (ds.length+n) ([]:List Addr)).flatten= []:=by simp
 refine⟨by simp [r.1],by simp,fun i s h=>?_,by rw[b];exact aj4,fun a d=>by rw[b] at d;exact absurd d aa8,Y,w⟩;have I:=(ab0.mp h).1;rw[ac1,aa4,ah5] at I;have d:(List.replicate (ds.length+n) ([]:List Addr))[i]?=some []:=by rw[ad2,if_pos I]
 by_cases x:i < ds.length
 . rw[ae4 (by rw[aa4];exact x),aa9,aa6 x] at h;cases h;obtain⟨v,c,p⟩:=r.get (aa6 x);exact⟨some v,[],by rw[ae4 (by rw[aa4,r.1];exact x),aa9,c];rfl,d,rfl,v,rfl,p⟩
 . rw[af2 (by rw[aa4];omega),ad2] at h;split at h
   . rename_i g;cases h;rw[aa4] at g;exact⟨none,[],by rw[af2 (by rw[aa4,r.1];omega),ad2,if_pos (by rw[aa4,r.1];exact g)],d,rfl⟩
   . cases h
theorem iT {x qual : Str} {st : Stmt} {k : Nat} (F : dj K x qual st f fd) (sc : av N ps (ab st)) (u : ∀ p B, S p B -> p.length = ps.length) (Z : ∀ (bq : Value) (A : Around) (outer : List Env) (s : Shared) (H : Hp) (E : XK), bC k (A.deeper (envOfC qual (ab st) s.heap.objs.size f bq)) ->
   ∃T,CD (mO bD P w K mg base N qual (ab st) f bq A outer s H E).Hd (aS st) T/\ ∀p B,S p B->T {nx:=fun _=>B .aN,rt:=fun d _=>B d} (p.map .im++List.replicate (N.length - ps.length) .no)):
  aK P w K mg base bD (k+1) f fd ps (a0 S):=by
 refine F.ok sc (fun t H Q E h=>?_) (fun bq A outer s H t Q E L h=>?_)
 . obtain⟨M,p,B,Y,r,q,_⟩:=h;rw[r.1];exact u p B q
 . obtain⟨M,p,B,Y,r,q,J⟩:=h;obtain⟨T,G,R⟩:=Z bq A outer s H E L;refine⟨lS T,G,[⟨H,fun _=>False,M,M,none⟩],M,List.replicate (p.length+(N.length - ps.length)) [],p.map .im++List.replicate (N.length - ps.length) .no,_,?_,?_,R p B q⟩
   . have e:L2.start N t=t.map some++List.replicate (N.length - ps.length) none:=by unfold L2.start;rw[r.1,u p B q]
     rw[e];refine qB Y r fun W I=>?_;rw[ab1.mp I];have D:(List.replicate (p.length+(N.length - ps.length)) ([]:List Addr)).flatten= []:=by simp
     refine⟨fun b o e _=>e,fun b n=>n,fun a m=>by rw[D] at m;exact absurd m aa8,fun a h=>h,fun a h=> .inl h,fun d c e=>(by cases e),fun j s as h1 g _ a m=>?_⟩;rw[ad2] at g;split at g
     . cases g;exact absurd m aa8
     . cases g
   . have y : ∀ {V i C X l}, aB [⟨H, fun _ => False, M, M, none⟩] V i C X l -> aD H C /\ ∀ a, M a -> V a := fun U => by
       have k:=U.w _ (ab1.mpr rfl);exact⟨fun b o e=>k.bs b o e (fun z=>z),k.m0⟩
     refine⟨fun V i C X l U q=>J _ _ _ q (y U).1 .aN,fun V i C X l v d U O q=>J _ _ _ q (y U).1 (O.mono fun a o e n=>⟨e,fun z=>n ((y U).2 a z)⟩),fun _ _ _ _ _ _ z=>z.elim,fun _ _ _ _ _ _ z=>z.elim⟩
theorem xT(Y:gZ M H)(r:aA M H vs ds)(B:yx H d c t)(q:M d)(p:M c)(m:W=⟨H,fun a=>a=d\/a=c,M,M,some (d,c)⟩):
  aB [W] M ([d,c]::List.replicate (ds.length+n) []) H (some (.ref d)::(vs.map some++List.replicate n none)) (.bx t::(ds.map .im++List.replicate n .no)):=by
 have z:=qB (Ws:= []) (n:=n) Y r (fun W U=>absurd U aa8);have l:(List.replicate (ds.length+n) ([]:List Addr)).flatten= []:=by simp
 have X:(([d,c]:List Addr)::List.replicate (ds.length+n) []).flatten= [d,c]:=by rw[ag2,l,ag3]
 refine⟨by rw[ad3,ad3,z.ls],by rw[ad3,ad3,z.la],fun i s h=>?_,?_,fun a f=>?_,Y,fun V U=>?_⟩
 . cases i with
   | zero=>cases h;exact⟨_,_,rfl,rfl,d,c,rfl,rfl,B⟩
   | succ i=>obtain⟨o,C,k,g,T⟩:=z.sl i s (by simpa using h);exact⟨o,C,by simpa using k,by simpa using g,T⟩
 . rw[X];simp [B.ne]
 . rw[X] at f;simp only [ab9,aa8,or_false] at f;rcases f with rfl | rfl <;> assumption
 . rw[ab1.mp U,m];refine⟨fun b o e _=>e,fun b n=>n,fun a f=>?_,fun a h=>h,fun a h=> .inl h,fun u Z e=>?_,fun j s C k g S a f=>?_⟩
   . rw[X] at f;simp only [ab9,aa8,or_false] at f;exact .inl f
   . cases e;exact⟨t,rfl,rfl⟩
   . cases j with
     | zero=>cases k;cases S
     | succ j=>
      rw[List.getElem?_cons_succ,ad2] at g;split at g
      . cases g;exact absurd f aa8
      . cases g
theorem Y1 {x qual : Str} {st : Stmt} {k : Nat} (F : dj K x qual st f fd) (sc : av N ps (ab st)) (I : ∀ t p C, S t p C -> p.length + 1 = ps.length) (gm : ∀ (bq : Value) (A : Around) (outer : List Env) (s : Shared) (H : Hp) (E : XK), bC k (A.deeper (envOfC qual (ab st) s.heap.objs.size f bq)) ->
   ∃T,CD (mO bD P w K mg base N qual (ab st) f bq A outer s H E).Hd (aS st) T/\ ∀t p C,S t p C->T {nx:=fun l=> ∃G,l[0]?=some (.bx G)/\C .aN G,rt:=fun d l=> ∃G,l[0]?=some (.bx G)/\C d G} (.bx t::(p.map .im++List.replicate (N.length - ps.length) .no))):
  aK P w K mg base bD (k+1) f fd ps (Cp S):=by
 refine F.ok sc (fun vs H Q E h=>?_) (fun bq A outer s H vs Q E hr h=>?_)
 . obtain⟨M,d,c,t,J,p,C,rfl,Y,R,O,B,r,q,_⟩:=h;rw[ad3,r.1];exact I t p C q
 . obtain⟨M,d,c,t,J,p,C,rfl,Y,R,O,B,r,q,L⟩:=h;obtain⟨T,hT,hq⟩:=gm bq A outer s H E hr;refine⟨lS T,hT,[⟨H,fun a=>a=d\/a=c,M,M,some (d,c)⟩],M,[d,c]::List.replicate (p.length+(N.length - ps.length)) [], .bx t::(p.map .im++List.replicate (N.length - ps.length) .no),_,?_,?_,hq t p C q⟩
   . have e : L2.start N (.ref d :: J) = some (.ref d) :: (J.map some ++ List.replicate (N.length - ps.length) none) := by
       unfold L2.start;rw[ad5,al6,ad3,r.1,I t p C q]
     rw[e];exact xT Y r B R O rfl
   . have y : ∀ {V i D X j G}, aB [⟨H, fun a => a = d \/ a = c, M, M, some (d, c)⟩] V i D X j -> j[0]? = some (.bx G) -> Kp d c H D /\ (∀ a, M a -> V a) /\ yx D d c G := fun {V i D X j G} U u => by
       have k:=U.w _ (ab1.mpr rfl);refine⟨fun b o e n1 n2=>k.bs b o e (fun z=>z.elim n1 n2),k.m0,?_⟩;obtain⟨t2,e1,m⟩:=k.bx d c rfl;obtain⟨d3,c3,e3,g,Z⟩:=U.box u;rw[m] at g;cases g;exact Z
     refine⟨fun V i D X j U jw=>(by obtain⟨G,u,q⟩:=jw;exact(L _ _ _ _ q (y U u).1 (y U u).2.2 .aN)),fun V i D X j v dd U r' jZ=>(by obtain⟨G,u,q⟩:=jZ;exact(L _ _ _ _ q (y U u).1 (y U u).2.2 (r'.mono fun a o e n=>⟨e,fun z=>n ((y U u).2.1 a z)⟩))),fun _ _ _ _ _ _ z=>z.elim,fun _ _ _ _ _ _ z=>z.elim⟩
end
def Kf(M:Addr->Prop)(H k:Hp):Prop:= ∀b o,H b=some o-> ¬M b->k b=some o
structure Yl(M:Addr->Prop)(H:Hp)(J:It)(ao:List Dt):Prop where
 go: ∀i H1 M',Kf M H H1->gZ M' H1->(∀b,H b≠none-> ¬M b-> ¬M' b)->i < ao.length->J.go i H1/\ ∀x H2,J.wy i H1 x H2->aD H1 H2/\ ∃d,ao[i]?=some d/\Rep M' H2 x d
 stop: ∀H1,Kf M H H1->J.stop ao.length H1
abbrev pV:=List Sl->(List Dt->List Sl->Prop)->Prop
inductive lI(t:pV)(σ:L2.St)(H:Hp)(R:It->Hp->Prop):Prop
 | mk (W:List Wd) (M:Addr->Prop) (α:List (List Addr)) (δ:List Sl) (Qd:List Dt->List Sl->Prop) (h1:aB W M α H σ δ) (h2:t δ Qd) (h3: ∀ao δ' H' J,Qd ao δ'->aB W M α H' σ δ'->dz α H H'->Yl M H' J ao->R J H')
theorem PI.imp(h:PI X tg iter t)(i: ∀b H R,t' b H R->t b H R):PI X tg iter t':=fun a s b H R I q=>h a s b H R I (i _ _ _ q)
abbrev Iv(X:Cx)(tg iter:Expr)(t:pV):Prop:=PI X tg iter (lI t)
section
variable{X:Cx}{tg e a b:Expr}{ta t:bJ}{tA:fJ}{p pos:Pos}
theorem tW{lo:Int}:Yl M H (S7 lo n) ((List.range n).map fun k=> .int (lo+(k:Nat))):=by
 refine⟨fun i l V Z Y c I=>⟨?_,fun x C U=>?_⟩,fun l _=>?_⟩
 . rw[aa4,ae2] at I;exact I
 . obtain⟨u,y⟩:=U;rw[aa4,ae2] at I;subst u;subst y;exact⟨fun _ _ z=>z,.int (lo+i),by rw[aa9,ai4 I];rfl,.int _⟩
 . show n<=_;rw[aa4,ae2];exact ab3 _
inductive JI(Q:List Dt->List Sl->Prop)(ds:List Dt)(δ':List Sl):Prop
 | mk (j:Int) (h1:ds= [.int j]) (h2: -(2^62)<=j) (h3:j < 2^62) (h4:Q ((List.range j.toNat).map fun k=> .int (0+(k:Nat))) δ')
def R9(t:fJ):pV:=fun i Q=>t i fun n j=>JI Q n j
inductive JH(Q:List Dt->List Sl->Prop)(ds:List Dt)(δ':List Sl):Prop
 | mk (i j:Int) (h1:ds= [.int i,.int j]) (h2:(-(2^62)<=i/\i < 2^62/\ -(2^62)<=j/\j < 2^62)) (h3:Q ((List.range (j - i).toNat).map fun k=> .int (i+(k:Nat))) δ')
def R8(t:fJ):pV:=fun i Q=>t i fun n j=>JH Q n j
theorem oH(z:X.mg "range"=none)(d:Av X [a] tA)(S:Gl X "range":=by rfl)(hs:starEach [a] X.env= [(false,eval a X.env)]:=by rfl):Iv X tg (.Call (.Name "range" p) [a] [] pos) (R9 tA):=PI.imp (AV S z d hs) fun g H R w=>(by obtain⟨W,M,O,i,y,E,q,k⟩:=w;exact(
 ⟨W,M,O,i,_,E,q,fun n l v u f N D r=>(by obtain⟨j,e,Y,c,o⟩:=f;exact(by
  subst e;obtain⟨x,s,rfl,P,L⟩:=r.aG;cases L.cG;cases P.ofInt;exact⟨j,rfl,Y,c,k _ _ _ _ o N D tW⟩))⟩))
theorem gH(z:X.mg "range"=none)(d:Av X [a,b] tA)(S:Gl X "range":=by rfl)(hs:starEach [a,b] X.env= [(false,eval a X.env),(false,eval b X.env)]:=by rfl)(m:starEach [b] X.env= [(false,eval b X.env)]:=by rfl):Iv X tg (.Call (.Name "range" p) [a,b] [] pos) (R8 tA):=PI.imp (AU S z d hs m) fun c H R n=>(by obtain⟨W,M,O,s,A,E,q,k⟩:=n;exact(
 ⟨W,M,O,s,_,E,q,fun B u v C w N D r=>(by obtain⟨i,j,e,l,o⟩:=w;exact(by
  subst e;obtain⟨x,G,rfl,P,L⟩:=r.aG;obtain⟨y,I,rfl,F,T⟩:=L.aG;cases T.cG;cases P.ofInt;cases F.ofInt;exact⟨i,j,rfl,l,k _ _ _ _ o N D tW⟩))⟩))
theorem lU(r:aA M H xs ds)(Z:Kf M H H1)(c: ∀b,H b≠none-> ¬M b-> ¬M' b):aA M' H1 xs ds:=r.mono fun a o e n=>⟨Z a o e n,c a (by rw[e];intro z;cases z) n⟩
theorem Hr{K:PySem.W.Frag}{M:Addr->Prop}{H:Hp}{a:Addr}(h:H a=some (.lst xs))(n: ¬M a)(r:aA M H xs ds):Yl M H (XW K a) ds:=by
 refine⟨fun i k V Z Y c I=>?_,fun k Z=>⟨xs,cc.of (Z _ _ h n),by rw[r.1];exact ab3 _⟩⟩;have w:=lU r Z c;have j:xs[i]?=some (xs[i]'(by rw[r.1];exact I)):=aa6 _;refine⟨⟨xs,_,cc.of (Z _ _ h n),j⟩,fun x C N=>?_⟩;obtain⟨e,y⟩:=N;subst e;have:=y xs (cc.of (Z _ _ h n));exact⟨fun _ _ z=>z,_,aa6 I,w.2 i x _ this (aa6 I)⟩
theorem Lu{K:PySem.W.Frag}{M:Addr->Prop}{H:Hp}{a:Addr}(h:H a=some (.tup xs))(n: ¬M a)(r:aA M H xs ds):Yl M H (XU K a) ds:=by
 refine⟨fun i k V Z Y c I=>?_,fun k Z=>⟨xs,dm.of (Z _ _ h n),by rw[r.1];exact ab3 _⟩⟩;have w:=lU r Z c;have j:xs[i]?=some (xs[i]'(by rw[r.1];exact I)):=aa6 _;refine⟨⟨xs,_,dm.of (Z _ _ h n),j⟩,fun x C O=>?_⟩;obtain⟨e,y⟩:=O;subst e;have:=y xs (dm.of (Z _ _ h n));exact⟨fun _ _ z=>z,_,aa6 I,w.2 i x _ this (aa6 I)⟩
inductive F9(Q:List Dt->List Sl->Prop)(d:Dt)(δ':List Sl):Prop
 | mk (ds:_) (h1:d= .lst ds) (h2:Q ds δ')
def Xq(t:bJ):pV:=fun i Q=>t i fun d j=>F9 Q d j
inductive N7(Q:List Dt->List Sl->Prop)(d:Dt)(δ':List Sl):Prop
 | mk (ds:_) (h1:d= .tup ds) (h2:Q ds δ')
def Xp(t:bJ):pV:=fun i Q=>t i fun d j=>N7 Q d j
theorem dH(h:Ev X e t):Iv X tg e (Xq t):=PI.imp (Ie h) fun c H R g=>(by obtain⟨W,M,O,j,y,E,q,k⟩:=g;exact(⟨W,M,O,j,_,E,q,fun d l x v F N D r=>(by obtain⟨s,e,o⟩:=F;exact(by
 subst e;obtain⟨a,i,rfl,f,n,w⟩:=r.cA;exact⟨a,rfl,⟨i,cc.of f⟩,k _ _ _ _ o N D (Hr f n w)⟩))⟩))
theorem Q0(h:Ev X e t):Iv X tg e (Xp t):=PI.imp (Ms h) fun c H R j=>(by obtain⟨W,M,O,l,y,E,q,k⟩:=j;exact(⟨W,M,O,l,_,E,q,fun d m x v i N D r=>(by obtain⟨s,e,o⟩:=i;exact(by
 subst e;obtain⟨a,g,rfl,f,n,w⟩:=r.bM;exact⟨a,rfl,⟨g,dm.of f⟩,k _ _ _ _ o N D (Lu f n w)⟩))⟩))
noncomputable def aM(k:Nat)(ds:List Dt):List Dt:=ds.mapIdx fun i d=> .tup [.int ((i+k:Nat):Int),d]
theorem qZ{K:PySem.W.Frag}{M:Addr->Prop}{H:Hp}{a:Addr}{k:Nat}(h:H a=some (.tup xs))(n: ¬M a)(r:aA M H xs ds):Yl M H (OG K a k) (aM k ds):=by
 have w:(aM k ds).length=ds.length:=by unfold aM;rw[aj6]
 refine⟨fun i l V Z g d I=>?_,fun l Z=>⟨xs,dm.of (Z _ _ h n),by rw[r.1,w]⟩⟩;rw[w] at I;have A:=lU r Z d;have j:xs[i]?=some (xs[i]'(by rw[r.1];exact I)):=aa6 _;refine⟨⟨xs,_,dm.of (Z _ _ h n),j⟩,fun x C G=>?_⟩;obtain⟨m,y,u,z,Y,c⟩:=G;subst u;subst Y;have f:=c xs (dm.of (Z _ _ h n));have s:aD l (upd l m (.tup [.int ((i+k:Nat):Int),y])):=aD.new z;refine⟨s,_,by unfold aM;rw[ai8,aa6 I];rfl,Rep.hU af (g.fresh z) (.cons (.int _) (.one ((A.2 i y _ f (aa6 I)).same s)))⟩
inductive JQ(k:Nat)(Q:List Dt->List Sl->Prop)(es:List Dt)(δ':List Sl):Prop
 | mk (ds:_) (h1:es= [.tup ds]) (h2:Q (aM k ds) δ')
def Sq(k:Nat)(t:fJ):pV:=fun i Q=>t i fun B j=>JQ k Q B j
theorem sN{x1}(z:X.mg "enumerate"=none)(d:Av X [e] tA)(S:Gl X "enumerate":=by rfl)(hs:starEach [e] X.env= [(false,eval e X.env)]:=by rfl):Iv X (.Tuple es x1 tp) (.Call (.Name "enumerate" p) [e] [] pos) (Sq 0 tA):=PI.imp (DO S z d hs) fun c H R m=>(by obtain⟨W,M,O,i,y,E,q,k⟩:=m;exact(
 ⟨W,M,O,i,_,E,q,fun es j v u J N D r=>(by obtain⟨s,e,o⟩:=J;exact(by
  subst e;obtain⟨x,A,rfl,P,L⟩:=r.aG;cases L.cG;obtain⟨a,f,rfl,d,n,w⟩:=P.bM;exact⟨a,rfl,⟨f,dm.of d⟩,k _ _ _ _ o N D (qZ d n w)⟩))⟩))
inductive Gd(Q:List Dt->List Sl->Prop)(es:List Dt)(δ':List Sl):Prop
 | mk (ds:_) (h1:es= [.tup ds,.int 1]) (h2:Q (aM 1 ds) δ')
def N9(t:fJ):pV:=fun i Q=>t i fun B j=>Gd Q B j
theorem Jc{x1}(z:X.mg "enumerate"=none)(d:Av X [e,f] tA)(S:Gl X "enumerate":=by rfl)(hs:starEach [e,f] X.env= [(false,eval e X.env),(false,eval f X.env)]:=by rfl)(m:starEach [f] X.env= [(false,eval f X.env)]:=by rfl):Iv X (.Tuple es x1 tp) (.Call (.Name "enumerate" p) [e,f] [] pos) (N9 tA):=PI.imp (DM S z d hs m) fun c H R g=>(by obtain⟨W,M,O,j,A,E,q,k⟩:=g;exact(
 ⟨W,M,O,j,_,E,q,fun es l v u h N D r=>(by obtain⟨s,e,o⟩:=h;exact(by
  subst e;obtain⟨x,B,rfl,P,L⟩:=r.aG;obtain⟨y,C,rfl,F,T⟩:=L.aG;cases T.cG;cases F.ofInt;obtain⟨a,i,rfl,d,n,w⟩:=P.bM;exact⟨a,rfl,⟨i,dm.of d⟩,k _ _ _ _ o N D (qZ d n w)⟩))⟩))
noncomputable def cD(f n:List Dt):List Dt:=List.zipWith (fun x y=> .tup [x,y]) f n
noncomputable def U3(b:Bool)(ds:List Dt):Dt:=if b then .tup ds else .lst ds
theorem Rep.QB{b:Bool}(h:Rep M H v (U3 b ds)): ∃a f,v= .ref a/\pS b H a f/\ ¬M a/\aA M H f ds/\ ∀l,Kf M H l->pS b l a f:=by
 cases b with
 | true=>obtain⟨a,f,e,d,n,r⟩:=Rep.bM h;exact⟨a,f,e,d,n,r,fun l k=>k _ _ d n⟩
 | false=>obtain⟨a,f,e,d,n,r⟩:=Rep.cA h;exact⟨a,f,e,d,n,r,fun l k=>k _ _ d n⟩
theorem Ls(T: ∀k,Kf M H k->pS b1 k a1 xs)(g: ∀k,Kf M H k->pS b2 k a2 ys)(r:aA M H xs ds)(P:aA M H ys es):Yl M H (S6 b1 b2 a1 a2) (cD ds es):=by
 have w:(cD ds es).length=min ds.length es.length:=by unfold cD;rw[al0]
 refine⟨fun i k V Z Y c I=>?_,fun k Z=>⟨xs,ys,T _ Z,g _ Z,by rw[w,r.1,P.1];grind⟩⟩;rw[w] at I;have B:=lU r Z c;have Q:=lU P Z c;have u:ds[i]?=some (ds[i]'(by grind)):=aa6 _;have E:es[i]?=some (es[i]'(by grind)):=aa6 _;obtain⟨x,j,n⟩:=B.get u;obtain⟨y,d,o⟩:=Q.get E;refine⟨⟨xs,x,ys,y,T _ Z,j,g _ Z,d⟩,fun v C q=>?_⟩;obtain⟨m,R,S,A,z,W,l,U⟩:=q;subst A;subst W;have f:=l xs (T _ Z);have h:=U ys (g _ Z);rw[j] at f;cases f;rw[d] at h;cases h;have s:aD k (upd k m (.tup [x,y])):=aD.new z;exact⟨s,_,by unfold cD;rw[ak4,u,E],Rep.hU af (Y.fresh z) (.cons (n.same s) (.one (o.same s)))⟩
inductive NV(Q:List Dt->List Sl->Prop)(es:List Dt)(δ':List Sl):Prop
 | mk (b1 b2 W9 W8:_) (h1:es= [U3 b1 W9,U3 b2 W8]) (h2:Q (cD W9 W8) δ')
def Xc(t:fJ):pV:=fun i Q=>t i fun B j=>NV Q B j
theorem qo{x1}(d:Av X [e,f] tA)(r: ∀{t:TA},PA X [e,f] t->PI X (.Tuple es x1 tp) (.Call (.Name "zip" p) [e,f] [] pos) (Q1 t)):Iv X (.Tuple es x1 tp) (.Call (.Name "zip" p) [e,f] [] pos) (Xc tA):=PI.imp (r d) fun Z H R Q=>(by obtain⟨W,M,O,i,z,E,q,k⟩:=Q;exact(
 ⟨W,M,O,i,_,E,q,fun es j v A S N F s=>(by obtain⟨T,u,l,h,e,o⟩:=S;exact(by
  subst e;obtain⟨x,I,rfl,P,L⟩:=s.aG;obtain⟨y,Y,rfl,G,U⟩:=L.aG;cases U.cG;obtain⟨a,g,rfl,d,n,w,J⟩:=P.QB;obtain⟨c,B,rfl,C,m,V,D⟩:=G.QB;exact⟨T,u,a,c,g,B,rfl,d,C,k _ _ _ _ o N F (Ls J D w V)⟩))⟩))
abbrev we:=Dt->List Sl->(List Sl->Prop)->Prop
inductive lG(g:we)(v:V)(σ:L2.St)(H:Hp)(Q:L2.St->Hp->Prop):Prop
 | mk (W:List Wd) (M:Addr->Prop) (α:List (List Addr)) (δ:List Sl) (d:Dt) (Qd:List Sl->Prop) (h1:aB W M α H σ δ) (h2:Rep M H v d) (h3:g d δ Qd) (h4: ∀α' δ' σ',Qd δ'->aB W M α' H σ' δ'->(∀x∈α'.flatten,x∈α.flatten)->Q σ' H)
theorem PG.imp{X:Cx}{tg:Expr}{t t':TG}(h:PG X tg t)(i: ∀v d H Q,t' v d H Q->t v d H Q):PG X tg t':=fun c s d H v u Q I r q=>h c s d H v u Q I r (i _ _ _ _ q)
abbrev Gv(X:Cx)(tg:Expr)(g:we):Prop:=PG X tg (lG g)
def xW(i:Nat):we:=fun d j Q=>bZ j i/\Q (j.set i (.im d))
theorem cI{α:List (List Addr)}: ∀x∈(α.set i []).flatten,x∈α.flatten:=fun x h=>(cq h).elim id fun z=>absurd z aa8
theorem aO: ∀v c H Q,lG (xW i) v c H Q->cB i v c H Q:=fun v c H Q g=>(by obtain⟨W,M,N,j,d,y,E,r,⟨u,q⟩,k⟩:=g;exact(k _ _ _ q (E.ig r u) cI))
theorem iP(i:Nat)(q:X.N.Nodup)(hi:X.N[i]?=some x:=by rfl)(h:Loc X.env.scope x:=by first | exact Or.inl rfl | exact Or.inr rfl)(s:X.fn x=true\/X.env.scope.names.lookup x=some .local:=by first | exact .inl rfl | exact .inr rfl | assumption):Gv X (.Name x pos) (xW i):=PG.imp (au q hi h s) aO
inductive FT(i:Nat)(j:Nat)(d:Dt)(δ:List Sl)(Q:List Sl->Prop):Prop
 | mk (d1 d2:_) (h1:d= .tup [d1,d2]) (h2:bZ δ i) (h3:bZ (δ.set i (.im d1)) j) (h4:Q ((δ.set i (.im d1)).set j (.im d2)))
theorem aR{i j:Nat}{K:PySem.W.Frag}: ∀v c H Q,lG (FT i j) v c H Q->BB K 2 (fF (cB i) (fF (cB j) xP)) v c H Q:=fun v c H Q o=>(by obtain⟨W,M,N,A,d,z,E,r,⟨O,s,e,m,l,q⟩,k⟩:=o;exact(by
 subst e;obtain⟨a,g,rfl,f,n,w⟩:=r.bM;obtain⟨x,u,rfl,P,L⟩:=w.aG;obtain⟨y,B,rfl,F,T⟩:=L.aG;cases T.cG;exact⟨a,_,rfl,dm.of f,rfl,x,_,rfl,y,_,rfl,rfl,k _ _ _ q ((E.ig P m).ig F l) fun x h=>cI x (cI x h)⟩))
theorem lV(i j:Nat)(l:X.calm=true)(q:X.N.Nodup)(hi:X.N[i]?=some x:=by rfl)(V:X.N[j]?=some y:=by rfl)(k:Loc X.env.scope x:=by first | exact Or.inl rfl | exact Or.inr rfl)(c:Loc X.env.scope y:=by first | exact Or.inl rfl | exact Or.inr rfl)(s:X.fn x=true\/X.env.scope.names.lookup x=some .local:=by first | exact .inl rfl | exact .inr rfl | assumption)(Y:X.fn y=true\/X.env.scope.names.lookup y=some .local:=by first | exact .inl rfl | exact .inr rfl | assumption)(h:(assignEach [.Name x px, .Name y py] X.env).length=2:=by rfl)(R:(assignEach [.Name x px, .Name y py] X.env).findIdx? (·.1)=none:=by rfl)(f:(assignEach [.Name x px, .Name y py] X.env).map (·.2)=assign (.Name x px) X.env::(assignEach [.Name y py] X.env).map (·.2):=by rfl)(g:(assignEach [.Name y py] X.env).map (·.2)=assign (.Name y py) X.env::(assignEach [] X.env).map (·.2):=by rfl):
  Gv X (.Tuple [.Name x px,.Name y py] kk pos) (FT i j):=PG.imp (bP l (az (au q hi k s) (az (au q V c Y) bo g) f) h R) aR
end
section
variable{X:Cx}{tg iter c:Expr}{body:List Stmt}{ti:pV}{g:we}{tb:mf}{u:ph}{pos:Pos}
def Xr(ti:pV)(g:we)(tb:mf):mf:=fun M j=>ti j fun s B=> ∃P:Nat->List Sl->Prop,P 0 B/\(∀i d O,s[i]?=some d->P i O->g d O fun L=>tb {M with nx:=P (i+1),ct:=P (i+1),bk:=M.nx} L)/\ ∀O,P s.length O->M.nx O
theorem gW(hc:X.calm=true)(hi:Iv X tg iter ti)(hg:Gv X tg g)(f:CD X body tb)(hp:PassesOwn (model X.prog X.w) X.A X.env X.xe)(hs: ∀x,foldedSetIterable iter X.env x=pure x:=by intro _;rfl):Ex X (.For tg iter body [] pos) (Xr ti g tb):=
 PS.imp (Mo hp hc hi hg f hs) fun D σ H cx=>(by obtain⟨p,M,α,δ,Δ,E,L,q⟩:=cx;exact(⟨p,M,α,δ,_,E,q,fun C S l J fT E1 c1 yl=>(by obtain⟨P,p0,Z,fin⟩:=fT;exact(by
  refine⟨fun i m a F=>m=C.length - i/\i<=C.length/\ ∃V k j,aB (⟨l,M,fun _=>False,M,none⟩::p) V k F a j/\P i j,⟨C.length,by simp,ag0 _,M,α,S,E1.loop,p0⟩,?_⟩;rintro i m a F ⟨rfl,hi,V,k,j,T,p'⟩
  have w:=T.w _ ab4;have kf:Kf M l F:=w.bs;have f: ∀b,l b≠none-> ¬M b-> ¬V b:=fun b n z y=>(w.m1 b y).elim z n;by_cases W:i < C.length
  . obtain⟨go,wy⟩:=yl.go i F V kf T.al f W;refine .inr ⟨go,fun N I=> ∃M2 R O,aB (⟨l,M,fun _=>False,M,none⟩::p) M2 R I N O/\P (i+1) O,fun N I z=>⟨C.length - (i+1),by grind,rfl,W,z⟩,fun x I y=>?_⟩;obtain⟨s,d,hd,rx⟩:=wy x I y;refine⟨_,V,k,j,d,_,T.same s,rx,Z i d j hd p',fun r U σ3 q3 E3 _=>?_⟩;refine⟨_,V,r,U,{Δ with nx:=P (i+1),ct:=P (i+1),bk:=Δ.nx},E3,⟨fun G h Q t o Y B=>⟨G,h,o,Y,B⟩,fun G h Q t o v d Y r4 B=>L.rt _ _ _ _ _ _ _ Y.drop r4 B,fun G h Q t o Y B=>L.nx _ _ _ _ _ Y.drop B,fun G h Q t o Y B=>⟨G,h,o,Y,B⟩⟩,q3⟩
  . have e:i=C.length:=by grind
    subst e;exact .inl ⟨yl.stop F kf,L.nx _ _ _ _ _ T.drop (fin _ p')⟩))⟩))
def F4(u:ph)(tb:mf):mf:=fun M i=> ∃P:Nat->List Sl->Prop,(∃m,P m i)/\ ∀m B,P m B->u B fun b O=>if b=true then tb {M with nx:=fun L=> ∃a,a < m/\P a L,ct:=fun L=> ∃a,a < m/\P a L,bk:=M.nx} O else M.nx O
theorem yR(q:Tv X c u)(p:CD X body tb)(r:PassesOwn (model X.prog X.w) X.A X.env X.xe):Ex X (.While c body [] pos) (F4 u tb):=
 PS.imp (DE r q p) fun D σ H C=>(by obtain⟨o,M,S,W,R,E,L,P,⟨G,J⟩,turn⟩:=C;exact(by
  refine⟨fun m Z v=> ∃V h j,aB o V h v Z j/\P m j,⟨G,M,S,W,E,J⟩,?_⟩;rintro m Z v ⟨V,h,j,T,I⟩
  refine⟨o,V,h,j,_,T,turn m j I,fun b O H2 d f c2=>?_⟩;cases b with
  | true=>
   rw[if_pos rfl] at d ⊢;refine⟨fun k Q=> ∃a,a < m/\ ∃U e N,aB o U e Q k N/\P a N,fun k Q z=>z,?_⟩;exact⟨o,V,h,O,{R with nx:=fun N=> ∃a,a < m/\P a N,ct:=fun N=> ∃a,a < m/\P a N,bk:=R.nx},f,⟨fun F i x t n Y s=>(by obtain⟨a,l,B⟩:=s;exact(⟨a,l,F,i,n,Y,B⟩)),L.rt,fun F i x t n Y B=>L.nx _ _ _ _ _ Y B,fun F i x t n Y y=>(by obtain⟨a,l,B⟩:=y;exact(⟨a,l,F,i,n,Y,B⟩))⟩,d⟩
  | false=>
   rw[if_neg ac3] at d ⊢;exact L.nx _ _ _ _ _ f d))
end
noncomputable def seen:Sl->Sl
 | .im d=> .im d
 | .fn f=> .fn f
 | _=> .no
noncomputable def cin(nt:Nat)(js:List Nat)(i:List Sl):List Sl:=List.replicate nt .no++js.map fun j=>seen (i.getD j .no)
theorem tE{js:List Nat}(E:aB Ws M α H σ δ):aB [] M (List.replicate (nt+js.length) []) H (lB nt js σ) (cin nt js δ):=by
 have b:(List.replicate (nt+js.length) ([]:List Addr)).flatten= []:=by simp
 refine⟨by simp [lB,cin],by simp [cin],fun i s h=>?_,by rw[b];exact aj4,fun a g=>by rw[b] at g;exact absurd g aa8,E.al,fun W U=>absurd U aa8⟩;have I:=(ab0.mp h).1;have u:i < nt+js.length:=by simpa [cin] using I
 have g:(List.replicate (nt+js.length) ([]:List Addr))[i]?=some []:=by rw[ad2,if_pos u]
 unfold cin at h;unfold lB;by_cases w:i < nt
 . rw[ae4 (by simpa using w),ad2,if_pos w] at h;cases h;exact⟨none,[],by rw[ae4 (by simpa using w),ad2,if_pos w],g,rfl⟩
 . rw[af2 (by simpa using w),ah5,aa9] at h;cases V:js[i - nt]? with
   | none=>rw[V] at h;cases h
   | some j=>
    rw[V] at h;have A:seen (δ.getD j .no)=s:=Option.some.inj h;refine⟨(σ[j]?).join,[],by rw[af2 (by simpa using w),ah5,aa9,V];rfl,g,?_⟩;cases t:δ[j]? with
    | none=>
     have:δ.getD j .no= .no:=by rw[List.getD,t];rfl
     rw[this] at A;subst A;rfl
    | some s'=>
     have e:δ.getD j .no=s':=by rw[List.getD,t];rfl
     rw[e] at A;cases s' with
     | im d=>
      subst A;obtain⟨v,k,r⟩:=E.im t;exact⟨rfl,v,by rw[k];rfl,r⟩
     | fn f=>
      subst A;obtain⟨P,c,k,_,_,T⟩:=E.sl j _ t;exact⟨rfl,by rw[k,T];rfl⟩
     | _=>subst A;rfl
section
variable{X:Cx}{N:List Str}{nt:Nat}{js:List Nat}{scope:Scope}{elt tg iter:Expr}{ifs:List Expr}{pos:Pos}{ti:pV}{g:we}{tc:ph}{te:bJ}
def Gg(nt:Nat)(js:List Nat)(ti:pV)(g:we)(tc:ph)(te:bJ):Ck:=fun i Q=>ti i fun s B=>s.length<=sizeLine/\ ∃(p:Dt->Bool) (f:Dt->Dt),(∀d∈s,g d (cin nt js B) fun O=>tc O fun b L=>b=p d/\(b=true->te L fun r _=>r=f d))/\Q ((s.filter p).map f) B
theorem BX(sR: ∀v q H Q,lG g v q H Q->gh v q H Q)(P:aB W M α H1 q δ1)(yl:Yl M H1 J ao)(hsz:ao.length<=sizeLine)(Y: ∀d∈ao,g d (cin nt js δ1) fun δ2=>tc δ2 fun b δ3=>b=p d/\(b=true->te δ3 fun r _=>r=f d))(k: ∀O L a,aB W M α O q δ1->dz α H1 O->aA M O L ((ao.filter p).map f)->O a=none->Q (.ref a) (upd O a (.lst L)))(D:Addr)(t:H1 D=none):Ha nt js gh (lT tc) (lE te) q Q D J (upd H1 D (.lst [])):=by
 have s0:aD H1 (upd H1 D (.lst [])):=aD.new t;refine⟨fun i m G C=>m=ao.length - i/\i<=ao.length/\C D=some (.lst G)/\aA (fun b=>M b\/b=D) C G (((ao.take i).filter p).map f)/\aD H1 C/\gZ (fun b=>M b\/b=D) C,⟨ao.length,by simp,ag0 _,af,.nil,s0,fun a j=>?_⟩,?_⟩
 . rcases j with j | j
   . obtain⟨o,e,n⟩:=P.al a j;exact⟨o,s0 _ _ e,n⟩
   . subst j;exact⟨_,af,fun L z=>by cases z⟩
 rintro i m G C ⟨rfl,hi,Z,R,E,KI⟩
 have kf:Kf M H1 C:=fun b o e _=>E _ _ e;by_cases eM:i < ao.length
 . have c: ∀b,H1 b≠none-> ¬M b-> ¬(fun b=>M b\/b=D) b:=fun b n z y=>y.elim z fun w=>n (by rw[w];exact t);obtain⟨go,wy⟩:=yl.go i C (fun b=>M b\/b=D) kf KI c eM;have B:G.length < sizeLine:=by
    rw[R.1,aa4];exact an9 (ad9 (ao1 _ _) (by rw[ak5];omega)) (ae0 eM hsz)
   refine .inr ⟨go,B,fun U A=>A D=some (.lst U)/\aA (fun b=>M b\/b=D) A U (((ao.take (i+1)).filter p).map f)/\aD H1 A/\gZ (fun b=>M b\/b=D) A,fun U A je=>(by obtain⟨z1,z2,z3,z4⟩:=je;exact(⟨ao.length - (i+1),by omega,rfl,eM,z1,z2,z3,z4⟩)),fun x O y=>?_⟩;obtain⟨s3,d,hd,rx⟩:=wy x O y;have E2:aB [] (fun b=>M b\/b=D) (List.replicate (nt+js.length) []) C (lB nt js q) (cin nt js δ1):=by
    have su:aD (upd H1 D (.lst G)) C:=fun b o e=>by
     by_cases c:b=D
     . subst c;rw[af] at e;cases e;exact Z
     . rw[ah c] at e;exact E _ _ e
    have Ea:aB [] (fun b=>M b\/b=D) α C q δ1:=⟨P.ls,P.la,fun i s h=>let ⟨o,as,h1,h2,h3⟩:=P.sl i s h;⟨o,as,h1,h2,(h3.grow (u:= .lst G) t).same su⟩,P.nd,fun a h=> .inl (P.mu a h),KI,fun W hW=>absurd hW aa8⟩
    exact tE Ea
   have E3:=E2.same s3;have bN:(List.replicate (nt+js.length) ([]:List Addr)).flatten= []:=by simp
   refine sR _ _ _ _ ⟨[],_,_,_,d,_,E3,rx,Y d (ac8 hd),fun l δ4 σ4 q4 E4 hα=>?_⟩;have Hk:l.flatten= []:=ai9.mpr fun x hx=>by have:=hα x hx;rw[bN] at this;exact absurd this aa8
   refine⟨[],_,l,δ4,_,E4,q4,fun b δ5 T jw E5 c5=>?_⟩;obtain⟨hp,q5⟩:=jw;have s5:aD O T:=fun b o e=>c5 b o e (by rw[Hk];exact aa8);have I:aD C T:=fun b o e=>s5 _ _ (s3 _ _ e);have tk:ao.take (i+1)=ao.take i++ [d]:=by rw[ap8,hd];rfl
   cases b with
   | false=>
    refine aW ⟨I _ _ Z,?_,fun b o e=>I _ _ (E _ _ e),E5.al⟩;rw[tk,ai2,ac5];simp [<-hp];exact R.same I
   | true=>
    refine cm ⟨[],_,l,δ5,_,E5,q5 rfl,fun r δ6 F v e6 E6 c6 r6=>?_⟩;subst e6;have s6:aD T F:=fun b o e=>c6 b o e (by rw[Hk];exact aa8);have S:aD C F:=fun b o e=>s6 _ _ (I _ _ e);have WN:=S _ _ Z;have up: ∀{zs:List V} {ds:List Dt},aA (fun b=>M b\/b=D) F zs ds->aA (fun b=>M b\/b=D) (upd F D (.lst (G++ [v]))) zs ds:=fun r=>r.mono fun a o e n=>⟨by rw[ah (fun z=>n (.inr z))];exact e,n⟩
    refine⟨WN,af,?_,fun b o e=>by rw[ah (ar e t)];exact S _ _ (E _ _ e),fun a j=>?_⟩
    . rw[tk,ai2,ac5];have e1:List.filter p [d]= [d]:=by simp [<-hp]
      rw[e1];exact up ((R.same S).append (.one r6))
    . by_cases c:a=D
      . subst c;exact⟨_,af,fun L z=>by cases z⟩
      . rw[ah c];exact E6.al a j
 . have e:i=ao.length:=by omega
   subst e;refine .inl ⟨yl.stop C kf,?_⟩;rw[al5] at R;have eH:upd (fun b=>if b=D then none else C b) D (.lst G)=C:=by
    funext b
    by_cases c:b=D
    . subst c;rw[af,Z]
    . rw[ah c,if_neg c]
   rw[<-eH];have sH:aD H1 (fun b=>if b=D then none else C b):=fun b o e=>by
    show(if b=D then none else C b)=some o;rw[if_neg (ar e t)];exact E _ _ e
   refine k _ _ _ (P.same sH) (dz.of sH) (R.mono fun a o e n=>⟨?_,fun z=>n (.inl z)⟩) (by show(if D=D then none else C D)=none;rw[if_pos rfl]);show(if a=D then none else C a)=some o;rw[if_neg (fun z=>n (.inr z))];exact e
theorem qG(t: ∀v b H Q,lG g v b H Q->gh v b H Q): ∀b H Q,lO (Gg nt js ti g tc te) b H Q->C6 nt js (lI ti) gh (lT tc) (lE te) b H Q:=fun b H Q U=>(by obtain⟨W,M,P,i,y,E,q,k⟩:=U;exact(by
 refine⟨W,M,P,i,_,E,q,fun u B l J x O F h D s=>?_⟩;obtain⟨r,p,f,Y,o⟩:=x;exact BX t O h r Y (fun S e a R w L T=>k _ _ _ _ _ o R (F.tr w) L T) D s))
theorem bB(S:k9 X N nt js scope)(l:X.calm=true)(hi:Iv X tg iter ti)(T: ∀s H i C r,PG (eD X N scope s H i C r) tg gh)(V:k6 nt gh)(u: ∀v b H Q,lG g v b H Q->gh v b H Q)(t: ∀s H i C r,PF (eD X N scope s H i C r) ifs (lT tc))(E: ∀s H i C r,Ev (eD X N scope s H i C r) elt te)(hs: ∀x,foldedSetIterable iter X.env x=pure x:=by intro _;rfl):Ov X (.ListComp elt [⟨tg,iter,ifs,0⟩] scope pos) (Gg nt js ti g tc te):=PE.imp (Im S l hi T V t E hs) (qG u)
theorem rP(i:Nat){Y c:Pos}(p:X.N.Nodup)(S:k9 X N nt js scope)(m:X.calm=true)(hi:Iv X tg iter ti)(T: ∀s H j C r,PG (eD X N scope s H j C r) tg gh)(V:k6 nt gh)(B: ∀v b H Q,lG g v b H Q->gh v b H Q)(t: ∀s H j C r,PF (eD X N scope s H j C r) ifs (lT tc))(F: ∀s H j C r,Ev (eD X N scope s H j C r) elt te)(W:X.N[i]?=some y:=by rfl)(d:Loc X.env.scope y:=by first | exact Or.inl rfl | exact Or.inr rfl)(Z:swapsWith (.ListComp elt [⟨tg,iter,ifs,0⟩] scope pos) (some (.Name y c)) Y.line X.env=pure true:=by rfl)(hs: ∀x,foldedSetIterable iter X.env x=pure x:=by intro _;rfl)(k:X.fn y=true\/X.env.scope.names.lookup y=some .local:=by first | exact .inl rfl | exact .inr rfl | assumption):
  Ex X (.Assign [.Name y c] (.ListComp elt [⟨tg,iter,ifs,0⟩] scope pos) Y) (F6 i (Gg nt js ti g tc te)):=PS.imp (Ia p W d S m hi T V t F Z hs k) fun D b H h=>by
 obtain⟨l,M,P,G,U,E,L,q⟩:=h;exact qG B _ _ _ ⟨l,M,P,G,_,E,q,fun n I J e a w O R A f=>(by obtain⟨u,o⟩:=w;exact(L.nx _ _ _ _ _ (O.rJ (s:= .ow n) f (fun e z=>by cases z) u rfl ⟨a,e,rfl,rfl,af,A.grow f⟩) o))⟩
def Lc:ph:=fun i Q=>Q true i
theorem cu:PF X [] (lT Lc):=fun a s b H Q I O=>(by obtain⟨W,M,P,i,y,E,q,k⟩:=O;exact(Mv a s b H Q I (k _ _ _ q E dz.rf)))
theorem oP(h:Tv X c t):PF X [c] (lT t):=Mu h
theorem aZ{nt i j:Nat}{K:PySem.W.Frag}(hi:i < nt:=by decide)(V:j < nt:=by decide):k6 nt (BB K 2 (fF (cB i) (fF (cB j) xP))):=Fi (qx hi (xN qv) (qx V qv Fj))
end
end LD
namespace L2
open PySem PySem.Spec PyProof.Rows
section
variable{X:Cx}{pos:Pos}
def PH(i j l:Nat)(e:TA):TS:=fun D b H=>e b H fun t k=> ∃u v w,t= [u,v,w]/\D.nx (((b.set l (some w)).set j (some v)).set i (some u)) k
theorem HZ{kt k2 w9}(V:X.calm=true)(r:X.N.Nodup)(hi:X.N[i]?=some x)(Y:X.N[j]?=some y)(hl:X.N[l]?=some z)(m:X.env.scope.names.lookup x=some .local)(g:X.env.scope.names.lookup y=some .local)(n:X.env.scope.names.lookup z=some .local)(T:PA X [a,b,c] ta)(hw:swappedStores [.Tuple [.Name x px, .Name y py, .Name z pz] kt pt] (.Tuple [a,b,c] k2 w9) X.env=pure (some [x,y,z]))(hs:swapsWithSole [.Tuple [.Name x px, .Name y py, .Name z pz] kt pt] (.Tuple [a,b,c] k2 w9) pos.line X.env=pure false:=by rfl):
  PS X (.Assign [.Tuple [.Name x px,.Name y py,.Name z pz] kt pt] (.Tuple [a,b,c] k2 w9) pos) (PH i j l ta):=by
 intro d s u H D I h;rw[exec_Assign_arm];refine aa5 (ai5 ?_);rw[hs];refine aa5 (ab2 ?_);rw[if_neg (by decide)];refine aa5 (Tuple_ (aP (T _ d s u H _ I h) fun us J U=>?_));obtain⟨vs,k,W,r1,t⟩:=U;obtain⟨v1,v2,v3,R,t⟩:=t;subst R;obtain⟨f,B,C,rfl,L,mU,M⟩: ∃f B C,us= [f,B,C]/\RelV v1 f/\RelV v2 B/\RelV v3 C:=by
  cases r1 with
  | cons p q=>cases q with
   | cons p' q'=>cases q' with
    | cons p2 q2=>cases q2;exact⟨_,_,_,rfl,p,p',p2⟩
 refine ah8 ?_ (by show 3<=sizeLine;decide);have O:Inv X d u k {J with heap:=J.heap.push {cls:= .type "tuple",data:= .seq [f,B,C].toArray}}:=W.kept (t':=J.toks) fun b o e=>aa7 _ e;rw[hw];refine aa5 (ab2 ?_);show wpAny (model X.prog X.w) X.A (do rule "assign.swapped-stores";let Z<-unpackItems (.ref J.heap.objs.size) 3 none;assignInOrder [fun v=>bindName X.env z v,fun v=>bindName X.env y v,fun v=>bindName X.env x v] Z.reverse;pure Flow.next) _ _ _;refine aa5 (aq4 (aa5 (unpackItems_tuple (items:= #[f,B,C]) (I.ok.hd V) (IsTup.new J.heap _) fun S Q=>?_)));have E:=O.kept (h':=S) (t':=J.toks) fun b o e=>Q b o (af4 (ad7 e)) e;show wpAny _ _ (assignInOrder [fun v=>bindName X.env z v,fun v=>bindName X.env y v,fun v=>bindName X.env x v] [C,B,f] >>=fun _=>pure Flow.next) _ _ _;refine aa5 (an8 (as5 (eU E r hl (.inl n) M (fun s2 P=>?_) (.inr n))));refine an8 (as5 (eU P r Y (.inl g) mU (fun s3 F=>?_) (.inr g)));exact an8 (as5 (eU F r hi (.inl m) L (fun s4 G=>assignInOrder_nil (ab2 ⟨_,k,G,t⟩)) (.inr m)))
end
end L2
namespace LD
open PySem PySem.Spec L2 LB PyProof.Rows
structure GX(Ws:List Wd)(M:Addr->Prop)(α:List (List Addr))(a:Addr):Prop where
 m:M a
 n:a∉α.flatten
 w: ∀W∈Ws,(W.A0 a\/W.H0 a=none)/\ ¬W.M0 a
def ZT(M:Addr->Prop)(H:Hp)(v:V)(s:Sl)(as:List Addr):Prop:=s.bz=false/\nu M H (some v) s as
inductive Ci(Ws:List Wd)(M:Addr->Prop)(α:List (List Addr))(H:Hp):List V->List Sl->List Addr->Prop where
 | nil:Ci Ws M α H [] [] []
 | cons {v:V} {s:Sl} {as bs:List Addr} {vs:List V} {ss:List Sl}:ZT M H v s as->(∀a∈as,GX Ws M α a)->as.Nodup->(∀a∈as,a∉bs)->Ci Ws M α H vs ss bs->Ci Ws M α H (v::vs) (s::ss) (as++bs)
abbrev G7:=List Sl->(List Sl->List Sl->Prop)->Prop
inductive lH(t:G7)(σ:L2.St)(H:Hp)(Q:List V->Hp->Prop):Prop
 | mk (W:List Wd) (M:Addr->Prop) (α:List (List Addr)) (δ:List Sl) (Qd:List Sl->List Sl->Prop) (h1:aB W M α H σ δ) (h2:t δ Qd) (h3: ∀ss δ' H' vs M' bs,Qd ss δ'->aB W M' α H' σ δ'->dz α H H'->(∀a,M a->M' a)->(∀a,M' a->M a\/H a=none)->Ci W M' α H' vs ss bs->(∀a∈bs,¬M a)->Q vs H')
abbrev Hv(X:Cx)(B:List Expr)(t:G7):Prop:=PA X B (lH t)
theorem nu.keep(h:nu M H o s as)(k: ∀b u,H b=some u-> ¬M b->H' b=some u/\ ¬M' b)(g: ∀a∈as,∀u,H a=some u->H' a=some u)(S:s.bz=false):nu M' H' o s as:=by
 cases s with
 | no=>exact h
 | im d=>exact⟨h.1,let ⟨v,e,r⟩:=h.2;⟨v,e,r.mono k⟩⟩
 | ow ds=>obtain⟨a,j,w,x,W,r⟩:=h;subst w;exact⟨a,j,rfl,x,g a (by simp) _ W,r.mono k⟩
 | bx t=>cases S
 | dk ks ds=>obtain⟨a,y,w,x,W,c,r⟩:=h;subst w;exact⟨a,y,rfl,x,g a (by simp) _ W,c,r.mono k⟩
 | ob R=>obtain⟨v,e,r⟩:=h;exact⟨v,e,R.st r (fun a i u q=>g a i _ q) k⟩
 | fn f=>exact h
section
variable{X:Cx}{e:Expr}{es:List Expr}{t:bJ}{th:G7}
def WJ:G7:=fun i Q=>Q [] i
def hIm(t:bJ)(th:G7):G7:=fun i Q=>t i fun d B=>th B fun H O=>Q (.im d::H) O
theorem qt:Hv X [] WJ:=PA.imp bQ fun b H Q U=>(by obtain⟨W,M,N,i,y,E,q,k⟩:=U;exact(k _ _ _ _ _ _ q E dz.rf (fun _ z=>z) (fun _ z=> .inl z) .nil (fun a d=>absurd d aa8)))
theorem mK(f:Ev X e t)(m:Hv X es th)(hs:starEach (e::es) X.env=(false,eval e X.env)::starEach es X.env:=by rfl):Hv X (e::es) (hIm t th):=PA.imp (a8 f m hs) fun b H Q w=>(by obtain⟨W,M,N,i,A,E,q,k⟩:=w;exact(
 ⟨W,M,N,i,_,E,q,fun d B l x r O D v=>⟨W,M,N,B,_,O,r,fun J P C G V F Z g u p I R c=>
  k _ _ _ _ _ _ Z g (D.tr u) p (fun a z=>(I a z).elim .inl fun y=>by
   cases e:H a with
   | none=>exact .inr rfl
   | some o => by_cases s : a ∈ N.flatten
               . exact .inl (E.mu a s)
               . rw[D _ _ e s] at y;cases y)
   (Ci.cons (as:= []) ⟨rfl,rfl,x,rfl,v.mono fun a o e n=>⟨u _ _ e fun z=>n (O.mu a z),fun z=>(I a z).elim n fun y=>by rw[e] at y;cases y⟩⟩ (fun a f=>absurd f aa8) aj4 (fun a f=>absurd f aa8) R) c⟩⟩))
end
theorem aB.uA(E:aB Ws M α H σ δ)(h:ZT M H v s as)(Q: ∀a∈as,GX Ws M α a)(B:as.Nodup)(y:bZ δ i):aB Ws M (α.set i as) H (σ.set i (some v)) (δ.set i s):=by
 have I:=y.lt;obtain⟨R,D,S⟩:=y;refine⟨by rw[ae5,ae5,E.ls],by rw[ae5,ae5,E.la],fun j C V=>?_,cX E.nd B (fun x r=>(Q x r).n),fun a f=>(cq f).elim (E.mu a) fun z=>(Q a z).m,E.al,fun W U=>?_⟩
 . by_cases p:i=j
   . subst p;rw[ac7 I] at V;cases V;exact⟨some v,as,by rw[ac7 (by rw[E.ls];exact I)],by rw[ac7 (by rw[E.la];exact I)],h.2⟩
   . rw[ab7 p] at V;obtain⟨o,as,l,g,T⟩:=E.sl j C V;exact⟨o,as,by rw[ab7 p];exact l,by rw[ab7 p];exact g,T⟩
 . have k:=E.w W U;refine⟨k.bs,k.ex,fun a f=>(cq f).elim (k.fr a) fun z=>((Q a z).w W U).1,k.m0,k.m1,fun d c e=>?_,fun j s J l g q=>?_⟩
   . obtain⟨t,u,A⟩:=k.bx d c e;have:i≠0:=fun z=>by subst z;rw[D] at u;cases u;cases S
     exact⟨t,by rw[ab7 this];exact u,by rw[ab7 this];exact A⟩
   . by_cases p:i=j
     . subst p;rw[ac7 (by rw[E.la];exact I)] at g;cases g;exact fun a f=>((Q a f).w W U).2
     . rw[ab7 p] at l g;exact k.fz j s J l g q
theorem GX.set(h:GX Ws M α a)(n:a∉as):GX Ws M (α.set i as) a:=⟨h.m,fun z=>(cq z).elim h.n n,h.w⟩
section
variable{X:Cx}{a b c:Expr}{pos:Pos}{th:G7}
inductive JL(i:Nat)(j:Nat)(Δ:dX)(ss:List Sl)(δ':List Sl):Prop
 | mk (s1 s2:_) (h1:ss= [s1,s2]) (h2:bZ δ' i) (h3:bZ (δ'.set i s1) j) (h4:Δ.nx ((δ'.set i s1).set j s2))
def Sf(i j:Nat)(th:G7):mf:=fun M l=>th l fun H k=>JL i j M H k
theorem nN(i j:Nat){kt k2 w9}(r:X.calm=true)(p:X.N.Nodup)(d:Hv X [a,b] th)(hi:X.N[i]?=some x:=by rfl)(W:X.N[j]?=some y:=by rfl)(o:i≠j:=by decide)(h:X.env.scope.names.lookup x=some .local:=by rfl)(g:X.env.scope.names.lookup y=some .local:=by rfl)(f:swappedStores [.Tuple [.Name x px, .Name y py] kt pt] (.Tuple [a,b] k2 w9) X.env=pure (some [x,y]):=by rfl)(hs:swapsWithSole [.Tuple [.Name x px, .Name y py] kt pt] (.Tuple [a,b] k2 w9) pos.line X.env=pure false:=by rfl):
  Ex X (.Assign [.Tuple [.Name x px,.Name y py] kt pt] (.Tuple [a,b] k2 w9) pos) (Sf i j th):=PS.imp (Mm r p hi W o h g d f hs) fun D σ H w=>(by obtain⟨n,M,S,t,Δ,E,L,q⟩:=w;exact(
 ⟨n,M,S,t,_,E,q,fun U u A vs Y B R O F G I Q C=>(by obtain⟨J,T,e,m,l,s⟩:=R;exact(by
  subst e;cases Q with
  | cons h1 h2 h3 h4 h5=>
   cases h5 with
   | cons g1 g2 g3 g4 g5=>
    cases g5;rename_i Z V v2 v;have k:=O.uA h1 h2 h3 m;have P:=k.uA (i:=j) g1 (fun a d=>(g2 a d).set fun z=>h4 a z (by simpa using d)) g3 l;exact⟨_,_,rfl,L.nx _ _ _ _ _ P s⟩))⟩))
inductive JK(i:Nat)(j:Nat)(l:Nat)(Δ:dX)(ss:List Sl)(δ':List Sl):Prop
 | mk (s1 s2 s3:_) (h1:ss= [s1,s2,s3]) (h2:bZ δ' l) (h3:bZ (δ'.set l s3) j) (h4:bZ ((δ'.set l s3).set j s2) i) (h5:Δ.nx (((δ'.set l s3).set j s2).set i s1))
def Se(i j l:Nat)(th:G7):mf:=fun M m=>th m fun H k=>JK i j l M H k
theorem L0(i j l:Nat){kt k2 w9}(s:X.calm=true)(r:X.N.Nodup)(d:Hv X [a,b,c] th)(hi:X.N[i]?=some x:=by rfl)(V:X.N[j]?=some y:=by rfl)(w:X.N[l]?=some z:=by rfl)(h:X.env.scope.names.lookup x=some .local:=by rfl)(g:X.env.scope.names.lookup y=some .local:=by rfl)(t:X.env.scope.names.lookup z=some .local:=by rfl)(f:swappedStores [.Tuple [.Name x px, .Name y py, .Name z pz] kt pt] (.Tuple [a,b,c] k2 w9) X.env=pure (some [x,y,z]):=by rfl)(hs:swapsWithSole [.Tuple [.Name x px, .Name y py, .Name z pz] kt pt] (.Tuple [a,b,c] k2 w9) pos.line X.env=pure false:=by rfl):
  Ex X (.Assign [.Tuple [.Name x px,.Name y py,.Name z pz] kt pt] (.Tuple [a,b,c] k2 w9) pos) (Se i j l th):=PS.imp (HZ s r hi V w h g t d f hs) fun D σ H R=>(by obtain⟨p,M,S,A,Δ,E,L,q⟩:=R;exact(
 ⟨p,M,S,A,_,E,q,fun ss B C vs Y F v O G J T Q I=>(by obtain⟨U,Z,s3,e,n,m,o,u⟩:=v;exact(by
  subst e;cases Q with
  | cons h1 h2 h3 h4 h5=>
   cases h5 with
   | cons g1 g2 g3 g4 g5=>
    cases g5 with
    | cons f1 f2 f3 f4 f5=>
     cases f5;have k:=O.uA (i:=l) f1 f2 f3 n;have P:=k.uA (i:=j) g1 (fun a d=>(g2 a d).set fun z=>g4 a d (by simpa using z)) g3 m;have W:=P.uA (i:=i) h1 (fun a d=>((h2 a d).set fun z=>h4 a d (by simp [z])).set fun z=>h4 a d (by simp [z])) h3 o;exact⟨_,_,_,rfl,L.nx _ _ _ _ _ W u⟩))⟩))
end
noncomputable def QQ:Dt->Option Key
 | .int i=>some (.inl i)
 | .str x=>some (.inr x)
 | _=>none
theorem IY(r:Rep M H v d)(h:QQ d=some k):v=kV k:=by
 cases r <;> first | (cases h;rfl) | cases h
instance {k:Key} {ks:List Key}:Decidable (k∈ks):=decidable_of_iff ((ks.any fun x=>decide (x=k))=true) (by simp)
section
variable{X:Cx}{N:List Str}{nt:Nat}{js:List Nat}{scope:Scope}{elt tg iter e f a b:Expr}{ifs:List Expr}{pos:Pos}{ti:pV}{g:we}{tc:ph}{te t tv tb:bJ}{ib jb:Nat}{gh:TG}
def Xv(t:bJ)(g:we):mf:=fun M i=>t i fun d j=>g d j M.nx
theorem mm(F:Ev X e t)(S:Gv X tg g)(hs:swapsWithSole [tg] e pos.line X.env=pure false:=by rfl)(k:swappedStores [tg] e X.env=pure none:=by rfl)(i:(assignEach [tg] X.env).map (·.2)= [assign tg X.env]:=by rfl):Ex X (.Assign [tg] e pos) (Xv t g):=
 PS.imp (DF F S hs k i) fun D c H w=>(by obtain⟨l,M,O,n,T,E,L,q⟩:=w;exact(⟨l,M,O,n,_,E,q,fun d j x v o P G r=>⟨l,M,O,j,d,_,P,r,o,fun m Q R Z h _=>L.nx _ _ _ _ _ h Z⟩⟩))
end
def uy(K:PySem.W.Frag):Sp:=fun t H Q _=> ∃(a:Addr) (ns:List Int),t= [.ref a]/\cc K H a (ns.map V.int)/\ns.length<=63/\ ∀v,Q (.bl true) v
def ur:DB:=fun t n Q=> ∃m,n= [.int m]/\t < 1000000/\0 < m/\m < 2^64/\ ∀r,0<=r->r < m->Q (.int r) (t+1)
theorem HE(h:Cp ur vs H Q E):Dd vs H Q E:=by
 obtain⟨M,d,c,t,F,o,y,rfl,Y,w,A,B,r,⟨m,rfl,u,e,n,q⟩,k⟩:=h;obtain⟨x,p,rfl,s,P⟩:=r.aG;cases P.cG;cases s.ofInt;exact⟨d,c,t,m,rfl,B,u,e,n,fun r v I s g U=>k _ _ _ _ (q r I s) U g (.int r)⟩
section
variable{P:Program}{w:World}{K:PySem.W.Frag}{mg:Str->Option Value}{base:Heap}
theorem QP {st : Stmt} {k : Nat} (F : dj K "law" "law" st f fd) (L : av N ["_law_script"] (ab st)) (hN : 2 <= N.length) (U : ∀ (bq : Value) (A : Around) (outer : List Env) (s : Shared) (H : Hp) (E : XK), bC k (A.deeper (envOfC "law" (ab st) s.heap.objs.size f bq)) ->
   ∃J G T,aS st=J::G/\PS (mO bD P w K mg base N "law" (ab st) f bq A outer s H E).Hd J (C8 (C7 (rE K) [] E0 (yG (fV 0) AD)) (cB 1))/\CD (mO bD P w K mg base N "law" (ab st) f bq A outer s H E).Hd G T/\
    T {nx:=fun _=>False,rt:=fun d _=>d= .bl true} (.no:: .bx 0::List.replicate (N.length - 2) .no)):aK P w K mg base bD (k+1) f fd ["_law_script"] (uy K):=by
 refine F.ok L (fun M H Q E h=>?_) (fun bq A outer s H M Q E p h=>?_)
 . obtain⟨a,D,rfl,_⟩:=h;rfl
 . obtain⟨a,D,rfl,o,g,q⟩:=h;obtain⟨J,G,T,e,m,n,y⟩:=U bq A outer s H E p;rw[e];refine⟨_,bt m n,?_⟩;have B:L2.start N [V.ref a]=some (.ref a)::none::List.replicate (N.length - 2) none:=by
    unfold L2.start;rw[show N.length - [V.ref a].length=(N.length - 2)+1 by show N.length - 1=_;omega,ah7];rfl
   rw[B];refine⟨_,rfl,a,D,rfl,o,g,fun d c H1 u Vd=>?_⟩;have l:(([]:List Addr):: [d,c]::List.replicate (N.length - 2) []).flatten= [d,c]:=by simp
   refine⟨[],fun b=>b=d\/b=c,[]:: [d,c]::List.replicate (N.length - 2) [],.no:: .bx 0::List.replicate (N.length - 2) .no,_,?_,?_,y⟩
   . refine⟨by simp,by simp,fun i r I=>?_,by rw[l];simp [u.ne],fun b j=>by rw[l] at j;simpa using j,fun b j=>?_,fun W X=>absurd X aa8⟩
     . match i with
       | 0=>cases I;exact⟨_,_,rfl,rfl,rfl⟩
       | 1=>cases I;exact⟨_,_,rfl,rfl,d,c,rfl,rfl,u⟩
       | i+2=>
        have t:(List.replicate (N.length - 2) Sl.no)[i]?=some r:=by simpa using I
        rw[ad2] at t;split at t
        . rename_i S;cases t;refine⟨none,[],?_,?_,rfl⟩
          . show(List.replicate (N.length - 2) (none:Option V))[i]?=_;rw[ad2,if_pos S]
          . show(List.replicate (N.length - 2) ([]:List Addr))[i]?=_;rw[ad2,if_pos S]
        . cases t
     . rcases j with rfl | rfl
       . exact⟨_,u.dc,fun O z=>by cases z⟩
       . obtain⟨D,h,_⟩:=u.cs;exact⟨_,h,fun O z=>by cases z⟩
   . exact⟨fun _ _ _ _ _ _ z=>z.elim,fun M' R x Z Y v dd E' C z=>by subst z;rw[C.Eo];exact q x,fun _ _ _ _ _ _ z=>z.elim,fun _ _ _ _ _ _ z=>z.elim⟩
end
end LD
namespace PySem.SeqAt
open MeetsSeq
theorem BE{M:Model}{A:Around}{E:Value->Shared->Prop}{s:Shared}{v:Type}{r:Std.Legacy.Range}(f:Nat->v->Sem (ForInStep v))(I:List Nat->v->Shared->Prop)(Q:v->Shared->Prop)
  (turn: ∀x G b s,I (x::G) b s->wpAny M A (f x b) (fun r m=>match r with | .yield b'=>I G b' m | .done b'=>Q b' m) E s)
  (fin: ∀b s,I [] b s->Q b s) (b:v) (h:I (List.range' r.start r.size r.step) b s):wpAny M A (forIn r b f) Q E s:=by
 rw[Std.Legacy.Range.forIn_eq_forIn_range'];exact wpAny_forIn_list f I Q turn fin _ b h
theorem pE(l:Addr)(items:Array Value)(n:Nat)(T:Option Addr)(f:Array (Option Value))(x:Value)(e:Value->Bool)(j:Nat)(V:j < items.size)(N:e items[j]=true)(q: ∀m (hm:m < items.size),m < j->e items[m]=false):
  Meets (Builtin.«tuple.index» ⟨[.ref l,x],[]⟩)
   (fun A R s=>s.heap.get? l=some {cls:= .type "tuple",dict:=T,data:= .seq items n,slots:=f}/\(∀y,y∈items->EqAt A.in1 s y x (e y))/\R (.ok (.ret (.int j s.toks))) {s with toks:=s.toks+1}):=
 .of_wp fun k w A R s h=>by
  obtain⟨t,g,d,C,v⟩:=s;obtain⟨B,E,h⟩:=h;wp_walk using af3 B,BE _ (fun G b p=>b.1=none/\p=⟨t,g,d,C,v⟩/\ ∃i,G=List.range' i (items.size - i)/\i<=j) _
  case turn=>
   rintro y G b p ⟨c,rfl,i,o,I⟩
   have S:i < items.size:=by omega
   rw[show items.size - i=(items.size - (i+1))+1 by omega,ao8] at o;obtain⟨u,z⟩:=List.cons.inj o;subst u;subst z;rw[Array.getElem?_eq_getElem S];refine aa5 (E _ (Array.getElem_mem S) k w _ _ ?_);by_cases r:y=j
   . subst r;rw[N];wp_walk
     exact⟨_,rfl,h⟩
   . rw[q y S (by omega)];wp_walk
     exact⟨rfl,rfl,y+1,rfl,by omega⟩
  case fin=>
   rintro⟨U,D⟩ p ⟨c,rfl,i,o,I⟩
   have:items.size - i=0:=by
    have:=af7 List.length o;simpa using this.symm
   omega
  case h=>
   exact⟨rfl,rfl,0,by simp [Std.Legacy.Range.size],ag0 _⟩
end PySem.SeqAt
namespace L2
open PySem PySem.Spec PyProof.Rows
section
variable{X:Cx}
def HX:V->List V->Hp->VK->Prop:=fun x t H Q=> ∃a e y,x= .ref a/\t= [y]/\H a=some (.tup e)/\cJ y=true/\e.all cJ=true/\Q (.int (e.countP fun z=>oQ z y:Nat)) H
def HW:V->List V->Hp->VK->Prop:=fun x t H Q=> ∃a e y j z,x= .ref a/\t= [y]/\H a=some (.tup e)/\cJ y=true/\e.all cJ=true/\e[j]?=some z/\oQ z y=true/\(∀m u,m < j->e[m]?=some u->oQ u y=false)/\Q (.int (j:Nat)) H
theorem Fx(r:Vals xs ao)(j:RelV y u)(U:cJ y=true)(M:xs.all cJ=true):
  ∃e:Value->Bool,(∀v∈ao,SeqAt.EqAt A s v u (e v))/\ ∀(i:Nat) x v,xs[i]?=some x->ao[i]?=some v->e v=oQ x y:=by
 refine⟨fun v=>match J3 v with | some x=>oQ x y | none=>false,fun v c=>?_,fun i x v h c=>?_⟩
 . obtain⟨i,I,e⟩:=ak0 c;have h:xs[i]?=some (xs[i]'(by rw[r.length];exact I)):=aa6 _;obtain⟨w,f,z⟩:=r.get h;rw[aa6 I,e] at f;cases f;show SeqAt.EqAt A s v u (match J3 v with | some x=>oQ x y | none=>false);rw[z.abs];exact xS z j (af6.mp M _ (ac8 h)) U
 . obtain⟨w,f,z⟩:=r.get h;rw[c] at f;cases f;show(match J3 v with | some x=>oQ x y | none=>false)=_;rw[z.abs]
theorem qF: ∀{xs:List V} {ao:List Value},Vals xs ao->(∀(i:Nat) x v,xs[i]?=some x->ao[i]?=some v->e v=oQ x y)->ao.countP e=xs.countP fun z=>oQ z y
 | _,_,.nil,_=>rfl
 | _,_,.cons r t,h=>by
  rw[List.countP_cons,List.countP_cons,qF t fun i x v f g=>h (i+1) x v (by simpa using f) (by simpa using g),h 0 _ _ rfl rfl]
theorem Bf:T1 X "tuple.count" HX:=by
 intro b s B H x k v N Q I g o h;obtain⟨a,w,y,rfl,rfl,d,U,M,q⟩:=h;cases g;obtain⟨u,rfl,L⟩:=vals1 o;obtain⟨t,p,J,_⟩:=I.tuple (dm.of d);obtain⟨⟨O,R,l,j⟩,i,m,n,r⟩:=(show s.heap.IsTuple a t.toArray from J)
 simp only at m r;subst m r;obtain⟨e,E,c⟩:=Fx (A:=X.A.in1) (s:=s) p L U M;refine ap1 PySem.F.slot_tuple_count ⟨_,i,rfl⟩ PySem.F.entry_tuple_count (PySem.F.args_tuple_count_2 _ _) (SeqAt.tuple_countAt a t.toArray n R j u e) ⟨i,fun z f=>E z (by simpa using f),?_⟩;have:t.toArray.toList.countP e=w.countP fun z=>oQ z y:=by simpa using qF p c
 rw[this];exact⟨.int _,H,I.tok _,⟨_,rfl⟩,q⟩
theorem Be:T1 X "tuple.index" HW:=by
 intro b s Y H x W v T Q I g G h;obtain⟨a,w,y,j,z,rfl,rfl,d,U,M,f,P,C,q⟩:=h;cases g;obtain⟨u,rfl,L⟩:=vals1 G;obtain⟨t,p,J,_⟩:=I.tuple (dm.of d);obtain⟨⟨O,R,l,N⟩,i,o,n,r⟩:=(show s.heap.IsTuple a t.toArray from J)
 simp only at o r;subst o r;obtain⟨e,E,c⟩:=Fx (A:=X.A.in1) (s:=s) p L U M;have V:j < t.length:=by rw[<-p.length];exact(ab0.mp f).1
 refine ap1 PySem.F.slot_tuple_index ⟨_,i,rfl⟩ PySem.F.entry_tuple_index (PySem.F.args_tuple_index_2 _ _) (SeqAt.pE a t.toArray n R N u e j (by simpa using V) ?_ ?_) ⟨i,fun z f=>E z (by simpa using f),⟨.int _,H,I.tok _,⟨_,rfl⟩,q⟩⟩
 . have:=c j z t[j] f (aa6 V);simpa using this.trans P
 . intro m D S;have B:m < t.length:=by simpa using D
   have k:w[m]?=some (w[m]'(by rw[p.length];exact B)):=aa6 _;have:=c m _ t[m] k (aa6 B);simpa using this.trans (C m _ S k)
end
end L2
namespace LD
open PySem PySem.Spec L2 LB PyProof.Rows
section
variable{X:Cx}{a b c e:Expr}{es:List Expr}{ta tb tc t:bJ}{tA:fJ}{pos p:Pos}
theorem ints_rep: ∀{xs:List V} {ns:List Int},aA M H xs (ns.map .int)->xs=ns.map V.int
 | [],[],_=>rfl
 | [],_::_,h=>by have:=h.1;simp at this
 | _::_,[],h=>by have:=h.1;simp at this
 | x::xs,n::ns,h=>by
  rw[ad5] at h;obtain⟨y,o,e,q,P⟩:=h.aG;cases e;rw[q.ofInt,ints_rep P,ad5]
theorem tH:bootBuiltins "sorted"=some (.builtin "sorted"):=by decide+kernel
theorem B8:bootBuiltins "max"=some (.builtin "max"):=by decide+kernel
theorem B6:bootBuiltins "min"=some (.builtin "min"):=by decide+kernel
theorem B9:bootBuiltins "all"=some (.builtin "all"):=by decide+kernel
theorem eJ(h:aA M H xs [d]): ∃x,xs= [x]/\Rep M H x d:=by
 obtain⟨x,n,rfl,q,P⟩:=h.aG;cases P.cG;exact⟨x,rfl,q⟩
theorem qL: ∀{xs:List V} {ns:List Bool},aA M H xs (ns.map .bl)->xs=ns.map V.bl
 | [],[],_=>rfl
 | [],_::_,h=>by have:=h.1;simp at this
 | _::_,[],h=>by have:=h.1;simp at this
 | x::xs,n::ns,h=>by
  rw[ad5] at h;obtain⟨y,o,e,q,P⟩:=h.aG;cases e;rw[q.Eo,qL P,ad5]
inductive Te(ds:List Dt)(Q:Dt->Prop):Prop
 | mk (bs:List Bool) (h1:ds= [.lst (bs.map .bl)]) (h2:Q (.bl (bs.all id)))
theorem Lb(l:X.calm=true)(A:X.mg "all"=none)(d:Av X [e] tA)(S:Gl X "all":=by rfl)(E:starEach [e] X.env=(false,eval e X.env)::starEach [] X.env:=by rfl)(w:(backTo pos (starEach [] X.env)).any (·.1)=false:=by rfl):
  Ev X (.Call (.Name "all" p) [e] [] pos) (BR Te tA):=gN (Gw l) (fun M H f o B Q Y r N k=>(by obtain⟨s,e,q⟩:=N;exact(by
 subst e;obtain⟨x,rfl,u⟩:=eJ r;obtain⟨a,C,rfl,d,n,y⟩:=u.cA;rw[qL y] at d;exact⟨a,s,rfl,cc.of d,k H _ _ q (fun _ _ z=>z) (.bl _)⟩))) S A B9 d (by decide) (by decide) E w
def Xm(R:Dt->List Dt->(Dt->Prop)->Prop)(ta:bJ)(tA:fJ):bJ:=fun i Q=>ta i fun d B=>(∃n,d= .tup n)/\tA B fun es O=>R d es fun r=>Q r O
inductive Ke(d:Dt)(es:List Dt)(Q:Dt->Prop):Prop
 | mk (ds x:_) (h1:d= .tup ds) (h2:es= [x]) (h3:bO x=true) (h4:ds.all bO=true) (h5:Q (.int (ds.countP fun z=>zE z x:Nat)))
inductive Kc(d:Dt)(es:List Dt)(Q:Dt->Prop):Prop
 | mk (ds:List Dt) (x:Dt) (j:Nat) (z:Dt) (h1:d= .tup ds) (h2:es= [x]) (h3:bO x=true) (h4:ds.all bO=true) (h5:ds[j]?=some z) (h6:zE z x=true) (h7:(∀m u,m < j->ds[m]?=some u->zE u x=false)) (h8:Q (.int (j:Nat)))
theorem qE(j:Rep M H y x)(N:bO x=true): ∀{xs:List V} {ds:List Dt},aA M H xs ds->ds.all bO=true->xs.countP (fun z=>oQ z y)=ds.countP fun z=>zE z x
 | [],[],_,_=>rfl
 | [],_::_,h,_=>by have:=h.1;simp at this
 | _::_,[],h,_=>by have:=h.1;simp at this
 | v::xs,d::ds,h,hf=>by
  obtain⟨w,F,e,q,P⟩:=h.aG;cases e;rw[ar1,ae3] at hf;rw[List.countP_cons,List.countP_cons,qE j N P hf.2,kL q j hf.1 N]
end
section
variable{X:Cx}{a b c e:Expr}{es:List Expr}{ta tb tc t:bJ}{tA:fJ}{pos p apos cV:Pos}
theorem zp{r:V->List V->Hp->VK->Prop}{R:Dt->List Dt->(Dt->Prop)->Prop}{K:PySem.W.Frag}(A: ∀(M:Addr->Prop) (H:Hp) (x:V) (xs:List V) (d:Dt) (ds:List Dt) (Qd:Dt->Prop) (Q:VK),gZ M H->Rep M H x d->aA M H xs ds->R d ds Qd->(∀w v d,Qd d->aD H w->Rep M w v d->Q v w)->r x xs H Q):
  ∀f H Q,lE (Xm R ta tA) f H Q->X6 K "tuple" r (lE ta) (lA tA) f H Q:=fun f H Q U=>(by obtain⟨W,M,O,i,Qd,E,q,k⟩:=U;exact(
 ⟨W,M,O,i,_,E,q,fun d B l x z N D y=>(by obtain⟨⟨ds,e⟩,o⟩:=z;exact(by
  subst e;obtain⟨a,xs,rfl,h,n,G⟩:=y.bM;refine⟨.inr (.inr (.inr (.inr ⟨rfl,xs,h⟩))),W,M,O,B,_,N,o,fun es T C F Z g u S=>?_⟩;exact A M C _ F _ es _ _ g.al (y.chg N u) S Z fun Y v d P s L=>k _ _ _ _ P (g.same s) ((D.tr u).tr (dz.of s)) L))⟩))
theorem JE(f:Ev X a ta)(s:Av X [e] tA)
  (L:attributeBase a "count" X.env (eval a X.env)=eval a X.env:=by rfl)
  (o:((backTo cV (starEach [e] X.env)).all (fun x=>!x.1) && (backToKw cV (keywordEach [] X.env)).all (fun x=>x.1.isSome) && decide ([e].length+([]:List Keyword).length+(if ([]:List Keyword).isEmpty then 0 else 1) < 30))=true:=by rfl)
  (N:(apos.endLine==cV.line)=true:=by rfl) (hs:starEach [e] X.env=(false,eval e X.env)::starEach [] X.env:=by rfl) (B:(backTo cV (starEach [] X.env)).any (·.1)=false:=by rfl):
  Ev X (.Call (.Attribute a "count" apos) [e] [] cV) (Xm Ke ta tA):=
 PE.imp (ze PySem.F.plainAttrs_tuple PySem.F.slot_tuple_count PySem.F.type_tuple_count Bf f s L o N hs B) (zp fun M H x j d G E Q Y C P h k=>(by obtain⟨es,y,u,A,g,i,q⟩:=h;exact(by
  subst u;subst A;obtain⟨a,D,rfl,f,n,w⟩:=C.bM;obtain⟨v,rfl,r⟩:=eJ P;exact⟨a,D,v,rfl,rfl,f,gr r g,lY w i,by rw[qE r g w i];exact k H _ _ q (fun _ _ z=>z) (.int _)⟩)))
theorem JD(g:Ev X a ta)(D:Av X [e] tA)
  (L:attributeBase a "index" X.env (eval a X.env)=eval a X.env:=by rfl)
  (U:((backTo cV (starEach [e] X.env)).all (fun x=>!x.1) && (backToKw cV (keywordEach [] X.env)).all (fun x=>x.1.isSome) && decide ([e].length+([]:List Keyword).length+(if ([]:List Keyword).isEmpty then 0 else 1) < 30))=true:=by rfl)
  (N:(apos.endLine==cV.line)=true:=by rfl) (hs:starEach [e] X.env=(false,eval e X.env)::starEach [] X.env:=by rfl) (I:(backTo cV (starEach [] X.env)).any (·.1)=false:=by rfl):
  Ev X (.Call (.Attribute a "index" apos) [e] [] cV) (Xm Kc ta tA):=
 PE.imp (ze PySem.F.plainAttrs_tuple PySem.F.slot_tuple_index PySem.F.type_tuple_index Be g D L U N hs I) (zp fun M H x xs d ds W Q Z O S J k=>(by obtain⟨es,y,j,z,B,C,f,i,h,P,o,q⟩:=J;exact(by
  subst B;subst C;obtain⟨a,V,rfl,g,n,A⟩:=O.bM;obtain⟨v,rfl,s⟩:=eJ S;obtain⟨w,G,T⟩:=A.get h;have R:bO z=true:=af6.mp i _ (ac8 h);refine⟨a,V,v,j,w,rfl,rfl,g,gr s f,lY A i,G,by rw[kL T s R f];exact P,fun m u E l=>?_,k H _ _ q (fun _ _ z=>z) (.int _)⟩;have Y:m < es.length:=by rw[<-A.1];exact(ab0.mp l).1
  have r:=aa6 Y;rw[kL (A.2 m u _ l r) s (af6.mp i _ (ac8 r)) f];exact o m _ E r)))
inductive Ga(Q:List Dt->List Sl->Prop)(es:List Dt)(ks:List Dt)(δ2:List Sl):Prop
 | mk (ds:_) (h1:es= [.tup ds]) (h2:ks= [.int 1]) (h3:Q (aM 1 ds) δ2)
def Gb(tA tk:fJ):pV:=fun i Q=>tA i fun es B=>tk B fun C O=>Ga Q es C O
theorem Jb{x1}(A:X.mg "enumerate"=none)(d:Av X [e] tA)(U:PK X mv tk)(S: ∀f H Q,lA tkd f H Q->tk f H Q)(T:Gl X "enumerate":=by rfl)(h:(backToKw pos (keywordEach mv X.env)).filterMap (·.1)=(["start"]:List Str):=by rfl)(V:backTo pos (starEach [e] X.env)=(false,eval e X.env)::backTo pos (starEach [] X.env):=by rfl)(i:(backTo pos (starEach [e] X.env)).any (·.1)=false:=by rfl)(F:(backToKw pos (keywordEach mv X.env)).all (·.1.isSome)=true:=by rfl)(w:(backToKw pos (keywordEach mv X.env)).any (·.1.isNone)=false:=by rfl):Iv X (.Tuple es x1 tp) (.Call (.Name "enumerate" p) [e] mv pos) (Gb tA tkd):=
 PI.imp (DL T A d U h V i F w) fun f H R P=>(by obtain⟨W,M,O,G,Qd,E,q,k⟩:=P;exact(⟨W,M,O,G,_,E,q,fun es B J vs o N D r=>S _ _ _ ⟨W,M,O,B,_,N,o,fun ks I L zs j g u Y=>(by obtain⟨ds,v,z,Z⟩:=j;exact(by
  subst v;subst z;obtain⟨x,rfl,l⟩:=eJ (r.chg N u);obtain⟨y,rfl,m⟩:=eJ Y;cases m.ofInt;obtain⟨a,s,rfl,d,n,C⟩:=l.bM;exact⟨a,rfl,rfl,⟨s,dm.of d⟩,k _ _ _ _ Z g (D.tr u) (qZ d n C)⟩))⟩⟩))
theorem BW: ∀f H Q,lA (vK t JO) f H Q->yG (lE t) AD f H Q:=fun f H Q F=>(by obtain⟨W,M,O,i,y,E,q,k⟩:=F;exact(⟨W,M,O,i,_,E,q,fun d B l x o N D r=>k _ _ _ _ o N D (.one r)⟩))
theorem m7{x1}(z:X.mg "enumerate"=none)(d:Av X [e] tA)(s:Ev X f t)(S:Gl X "enumerate":=by rfl)(g:(backToKw pos (keywordEach [⟨nm,f,sE⟩] X.env)).filterMap (·.1)=(["start"]:List Str):=by rfl)(T:backTo pos (starEach [e] X.env)=(false,eval e X.env)::backTo pos (starEach [] X.env):=by rfl)(h:(backTo pos (starEach [e] X.env)).any (·.1)=false:=by rfl)(E:(backToKw pos (keywordEach [⟨nm,f,sE⟩] X.env)).all (·.1.isSome)=true:=by rfl)(w:(backToKw pos (keywordEach [⟨nm,f,sE⟩] X.env)).any (·.1.isNone)=false:=by rfl):Iv X (.Tuple es x1 tp) (.Call (.Name "enumerate" p) [e] [⟨nm,f,sE⟩] pos) (Gb tA (vK t JO)):=
 Jb z d (zb s DI) BW S g T h E w
inductive JN(neg:Bool)(Q:Dt->List Sl->Prop)(d:Dt)(δ':List Sl):Prop
 | mk (ds:_) (h1:d= .lst ds) (h2:Q (.bl (if neg then !ds.isEmpty else ds.isEmpty)) δ')
def zQ(m:Bool)(ta:bJ):bJ:=fun i Q=>ta i fun d j=>JN m Q d j
theorem lM(m: ∀(H:Hp) (Q:VK) (p q:Addr) (xs:List V),H p=some (.lst xs)->H q=some (.lst [])->Q (.bl (if neg then !xs.isEmpty else xs.isEmpty)) H->r (.ref p) (.ref q) H Q): ∀f H Q,lE (zQ neg ta) f H Q->OP r (lE ta) (PN AD) f H Q:=fun f H Q h=>(by obtain⟨W,M,O,j,y,E,q,k⟩:=h;exact(
 ⟨W,M,O,j,_,E,q,fun d B l x i N D v=>(by obtain⟨z,e,o⟩:=i;exact(⟨ag0 _,fun p u=>by
  subst e;obtain⟨a,xs,rfl,g,n,w⟩:=v.cA;have s:aD l (upd l p (.lst [])):=aD.new u;exact m _ _ _ _ xs (s _ _ g) af (by rw[gs w];exact k _ _ _ _ o (N.same s) (D.tr (dz.of s)) (.bl _))⟩))⟩))
theorem FA{K:PySem.W.Frag}: ∀(H:Hp) (Q:VK) (p q:Addr) (xs:List V),H p=some (.lst xs)->H q=some (.lst [])->Q (.bl (if false=true then !xs.isEmpty else xs.isEmpty)) H->yX K (.ref p) (.ref q) H Q:=fun H Q p q xs f g z=>⟨p,q,xs,rfl,rfl,cc.of f,cc.of g,z⟩
theorem MN{K:PySem.W.Frag}: ∀(H:Hp) (Q:VK) (p q:Addr) (xs:List V),H p=some (.lst xs)->H q=some (.lst [])->Q (.bl (if true=true then !xs.isEmpty else xs.isEmpty)) H->yW K (.ref p) (.ref q) H Q:=fun H Q p q xs f g z=>⟨p,q,xs,rfl,rfl,cc.of f,cc.of g,z⟩
theorem F0(l:X.A.units < cLine)(d:Ev X a ta):Ev X (.Compare a [.Eq] [.List [] p2] pos) (zQ false ta):=PE.imp (zd (lK l) d (jG bQ) (dF _)) (lM FA)
theorem uv(l:X.A.units < cLine)(d:Ev X a ta):Tv X (.Compare a [.Eq] [.List [] p2] pos) (dT (zQ false ta)):=PT.imp (kq (lK l) d (jG bQ) (dF _)) fun f H Q h=>lM FA _ _ _ (dA _ _ _ h)
theorem C3(l:X.A.units < cLine)(d:Ev X a ta):Tv X (.Compare a [.NotEq] [.List [] p2] pos) (dT (zQ true ta)):=PT.imp (kq (AZ l) d (jG bQ) (dF _)) fun f H Q h=>lM MN _ _ _ (dA _ _ _ h)
end
end LD
namespace L2
open PySem PySem.Spec PyProof.Rows
theorem pL(y G:Value)(env:Env):
  compTurn (.ListComp elt [⟨tg,iter,ifs,0⟩,⟨hV,iter2,dr,0⟩] scope pos) 0 y G env=(do
   standAt iter.pos
   match<-pyNext y with
   | none=>pure (.done .next)
   | some v=>
    letOwnedTupleGo tg y v
    assign tg env v
    let mut ok:=true
    for c in ifs do
     if ok then ok<-isTrue c env (eval c env)
    if ok then
     let x<-eval iter2 env
     standAt iter2.pos
     let x<-foldedSetIterable iter2 env x
     let _<-runOwn (.compStart (.ListComp elt [⟨tg,iter,ifs,0⟩,⟨hV,iter2,dr,0⟩] scope pos) 1 (<-holding [x] (pyIter x)) G env) env
    again (.compLoop (.ListComp elt [⟨tg,iter,ifs,0⟩,⟨hV,iter2,dr,0⟩] scope pos) 0 y G env)):=by rfl
theorem pK(y G:Value)(env:Env):
  compTurn (.ListComp elt [⟨tg,iter,ifs,0⟩,⟨hV,iter2,dr,0⟩] scope pos) 1 y G env=(do
   standAt iter2.pos
   match<-pyNext y with
   | none=>pure (.done .next)
   | some v=>
    letOwnedTupleGo hV y v
    assign hV env v
    let mut ok:=true
    for c in dr do
     if ok then ok<-isTrue c env (eval c env)
    if ok then
     (do let _<-call (.builtin "list.append") [G,<-eval elt env])
    again (.compLoop (.ListComp elt [⟨tg,iter,ifs,0⟩,⟨hV,iter2,dr,0⟩] scope pos) 1 y G env)):=by rfl
theorem pN (I : Nat -> Shared -> Prop) (turn : ∀ n s, I n s -> wpAny (model prog w) A (pyNext it) (fun r U => match r with
   | none=>R (.ok .next) U
   | some v=>wpAny (model prog w) A (letOwnedTupleGo hV it v) (fun _ D=>wpAny (model prog w) A (assign hV env v) (fun _ i=>
     wpAny (model prog w) A (forIn dr true fun c r=>if r=true then do let u<-isTrue c env (eval c env);pure (ForInStep.yield u) else pure (ForInStep.yield r)) (fun u l=>
      if u=true then wpAny (model prog w) A (eval elt env) (fun x H=>
       wpAny (model prog w) A (call (.builtin "list.append") [acc,x]) (fun _ Y=> ∃m,m < n/\I m Y) (fun _ _=>False) H) (fun _ _=>False) l
      else∃m,m < n/\I m l) (fun _ _=>False) i) (fun _ _=>False) D) (fun _ _=>False) U) (fun _ _=>False) s) (n:Nat) (h:I n s):codeAny (model prog w) A (.compLoop (.ListComp elt [⟨tg,iter,ifs,0⟩,⟨hV,iter2,dr,0⟩] scope pos) 1 it acc env) R s:=by
 refine codeAny_loop rfl I (fun n s J=>?_) n h;show wpAny _ A ((compTurn (.ListComp elt [⟨tg,iter,ifs,0⟩,⟨hV,iter2,dr,0⟩] scope pos) 1 it acc env).onRaise (fun x=>do noteFrame x env;theTreesLotGoes x)) _ _ s;refine wpAny_noted ?_;rw[pK];refine aa5 (ai5 (aa5 (ae8 (turn n s J) (fun r U k=>?_) fun _ _ F=>F.elim)));cases r with
 | none=>exact ab2 k
 | some v=>
  refine aa5 (ae8 k (fun _ D B=>?_) fun _ _ F=>F.elim);refine aa5 (ae8 B (fun _ i E=>aa5 (ae8 E (fun u l G=>?_) fun _ _ F=>F.elim)) fun _ _ F=>F.elim);cases u with
  | false=>exact ab2 ⟨rfl,G⟩
  | true=>
   exact aa5 (aa5 (ae8 G (fun x H Z=>aa5 (ae8 Z (fun _ Y P=>ab2 (ab2 ⟨rfl,P⟩)) fun _ _ F=>F.elim)) fun _ _ F=>F.elim))
theorem oW (j : codeAny (model prog w) A (.compLoop (.ListComp elt [⟨tg, iter, ifs, 0⟩, ⟨hV, iter2, dr, 0⟩] scope pos) 1 it acc env) R s) (h : wpAny (model prog w) A (pyIter it) (fun S m => codeAny (model prog w) A (.compLoop (.ListComp elt [⟨tg, iter, ifs, 0⟩, ⟨hV, iter2, dr, 0⟩] scope pos) 1 S acc env) R m)
   (notedBy (model prog w) A env fun x m=>R (.error x) m) s):
  codeAny (model prog w) A (.compStart (.ListComp elt [⟨tg,iter,ifs,0⟩,⟨hV,iter2,dr,0⟩] scope pos) 1 it acc env) R s:=by
 refine codeAny_of_tree ?_;show wpAny _ _ ((compStart (.ListComp elt [⟨tg,iter,ifs,0⟩,⟨hV,iter2,dr,0⟩] scope pos) 1 it acc env).onRaise (fun x=>do noteFrame x env;standAt theWindowsPlace)) _ _ s;refine wpAny_notedAt ?_;unfold compStart;show wpAny _ _ (ask >>=_) _ _ s;refine aa5 (wpAny_askSetting (wpAny_ite ?_));split
 . first
     | exact aa5 (ab2 (ab2 (And.intro rfl j)))
     | exact ab2 (And.intro rfl j)
 . first
     | exact aa5 (aq4 (aa5 (ai5 (aa5 (ae8 h (fun S m F=>ab2 (And.intro rfl F)) fun _ _ x=>x)))))
     | (refine aa5 (aq4 ?_);show wpAny _ _ (standAt iter2.pos >>=_) _ _ s;exact aa5 (ai5 (aa5 (ae8 h (fun S m F=>ab2 (And.intro rfl F)) fun _ _ x=>x))))
theorem pO (I : Nat -> Shared -> Prop) (hs : ∀ x, foldedSetIterable iter2 env x = pure x) (turn : ∀ n s, I n s -> wpAny (model prog w) A (pyNext it) (fun r U => match r with
   | none=>R (.ok .next) U
   | some v=>wpAny (model prog w) A (letOwnedTupleGo tg it v) (fun _ D=>wpAny (model prog w) A (assign tg env v) (fun _ i=>
     wpAny (model prog w) A (forIn ifs true fun c r=>if r=true then do let u<-isTrue c env (eval c env);pure (ForInStep.yield u) else pure (ForInStep.yield r)) (fun u l=>
      if u=true then wpAny (model prog w) A (eval iter2 env) (fun x H=>wpAny (model prog w) A (pyIter x) (fun T Y=>
       codeAny (model prog w) A (.compStart (.ListComp elt [⟨tg,iter,ifs,0⟩,⟨hV,iter2,dr,0⟩] scope pos) 1 T acc env) (fun r b=>r= .ok .next/\ ∃m,m < n/\I m b) Y) (fun _ _=>False) H) (fun _ _=>False) l
      else∃m,m < n/\I m l) (fun _ _=>False) i) (fun _ _=>False) D) (fun _ _=>False) U) (fun _ _=>False) s) (n:Nat) (h:I n s):codeAny (model prog w) A (.compLoop (.ListComp elt [⟨tg,iter,ifs,0⟩,⟨hV,iter2,dr,0⟩] scope pos) 0 it acc env) R s:=by
 refine codeAny_loop rfl I (fun n s J=>?_) n h;show wpAny _ A ((compTurn (.ListComp elt [⟨tg,iter,ifs,0⟩,⟨hV,iter2,dr,0⟩] scope pos) 0 it acc env).onRaise (fun x=>do noteFrame x env;theTreesLotGoes x)) _ _ s;refine wpAny_noted ?_;rw[pL];refine aa5 (ai5 (aa5 (ae8 (turn n s J) (fun r U k=>?_) fun _ _ F=>F.elim)));cases r with
 | none=>exact ab2 k
 | some v=>
  refine aa5 (ae8 k (fun _ D B=>?_) fun _ _ F=>F.elim);refine aa5 (ae8 B (fun _ i E=>aa5 (ae8 E (fun u l G=>?_) fun _ _ F=>F.elim)) fun _ _ F=>F.elim);cases u with
  | false=>exact ab2 ⟨rfl,G⟩
  | true=>
   refine aa5 (ae8 G (fun x H Z=>aa5 (ai5 ?_)) fun _ _ F=>F.elim);rw[hs];refine aa5 (ab2 ?_);refine aa5 (ai6 (ae8 Z (fun T Y P=>?_) fun _ _ F=>F.elim));refine aa5 (wpAny_runOwn (aq1 P fun r b W=>?_));obtain⟨rfl,W⟩:=W;exact ab2 ⟨rfl,W⟩
def GY(o nt:Nat)(g:TG):Prop:= ∀v σ H (Q:St->Hp->Prop),g v σ H Q->g v σ H fun X w=>Q X w/\X.length=σ.length/\ ∀k,k < o\/nt<=k->X[k]?=σ[k]?
theorem qw(f:n1<=i:=by decide)(h:i < nt:=by decide):GY n1 nt (cB i):=fun v b H Q q=>⟨q,by simp,fun k R=>by rw[ab7 (by omega)]⟩
def ZS(p:TG)(n:TT)(j:TE)(d:St)(B:List V->Hp->Prop)(D:Addr)(c:It)(X:List V)(s:Hp):Prop:=
 ∃U:Nat->Nat->List V->Hp->Prop,(∃m,U 0 m X s)/\ ∀i m G H,U i m G H->
  (c.stop i H/\B G H)\/(c.go i H/\G.length < sizeLine/\ ∃O:List V->Hp->Prop,(∀S w,O S w-> ∃a,a < m/\U (i+1) a S w)/\ ∀x w,c.wy i H x w->p x d w fun L C=>
   n L C fun b P=>if b=true then j L P fun v t=>t D=some (.lst G)/\O (G++ [v]) (upd t D (.lst (G++ [v]))) else O G P)
def G9(nt:Nat)(js:List Nat)(g:TG)(u:TT)(d:TI)(p:TG)(n:TT)(j:TE)(e:St)(Q:VK)(D:Addr)(J:It)(s:Hp):Prop:=
 ∃W:Nat->Nat->List V->Hp->Prop,(∃m,W 0 m [] s)/\ ∀i m G H,W i m G H->
  (J.stop i H/\Q (.ref D) H)\/(J.go i H/\ ∃B:List V->Hp->Prop,(∀S v,B S v-> ∃a,a < m/\W (i+1) a S v)/\ ∀x v,J.wy i H x v->g x (lB nt js e) v fun L C=>
   u L C fun b O=>if b=true then d L O fun c t=>ZS p n j L B D c G t else B G O)
def C5(nt:Nat)(js:List Nat)(l:TI)(g:TG)(t:TT)(d:TI)(p:TG)(n:TT)(j:TE):TE:=fun b H Q=>l b H fun J k=> ∀D,k D=none->G9 nt js g t d p n j b Q D J (upd k D (.lst []))
theorem xF{Y:Cx}(hc:Y.calm=true)(F:Y.xe=fun _ _=>False)(Ni:PG Y hV g2)(xG:GY n1 nt g2)(Bv:PF Y dr p9)(he:PE Y elt te)(I:Inv Y pins σ H s)(T:Turn Y.prog Y.w Y.K hV J fp it tn)(st:tn 0 s.heap)(ff: ∀b∈fp,dW Y pins H b)(aN: ∀k,n1<=k->k < nt-> ∀v,σ[k]?≠some (some v))(R:ZS g2 p9 te σ B D J Ot H)(fin: ∀G z p,Inv Y pins σ z p->B G z->RR (.ok .next) p):
  codeAny (model Y.prog Y.w) Y.A (.compLoop (.ListComp elt [⟨tg,iter,ifs,0⟩,⟨hV,iter2,dr,0⟩] scope pos) 1 (.ref it) (.ref D) Y.env) RR s:=by
 obtain⟨W,⟨m0,w0⟩,turn⟩:=R;have l: ∀{z:Hp},(∀b∈fp,z b=none)-> ∀b∈fp,dW Y pins z b:=fun hn b f=>⟨hn b f,(ff b f).2⟩
 refine pN (fun n p=> ∃i G z,Inv Y pins σ z p/\tn i p.heap/\(∀b∈fp,z b=none)/\W i n G z) ?_ m0 ⟨0,Ot,H,I,st,fun b f=>(ff b f).1,w0⟩;rintro n s5 ⟨i,G,t,Q,wR,U,w5⟩
 rcases turn i n G t w5 with ⟨C,q⟩ | ⟨go,h,O,hB,j⟩
 . refine aP (T.done Y rfl rfl rfl hc i pins s5 _ t (fun _ _=>False) Q (l U) wR C) fun r s6 ⟨L,I6⟩=>?_;subst L;exact fin _ _ _ I6 q
 . refine aP (T.item Y rfl rfl rfl hc i pins s5 _ t (fun _ _=>False) Q (l U) wR go) fun r s6 ⟨u,L,h6⟩=>?_;subst L;refine aP h6 fun _ s7 je=>?_;obtain⟨x,P,I7,r7,y7,N,NC⟩:=je;have OH:=I7.pinned (l NC) (T.obj _ _ N);have g7:=xG _ _ _ _ (j x P y7);have h7:=Ni _ s7 _ P x u _ OH r7 g7;rw[F] at h7;refine aP h7 fun _ s8 jw=>?_;obtain⟨g,H8,I8,q8,l8,k8⟩:=jw;have h8:=Bv _ s8 g H8 _ I8 q8;rw[F] at h8;refine aP h8 fun b s9 jZ=>?_;obtain⟨H9,I9,E⟩:=jZ;have c: ∀{Z:Hp} {a:Shared} {S:List V},Inv Y (pins++jF fp s7.heap) g Z a->O S Z-> ∃m,m < n/\ ∃i G z,Inv Y pins σ z a/\tn i a.heap/\(∀b∈fp,z b=none)/\W i m G z:=fun{Z a S} M Lg=>by
    obtain⟨m',Hf,Lz⟩:=hB S Z Lg;refine⟨m',Hf,i+1,S,Z,M.eQ.weak l8.symm fun k v e=>?_,T.keep _ _ _ N fun b f o e=>(M.pin (b,o) (ac0 _ (ac0 _ (bH f e)))).1,fun b f=>?_,Lz⟩
    . by_cases hk:n1<=k/\k < nt
      . exact absurd e (aN k hk.1 hk.2 v)
      . rw[k8 k (by omega)];exact e
    . obtain⟨o,e,d⟩:=T.obj _ _ N b f;exact(M.pin (b,o) (ac0 _ (ac0 _ (bH f e)))).2.1
   cases b with
   | false=>
    rw[if_neg ac3] at E ⊢;exact c I9 E
   | true=>
    rw[if_pos rfl] at E ⊢;have h9:=he _ s9 g H9 _ I9 E;rw[F] at h9;refine aP h9 fun y a lr=>?_;obtain⟨v,Z,M,Qf,Ny,Mi⟩:=lr;have Jn:=(i7 (X:=Y) _ a g Z (.ref D) [v] (.ref D) [y] (fun _ z=>O (G++ [v]) z) M rfl (.cons Qf .nil) ⟨_,G,v,rfl,rfl,Ny,h,Mi⟩)
    rw[F] at Jn;refine aP Jn fun _ Cq lq=>?_;obtain⟨_,Hn,J9,_,Vl⟩:=lq;exact c J9 Vl
theorem x3{elt tg iter O iter2:Expr}{ifs dr:List Expr}{pos:Pos}{g g2:TG}{Hu:TI}{tc p9:TT}{te:TE}{n1:Nat}{j:List (Str × Addr)}{Q:VK}{E:Value->Shared->Prop}{RR:Value->Addr->Result->Shared->Prop}
  (S:k9 X N nt js scope) (hc:X.calm=true)
  (hg: ∀s H j C t,PG (eD X N scope s H j C t) tg g) (fQ:k6 n1 g) (RA:n1<=nt) (O0: ∀s H j C t,PI (eD X N scope s H j C t) O iter2 Hu) (jK: ∀s H j C t x,foldedSetIterable iter2 (eD X N scope s H j C t).env x=pure x) (Ni: ∀s H j C t,PG (eD X N scope s H j C t) O g2) (xG:GY n1 nt g2) (Bv: ∀s H j C t,PF (eD X N scope s H j C t) dr p9) (hf: ∀s H j C t,PF (eD X N scope s H j C t) ifs tc) (he: ∀s H j C t,PE (eD X N scope s H j C t) elt te)
  {it:Addr} {U:List Addr} {tn:Nat->Heap->Prop} {J:It} (I:Inv X pins σ H s) (T:Turn X.prog X.w X.K tg J U it tn) (st:tn 0 s.heap) (P: ∀b∈U,dW X pins H b)
  (c1: ∀x c,(x,c)∈j->X.env.cells.lookup x=some c) (c2: ∀x,(x,NameKind.free)∈scope.names-> ∃c,(x,c)∈j)
  (R: ∀D,H D=none->G9 nt js g tc Hu g2 p9 te σ Q D J (upd H D (.lst [])))
  (fin: ∀(D C:Addr) (s':Shared) (H':Hp),Inv X pins σ H' s'->dW X pins H' C->(∃m,s'.heap.Ns C m)->Q (.ref D) H'->RR (.ref D) C (.ok .next) s'):
  wpAny (model X.prog X.w) X.A (newList []) (fun G s₃=>wpAny (model X.prog X.w) X.A (newFunctionEnv scope X.env.globals j [] X.env.qual none .none (some X.env)) (fun jQ s₄=>
   codeAny (model X.prog X.w) X.A (.compStart (.ListComp elt [⟨tg,iter,ifs,0⟩,⟨O,iter2,dr,0⟩] scope pos) 0 (.ref it) G {jQ with scope:=relabel scope X.env}) (RR G jQ.locals) s₄) E s₃) E s:=by
 refine ah8 (fL fun jQ vC FH=>?_);rw[vC,FH];dsimp only;have hD:H s.heap.objs.size=none:=I.bc.fresh (ab3 _);obtain⟨W,⟨m0,w0⟩,turn⟩:=R s.heap.objs.size hD;have kD: ∀b u,s.heap.get? b=some u->(s.heap.push {cls:= .type "list",data:= .seq ([]:List Value).toArray}).get? b=some u:=fun b u e=>aa7 _ e;have I3:Inv X pins σ (upd H s.heap.objs.size (.lst [])) {s with heap:=s.heap.push {cls:= .type "list",data:= .seq ([]:List Value).toArray},toks:=s.toks}:=
  I.laid kD (ab3 _) ⟨ag0 _,[],_,.nil,ac9 _ rfl⟩
 have fs: ∀b∈U,b < s.heap.objs.size:=fun b f=>by
  obtain⟨o,e,_⟩:=T.obj _ _ st b f;exact ad7 e
 have K1: ∀b∈U,dW X pins (upd H s.heap.objs.size (.lst [])) b:=fun b f=>⟨by rw[ah (af4 (fs b f))];exact(P b f).1,(P b f).2⟩
 have L:=l5 (tk:=s.toks) S hc I3 K1 (fun b f=>by show b < (s.heap.push _).objs.size;rw[ag4];exact ak9 (fs b f)) c1 c2;dsimp only at L;have RB:(s.heap.push {cls:= .type "list",data:= .seq ([]:List Value).toArray}).objs.size=s.heap.objs.size+1:=ag4 ..;generalize hY:eD X N scope {s with heap:=s.heap.push {cls:= .type "list",data:= .seq ([]:List Value).toArray},toks:=s.toks} (upd H s.heap.objs.size (.lst [])) j (s.heap.push {cls:= .type "list",data:= .seq ([]:List Value).toArray}).objs.size U=Y at L;have YW:=hY;have o6:Y.env=oY scope j (s.heap.push {cls:= .type "list",data:= .seq ([]:List Value).toArray}).objs.size X.env:=by rw[<-hY];rfl
 have M:Y.prog=X.prog:=by rw[<-hY];rfl
 have F:Y.w=X.w:=by rw[<-hY];rfl
 have YA:Y.A=X.A:=by rw[<-hY];rfl
 have YK:Y.K=X.K:=by rw[<-hY];rfl
 have kY:Y.calm=true:=by rw[<-hY];exact hc
 have tU:Y.xe=fun _ _=>False:=by rw[<-hY];rfl
 have vW:Y.ex=U:=by rw[<-hY];rfl
 have SN:Y.pn= []:=by rw[<-hY];rfl
 have SO:Y.fs=tT X.stack:=by rw[<-hY];rfl
 have Li:Y.s₀={s with heap:=s.heap.push {cls:= .type "list",data:= .seq ([]:List Value).toArray},toks:=s.toks}:=by rw[<-hY];rfl
 have SQ:Y.H₀=upd H s.heap.objs.size (.lst []):=by rw[<-hY];rfl
 have Rr:PG Y tg g:=by rw[<-hY];exact hg _ _ _ _ _
 have Wx:PF Y ifs tc:=by rw[<-hY];exact hf _ _ _ _ _
 have Ww:PF Y dr p9:=by rw[<-hY];exact Bv _ _ _ _ _
 have Wu:PG Y O g2:=by rw[<-hY];exact Ni _ _ _ _ _
 have Wq:PI Y O iter2 Hu:=by rw[<-hY];exact O0 _ _ _ _ _
 have Wf: ∀x,foldedSetIterable iter2 Y.env x=pure x:=by rw[<-hY];exact jK _ _ _ _ _
 have WA:PE Y elt te:=by rw[<-hY];exact he _ _ _ _ _
 have hm:(Y.N.length:Nat)=(lB nt js σ).length:=L.len.symm;rw[<-o6,<-M,<-F,<-YA];have Fq: ∀{H':Hp} (_: ∀b∈U,H' b=none),∀b∈U,dW Y [] H' b:=fun{H'} hn b f=>by
  refine⟨hn b f,(L.ok.K2 b (by rw[vW];exact f)).1,L.ok.xQ b (by rw[vW];exact f),.inl (by rw[vW];exact f),(L.ok.K2 b (by rw[vW];exact f)).2,fun p hp=>?_⟩;rw[SN] at hp;simp at hp
 have Z: ∀{H':Hp} {s':Shared} {σ':St},Inv Y [] σ' H' s'->Inv X pins σ H' s'/\dW X pins H' Y.env.locals/\ ∃m,s'.heap.Ns Y.env.locals m:=fun{H' s' σ'} J=>by
  have f:Un (tT X.stack) U (upd H s.heap.objs.size (.lst [])) H' (s.heap.push {cls:= .type "list",data:= .seq ([]:List Value).toArray}) s'.heap:=by
   have:=J.base;rw[SO,vW,SQ,Li] at this;exact this
  have loc:Y.env.locals=s.heap.objs.size+1:=by rw[o6];exact RB
  have os:s'.os=s.os:=by
   have:=J.os;rw[Li] at this;exact this
  have bc:jk X.prog X.w H' s'.heap:=by
   have:=J.bc;rw[M,F] at this;exact this
  refine⟨I3.Gx (ch:=U) os f bc J.bare fun b f=>⟨(P b f).2.2.2.1,(P b f).2.1,(P b f).2.2.2.2.1,(P b f).2.2.2.2.2⟩,?_,let ⟨m,q,_⟩:=J.loc;⟨m,q⟩⟩;exact I.sW (by rw[loc];exact ap4 _) J.free
 have a:codeAny (model Y.prog Y.w) Y.A (.compLoop (.ListComp elt [⟨tg,iter,ifs,0⟩,⟨O,iter2,dr,0⟩] scope pos) 0 (.ref it) (.ref s.heap.objs.size) Y.env) (RR (.ref s.heap.objs.size) Y.env.locals)
   {s with heap:=pushCells ((s.heap.push {cls:= .type "list",data:= .seq ([]:List Value).toArray}).push {cls:= .type "dict",data:= .dict #[]}) scope.names}:=by
  refine pO (fun n s'=> ∃i G H',Inv Y [] (lB nt js σ) H' s'/\tn i s'.heap/\(∀b∈U,H' b=none)/\W i n G H') Wf ?_ m0
   ⟨0,[],_,L,T.keep _ _ _ st fun b _ o e=>al9 _ _ b o (aa7 _ (kD b o e)),fun b f=>(K1 b f).1,w0⟩
  rintro n s5 ⟨i,G,H5,I5,wR,BD,w5⟩
  rcases turn i n G H5 w5 with ⟨stop,q⟩ | ⟨go,B,hB,step⟩
  . have hd:=T.done Y M F YK kY i [] s5 _ H5 (fun _ _=>False) I5 (Fq BD) wR stop;rw[<-M,<-F] at hd;refine aP hd fun r s6 qU=>?_;obtain⟨hr,I6⟩:=qU;subst hr;obtain⟨b1,b2,b3⟩:=Z I6;exact fin _ _ _ _ b1 b2 b3 q
  . have hd:=T.item Y M F YK kY i [] s5 _ H5 (fun _ _=>False) I5 (Fq BD) wR go;rw[<-M,<-F] at hd;refine aP hd fun r s6 tV=>?_;obtain⟨u,hr,h6⟩:=tV;subst hr;refine aP h6 fun _ s7 gw=>?_;obtain⟨x,H7,I7,r7,y7,wQ,NC⟩:=gw;have OH:=I7.pinned (Fq NC) (T.obj _ _ wQ);have g7:=fQ _ _ _ _ (step x H7 y7);have h7:=Rr _ s7 _ H7 x u _ OH r7 g7;rw[tU] at h7;refine aP h7 fun _ s8 gv=>?_;obtain⟨l,H8,I8,q8,l8,k8⟩:=gv;have h8:=Wx _ s8 l H8 _ I8 q8;rw[tU] at h8;refine aP h8 fun b s9 wq=>?_;obtain⟨H9,I9,q9⟩:=wq;have h: ∀{mD:Hp} {kn:Shared} {cf:List V},Inv Y ([]++jF U s7.heap) l mD kn->B cf mD-> ∃m,m < n/\ ∃i G H',Inv Y [] (lB nt js σ) H' kn/\tn i kn.heap/\(∀b∈U,H' b=none)/\W i m G H':=fun{mD kn cf} v7 Lg=>by
     obtain⟨m',Hf,Lz⟩:=hB cf mD Lg;refine⟨m',Hf,i+1,cf,mD,v7.eQ.weak l8.symm fun k v e=>?_,T.keep _ _ _ wQ fun b f o e=>(v7.pin (b,o) (ac0 _ (ac0 _ (bH f e)))).1,fun b f=>?_,Lz⟩
     . by_cases hk:nt<=k
       . rw[k8 k (ad9 RA hk)];exact e
       . exfalso;unfold lB at e;rw[ae4 (by simp;omega),ad2,if_pos (by omega)] at e;cases e
     . obtain⟨o,e,d⟩:=T.obj _ _ wQ b f;exact(v7.pin (b,o) (ac0 _ (ac0 _ (bH f e)))).2.1
    cases b with
    | false=>
     rw[if_neg ac3] at q9 ⊢;exact h I9 q9
    | true=>
     rw[if_pos rfl] at q9 ⊢;have h9:=Wq _ s9 l H9 _ I9 q9;rw[tU] at h9;refine aP h9 fun y kn Jn=>aP Jn fun VX Cq h11=>?_;obtain⟨i2,fp2,tn2,J2,Hn,rfl,J9,T2,PZ,WU,R2⟩:=h11;have VG: ∀k,n1<=k->k < nt-> ∀v,l[k]?≠some (some v):=fun k a1 a2 v e=>by
      rw[k8 k a1] at e;unfold lB at e;rw[ae4 (by simp;omega),ad2,if_pos (by omega)] at e;cases e
     have lp:=xF (elt:=elt) (tg:=tg) (iter:=iter) (ifs:=ifs) (iter2:=iter2) (scope:=scope) (pos:=pos) kY tU Wu xG Ww WA J9 T2 PZ WU VG R2 (RR:=fun r z=>r= .ok .next/\ ∃m,m < n/\ ∃i G H',Inv Y [] (lB nt js σ) H' z/\tn i z.heap/\(∀b∈U,H' b=none)/\W i m G H') fun cf H' s' I' b'=>⟨rfl,h I' b'⟩
     exact oW lp (T2.self _ 0 _ _ _ PZ lp)
 have vB:(s.heap.push {cls:= .type "list",data:= .seq ([]:List Value).toArray}).objs.size=Y.env.locals:=by rw[o6];rfl
 rw[vB];exact codeAny_compStart_list (rest:= [⟨O,iter2,dr,0⟩]) a (by rw[M,F,YA] at*;exact T.self _ 0 _ _ _ (T.keep _ _ _ st fun b _ o e=>al9 _ _ b o (aa7 _ (kD b o e))) a)
theorem DY(S:k9 X N nt js scope)(Z:X.calm=true)(hi:PI X tg iter wi)(hg: ∀s H i C r,PG (eD X N scope s H i C r) tg g)(V:k6 n1 g)(n:n1<=nt)(U: ∀s H i C r,PI (eD X N scope s H i C r) hV iter2 Hu)(jK: ∀s H i C r x,foldedSetIterable iter2 (eD X N scope s H i C r).env x=pure x)(f: ∀s H i C r,PG (eD X N scope s H i C r) hV g2)(xG:GY n1 nt g2)(Y: ∀s H i C r,PF (eD X N scope s H i C r) dr p9)(hf: ∀s H i C r,PF (eD X N scope s H i C r) ifs tc)(he: ∀s H i C r,PE (eD X N scope s H i C r) elt te)(hs: ∀x,foldedSetIterable iter X.env x=pure x:=by intro _;rfl):PE X (.ListComp elt [⟨tg,iter,ifs,0⟩,⟨hV,iter2,dr,0⟩] scope pos) (C5 nt js wi g tc Hu g2 p9 te):=by
 intro a s c H Q I h;obtain⟨i,M,E,t⟩:=gQ (scope:=scope) (env:=X.env) fun x hx e=>I.ok.has x.1 (S.OT x hx e);rw[eval_ListComp];refine ap0 (use:=none) rfl hs M S.kind S.names (aP (hi a s c H _ I h) fun v s1 p=>aP p fun OX s2 P=>?_);obtain⟨it,fp,tn,J,H2,rfl,L,T,F,k,R⟩:=P;refine x3 (RR:=fun G C=>compPost (model X.prog X.w) X.A X.xe none (EP X a c Q) G C) S Z hg V n U jK f xG Y hf he L T F k E t R fun D C s' y d O jx q=>?_;obtain⟨m,hn⟩:=jx;refine⟨m,hn,fun h' sb=>⟨.ref D,y,?_,rfl,q⟩⟩;obtain⟨z,j,_,u,l,B⟩:=O;exact d.turned (t':=s'.toks) (fun b o W e=>(sb.2 b W).trans e) z j u l B
end L2
namespace LD
open PySem PySem.Spec L2 LB PyProof.Rows
theorem aB.PX(E:aB [] M α H σ δ)(D:α.flatten= [])(A: ∀b u,H b=some u-> ¬M b->H' b=some u)(X:gZ M H'):aB [] M α H' σ δ:=by
 refine⟨E.ls,E.la,fun i s h=>?_,E.nd,E.mu,X,fun W U=>absurd U aa8⟩;obtain⟨o,C,j,g,T⟩:=E.sl i s h;have k:C= []:=ai9.mpr fun a f=>by
  have:=bj g f;rw[D] at this;exact aa8 this
 subst k;refine⟨o,[],j,g,T.keep (fun b u e n=>⟨A b u e n,n⟩) (fun a f=>absurd f aa8) ?_⟩;cases s with
 | bx t=>
  obtain⟨d,c,e,_⟩:=T;first | cases e | (obtain⟨_,e,_⟩:=T;cases e)
 | _=>rfl
section
variable{X:Cx}{N:List Str}{nt n1:Nat}{js:List Nat}{scope:Scope}{elt tg iter hV iter2:Expr}{ifs dr:List Expr}{pos:Pos}{ti OO:pV}{g g2:we}{tc p9:ph}{te:bJ}
def Gf(nt:Nat)(js:List Nat)(ti:pV)(g:we)(tc:ph)(OO:pV)(g2:we)(p9:ph)(te:bJ):Ck:=fun i Q=>ti i fun s B=> ∃F:Dt->List Dt,(s.flatMap F).length < sizeLine/\
 (∀d∈s,g d (cin nt js B) fun O=>tc O fun b L=>if b=true then OO L fun o m=> ∃(p:Dt->Bool) (f:Dt->Dt),(∀e∈o,g2 e m fun y=>p9 y fun b n=>b=p e/\(b=true->te n fun r _=>r=f e))/\F d=(o.filter p).map f else F d= [])/\Q (s.flatMap F) B
theorem x5(sR: ∀v j H Q,lG g v j H Q->gh v j H Q)(Nh: ∀v j H Q,lG g2 v j H Q->TL v j H Q): ∀j H Q,lO (Gf nt js ti g tc OO g2 p9 te) j H Q->C5 nt js (lI ti) gh (lT tc) (lI OO) TL (lT p9) (lE te) j H Q:=fun j H Q cx=>(by obtain⟨W,M,α,δ,Qd,E,q,k⟩:=cx;exact(by
 refine⟨W,M,α,δ,_,E,q,fun t δ1 l J fT O c1 yl D hD=>?_⟩;obtain⟨F,hsz,step,q1⟩:=fT;have s0:aD l (upd l D (.lst [])):=aD.new hD;refine⟨fun i m G C=>m=t.length - i/\i<=t.length/\C D=some (.lst G)/\aA (fun b=>M b\/b=D) C G ((t.take i).flatMap F)/\aD l C/\gZ (fun b=>M b\/b=D) C,⟨t.length,by simp,ag0 _,af,.nil,s0,fun a I=>?_⟩,?_⟩
 . rcases I with I | I
   . obtain⟨o,e,n⟩:=O.al a I;exact⟨o,s0 _ _ e,n⟩
   . subst I;exact⟨_,af,fun xs z=>by cases z⟩
 rintro i m G C ⟨rfl,hi,By,ko,s2,KI⟩
 have kf:Kf M l C:=fun b o e _=>s2 _ _ e;by_cases eM:i < t.length
 . have c: ∀b,l b≠none-> ¬M b-> ¬(fun b=>M b\/b=D) b:=fun b n z y=>y.elim z fun w=>n (by rw[w];exact hD);obtain⟨go,wy⟩:=yl.go i C (fun b=>M b\/b=D) kf KI c eM;refine .inr ⟨go,fun S B=>B D=some (.lst S)/\aA (fun b=>M b\/b=D) B S ((t.take (i+1)).flatMap F)/\aD l B/\gZ (fun b=>M b\/b=D) B,fun S B je=>(by obtain⟨z1,z2,z3,z4⟩:=je;exact(⟨t.length - (i+1),by grind,rfl,eM,z1,z2,z3,z4⟩)),fun x H3 y=>?_⟩;obtain⟨s3,d,hd,rx⟩:=wy x H3 y;have E2:aB [] (fun b=>M b\/b=D) (List.replicate (nt+js.length) []) C (lB nt js j) (cin nt js δ1):=by
    have su:aD (upd l D (.lst G)) C:=fun b o e=>by
     by_cases c:b=D
     . subst c;rw[af] at e;cases e;exact By
     . rw[ah c] at e;exact s2 _ _ e
    have Ea:aB [] (fun b=>M b\/b=D) α C j δ1:=⟨O.ls,O.la,fun i s h=>let ⟨o,as,h1,h2,h3⟩:=O.sl i s h;⟨o,as,h1,h2,(h3.grow (u:= .lst G) hD).same su⟩,O.nd,fun a h=> .inl (O.mu a h),KI,fun W hW=>absurd hW aa8⟩
    exact tE Ea
   have E3:=E2.same s3;have bN:(List.replicate (nt+js.length) ([]:List Addr)).flatten= []:=by simp
   refine sR _ _ _ _ ⟨[],_,_,_,d,_,E3,rx,step d (ac8 hd),fun L δ4 σ4 q4 E4 hα=>?_⟩;have Hk:L.flatten= []:=ai9.mpr fun x hx=>by have:=hα x hx;rw[bN] at this;exact absurd this aa8
   refine⟨[],_,L,δ4,_,E4,q4,fun b δ5 H5 q5 E5 c5=>?_⟩;have s5:aD H3 H5:=fun b o e=>c5 b o e (by rw[Hk];exact aa8);have HS:aD C H5:=fun b o e=>s5 _ _ (s3 _ _ e);have tk:t.take (i+1)=t.take i++ [d]:=by rw[ap8,hd];rfl
   have UN:(t.take (i+1)).flatMap F=(t.take i).flatMap F++F d:=by rw[tk,List.flatMap_append];simp
   cases b with
   | false=>
    have q5:F d= []:=by simpa using q5
    refine aW ⟨HS _ _ By,?_,fun b o e=>HS _ _ (s2 _ _ e),E5.al⟩;rw[UN,q5,ag3];exact ko.same HS
   | true=>
    rw[if_pos rfl] at q5;refine cm ⟨[],_,L,δ5,_,E5,q5,fun A δ6 Y J2 jw E6 c6 X2=>?_⟩;obtain⟨p,f,PY,hF⟩:=jw;have s6:aD H5 Y:=fun b o e=>c6 b o e (by rw[Hk];exact aa8);have Du:aD C Y:=fun b o e=>s6 _ _ (HS _ _ e);have aa1:((t.take i).flatMap F).length+(F d).length<=(t.flatMap F).length:=by
     have e:t.flatMap F=(t.take (i+1)).flatMap F++(t.drop (i+1)).flatMap F:=by rw[<-List.flatMap_append,List.take_append_drop]
     rw[e,UN,ac1,ac1];grind
    refine⟨fun R m2 U P=>m2=A.length - R/\R<=A.length/\P D=some (.lst U)/\aA (fun b=>M b\/b=D) P U ((t.take i).flatMap F++((A.take R).filter p).map f)/\(∀b o,Y b=some o->b≠D->P b=some o)/\gZ (fun b=>M b\/b=D) P,⟨A.length,by simp,ag0 _,Du _ _ By,by simpa using ko.same Du,fun b o e _=>e,E6.al⟩,?_⟩;rintro R m2 U P ⟨rfl,O0,WM,uK,k7,VN⟩
    have VS:Kf (fun b=>M b\/b=D) Y P:=fun b o e n=>k7 b o e fun z=>n (.inr z);by_cases Rl:R < A.length
    . obtain⟨go2,UG⟩:=X2.go R P (fun b=>M b\/b=D) VS VN (fun b _ n=>n) Rl;have hlen:U.length < sizeLine:=by
       rw[uK.1,ac1,aa4];have:((A.take R).filter p).length<=(F d).length:=by
        rw[hF,aa4];have e:A.filter p=(A.take R).filter p++(A.drop R).filter p:=by rw[<-ai2,List.take_append_drop]
        rw[e,ac1];grind
       grind
      refine .inr ⟨go2,hlen,fun S B=>B D=some (.lst S)/\aA (fun b=>M b\/b=D) B S ((t.take i).flatMap F++((A.take (R+1)).filter p).map f)/\(∀b o,Y b=some o->b≠D->B b=some o)/\gZ (fun b=>M b\/b=D) B,fun S B jZ=>(by obtain⟨z1,z2,z3,z4⟩:=jZ;exact(⟨A.length - (R+1),by grind,rfl,Rl,z1,z2,z3,z4⟩)),fun x2 H8 y2=>?_⟩;obtain⟨s8,Z,hd2,rx2⟩:=UG x2 H8 y2;have E7:=(E6.PX Hk (fun b u e n=>VS b u e n) VN).same s8;refine Nh _ _ _ _ ⟨[],_,_,_,Z,_,E7,rx2,PY Z (ac8 hd2),fun T δ9 σ9 q9 E9 V5=>?_⟩;have Y2:T.flatten= []:=ai9.mpr fun x hx=>by have:=V5 x hx;rw[Hk] at this;exact absurd this aa8
      refine⟨[],_,T,δ9,_,E9,q9,fun b T4 mD lr ZV c10=>?_⟩;obtain⟨hp,Mi⟩:=lr;have kn:aD H8 mD:=fun b o e=>c10 b o e (by rw[Y2];exact aa8);have HR:aD P mD:=fun b o e=>kn _ _ (s8 _ _ e);have Hc:A.take (R+1)=A.take R++ [Z]:=by rw[ap8,hd2];rfl
      cases b with
      | false=>
       refine aW ⟨HR _ _ WM,?_,fun b o e n=>HR _ _ (k7 b o e n),ZV.al⟩;rw[Hc,ai2,ac5];simp [<-hp];exact uK.same HR
      | true=>
       refine cm ⟨[],_,T,T4,_,ZV,Mi rfl,fun r ZX Hn v W7 E11 c11 r11=>?_⟩;subst W7;have Cq:aD mD Hn:=fun b o e=>c11 b o e (by rw[Y2];exact aa8);have L4:aD P Hn:=fun b o e=>Cq _ _ (HR _ _ e);have up: ∀{zs:List V} {ds:List Dt},aA (fun b=>M b\/b=D) Hn zs ds->aA (fun b=>M b\/b=D) (upd Hn D (.lst (U++ [v]))) zs ds:=fun r=>r.mono fun a o e n=>⟨by rw[ah (fun z=>n (.inr z))];exact e,n⟩
       refine⟨L4 _ _ WM,af,?_,fun b o e n=>by rw[ah n];exact L4 _ _ (k7 b o e n),fun a I=>?_⟩
       . rw[Hc,ai2,ac5,<-ag8];have e1:List.filter p [Z]= [Z]:=by simp [<-hp]
         rw[e1];exact up ((uK.same L4).append (.one r11))
       . by_cases c:a=D
         . subst c;exact⟨_,af,fun xs z=>by cases z⟩
         . rw[ah c];exact E11.al a I
    . have e:R=A.length:=by grind
      subst e;refine .inl ⟨X2.stop P VS,WM,?_,fun b o e=>k7 b o (Du _ _ (s2 _ _ e)) (ar e hD),VN⟩;rw[al5] at uK;rw[UN,hF];exact uK
 . have e:i=t.length:=by grind
   subst e;refine .inl ⟨yl.stop C kf,?_⟩;rw[al5] at ko;have eH:upd (fun b=>if b=D then none else C b) D (.lst G)=C:=by
    funext b
    by_cases c:b=D
    . subst c;rw[af,By]
    . rw[ah c,if_neg c]
   rw[<-eH];have sH:aD l (fun b=>if b=D then none else C b):=fun b o e=>by
    show(if b=D then none else C b)=some o;rw[if_neg (ar e hD)];exact s2 _ _ e
   refine k _ _ _ _ _ q1 (O.same sH) (c1.tr (dz.of sH)) (ko.mono fun a o e n=>⟨?_,fun z=>n (.inl z)⟩) (by show(if D=D then none else C D)=none;rw[if_pos rfl]);show(if a=D then none else C a)=some o;rw[if_neg (fun z=>n (.inr z))];exact e))
theorem zj(n1:Nat)(S:k9 X N nt js scope)(l:X.calm=true)(hi:Iv X tg iter ti)(U: ∀s H i C r,PG (eD X N scope s H i C r) tg gh)(V:k6 n1 gh)(u: ∀v b H Q,lG g v b H Q->gh v b H Q)(t: ∀s H i C r,PF (eD X N scope s H i C r) ifs (lT tc))(T: ∀s H i C r,Iv (eD X N scope s H i C r) hV iter2 OO)(e: ∀s H i C r,PG (eD X N scope s H i C r) hV TL)(f:GY n1 nt TL)(W: ∀v b H Q,lG g2 v b H Q->TL v b H Q)(Y: ∀s H i C r,PF (eD X N scope s H i C r) dr (lT p9))(E: ∀s H i C r,Ev (eD X N scope s H i C r) elt te)(n:n1<=nt:=by decide)(hs: ∀x,foldedSetIterable iter X.env x=pure x:=by intro _;rfl)(m: ∀s H i C r x,foldedSetIterable iter2 (eD X N scope s H i C r).env x=pure x:=by intro _ _ _ _ _ _;rfl):
  Ov X (.ListComp elt [⟨tg,iter,ifs,0⟩,⟨hV,iter2,dr,0⟩] scope pos) (Gf nt js ti g tc OO g2 p9 te):=PE.imp (DY S l hi U V n T m e f Y t E hs) (x5 u W)
end
end LD
namespace OF
open PySem PySem.Spec L2 PyProof.Rows
theorem oh:mroOf (.type "dict")=pure [.type "dict",.type "object"]:=by rw[mroOf_type];kernel_rfl
theorem mH:typeLookup (.type "dict") "__new__"=pure (some (.builtin "dict.__new__")):=by rw[typeLookup_type,builtinLookup_eq_fast];kernel_rfl
theorem vP:TypeCalled "dict" "dict.__new__" "dict.__init__":=
 ⟨by decide+kernel,by decide+kernel,⟨_,_,oh⟩,madeBy_type oh mH (by decide+kernel),by decide+kernel,by rw[isSubtype_type];kernel_rfl,F.slot_dict_init⟩
theorem mE(a:Value):checkTypeCall "dict" ⟨[a],[]⟩=pure ():=by kernel_rfl
theorem og(a:Value):checkBuiltinCall "dict.__new__" ⟨[.type "dict",a],[]⟩=pure ():=by kernel_rfl
theorem oS:entryFor table "dict.__new__"=some Builtin.«dict.__new__» :=entryFor_of_tree (by kernel_rfl)
theorem iE:plainId "dict.__new__"=true:=by decide+kernel
theorem pF:isSubtype (.type "dict") (.type "dict")=pure true:=by rw[isSubtype_type];kernel_rfl
theorem pP{s:Shared}(a:Value)(h:Q₁ (.ref s.heap.objs.size) {s with heap:=s.heap.push {cls:= .type "dict",data:= .dict #[]}}):
  codeAny (model prog w) A (.call (.builtin "dict.__new__") ⟨[.type "dict",a],[]⟩) (wants Q₁ E) s:=by
 refine codeAny_of_tree ?_;show wpAny _ A.in1 (do checkBuiltinCall "dict.__new__" ⟨[.type "dict",a],[]⟩;again (.builtin "dict.__new__" ⟨[.type "dict",a],[]⟩)) _ _ s;refine aa5 (wpAny_of_eq (og a) (ab2 ⟨at6 iE _,codeAny_builtin oS ?_⟩));rw[Around.under_plainId iE _];have I:=pF;have y:=oh;obtain⟨p,g,d,r,i⟩:=s;unfold Builtin.«dict.__new__»;repeat (any_goals (first | assumption | wp_step))
def Mh(P:Program)(w:World):List V->Hp->VK->Prop:=fun e H Q=> ∃l x,e= [.ref l]/\H l=some (.dT x)/\x≠ []/\(x.map fun y=>tupleKeyHash (aY P w) y.1).Nodup/\ ∀d,H d=none->Q (.ref d) (upd H d (.dT x))
theorem Ar: ∀{L:List DictEntry},(L.map (·.hash)).Nodup->(∀x∈L,x.hash=h)->L.length > 1->False
 | x::y::r,nd,al,_=>by
  rw[ad5,ad5,ak1] at nd;exact nd.1 (by rw[al x ab4,al y (by simp)];exact ab4)
theorem RM{prog:Program}{w:World}{A:Around}{E:Value->Shared->Prop}{s:Shared}{id:String}{C:Nat}(i:s.heap.get? d=some o)(r:o.data= .dict es C)(R: ∀e∈es.toList,∃a,e.key= .ref a/\s.TypeIs (.ref a) "tuple")(g:(es.toList.map (·.hash)).Nodup)(h:Q es s):wpAny (model prog w) A (Builtin.Dict.entriesForEmpty id d) Q E s:=by
 unfold Builtin.Dict.entriesForEmpty;refine aa5 (wpAny_dictEntries i r (aa5 (wpAny_forIn_array' _ (fun G _ m=>m=s/\ ∀e∈G,e∈es.toList) (fun _ m=>wpAny (model prog w) A (pure es) Q E m) (fun e G b m I=>?_) (fun b m I=>?_) es _ ⟨rfl,fun _ z=>z⟩)))
 . obtain⟨rfl,B⟩:=I;obtain⟨a,H,y⟩:=R e (B e ab4);have k: ¬(es.filter (·.hash==e.hash)).size > 1:=fun z=>by
    have u:((es.toList.filter (·.hash==e.hash)).map (·.hash)).Nodup:=g.sublist (List.Sublist.map _ List.filter_sublist);have Y: ∀x∈es.toList.filter (·.hash==e.hash),x.hash=e.hash:=fun x j=>by have:=(af8.mp j).2;rwa [ai7] at this
    rw[<-aj1,Array.toList_filter] at z;exact Ar u Y z
   rw[H];have c:typeLookup (.type "tuple") "__eq__"=pure (some (.builtin "tuple.__eq__")):=F.slot_tuple_eq.lookup;unfold Builtin.Dict.quietEq;repeat (any_goals (first | assumption | wp_step))
   exact⟨rfl,fun e J=>B e (ab5 _ J)⟩
 . obtain⟨rfl,_⟩:=I;exact ab2 h
theorem vf: ∀{aF:List (List Key × V)} {xs:List (List Key × Addr × Value)},KT H aF xs->xs.map ((fun x=>x.hash) ∘ entryOfKey (tupleKind (aY P w)))=aF.map fun y=>tupleKeyHash (aY P w) y.1
 | _,_,.nil=>rfl
 | _,_,.cons r t=>by
  rw[ad5,ad5,vf t,r.1];rfl
theorem x8{X:Cx}(hA:X.A.handled=none):fK X (.type "dict") (Mh X.prog X.w):=by
 intro d s σ H g us Q I rs h;obtain⟨l,y,rfl,hl,ne,hh,q⟩:=h;obtain⟨u,rfl,ru⟩:=vals1 rs;cases (show u=Value.ref l from ru);have hD:H s.heap.objs.size=none:=I.bc.fresh (ab3 _);refine callType_codes (Q₁:=fun i U=>i= .ref s.heap.objs.size/\U={s with heap:=s.heap.push {cls:= .type "dict",data:= .dict #[]}}) vP (mE _) F.entry_dict_init (pP _ ⟨rfl,rfl⟩) fun i U k=>?_;obtain⟨rfl,rfl⟩:=k;have m:Inv X d σ (upd H s.heap.objs.size (.dT [])) {s with heap:=s.heap.push {cls:= .type "dict",data:= .dict #[]}}:=I.laid (a:=s.heap.objs.size) (o:= .dT []) (t':=s.toks) (fun _ _ q=>aa7 _ q) (ab3 _) (oT s.heap I.big);have nl:l≠s.heap.objs.size:=ar hl hD;have P:(upd H s.heap.objs.size (.dT [])) l=some (.dT y):=by rw[ah nl];exact hl
 obtain⟨zz,Nn,g,M,ol,B,ep,J,N,W,C,O,R⟩:=zF m.bc P;have hS:(s.heap.push {cls:= .type "dict",data:= .dict #[]}).get? s.heap.objs.size=some {cls:= .type "dict",data:= .dict #[]}:=ac9 _ rfl;have hT:({s with heap:=s.heap.push {cls:= .type "dict",data:= .dict #[]}}:Shared).TypeIs (.ref s.heap.objs.size) "dict":=⟨_,hS,rfl⟩
 have hlT:({s with heap:=s.heap.push {cls:= .type "dict",data:= .dict #[]}}:Shared).TypeIs (.ref l) "dict":=⟨_,J,N.1⟩
 have qq:=q _ hD;generalize EU:s.heap.objs.size=D at*;generalize hs1:({s with heap:=s.heap.push {cls:= .type "dict",data:= .dict #[]}}:Shared)=s0 at*;have E:s0.heap.get? D=some {cls:= .type "dict",data:= .dict #[]}:=by rw[<-hs1];exact hS
 refine⟨hT,F.args_dict_init_2 _ _,?_⟩;have sub:isSubtype (.type "dict") (.type "dict")=pure true:=by rw[isSubtype_type];kernel_rfl
 have f3:=F.slot_dict_iter.lookup;unfold Builtin.«dict.__init__»;repeat (any_goals (first | assumption | wp_step))
 have xl:g.length=y.length:=(Paired.length M).symm;have t:B.toList.length=y.length:=by rw[C,aa4,xl]
 have kne:0 < y.length:=al1.mpr ne;have V: ∀e∈B.toList,∃a,e.key= .ref a/\s0.TypeIs (.ref a) "tuple":=fun e he=>by
  rw[C] at he;obtain⟨x,hx,rfl⟩:=ab6.mp he;obtain⟨o,Z,n,h1,h2,h3,h4⟩:=O x hx;exact⟨x.2.1,rfl,o,h1,h2⟩
 have L:(decide (B.size<=8) && B.all fun e=>(keyPart e.key).isSome)=false:=by
  rw[Bool.and_eq_false_iff];refine .inr ?_;rw[<-Array.all_toList];cases v:B.toList with
  | nil=>rw[v] at t;simp at t;omega
  | cons e r=>
   obtain⟨a,ea,_⟩:=V e (by rw[v];exact ab4);rw[ar1,ea];rfl
 have p:(B.toList.map (·.hash)).Nodup:=by
  rw[C,ad6];have:g.map ((fun x=>x.hash) ∘ entryOfKey (tupleKind (aY X.prog X.w)))=y.map fun kv=>tupleKeyHash (aY X.prog X.w) kv.1:=by
   exact vf M
  rw[this];exact hh
 rw[if_neg (by rw[ai7];exact fun z=>nl z.symm)];unfold Builtin.Dict.showsAll;rw[if_neg (by rw[Nn];exact ac3)];refine aa5 (ab2 (aa5 (wpAny_dictEntries J W ?_)));dsimp only;rw[L];rw[if_pos (by decide)];refine aa5 (wpAny_dictEntries E rfl ?_);rw[if_pos (by decide)];refine aa5 (RM J W V p ?_);have T:(!B.isEmpty)=true:=by
  cases v:B.toList with
  | nil=>rw[v] at t;simp at t;omega
  | cons e r=>rw[<-Array.isEmpty_toList,v];rfl
 rw[if_pos T];have sz:B.size<=sizeLine+1:=by rw[<-aj1,t];omega
 refine aa5 (wpAny_updateDictKeysTo E rfl (ab2 ?_) sz);have sb:Heap.SameBut D s0.heap (s0.heap.update D (Obj.mapDictKeys fun _=>B)):=Heap.SameBut.update ..;have gD:(s0.heap.update D (Obj.mapDictKeys fun _=>B)).get? D=some (Obj.mapDictKeys (fun _=>B) {cls:= .type "dict",data:= .dict #[]}):=ao2 _ E (Obj.isFreed_of_dict (Obj.data_mapDictKeys rfl _));have G:upd H D (.dT []) D=some (.dT []):=af;have j:=i9 (t':=s0.toks) m (by rw[G];exact True.intro) sb ⟨_,gD⟩ (ob:= .dT y) ⟨zz,(zF m.bc G).2.1,g,M.keeps fun c ys Y=>by rw[ah (zm Y G (fun z=>nomatch z))];exact Y,_,B,_,gD,⟨rfl,rfl,rfl⟩,Obj.data_mapDictKeys rfl _,C,R⟩;have S:upd (upd H D (.dT [])) D (.dT y)=upd H D (.dT y):=by
  funext b
  by_cases f:b=D
  . subst f;rw[af,af]
  . rw[ah f,ah f,ah f]
 rw[S] at j;unfold Builtin.Dict.addKeywords;repeat (any_goals (first | assumption | wp_step))
 exact⟨rfl,.ref D,_,j,rfl,qq⟩
end OF
namespace kZ
open PySem PySem.W PyProof.Rows
variable{N:Nat}{K:Nat->Int}{s:Shared}{cmp:Nat->Nat->(Bool->Shared->Prop)->Shared->Prop}
def Kg(N:Nat)(K:Nat->Int)(cmp:Nat->Nat->(Bool->Shared->Prop)->Shared->Prop)(s:Shared):Prop:= ∀i j,i < N->j < N-> ∀C:Bool->Shared->Prop,C (decide (K i < K j)) s->cmp i j C s
structure Pm(N:Nat)(p:Array Nat):Prop where
 pm:p.Perm (List.range N).toArray
theorem Pm.sz(h:Pm N p):p.size=N:=by rw[h.pm.size_eq];simp
theorem Pm.lt(h:Pm N p)(hi:i < N):p.getD i 0 < N:=by
 have A:i < p.size:=by rw[h.sz];exact hi
 have e:p.getD i 0=p[i]:=by simp [Array.getD,A]
 rw[e];have z:p[i]∈(List.range N).toArray.toList:=(Array.perm_iff_toList_perm.mp h.pm).mem_iff.mp (by simp);simpa using z
theorem Pm.rev(h:Pm N p)(i j:Nat):Pm N (kas_rev p i j):=⟨(mirror_perm _ _ _ _).trans h.pm⟩
theorem Pm.bub(h:Pm N p)(i j:Nat):Pm N (bubble p i j):=⟨(bubble_perm _ _ _).trans h.pm⟩
section
variable{prog:Program}{w:World}{A:Around}{E:Value->Shared->Prop}{z:Shared}{K:Nat->Int}{vs:List Value}
structure Ask(prog:Program)(w:World)(A:Around)(vs:List Value)(K:Nat->Int)(z:Shared)(κ:SortKind):Prop where
 kind: ∀Q:SortKind->Shared->Prop,Q κ z->wpAny (model prog w) A (keyKind' vs.toArray) Q (fun _ _=>False) z
 ask:Kg vs.length K (kas_ask prog w A κ vs) z
noncomputable def outs(vs:List Value)(p:Array Nat):Array Value:=List.toArray (p.toList.map fun i=>vs.getD i Value.none)
theorem D3(q:Pm vs.length p):(outs vs p).size=vs.length:=by
 unfold outs;rw[ac2,aa4,aj1,q.sz]
theorem Ip:((vs.toArray.zip vs.toArray).map fun q:Keyed=>q.2)=outs vs (List.range vs.length).toArray:=by
 apply Array.toList_inj.mp;unfold outs;apply List.ext_getElem
 . simp
 . intro i f g;have I:i < vs.length:=by simpa using f
   simp [I]
end
noncomputable def enc(B:Int)(q:Int × Int):Int:=q.1*B+q.2
theorem NL(r:0<=p.2/\p.2 < B)(Q:0<=q.2/\q.2 < B):decide (enc B p < enc B q)=(if (p.1==q.1)=true then(if (p.2==q.2)=true then false else decide (p.2 < q.2)) else decide (p.1 < q.1)):=by
 obtain⟨a,b⟩:=p;obtain⟨c,d⟩:=q;unfold enc;simp only at r Q ⊢;by_cases f:a=c
 . subst f;rw[if_pos (by rw[ai7])];by_cases g:b=d
   . subst g;rw[if_pos (by rw[ai7])];rw[aj7];lia
   . rw[if_neg (by rw[ai7];exact g)];exact al2.mpr ⟨fun h=>by lia,fun h=>by lia⟩
 . rw[if_neg (by rw[ai7];exact f)];refine al2.mpr ⟨fun h=>?_,fun h=>?_⟩
   . refine Int.lt_of_not_ge fun z=>?_;have:(c+1)*B<=a*B:=aj0 (by lia) (by lia);rw[ap5] at this;lia
   . have:(a+1)*B<=c*B:=aj0 (by lia) (by lia);rw[ap5] at this;lia
def Cd(h:Heap)(v:Value)(q:Int × Int):Prop:= ∃(t:Addr) (o:Obj) (a b:Tok) (n:Nat),v= .ref t/\h.get? t=some o/\o.cls= .type "tuple"/\o.data= .seq #[.int q.1 a,.int q.2 b] n
theorem Cd.keep{h h':Heap}(x:Cd h v q)(k: ∀b o,h.get? b=some o->h'.get? b=some o):Cd h' v q:=let ⟨t,o,a,b,n,e,g,c,d⟩:=x;⟨t,o,a,b,n,e,k _ _ g,c,d⟩
section
variable{prog:Program}{w:World}{A:Around}{E:Value->Shared->Prop}{z:Shared}{vs:List Value}{ps:List (Int × Int)}{B:Int}
theorem Fu: ∀{vs:List Value} {ps:List (Int × Int)},vs.length=ps.length->(∀(i:Nat) v q,vs[i]?=some v->ps[i]?=some q->Cd h v q)-> ∃C,KatTups h vs C/\C.length=vs.length/\ ∀v∈C,∃x t,v=Value.int x t
 | [],[],_,_=>⟨[],.nil,rfl,fun v f=>absurd f aa8⟩
 | [],_::_,l,_=>by simp at l
 | _::_,[],l,_=>by simp at l
 | v::vs,q::ps,l,hp=>by
  obtain⟨C,t,r,I⟩:=Fu (vs:=vs) (ps:=ps) (by simpa using l) fun i v q j k=>hp (i+1) v q (by simpa using j) (by simpa using k);obtain⟨L,o,a,b,n,rfl,g,c,d⟩:=hp 0 v q rfl rfl;refine⟨.int q.1 a::C,.cons g c d rfl t,by rw[ad3,ad3,r],fun v f=>?_⟩;rcases ab9.mp f with e | f
  . exact⟨_,_,e⟩
  . exact I v f
theorem Cc(L:vs.length=ps.length)(g:2<=vs.length)(p: ∀(i:Nat) v q,vs[i]?=some v->ps[i]?=some q->Cd z.heap v q)(c: ∀q∈ps,0<=q.2/\q.2 < B): ∃h,Ask prog w A vs (fun i=>enc B (ps.getD i (0,0))) z h:=by
 obtain⟨W,t,X,J⟩:=Fu L p;refine⟨tuples' true,fun Q q=>kat_kind (T:= .type "int") t (by lia) (fun v d=>?_) (by rfl) q,fun i j u D C q=>?_⟩
 . obtain⟨x,tk,rfl⟩:=J v d;exact Looks.of_pure rfl
 . have k:i < ps.length:=by lia
   have y:j < ps.length:=by lia
   have l:ps.getD i (0,0)=ps[i]:=by simp [List.getD,k]
   have U:ps.getD j (0,0)=ps[j]:=by simp [List.getD,y]
   have r:vs.getD i Value.none=vs[i]:=by simp [List.getD,u]
   have n:vs.getD j Value.none=vs[j]:=by simp [List.getD,D]
   rw[l,U,NL (c _ (List.getElem_mem k)) (c _ (List.getElem_mem y))] at q;obtain⟨b,Z,M,V,o,F,H,R,O⟩:=p i _ _ (aa6 u) (aa6 k);obtain⟨t2,a,e,P,Y,G,I,S,m⟩:=p j _ _ (aa6 D) (aa6 y);unfold kas_ask;rw[r,n,F,G];refine kat_lt H O I m (kat_cons (wpAny_eqBool_int ?_));by_cases f:(ps[i].1==ps[j].1)=true
   . rw[f];rw[if_pos f] at q;refine kat_yes (kat_cons (wpAny_eqBool_int ?_));by_cases g:(ps[i].2==ps[j].2)=true
     . rw[g];rw[if_pos g] at q;exact kat_yes (kat_nil q)
     . rw[if_neg g] at q;rw[aq0.mpr g];exact kat_no (kat_one _ _ (lt_int q))
   . rw[if_neg f] at q;rw[aq0.mpr f];exact kat_no (oneLt_int q)
end
end kZ
namespace kZ
open PySem PySem.Spec L2 LB PyProof.Rows
theorem t7: ∀{l:List Nat},(∀i∈l,RelV (f i) (g i))->Vals (l.map f) (l.map g)
 | [],_=> .nil
 | i::l,h=> .cons (h i (by simp)) (t7 fun j V=>h j (by simp [V]))
theorem map_getD{α:Type}{F:List α}{d:α}:(List.range F.length).map (fun i=>F.getD i d)=F:=by
 apply List.ext_getElem
 . simp
 . intro i f g;simp [g]
end kZ
namespace LD
open PySem PySem.Spec L2 LB PyProof.Rows kZ
section
variable{X:Cx}{e:Expr}{tA:fJ}{pos p:Pos}
noncomputable def Mp(q:Int × Int):Dt:= .tup [.int q.1,.int q.2]
theorem y8: ∀{xs:List V} {qs:List (Int × Int)},aA M H xs (qs.map Mp)-> ∃F:List (V × Int × Int),F.map (·.1)=xs/\F.map (·.2)=qs/\ ∀w∈F,Rep M H w.1 (Mp w.2)
 | [],[],_=>⟨[],rfl,rfl,fun w f=>absurd f aa8⟩
 | [],_::_,h=>by have:=h.1;simp at this
 | _::_,[],h=>by have:=h.1;simp at this
 | x::xs,q::qs,h=>by
  rw[ad5] at h;obtain⟨y,n,e,r,P⟩:=h.aG;cases e;obtain⟨F,u,A,f⟩:=y8 P;refine⟨(x,q)::F,by rw[ad5,u],by rw[ad5,A],fun w B=>?_⟩;rcases ab9.mp B with z | z
  . rw[z];exact r
  . exact f w z
theorem yU: ∀{ws:List (V × Int × Int)},(∀w∈ws,Rep M H w.1 (Mp w.2))->aA M H (ws.map (·.1)) ((ws.map (·.2)).map Mp)
 | [],_=> .nil
 | w::ws,h=> .cons (h w (by simp)) (yU fun v c=>h v (by simp [c]))
end
end LD
namespace L2
open PySem PySem.Spec PyProof.Rows
section
variable{X:Cx}{a b c e:Expr}{ta tb tc te:TE}{pos:Pos}
def rC(r D A:R2)(ta tb tc te:TE):TE:=fun d H Q=>ta d H fun x l=>tb d l fun y C=>r x y C fun z O=> ∃k,z= .bl k/\
 (if k=true then tc d O fun w t=>D y w t fun m s=> ∃h,m= .bl h/\(if h=true then te d s fun v u=>A w v u Q else Q (.bl false) s) else Q (.bl false) O)
theorem AX(j:g6 X (compareOp o) r)(m:g6 X (compareOp o') r')(T:g6 X (compareOp QE) Qg)(G:PE X a ta)(N:PE X b tb)(U:PE X c tc)(V:PE X e te)(Y:lastMarks [o,o',QE] [b,c,e]=false:=by with_unfolding_all rfl):PE X (.Compare a [o,o',QE] [b,c,e] pos) (rC r r' Qg ta tb tc te):=by
 intro f s g H Q I h;refine Compare_chain (aP (G f s g H _ I h) fun v s1 z1=>?_) Y;obtain⟨x,l,W,r1,q1⟩:=z1;refine chain_link (aP (N f s1 g l _ W q1) fun u s2 p=>?_);obtain⟨y,C,J,R,q2⟩:=p;refine aP (j f s2 g C x y v u _ J r1 R q2) fun d s3 z3=>?_;obtain⟨z,O,i,r3,k,M,P⟩:=z3;subst M;cases r3;refine ah1 ?_;cases k with
 | false=>exact ite_ff ⟨.bl false,O,i,rfl,P⟩
 | true=>
  refine ite_tt (chain_link (aP (U f s3 g O _ i P) fun w s4 z4=>?_));obtain⟨S,B,L,F,q4⟩:=z4;refine aP (m f s4 g B y S u w _ L R F q4) fun d s5 Z=>?_;obtain⟨p,t,n,r5,k2,E,A⟩:=Z;subst E;cases r5;refine ah1 ?_;cases k2 with
  | false=>exact ite_ff ⟨.bl false,t,n,rfl,A⟩
  | true=>exact ite_tt (chain_last (aP (V f s5 g t _ n A) fun w2 s6 lr=>(by obtain⟨y3,D,q,r6,q6⟩:=lr;exact(T f s6 g D S y3 w w2 Q q F r6 q6))))
theorem AQ(m:g6 X (compareOp o) r)(G:g6 X (compareOp o') r')(h3:g6 X (compareOp QE) Qg)(ha:PE X a ta)(hb:PE X b tb)(hc:PE X c tc)(he:PE X e te)(hm:lastMarks [o,o',QE] [b,c,e]=false:=by with_unfolding_all rfl):PT X (.Compare a [o,o',QE] [b,c,e] pos) (Ko (rC r r' Qg ta tb tc te)):=by
 intro f s g H Q I h;refine isTrue_chain (aP (ha f s g H _ I h) fun v s1 z1=>?_) hm;obtain⟨x,l,W,r1,q1⟩:=z1;refine test_link (aP (hb f s1 g l _ W q1) fun u s2 p=>?_);obtain⟨y,C,L,S,q2⟩:=p;refine aP (m f s2 g C x y v u _ L r1 S q2) fun d s3 J=>?_;obtain⟨z,O,i,r3,k,N,P⟩:=J;subst N;cases r3;refine ah1 ?_;cases k with
 | false=>
  obtain⟨k',R,V⟩:=P;cases R;exact ite_ff ⟨O,i,V⟩
 | true=>
  refine ite_tt (test_link (aP (hc f s3 g O _ i P) fun w s4 z4=>?_));obtain⟨T,B,M,F,q4⟩:=z4;refine aP (G f s4 g B y T u w _ M S F q4) fun d s5 j=>?_;obtain⟨p,t,n,r5,k2,E,A⟩:=j;subst E;cases r5;refine ah1 ?_;cases k2 with
  | false=>
   obtain⟨k',R,V⟩:=A;cases R;exact ite_ff ⟨t,n,V⟩
  | true=>
   refine ite_tt (test_last (aP (he f s5 g t _ n A) fun w2 s6 ⟨y3,D,q,r6,q6⟩=>aP (h3 f s6 g D T y3 w w2 _ q F r6 q6) fun d' s7 jx=>?_));obtain⟨J,U,Y,r7,k3,Z,q7⟩:=jx;subst Z;cases r7;exact ah1 ⟨U,Y,q7⟩
theorem Ig(g:PE X a ta):PE X (.UnaryOp .Not a pos) (fun f H Q=>ta f H fun x w=> ∃k,Ou X.K x w k/\Q (.bl (!k)) w):=by
 intro d s f H Q I h;refine UnaryOp_ (aP (g d s f H _ I h) fun v L M=>?_);obtain⟨x,l,W,r,o⟩:=M;obtain⟨k,R,q⟩:=o;exact not_of (aP (CY d L f l x v (fun b w=>b=k/\w=l) W r ⟨k,R,rfl,rfl⟩) fun b z i=>(by obtain⟨C,J,u,y⟩:=i;exact(by subst u;subst y;exact⟨.bl (!b),_,J,rfl,q⟩)))
end
end L2
namespace LD
open PySem PySem.Spec L2 LB PyProof.Rows kZ
section
variable{X:Cx}{a b c e f:Expr}{ta tb tc te t:bJ}{tA:fJ}{pos p p2:Pos}
def N3(ta tb tc te:bJ):bJ:=fun o Q=>ta o fun P B=>tb B fun n O=> ∃i j:Int,P= .int i/\n= .int j/\(if i < j then tc O fun g L=> ∃k:Int,g= .int k/\(if j < k then te L fun J m=> ∃l:Int,J= .int l/\Q (.bl (decide (k < l))) m else Q (.bl false) L) else Q (.bl false) O)
theorem u4: ∀d H Q,lE (N3 ta tb tc te) d H Q->rC (Cr fun i j=> .bl (decide (i < j))) (Cr fun i j=> .bl (decide (i < j))) (Cr fun i j=> .bl (decide (i < j))) (lE ta) (lE tb) (lE tc) (lE te) d H Q:=fun d H Q s=>(by obtain⟨W,M,N,δ,Qd,E,q,k⟩:=s;exact(
 ⟨W,M,N,δ,_,E,q,fun d1 B H1 x G V D r1=>⟨W,M,N,B,_,V,G,fun d2 O H2 y r m u S=>(by obtain⟨i,j,C,F,Z⟩:=r;exact(by
  subst C;subst F;refine⟨i,j,r1.ofInt,S.ofInt,decide (i < j),rfl,?_⟩;by_cases h:i < j
  . rw[if_pos h] at Z;rw[if_pos (ab8 h)];refine⟨W,M,N,O,_,m,Z,fun d3 L H3 z qW R w U=>?_⟩;obtain⟨T,n,P⟩:=qW;subst n;refine⟨j,T,S.ofInt,U.ofInt,decide (j < T),rfl,?_⟩;by_cases g:j < T
    . rw[if_pos g] at P;rw[if_pos (ab8 g)];refine⟨W,M,N,L,_,R,P,fun d4 δ4 H4 v J Y A r4=>?_⟩;obtain⟨l,o,I⟩:=J;subst o;exact⟨T,l,U.ofInt,r4.ofInt,k _ _ _ _ I Y (((D.tr u).tr w).tr A) (.bl _)⟩
    . rw[if_neg g] at P;rw[if_neg (by rw[decide_eq_true_eq];exact g)];exact k _ _ _ _ P R ((D.tr u).tr w) (.bl _)
  . rw[if_neg h] at Z;rw[if_neg (by rw[decide_eq_true_eq];exact h)];exact k _ _ _ _ Z m (D.tr u) (.bl _)))⟩⟩))
theorem R0(d:Ev X a ta)(g:Ev X b tb)(l:Ev X c tc)(E:Ev X e te)(z:lastMarks [.Lt,.Lt,.Lt] [b,c,e]=false:=by with_unfolding_all rfl):Ev X (.Compare a [.Lt,.Lt,.Lt] [b,c,e] pos) (N3 ta tb tc te):=PE.imp (AX n9 n9 n9 d g l E z) u4
theorem Px(d:Ev X a ta)(g:Ev X b tb)(l:Ev X c tc)(E:Ev X e te)(z:lastMarks [.Lt,.Lt,.Lt] [b,c,e]=false:=by with_unfolding_all rfl):Tv X (.Compare a [.Lt,.Lt,.Lt] [b,c,e] pos) (dT (N3 ta tb tc te)):=PT.imp (AQ n9 n9 n9 d g l E z) fun i H Q h=>u4 _ _ _ (dA _ _ _ h)
theorem yB(h:aA M H xs [d,d2]): ∃x y,xs= [x,y]/\Rep M H x d/\Rep M H y d2:=by
 obtain⟨x,n,rfl,q,P⟩:=h.aG;obtain⟨y,rfl,L⟩:=eJ P;exact⟨x,y,rfl,q,L⟩
inductive OK(ds:List Dt)(Q:Dt->Prop):Prop
 | mk (i j:Int) (h1:ds= [.int i,.int j]) (h2:Q (.int (max i j)))
inductive OI(ds:List Dt)(Q:Dt->Prop):Prop
 | mk (i j:Int) (h1:ds= [.int i,.int j]) (h2:Q (.int (min i j)))
theorem FZ(l:X.calm=true)(A:X.mg "max"=none)(d:Av X [e,f] tA)(S:Gl X "max":=by rfl)(E:starEach [e,f] X.env=(false,eval e X.env)::starEach [f] X.env:=by rfl)(w:(backTo pos (starEach [f] X.env)).any (·.1)=false:=by rfl):
  Ev X (.Call (.Name "max" p) [e,f] [] pos) (BR OK tA):=gN (B0 l) (fun M H h n B Q Y r g k=>(by obtain⟨i,j,e,q⟩:=g;exact(by
 subst e;obtain⟨x,y,rfl,s,P⟩:=yB r;cases s.ofInt;cases P.ofInt;exact⟨i,j,rfl,by rw[show(if j > i then j else i)=max i j by by_cases c:j > i <;> simp only [c,ar2,if_false] <;> lia];exact k H _ _ q (fun _ _ z=>z) (.int _)⟩))) S A B8 d (by decide) (by decide) E w
theorem FY(l:X.calm=true)(A:X.mg "min"=none)(d:Av X [e,f] tA)(S:Gl X "min":=by rfl)(E:starEach [e,f] X.env=(false,eval e X.env)::starEach [f] X.env:=by rfl)(w:(backTo pos (starEach [f] X.env)).any (·.1)=false:=by rfl):
  Ev X (.Call (.Name "min" p) [e,f] [] pos) (BR OI tA):=gN (BZ l) (fun M H g n B Q Y r h k=>(by obtain⟨i,j,e,q⟩:=h;exact(by
 subst e;obtain⟨x,y,rfl,s,P⟩:=yB r;cases s.ofInt;cases P.ofInt;exact⟨i,j,rfl,by rw[show(if j < i then j else i)=min i j by by_cases c:j < i <;> simp only [c,ar2,if_false] <;> lia];exact k H _ _ q (fun _ _ z=>z) (.int _)⟩))) S A B6 d (by decide) (by decide) E w
inductive JM(Q:Dt->List Sl->Prop)(d:Dt)(δ':List Sl):Prop
 | mk (b:_) (h1:Pq d=some b) (h2:Q (.bl (!b)) δ')
def Sg(t:bJ):bJ:=fun i Q=>t i fun d j=>JM Q d j
theorem NT(h:Ev X e t):Ev X (.UnaryOp .Not e pos) (Sg t):=
 PE.imp (Ig h) fun x H Q i=>(by obtain⟨W,M,O,j,y,E,q,k⟩:=i;exact(⟨W,M,O,j,_,E,q,fun d m w v s N D u=>(by obtain⟨b,g,o⟩:=s;exact(⟨b,by
  cases u with
  | aN=>cases g;rfl
  | bl c=>cases g;rfl
  | int c=>cases g;rfl
  | str c=>cases g
  | lst h n l r=>cases g;exact .inl ⟨_,cc.of h,by rw[gs ⟨l,r⟩]⟩
  | Cv h n e l r=>cases g
  | pB h n e l r=>cases g
  | tup h n l r=>cases g;exact .inr (.inl ⟨_,dm.of h,by rw[gs ⟨l,r⟩]⟩),k _ _ _ _ o N D (.bl _)⟩))⟩))
end
end LD
namespace L2
open PySem PySem.Spec PyProof.Rows
open AutoSeq1 (wpAny_loadPart')
noncomputable def i8(h:Heap)(t:Addr)(k:Int):Heap:=
 (h.push {cls:= .type "list_iterator",data:= .fields #[.ref t,.int 0 0]}).push {cls:= .type "enumerate",data:= .fields #[.none,.bool false,.ref h.objs.size,rawInt k,.none,.none]}
def BI(t:Addr)(k:Int):PySem.Spec:=fun _ R s=>(∃Z,s.heap.IsList t Z)/\R (.ok (.ret (.ref (s.heap.push {cls:= .type "list_iterator",data:= .fields #[.ref t,.int 0 0]}).objs.size))) {s with heap:=i8 s.heap t k}
theorem vE{prog:Program}{w:World}{A:Around}(R:A.handled=none)(y t:Addr)(z:t≠y)(u:Array Value)(k:Nat):
  Draws prog w A y [y,t] (u.size+k) (fun i v=>k<=i/\u[i - k]?=some v) (fun i h=>k<=i/\h.IsListIter y t (i - k)/\h.IsList t u) where
 live:=fun i h B=>(by obtain⟨_,Y⟩:=B;exact((Draws.list (prog:=prog) (w:=w) (A:=A) R y t z u).live _ h Y))
 frame:=fun i h F e T=>(by obtain⟨l,Y⟩:=e;exact(⟨l,(Draws.list (prog:=prog) (w:=w) (A:=A) R y t z u).frame _ h F Y T⟩))
 item:=fun i s Q E I j S=>(by obtain⟨l,Y⟩:=j;exact((Draws.list (prog:=prog) (w:=w) (A:=A) R y t z u).item (i - k) s Q E (by lia) Y fun x F r m H G=>S x F r ⟨l,m⟩ ⟨by lia,by rw[show i+1 - k=i - k+1 by lia];exact H⟩ G))
 done:=fun s Q E D C=>(by obtain⟨l,Y⟩:=D;exact((Draws.list (prog:=prog) (w:=w) (A:=A) R y t z u).done s Q E (by rw[show u.size+k - k=u.size by lia] at Y;exact Y) C))
section
variable{X:Cx}{pins:List (Addr × Obj)}{σ:St}{H:Hp}{s:Shared}
noncomputable def GW(K:PySem.W.Frag)(a:Addr)(k:Nat):It:=
 ⟨fun i H=> ∃e x,cc K H a e/\e[i]?=some x,fun i H x v=> ∃p y,x= .ref p/\H p=none/\v=upd H p (.tup [.int ((i+k:Nat):Int),y])/\ ∀e,cc K H a e->e[i]?=some y,fun i H=> ∃e,cc K H a e/\e.length=i⟩
theorem wG{P:Program}{w:World}{K:PySem.W.Frag}{es:List Expr}{x1}{tp:Pos}(a e B:Addr)(k:Nat)(O:e≠B):
  Turn P w K (.Tuple es x1 tp) (GW K a k) [e,B] e (fun i h=>(∃N,IsEnum h e B ((i+k:Nat):Int) N)/\h.IsListIter B a i) where
 mem:=by simp
 obj:=fun i h Y b c=>by
  obtain⟨⟨N,F⟩,C⟩:=Y;rcases ab9.mp c with q | q
  . subst q;exact⟨_,F,fun v z=>nomatch (show Data.fields _=Data.cell v from z)⟩
  . have q:b=B:=by simpa using q
    subst q;obtain⟨o,r,Z,q3⟩:=C;exact⟨o,r,fun v z=>by rw[q3] at z;cases z⟩
 keep:=fun i h h' Y kk=>by
  obtain⟨⟨N,F⟩,C⟩:=Y;exact⟨⟨N,kk e (by simp) _ F⟩,C.at fun o q=>kk B (by simp) o q⟩
 item:=by
  intro X U g f l i pins s σ H E I G Y V;subst U g f;obtain⟨xs,x,R,j⟩:=V;obtain⟨t,M,J,hz⟩:=I.list R;have p:=J.isList;obtain⟨u,hu,ru⟩:=M.get j;obtain⟨⟨N,F⟩,C⟩:=Y;have ha: ∃o,s.heap.get? a=some o:=let ⟨o,q,_⟩:=p;⟨o,q⟩;have WE:a≠e:=by
   rintro rfl
   obtain⟨o,r,Z,_⟩:=p;rw[F] at r;cases r;injection Z with z;exact absurd z (by decide)
  have T:a≠B:=by
   rintro rfl
   obtain⟨o,r,Z,_⟩:=p;obtain⟨o',L,m,_⟩:=C;rw[L] at r;cases r;rw[m] at Z;injection Z with z;exact absurd z (by decide)
  have D:=vE (prog:=X.prog) (w:=X.w) (A:=X.A.in1) (I.ok.hd l) B a T t.toArray k;have hlen:i < t.length:=(ab0.mp hu).1;refine wpAny_pyNext_enum_itemD D F ⟨by lia,by rw[show i+k - k=i by lia];exact C,p⟩ (by simp;lia) O (by simp [O,Ne.symm WE]) fun y h' tk d ho He ht hsz hk=>?_;obtain⟨_,d⟩:=d;rw[show i+k - k=i by lia] at d;have ey:y=u:=by
   have:t[i]?=some y:=by simpa using d
   rw[hu] at this;cases this;rfl
  subst ey;refine⟨_,rfl,?_⟩;refine wpAny_letOwnedTupleGo_enum ho fun h2 WB S=>?_;have n:e < s.heap.objs.size:=ad7 F;have EY:B < s.heap.objs.size:=let ⟨o,q,_⟩:=C;ad7 q;have I1:Inv X pins σ (upd H s.heap.objs.size (.tup [.int ((i+k:Nat):Int),x])) {s with heap:=h2,toks:=tk+1}:=by
   refine I.ly (ch:= [e,B]) G (ab3 _) (fun b o c q=>?_) ⟨by show 2<=sizeLine;decide,[.int ((i+k:Nat):Int) tk,y],.cons ⟨_,rfl⟩ (.cons ru .nil),?_⟩
   . have h1:b≠e:=fun z=>c (by simp [z]);have vh:b≠B:=fun z=>c (by simp [z]);exact(S.2 b h1).trans (hk b o h1 vh q)
   . exact⟨_,(S.2 _ (aq2 n)).trans ht,rfl,rfl,_,rfl⟩
  refine⟨.ref s.heap.objs.size,_,I1,rfl,⟨_,x,rfl,I.bc.fresh (ab3 _),rfl,fun ys d=>by rw[I.u5 d R];exact j⟩,⟨⟨y,?_⟩,?_⟩,fun b c=>?_⟩
  . rw[show((i+1+k:Nat):Int)=((i+k:Nat):Int)+1 by lia];exact WB
  . obtain⟨_,q,_⟩:=He;rw[show i+k+1 - k=i+1 by lia] at q;exact q.at fun o z=>(S.2 B (Ne.symm O)).trans z
  . rw[ah (fun z=>?_)]
    . exact(G b c).1
    . rcases ab9.mp c with q | q
      . subst q;exact absurd (z▸n) (ag6 _)
      . have q:b=B:=by simpa using q
        subst q;exact absurd (z▸EY) (ag6 _)
 done:=by
  intro X U g f l i pins s σ H E I G Y V;subst U g f;obtain⟨xs,R,j⟩:=V;obtain⟨t,M,J,hz⟩:=I.list R;have p:=J.isList;obtain⟨⟨N,F⟩,C⟩:=Y;have T:a≠B:=by
   rintro rfl
   obtain⟨o,r,Z,_⟩:=p;obtain⟨o',L,m,_⟩:=C;rw[L] at r;cases r;rw[m] at Z;injection Z with z;exact absurd z (by decide)
  have hl:=M.length;have D:=vE (prog:=X.prog) (w:=X.w) (A:=X.A.in1) (I.ok.hd l) B a T t.toArray k;obtain⟨f0,f1,f2,f3,f4,f5⟩:=G B (by simp);refine wpAny_pyNext_enum_endD D F ⟨by simp,?_,p⟩ fun h' eb=>⟨rfl,I.turned (t':=s.toks) (fun b o c q=>eb b o c q) f0 f1 f3 f4 f5⟩
  rw[show t.toArray.size+k - k=i by simp;lia];exact C
 self:=fun A i s Q E Y h=>by
  obtain⟨⟨N,F⟩,_⟩:=Y;exact as8 F h
end
theorem sZ{x1}{k:Nat}(I:Inv X pins σ H s)(q:R (GW X.K p k) H):
  wpAny (model X.prog X.w) X.A (pyIter (.ref (s.heap.push {cls:= .type "list_iterator",data:= .fields #[.ref p,.int 0 0]}).objs.size)) (SW X pins σ (.Tuple es x1 tp) R) E {s with heap:=i8 s.heap p k,toks:=tk}:=by
 have z:(s.heap.push {cls:= .type "list_iterator",data:= .fields #[.ref p,.int 0 0]}).objs.size=s.heap.objs.size+1:=ag4 ..;have F:IsEnum (i8 s.heap p k) (s.heap.objs.size+1) s.heap.objs.size k .none:=by
  have:=ac9 (s.heap.push {cls:= .type "list_iterator",data:= .fields #[.ref p,.int 0 0]}) (o:={cls:= .type "enumerate",data:= .fields #[.none,.bool false,.ref s.heap.objs.size,rawInt k,.none,.none]}) rfl;rw[z] at this;exact this
 have J:(i8 s.heap p k).IsListIter s.heap.objs.size p 0:=⟨_,aa7 _ (ac9 _ rfl),rfl,rfl⟩
 rw[z];refine as8 F ?_;refine⟨s.heap.objs.size+1,[s.heap.objs.size+1,s.heap.objs.size],_,GW X.K p k,H,rfl,I.kept fun c o e=>aa7 _ (aa7 _ e),wG p _ _ k (Nat.succ_ne_self _),⟨⟨.none,?_⟩,J⟩,fun c l=>?_,q⟩
 . rw[Nat.zero_add];exact F
 . have g : s.heap.objs.size <= c := by
     rcases ab9.mp l with q | q
     . rw[q];exact ap4 _
     . have q:c=s.heap.objs.size:=by simpa using q
       rw[q];exact ab3 _
   exact I.sW g (I.bc.fresh g)
end L2
namespace LD
open PySem PySem.Spec L2 LB PyProof.Rows
theorem CK{K:PySem.W.Frag}{M:Addr->Prop}{H:Hp}{a:Addr}{k:Nat}(h:H a=some (.lst xs))(n: ¬M a)(r:aA M H xs ds):Yl M H (GW K a k) (aM k ds):=by
 have w:(aM k ds).length=ds.length:=by unfold aM;rw[aj6]
 refine⟨fun i l V Z Y d I=>?_,fun l Z=>⟨xs,cc.of (Z _ _ h n),by rw[r.1,w]⟩⟩;rw[w] at I;have A:=lU r Z d;have j:xs[i]?=some (xs[i]'(by rw[r.1];exact I)):=aa6 _;refine⟨⟨xs,_,cc.of (Z _ _ h n),j⟩,fun x C O=>?_⟩;obtain⟨m,y,u,z,X,c⟩:=O;subst u;subst X;have b:=c xs (cc.of (Z _ _ h n));have s:aD l (upd l m (.tup [.int ((i+k:Nat):Int),y])):=aD.new z;refine⟨s,_,by unfold aM;rw[ai8,aa6 I];rfl,Rep.hU af (Y.fresh z) (.cons (.int _) (.one ((A.2 i y _ b (aa6 I)).same s)))⟩
end LD
namespace LD
open PySem PySem.Spec L2 LB OF PyProof.Rows LW
theorem aA.rev(h:aA M H xs ds):aA M H xs.reverse ds.reverse:=by
 induction xs generalizing ds with
 | nil=>
  cases ds with
  | nil=>exact .nil
  | cons=>have:=h.1;simp at this
 | cons x xs ih=>
  cases ds with
  | nil=>have:=h.1;simp at this
  | cons d ds=>
   obtain⟨y,n,e,q,P⟩:=h.aG;cases e;rw[at1,at1];exact(ih P).append (.one q)
end LD
namespace LD
open PySem PySem.Spec L2 LB PyProof.Rows LW
theorem rN{st:Stmt}:Ex X st (fun _ _=>False):=fun a s b H D I f=>(by obtain⟨_,_,_,_,_,_,_,q⟩:=f;exact(q.elim))
end LD
namespace LD
open PySem PySem.Spec L2 LB OF PyProof.Rows
inductive CC:Dt->Prop where
 | aN:CC .aN
 | bl (b:Bool):CC (.bl b)
 | int (i:Int):CC (.int i)
 | str (x:Str):CC (.str x)
 | tup {ds:List Dt}:(∀d∈ds,CC d)->CC (.tup ds)
theorem Rep.Hj(r:Rep M H v d)(f:CC d)(Y:gZ M' H):Rep M' H v d:=by
 induction r with
 | aN=>exact .aN
 | bl b=>exact .bl b
 | int i=>exact .int i
 | str x=>exact .str x
 | lst h n l r ih=>cases f
 | tup h n l r ih=>
  cases f with
  | tup f=>exact .tup h (Y.tup h) l fun i x d j g=>ih i x d j g (f d (ac8 g))
 | Cv h n e l r ih=>cases f
 | pB h n e l r ih=>cases f
theorem aA.Hj(r:aA M H v d)(f: ∀x∈d,CC x)(Y:gZ M' H):aA M' H v d:=⟨r.1,fun i x e h g=>(r.2 i x e h g).Hj (f e (ac8 g)) Y⟩
inductive Co:Dt->Prop where
 | aN:Co .aN
 | bl (b:Bool):Co (.bl b)
 | int (i:Int):Co (.int i)
 | str (x:Str):Co (.str x)
theorem Rep.Hl(r:Rep M H v d)(f:Co d):Rep M' H' v d:=by
 cases f <;> cases r
 . exact .aN
 . exact .bl _
 . exact .int _
 . exact .str _
theorem aA.Hl(r:aA M H v d)(f: ∀x∈d,Co x):aA M' H' v d:=⟨r.1,fun i x e h g=>(r.2 i x e h g).Hl (f e (ac8 g))⟩
section
variable{X:Cx}{a b c e:Expr}{es:List Expr}{ta tb t:bJ}{pos p:Pos}{x:Str}{k:Nat}{ps:List Str}
def Xu(S:DN)(t:fJ):Ck:=fun i Q=>t i fun n j=>(∀d∈n,CC d)/\S n fun r=> ∃es,r= .lst es/\(∀d∈es,Co d)/\Q es j
theorem QD{S:DN}{t:fJ}(h:cj X.prog X.w X.K X.mg X.base x k ps (a0 S))(m:bC k X.A)(i:Av X (e::es) t)(T:Gl X x:=by rfl)
  (j:(x==("__debug__":Str))=false:=by decide) (O:starEach (e::es) X.env=(false,eval e X.env)::starEach es X.env:=by rfl) (B:(backTo pos (starEach es X.env)).any (·.1)=false:=by rfl):
  Ov X (.Call (.Name x p) (e::es) [] pos) (Xu S t):=PE.imp (jH h m T i j O B) fun σ H Q U=>(by obtain⟨W,M,α,δ,Qd,E,q,k⟩:=U;exact(
 ⟨W,M,α,δ,_,E,q,fun u δ' v vs I N D V=>(by obtain⟨J,R⟩:=I;exact(by
  show a0 S (vs++ []) v Q E0;rw[ag3];have Y:gZ (fun a=>M a\/ ∃o,v a=some o/\ ∀f,o≠ .tup f) v:=fun a z=>z.elim (N.al a) id;refine⟨_,u,_,Y,V.Hj J Y,R,fun r C v2 P s l=>?_⟩;obtain⟨es,G,d,Z⟩:=P;subst G;obtain⟨a,f,rfl,g,n,rr⟩:=l.cA;have L:v a=none:=by
   cases e:v a with
   | none=>rfl
   | some o=>
    have:=s _ _ e;rw[g] at this;cases this;exact absurd (.inr ⟨_,e,fun f z=>by cases z⟩) n
  have F:C=upd (fun b=>if b=a then none else C b) a (.lst f):=by
   funext b
   by_cases c:b=a
   . subst c;rw[af];exact g
   . rw[ah c,if_neg c]
  have y:aD v (fun b=>if b=a then none else C b):=fun b o e=>by
   have:b≠a:=fun z=>by subst z;rw[L] at e;cases e
   show(if b=a then none else C b)=some o;rw[if_neg this];exact s _ _ e
  rw[F];exact k _ _ _ _ _ Z (N.same y) (D.tr (dz.of y)) (rr.Hl d) (if_pos rfl)))⟩))
end
section
variable{X:Cx}{a b e:Expr}{t ta tk:bJ}{tA:fJ}{pos p apos cV:Pos}
inductive Tb(ds:List Dt)(Q:Dt->Prop):Prop
 | mk (ns:List Int) (h1:ds= [.lst (ns.map .int)]) (h2:Q (.int ns.sum))
theorem FW(l:X.calm=true)(A:X.mg "sum"=none)(d:Av X [e] tA)(S:Gl X "sum":=by rfl)(E:starEach [e] X.env=(false,eval e X.env)::starEach [] X.env:=by rfl)(w:(backTo pos (starEach [] X.env)).any (·.1)=false:=by rfl):
  Ev X (.Call (.Name "sum" p) [e] [] pos) (BR Tb tA):=gN (Gu l) (fun M H f o B Q Y r U k=>(by
 obtain⟨D,e,q⟩:=U;subst e;obtain⟨x,rfl,s⟩:=eJ r;obtain⟨a,C,rfl,d,n,y⟩:=s.cA;rw[ints_rep y] at d;exact⟨a,D,rfl,cc.of d,k H _ _ q (fun _ _ z=>z) (.int _)⟩)) S A B5 d (by decide) (by decide) E w
end
end LD
namespace L2
open PySem PySem.Spec PyProof.Rows
inductive yv(H:Hp):Nat->V->V->Bool->Prop
 | flat {k:Nat} {v w:V}:cJ v=true->cJ w=true->yv H k v w (oQ v w)
 | tup {k:Nat} {p q:Addr} {xs ys:List V} {e:Nat->Bool}:H p=some (.tup xs)->H q=some (.tup ys)->(∀(j:Nat) x y,xs[j]?=some x->ys[j]?=some y->yv H k x y (e j))->yv H (k+1) (.ref p) (.ref q) ((List.range (min xs.length ys.length)).all e && xs.length==ys.length)
 | lst {k:Nat} {p q:Addr} {xs ys:List V} {e:Nat->Bool}:H p=some (.lst xs)->H q=some (.lst ys)->(∀(j:Nat) x y,xs[j]?=some x->ys[j]?=some y->yv H k x y (e j))->yv H (k+1) (.ref p) (.ref q) ((List.range (min xs.length ys.length)).all e && xs.length==ys.length)
theorem Fy(h:cJ v=true):oQ v v=true:=by cases v <;> first | rfl | (show(_==_)=true;exact aj8 _) | cases h
theorem vV(h: ∀j,j < n->e j=true):((List.range (min n n)).all e && n==n)=true:=by
 rw[Nat.min_self,aj8,Bool.and_true,af6];exact fun j V=>h j (af9.mp V)
theorem yv.self: ∀{k:Nat} {v w:V} {b:Bool},yv H k v w b->v=w->b=true:=by
 intro k v w b h;induction h with
 | flat f1 f2=>intro e;subst e;exact Fy f1
 | tup h1 h2 _ ih=>
  intro e;cases e;rw[h1] at h2;cases h2;exact vV fun j W=>ih j _ _ (aa6 W) (aa6 W) rfl
 | lst h1 h2 _ ih=>
  intro e;cases e;rw[h1] at h2;cases h2;exact vV fun j W=>ih j _ _ (aa6 W) (aa6 W) rfl
theorem item_at(r:Vals xs ao)(h:j < ao.toArray.size): ∃x,xs[j]?=some x/\RelV x ao.toArray[j]:=by
 have w:=r.length;have V:j < ao.length:=by simpa using h
 obtain⟨u,e,J⟩:=r.get (i:=j) (x:=xs[j]'(by lia)) (aa6 _);refine⟨_,aa6 (by lia),?_⟩;have:ao.toArray[j]=u:=by have:=(ab0.mp e).2;simpa using this
 rw[this];exact J
theorem yv.at(I:Inv X pins σ H s): ∀{k:Nat} {v w:V} {b:Bool},yv H k v w b-> ∀{A:Around} {u u':Value},A.units+k < cLine->RelV v u->RelV w u'->SeqAt.EqAt A s u u' b:=by
 intro k v w b h;induction h with
 | flat f1 f2=>intro A u u' _ t P;exact xS t P f1 f2
 | @tup k p q xs ys e h1 h2 hc ih=>
  intro A u u' E t P;cases t;cases P;by_cases c:p=q
  . subst c;rw[(yv.tup h1 h2 hc).self rfl];exact SeqAt.EqAt.same _
  . obtain⟨C,r,J,_⟩:=I.tuple (dm.of h1);obtain⟨D,o,z,_⟩:=I.tuple (dm.of h2);have g:=SeqAt.RcAt.tuples (A:=A) (s:=s) (e:=e) (show s.heap.IsTuple p _ from J) (show s.heap.IsTuple q _ from z) (by lia) fun j d m=>by
     obtain⟨x,i,f⟩:=item_at r d;obtain⟨y,a,B⟩:=item_at o m;exact ih j x y i a (by show A.units+1+k < cLine;lia) f B
    rw[ac2,ac2,<-r.length,<-o.length] at g;exact SeqAt.EqAt.of_refs c g
 | @lst k p q xs ys e h1 h2 hc ih=>
  intro A u u' E t P;cases t;cases P;by_cases c:p=q
  . subst c;rw[(yv.lst h1 h2 hc).self rfl];exact SeqAt.EqAt.same _
  . obtain⟨C,r,J,_⟩:=I.list (cc.of h1);obtain⟨D,o,z,_⟩:=I.list (cc.of h2);refine SeqAt.EqAt.of_refs c ?_;by_cases l:xs.length=ys.length
    . have g := SeqAt.RcAt.lists (A := A) (s := s) (e := e) J.isList z.isList (by rw[ac2, ac2, <- r.length, <- o.length]; exact l) (by lia) fun j d m => by
        obtain⟨x,i,f⟩:=item_at r d;obtain⟨y,a,B⟩:=item_at o m;exact ih j x y i a (by show A.units+1+k < cLine;lia) f B
      rw[ac2,<-r.length] at g;rw[<-l,Nat.min_self,aj8,Bool.and_true];exact g
    . have n:(xs.length==ys.length)=false:=by simpa using l
      rw[n,Bool.and_false];exact SeqAt.RcAt.lists_lengths J.isList z.isList (by rw[ac2,ac2,<-r.length,<-o.length];simpa using l) (by lia)
end L2
namespace LD
open PySem PySem.Spec L2 LB PyProof.Rows
noncomputable def vz:Nat->Dt->Dt->Bool
 | k+1,.lst ds,.lst es=>(List.range (min ds.length es.length)).all (fun j=>vz k (ds.getD j .aN) (es.getD j .aN)) && ds.length==es.length
 | k+1,.tup ds,.tup es=>(List.range (min ds.length es.length)).all (fun j=>vz k (ds.getD j .aN) (es.getD j .aN)) && ds.length==es.length
 | _,d,e=>zE d e
inductive GH:Nat->Dt->Dt->Prop
 | flat {k:Nat} {d e:Dt}:bO d=true->bO e=true->GH k d e
 | tup {k:Nat} {ds es:List Dt}:(∀(j:Nat) d e,ds[j]?=some d->es[j]?=some e->GH k d e)->GH (k+1) (.tup ds) (.tup es)
 | lst {k:Nat} {ds es:List Dt}:(∀(j:Nat) d e,ds[j]?=some d->es[j]?=some e->GH k d e)->GH (k+1) (.lst ds) (.lst es)
theorem vy(h:bO d=true)(g:bO e=true):vz k d e=zE d e:=by
 cases k with
 | zero=>unfold vz;rfl
 | succ k=>cases d <;> cases e <;> first | (unfold vz;rfl) | cases h | cases g
theorem Oc(z:GH k d e): ∀{v w:V},Rep M H v d->Rep M H w e->yv H k v w (vz k d e):=by
 induction z with
 | flat f1 f2=>
  intro v w r P;rw[vy f1 f2,<-kL r P f1 f2];exact .flat (gr r f1) (gr P f2)
 | @tup k ds es _ ih=>
  intro v w r P;obtain⟨p,i,rfl,f,_,A⟩:=r.bM;obtain⟨q,n,rfl,g,_,Q⟩:=P.bM;show yv H (k+1) _ _ ((List.range (min ds.length es.length)).all (fun j=>vz k (ds.getD j .aN) (es.getD j .aN)) && ds.length==es.length);rw[<-A.1,<-Q.1];refine .tup f g fun j x y h a=>?_;have Y:j < ds.length:=by rw[<-A.1];exact(ab0.mp h).1
  have c:j < es.length:=by rw[<-Q.1];exact(ab0.mp a).1
  rw[show ds.getD j .aN=ds[j] by simp [List.getD,Y],show es.getD j .aN=es[j] by simp [List.getD,c]];exact ih j _ _ (aa6 Y) (aa6 c) (A.2 j _ _ h (aa6 Y)) (Q.2 j _ _ a (aa6 c))
 | @lst k ds es _ ih=>
  intro v w r P;obtain⟨p,i,rfl,f,_,A⟩:=r.cA;obtain⟨q,n,rfl,g,_,Q⟩:=P.cA;show yv H (k+1) _ _ ((List.range (min ds.length es.length)).all (fun j=>vz k (ds.getD j .aN) (es.getD j .aN)) && ds.length==es.length);rw[<-A.1,<-Q.1];refine .lst f g fun j x y h a=>?_;have Y:j < ds.length:=by rw[<-A.1];exact(ab0.mp h).1
  have c:j < es.length:=by rw[<-Q.1];exact(ab0.mp a).1
  rw[show ds.getD j .aN=ds[j] by simp [List.getD,Y],show es.getD j .aN=es[j] by simp [List.getD,c]];exact ih j _ _ (aa6 Y) (aa6 c) (A.2 j _ _ h (aa6 Y)) (Q.2 j _ _ a (aa6 c))
end LD
namespace L2
open PySem PySem.Spec LB PyProof.Rows
section
variable{X:Cx}
def Qc(k:Nat)(m:Bool):R2:=fun x y H Q=> ∃p q b,x= .ref p/\y= .ref q/\yv H (k+1) (.ref p) (.ref q) b/\Q (.bl (if m then !b else b)) H
theorem MC(D:X.A.units+(k+1) < cLine):g6 X (compareOp .NotEq) (Qc k true):=by
 intro f s E H x y v u Q I d t h;obtain⟨p,q,b,rfl,rfl,m,R⟩:=h;cases d;cases t;cases m with
 | flat f1 _=>cases f1
 | @tup _ _ _ xs ys e h1 h2 m=>
  obtain⟨B,r,J,_⟩:=I.tuple (dm.of h1);obtain⟨C,o,z,_⟩:=I.tuple (dm.of h2);have g:=SeqAt.RcNeAt.tuples (A:=X.A) (s:=s) (e:=e) (show s.heap.IsTuple p _ from J) (show s.heap.IsTuple q _ from z) (by lia) fun j c w=>by
   obtain⟨x,i,d⟩:=item_at r c;obtain⟨y,a,t⟩:=item_at o w;exact(m j x y i a).at I (by show X.A.units+1+k < cLine;lia) d t
  rw[ac2,ac2,<-r.length,<-o.length] at g;exact g _ _ _ _ ⟨.bl _,H,I,rfl,R⟩
 | @lst _ _ _ xs ys e h1 h2 m=>
  obtain⟨B,r,J,_⟩:=I.list (cc.of h1);obtain⟨C,o,z,_⟩:=I.list (cc.of h2);by_cases l:xs.length=ys.length
  . have g := SeqAt.RcNeAt.lists (A := X.A) (s := s) (e := e) J.isList z.isList (by rw[ac2, ac2, <- r.length, <- o.length]; exact l) (by lia) fun j c w => by
      obtain⟨x,i,d⟩:=item_at r c;obtain⟨y,a,t⟩:=item_at o w;exact(m j x y i a).at I (by show X.A.units+1+k < cLine;lia) d t
    rw[ac2,<-r.length] at g;rw[<-l,Nat.min_self,aj8,Bool.and_true] at R;exact g _ _ _ _ ⟨.bl _,H,I,rfl,R⟩
  . have n:(xs.length==ys.length)=false:=by simpa using l
    rw[n,Bool.and_false] at R;exact(SeqAt.RcNeAt.lists_lengths J.isList z.isList (by rw[ac2,ac2,<-r.length,<-o.length];simpa using l) (by lia)) _ _ _ _ ⟨.bl _,H,I,rfl,R⟩
end
end L2
namespace LD
open PySem PySem.Spec L2 LB PyProof.Rows
section
variable{X:Cx}{a b e:Expr}{ta tb t:bJ}{tA:fJ}{pos p apos cV:Pos}
inductive Ln(k:Nat)(neg:Bool)(d1 d2:Dt)(Q:Dt->Prop):Prop
 | mk (h1:bO d1=false) (h2:GH (k+1) d1 d2) (h3:Q (.bl (if neg then !vz (k+1) d1 d2 else vz (k+1) d1 d2)))
theorem NN:yu (Qc k neg) (Ln k neg):=fun M H x y O m B Q Y r P s h=>(by
 obtain⟨f,g,q⟩:=s;have c:=Oc g r P;have v: ∃p q,x= .ref p/\y= .ref q:=by
  cases g with
  | flat f1 _=>rw[f1] at f;cases f
  | tup _=>obtain⟨p,_,e,_⟩:=r.bM;obtain⟨q,_,A,_⟩:=P.bM;exact⟨p,q,e,A⟩
  | lst _=>obtain⟨p,_,e,_⟩:=r.cA;obtain⟨q,_,A,_⟩:=P.cA;exact⟨p,q,e,A⟩
 obtain⟨p,V,rfl,rfl⟩:=v;exact⟨p,V,_,rfl,rfl,c,h H _ _ q (fun _ _ z=>z) (.bl _)⟩)
theorem Kn(k:Nat)(l:X.A.units+(k+1) < cLine)(d:Ev X a ta)(c:Ev X b tb):Tv X (.Compare a [.NotEq] [b] pos) (dT (nh (Ln k true) ta tb)):=gM (MC l) NN d c (dF _)
end
end LD
namespace LD
open PySem PySem.Spec L2 LB PyProof.Rows LW
noncomputable def S9(C:Addr)(A:List (Str × Dt)):TY where
 rel:=fun M H v E=>E= []/\ ∃x D t,v= .ref x/\H x=some (.ins C D t)/\ ¬M x/\t.map (·.1)=A.map (·.1)/\aA M H (t.map (·.2)) (A.map (·.2))
 st:=fun z _ k=>by
  obtain⟨e,x,D,t,o,h,n,l,r⟩:=z;exact⟨e,x,D,t,o,(k _ _ h n).1,(k _ _ h n).2,l,r.mono k⟩
theorem oo: ∀{vs:List (Str × V)} {fs:List (Str × Dt)},vs.map (·.1)=fs.map (·.1)->aA M H (vs.map (·.2)) (fs.map (·.2))->(fs.lookup f=none->vs.lookup f=none)/\ ∀d,fs.lookup f=some d-> ∃v,vs.lookup f=some v/\Rep M H v d
 | [],[],_,_=>⟨fun _=>rfl,fun d h=>by cases h⟩
 | [],_::_,l,_=>by cases l
 | _::_,[],l,_=>by cases l
 | (k,v)::vs,(k',d)::fs,l,r=>by
  rw[ad5,ad5] at l;injection l with Y l2
  have Y:k=k':=Y;subst Y;rw[ad5,ad5] at r;obtain⟨x,n,e,g,j⟩:=r.aG;injection e with u e2
  have u:v=x:=u;subst u e2;obtain⟨a,b⟩:=oo (f:=f) l2 j;by_cases c:f=k
  . subst c;simp only [ae7,aj8];exact⟨(fun z=>by cases z),fun i h=>⟨v,rfl,by cases h;exact g⟩⟩
  . have:(f==k)=false:=ah6.mpr c;simp only [ae7,this];exact⟨a,b⟩
def pU(M:Addr->Prop)(H:Hp)(vs:List V)(ss:List Sl):Prop:=vs.length=ss.length/\ ∀(i:Nat) v s,vs[i]?=some v->ss[i]?=some s->nu M H (some v) s []/\s.bz=false
theorem pU.nil:pU M H [] []:=⟨rfl,fun i v s h=>by simp at h⟩
theorem pU.cons{M:Addr->Prop}{H:Hp}{v:V}{s:Sl}{vs:List V}{ss:List Sl}(h:nu M H (some v) s [])(S:s.bz=false)(r:pU M H vs ss):pU M H (v::vs) (s::ss):=
 ⟨by rw[ad3,ad3,r.1],fun i y t f g=>by
  cases i with
  | zero=>cases f;cases g;exact⟨h,S⟩
  | succ j=>exact r.2 j y t (by simpa using f) (by simpa using g)⟩
abbrev DS:=List Sl->(Dt->Prop)->Prop
def spS(S:DS):Sp:=fun t H Q _=> ∃M I y,gZ M H/\pU M H t I/\S I y/\ ∀r v F,y r->aD H v->Rep M v F r->Q F v
theorem jN(Y:gZ M H)(r:pU M H vs ss)(w: ∀W∈Ws,TR W M (List.replicate (ss.length+n) []) H (ss++List.replicate n .no)):
  aB Ws M (List.replicate (ss.length+n) []) H (vs.map some++List.replicate n none) (ss++List.replicate n .no):=by
 have b:(List.replicate (ss.length+n) ([]:List Addr)).flatten= []:=by simp
 refine⟨by simp [r.1],by simp,fun i s h=>?_,by rw[b];exact aj4,fun a d=>by rw[b] at d;exact absurd d aa8,Y,w⟩;have I:=(ab0.mp h).1;rw[ac1,ah5] at I;have d:(List.replicate (ss.length+n) ([]:List Addr))[i]?=some []:=by rw[ad2,if_pos I]
 by_cases x:i < ss.length
 . rw[ae4 x] at h;have c:vs[i]?=some (vs[i]'(by rw[r.1];exact x)):=aa6 _;exact⟨_,[],by rw[ae4 (by rw[aa4,r.1];exact x),aa9,c];rfl,d,(r.2 i _ s c h).1⟩
 . rw[af2 (by omega),ad2] at h;split at h
   . rename_i g;cases h;exact⟨none,[],by rw[af2 (by rw[aa4,r.1];omega),ad2,if_pos (by rw[aa4,r.1];exact g)],d,rfl⟩
   . cases h
theorem pX:TR ⟨H,fun _=>False,M,M,none⟩ M (List.replicate k []) H δ:=by
 have i:(List.replicate k ([]:List Addr)).flatten= []:=by simp
 refine⟨fun b o e _=>e,fun b n=>n,fun a f=>by rw[i] at f;exact absurd f aa8,fun a h=>h,fun a h=> .inl h,fun d c e=>(by cases e),fun j s C l g _ a f=>?_⟩;rw[ad2] at g;split at g
 . cases g;exact absurd f aa8
 . cases g
section
variable{P:Program}{w:World}{K:PySem.W.Frag}{mg:Str->Option Value}{base:Heap}
theorem uw{N ps:List Str}(r:pU M H vs ss)(l:ss.length=ps.length):L2.start N vs=vs.map some++List.replicate (N.length - ps.length) none:=by unfold L2.start;rw[r.1,l]
theorem RG {x qual : Str} {st : Stmt} {k : Nat} (F : dj K x qual st f fd) (g : av N ps (ab st)) (u : ∀ I B, S I B -> I.length = ps.length) (Z : ∀ (bq : Value) (A : Around) (outer : List Env) (s : Shared) (H : Hp) (E : XK), bC k (A.deeper (envOfC qual (ab st) s.heap.objs.size f bq)) ->
   ∃T,CD (mO bD P w K mg base N qual (ab st) f bq A outer s H E).Hd (aS st) T/\ ∀I B,S I B->T {nx:=fun _=>B .aN,rt:=fun d _=>B d} (I++List.replicate (N.length - ps.length) .no)):
  aK P w K mg base bD (k+1) f fd ps (spS S):=by
 refine F.ok g (fun t H Q E h=>?_) (fun bq A outer s H t Q E m h=>?_)
 . obtain⟨M,I,B,Y,r,q,_⟩:=h;rw[r.1];exact u I B q
 . obtain⟨M,I,B,Y,r,q,J⟩:=h;obtain⟨T,D,R⟩:=Z bq A outer s H E m;refine⟨lS T,D,[⟨H,fun _=>False,M,M,none⟩],M,List.replicate (I.length+(N.length - ps.length)) [],I++List.replicate (N.length - ps.length) .no,_,?_,?_,R I B q⟩
   . rw[uw r (u I B q)];exact jN Y r fun W c=>by rw[ab1.mp c];exact pX
   . have y : ∀ {V i C X j}, aB [⟨H, fun _ => False, M, M, none⟩] V i C X j -> aD H C /\ ∀ a, M a -> V a := fun U => by
       have k:=U.w _ (ab1.mpr rfl);exact⟨fun b o e=>k.bs b o e (fun z=>z),k.m0⟩
     refine⟨fun V i C X j U q=>J _ _ _ q (y U).1 .aN,fun V i C X j v d U G q=>J _ _ _ q (y U).1 (G.mono fun a o e n=>⟨e,fun z=>n ((y U).2 a z)⟩),fun _ _ _ _ _ _ z=>z.elim,fun _ _ _ _ _ _ z=>z.elim⟩
def i5(P:Program)(w:World)(K:PySem.W.Frag)(mg:Str->Option Value)(base:Heap)(CX:Ho)(C:Addr)(m:Str)(k:Nat)(ps:List Str)(sp:Sp):Prop:=
 ∃f V,Cm K C/\Meth K C m f/\Binds K V ps []/\aK P w K mg base CX k f V ps sp
end
section
variable{X:Cx}{y m f:Str}{yp pos apos:Pos}
inductive So(K:PySem.W.Frag)(i:Nat)(f:Str)(δ:List Sl)(Q:Dt->List Sl->Prop):Prop
 | mk (C:Addr) (fs:List (Str × Dt)) (d:Dt) (h1:δ[i]?=some (.ob (S9 C fs))) (h2:fs.lookup f=some d) (h3:Cm K C) (h4:gS K C f) (h5:Q d δ)
theorem lZ(i:Nat)(j:PE X (.Name y yp) (fV i))(c:attributeBase (.Name y yp) f X.env (eval (.Name y yp) X.env)=eval (.Name y yp) X.env:=by rfl):Ev X (.Attribute (.Name y yp) f pos) (So X.K i f):=PE.imp (rY j c) fun b H Q U=>(by
 obtain⟨W,M,O,u,z,E,⟨C,A,d,g,h,T,I,q⟩,k⟩:=U;obtain⟨o,F,J,w,v,rfl,N,x,D,t,rfl,p,n,l,r⟩:=E.sl i _ g;obtain⟨v,e,s⟩:=(oo (f:=f) l r).2 d h;exact⟨_,J,x,C,D,t,v,rfl,p,T,I,e,k _ _ _ _ q E dz.rf s⟩)
inductive Xn(S:DS)(C:Addr)(i:Nat)(m:Str)(δ:List Sl)(Q:Dt->List Sl->Prop):Prop
 | mk (fs:List (Str × Dt)) (h1:δ[i]?=some (.ob (S9 C fs))) (h2:fs.lookup m=none) (h3:S [.ob (S9 C fs)] fun r=>Q r δ)
theorem RZ (i : Nat) (h : i5 X.prog X.w X.K X.mg X.base bD C m k ps (spS S)) (G : bC k X.A) (u : PE X (.Name y yp) (fV i)) (I : eval (.Call (.Attribute (.Name y yp) m apos) [] [] pos) X.env = (do
   let Y<-eval (.Name y yp) X.env
   standAt apos.atName
   let (f,first)<-holding [Y] (getMethod Y m pl)
   callWith pos f first (backTo pos (starEach [] X.env)) (backToKw pos (keywordEach [] X.env))):=by rfl):Ev X (.Call (.Attribute (.Name y yp) m apos) [] [] pos) (Xn S C i m):=by
 obtain⟨f,Z,s,B,c,F⟩:=h;refine PE.imp (nY u s B F G c .nil n4 I) fun σ H Q U=>?_;obtain⟨W,M,d,e,P,E,⟨z,g,p,q⟩,k⟩:=U;obtain⟨o,R,J,a,v,rfl,T,x,D,t,rfl,j,n,l,r⟩:=E.sl i _ g;refine⟨_,J,x,D,t,rfl,j,(oo (f:=m) l r).1 p,?_⟩;show spS S ([V.ref x]++ []) H Q E0;exact⟨M,[.ob (S9 C z)],_,E.al,.cons ⟨_,rfl,rfl,x,D,t,rfl,j,n,l,r⟩ rfl .nil,q,fun r O b L J N=>k _ _ _ _ L (E.same J) (dz.of J) N⟩
end
abbrev T3:=List Sl->(List Dt->Prop)->Prop
def rD(S:T3):Sp:=fun t H Q _=> ∃M I y,gZ M H/\pU M H t I/\S I y/\ ∀n k e a,y n->aD H k->k a=none->aA M k e n->Q (.ref a) (upd k a (.lst e))
section
variable{P:Program}{w:World}{K:PySem.W.Frag}{mg:Str->Option Value}{base:Heap}
theorem RF {x qual : Str} {st : Stmt} {k : Nat} (R : aS st = [.Return (some e) pos]) (F : dj K x qual st f fd) (c : av N ps (ab st)) (u : ∀ I y, S I y -> I.length = ps.length) (T : ∀ (bq : Value) (A : Around) (outer : List Env) (s : Shared) (H : Hp) (E : XK), bC k (A.deeper (envOfC qual (ab st) s.heap.objs.size f bq)) ->
   ∃t,Ov (mO bD P w K mg base N qual (ab st) f bq A outer s H E).Hd e t/\ ∀I y,S I y->t (I++List.replicate (N.length - ps.length) .no) (fun n _=>y n)):
  aK P w K mg base bD (k+1) f fd ps (rD S):=by
 refine F.ok c (fun C H Q E h=>?_) (fun bq A outer s H C Q E m h=>?_)
 . obtain⟨M,I,y,Y,r,q,_⟩:=h;rw[r.1];exact u I y q
 . obtain⟨M,I,y,Y,r,q,J⟩:=h;obtain⟨t,v,V⟩:=T bq A outer s H E m;rw[R];refine⟨_,eI (nV v),[⟨H,fun _=>False,M,M,none⟩],M,List.replicate (I.length+(N.length - ps.length)) [],I++List.replicate (N.length - ps.length) .no,_,?_,V I y q,?_⟩
   . rw[uw r (u I y q)];exact jN Y r fun W U=>by rw[ab1.mp U];exact pX
   . intro n j l i a p O D B g;refine J n l i a p (fun b o e=>?_) g B;have k:=O.w _ (ab1.mpr rfl);exact k.bs b o e (fun z=>z)
end
end LD
namespace L2
open PySem PySem.Spec PyProof.Rows
def v8(P:Program)(w:World)(K:PySem.W.Frag)(A:Str->Option Value)(base:Heap)(f:Addr)(k:Nat)(ps:List Str)(sp:Sp):Prop:=
 ∃V,PySem.W.keepIn K (.ref f)=true/\Binds K V ps []/\aK P w K A base bD k f V ps sp
section
variable{X:Cx}{f:Addr}{k i:Nat}{ps:List Str}{sp:Sp}{x:Str}{p pos:Pos}{e:Expr}{es:List Expr}{t:TA}
def LS(f:Addr)(sp:Sp)(i:Nat)(t:TA):TE:=fun b H Q=>b[i]?=some (some (.ref f))/\t b H fun u l=>sp u l Q E0
theorem D0(h:v8 X.prog X.w X.K X.mg X.base f k ps sp)(m:bC k X.A)(g:PE X (.Name x p) (fV i))(d:PA X (e::es) t)
  (E:starEach (e::es) X.env=(false,eval e X.env)::starEach es X.env:=by rfl) (B:(backTo pos (starEach es X.env)).any (·.1)=false:=by rfl):
  PE X (.Call (.Name x p) (e::es) [] pos) (LS f sp i t):=by
 obtain⟨V,S,c,F⟩:=h;intro a s b H Q I R;obtain⟨y,q⟩:=R;refine al7 (aP (g a s b H (fun v l=>v= .ref f/\t b l fun z C=>sp z C Q E0) I ⟨_,y,rfl,q⟩) fun u L M=>?_);obtain⟨v,l,W,G,n,o⟩:=M;subst n;obtain rfl:u=Value.ref f:=G;refine ar9 (h₀:=X.base) I.ok.mod.OW S (aP (d pos a L b l _ W o) fun O N D=>?_) E B;obtain⟨z,C,J,r,Z⟩:=D;refine⟨J.xD,?_⟩;exact rV (dvs:= []) (ds:= []) F m c .nil n4 J r (by rw[ag3];exact Z)
end
end L2
namespace LD
open PySem PySem.Spec L2 LB PyProof.Rows LW
abbrev G5:=List Sl->(List Sl->List Sl->Prop)->Prop
inductive lW(t:G5)(σ:L2.St)(H:Hp)(Q:List V->Hp->Prop):Prop
 | mk (W:List Wd) (M:Addr->Prop) (α:List (List Addr)) (δ:List Sl) (Qd:List Sl->List Sl->Prop) (h1:aB W M α H σ δ) (h2:t δ Qd) (h3: ∀ss δ' H' vs,Qd ss δ'->aB W M α H' σ δ'->dz α H H'->pU M H' vs ss->Q vs H')
abbrev Wv(X:Cx)(B:List Expr)(t:G5):Prop:=PA X B (lW t)
section
variable{X:Cx}{e:Expr}{es:List Expr}{te:bJ}{t:G5}{tA:fJ}{y x:Str}{yp p pos:Pos}{f:Addr}{k:Nat}{ps:List Str}{S:DS}{S1:DN}
def UI:G5:=fun i Q=>Q [] i
def Z7(te:bJ)(t:G5):G5:=fun i Q=>te i fun d B=>t B fun H O=>Q (.im d::H) O
def Z9(f:Addr)(i:Nat)(t:G5):G5:=fun j Q=>j[i]?=some (.fn f)/\t j fun H O=>Q (.fn f::H) O
def Z8(f:Addr)(t:G5):G5:=fun i Q=>t i fun H O=>Q (.fn f::H) O
theorem Kj:Wv X [] UI:=PA.imp bQ fun b H Q s=>(by obtain⟨W,M,N,i,z,E,q,k⟩:=s;exact k _ _ _ _ q E dz.rf .nil)
theorem Pk(F:Ev X e te)(m:Wv X es t)(hs:starEach (e::es) X.env=(false,eval e X.env)::starEach es X.env:=by rfl):Wv X (e::es) (Z7 te t):=PA.imp (a8 F m hs) fun b H Q w=>(by
 obtain⟨W,M,O,i,z,E,q,k⟩:=w;exact⟨W,M,O,i,_,E,q,fun d B l v o N D r=>⟨W,M,O,B,_,N,o,fun I R C A Z g u P=>k _ _ _ _ Z g (D.tr u) (.cons (s:= .im d) ⟨rfl,v,rfl,r.chg N u⟩ rfl P)⟩⟩)
theorem Pn(i:Nat)(l:PE X (.Name y yp) (fV i))(m:Wv X es t)(hs:starEach (.Name y yp::es) X.env=(false,eval (.Name y yp) X.env)::starEach es X.env:=by rfl):Wv X (.Name y yp::es) (Z9 f i t):=PA.imp (a8 l m hs) fun b H Q v=>(by
 obtain⟨W,M,N,n,z,E,⟨h,q⟩,k⟩:=v;obtain⟨o,D,J,w,R,j⟩:=E.sl i _ h;subst j;exact⟨_,J,W,M,N,n,_,E,q,fun I O C A Z d u P=>k _ _ _ _ Z d u (.cons (s:= .fn f) ⟨rfl,rfl⟩ rfl P)⟩)
theorem Pl(T:Gl X x)(z:X.mg x=some (.ref f))(m:Wv X es t)(g:(x==("__debug__":Str))=false:=by decide)(hs:starEach (.Name x p::es) X.env=(false,eval (.Name x p) X.env)::starEach es X.env:=by rfl):Wv X (.Name x p::es) (Z8 f t):=PA.imp (a8 (Ik (v:= .ref f) T z rfl g) m hs) fun b H Q w=>(by
 obtain⟨W,M,N,i,A,E,q,k⟩:=w;exact⟨W,M,N,i,_,E,q,fun I O C B Z d u P=>k _ _ _ _ Z d u (.cons (s:= .fn f) ⟨rfl,rfl⟩ rfl P)⟩)
def dCS(S:DS)(t:G5):bJ:=fun i Q=>t i fun H j=>S H fun r=>Q r j
theorem K9(h:cj X.prog X.w X.K X.mg X.base x k ps (spS S))(m:bC k X.A)(d:Wv X (e::es) t)(T:Gl X x:=by rfl)
  (g:(x==("__debug__":Str))=false:=by decide) (F:starEach (e::es) X.env=(false,eval e X.env)::starEach es X.env:=by rfl) (z:(backTo pos (starEach es X.env)).any (·.1)=false:=by rfl):
  Ev X (.Call (.Name x p) (e::es) [] pos) (dCS S t):=PE.imp (jH h m T d g F z) fun b H Q C=>(by
 obtain⟨W,M,O,i,J,E,q,k⟩:=C;refine⟨W,M,O,i,_,E,q,fun I j v B o N D u=>?_⟩;show spS S (B++ []) v Q E0;rw[ag3];exact⟨M,I,_,N.al,u,o,fun r G L Z s P=>k _ _ _ _ Z (N.same s) (D.tr (dz.of s)) P⟩)
def Xt(f:Addr)(S1:DN)(i:Nat)(tA:fJ):bJ:=fun l Q=>l[i]?=some (.fn f)/\tA l fun n j=>S1 n fun r=>Q r j
theorem iZ(i:Nat)(h:v8 X.prog X.w X.K X.mg X.base f k ps (a0 S1))(m:bC k X.A)(l:PE X (.Name y yp) (fV i))(d:Av X (e::es) tA)
  (F:starEach (e::es) X.env=(false,eval e X.env)::starEach es X.env:=by rfl) (z:(backTo pos (starEach es X.env)).any (·.1)=false:=by rfl):
  Ev X (.Call (.Name y yp) (e::es) [] pos) (Xt f S1 i tA):=PE.imp (D0 h m l d F z) fun c H Q C=>(by
 obtain⟨W,M,O,G,T,E,⟨u,q⟩,k⟩:=C;obtain⟨o,U,J,Y,V,j⟩:=E.sl i _ u;subst j;refine⟨J,W,M,O,G,_,E,q,fun n I L b v N D B=>?_⟩;exact⟨M,n,_,N.al,B,v,fun r R a Z s P=>k _ _ _ _ Z (N.same s) (D.tr (dz.of s)) P⟩)
end
noncomputable def zu:List Dt->Option (List Key)
 | []=>some []
 | d::ds=>match QQ d,zu ds with
  | some k,some ks=>some (k::ks)
  | _,_=>none
noncomputable def IZ:Dt->Option (List Key)
 | .tup ds=>zu ds
 | _=>none
theorem u7: ∀{ds:List Dt} {vs:List V} {ks:List Key},aA M H vs ds->zu ds=some ks->vs=ks.map kV
 | [],vs,ks,r,h=>by cases h;cases r.cG;rfl
 | d::ds,vs,ks,r,h=>by
  obtain⟨x,n,rfl,e,j⟩:=r.aG;unfold zu at h;split at h
  . rename_i k w f g;cases h;rw[IY e f,u7 j g];rfl
  . cases h
theorem oA(r:Rep M H v d)(h:IZ d=some k): ∃b,v= .ref b/\H b=some (.tup (k.map kV)):=by
 cases d with
 | tup ds=>
  obtain⟨b,e,rfl,c,n,w⟩:=r.bM;rw[u7 w h] at c;exact⟨b,rfl,c⟩
 | _=>cases h
noncomputable def Aq:List (List Key)->List Dt->List Key->Option Dt
 | k'::ks,d::ds,k=>if k'=k then some d else Aq ks ds k
 | _,_,_=>none
theorem ua: ∀{vs:List (List Key × V)} {ds:List Dt} {d:Dt},aA M H (vs.map (·.2)) ds->Aq (vs.map (·.1)) ds k=some d-> ∃v,gx vs k=some v/\Rep M H v d
 | [],ds,d,r,h=>by cases ds <;> cases h
 | (k',v)::vs,[],d,r,h=>by cases h
 | (k',v)::vs,d'::ds,d,r,h=>by
  obtain⟨x,n,e,f,j⟩:=r.aG;rw[ad5] at e;injection e with w e2
  have w:v=x:=w;subst w e2;rw[ad5,Aq] at h;by_cases c:k'=k
  . rw[if_pos c] at h;cases h;exact⟨v,by unfold gx;rw[List.find?_cons_of_pos (by simpa using c)];rfl,f⟩
  . rw[if_neg c] at h;obtain⟨u,l,J⟩:=ua j h;exact⟨u,by unfold gx at l ⊢;rw[List.find?_cons_of_neg (by simpa using c)];exact l,J⟩
theorem uL [DecidableEq κ]{x:List (κ × V)}(h:k∉x.map (·.1)):putK x k v=x++ [(k,v)]:=by
 unfold putK;rw[if_neg];intro z;obtain⟨y,m,e⟩:=List.any_eq_true.mp z;exact h (ab6.mpr ⟨y,m,by simpa using e⟩)
noncomputable def TD(ks:List (List Key))(ds:List Dt):TY where
 rel:=fun M H v C=> ∃a t,C= [a]/\v= .ref a/\H a=some (.dT t)/\t.map (·.1)=ks/\aA M H (t.map (·.2)) ds
 st:=fun z p k=>by
  obtain⟨a,t,rfl,n,h,e,r⟩:=z;exact⟨a,t,rfl,n,p a (by simp) _ h,e,r.mono k⟩
noncomputable abbrev td (ks:List (List Key)) (ds:List Dt):Sl:= .ob (TD ks ds)
section
variable{X:Cx}{a b e:Expr}{ta tb tv t:bJ}{x:Str}{xp pos pos':Pos}
inductive JG(Q:Dt->List Sl->Prop)(d1 d2:Dt)(δ2:List Sl):Prop
 | mk (ks:List (List Key)) (ds:List Dt) (k:List Key) (d:Dt) (h1:d1= .pB ks ds) (h2:IZ d2=some k) (h3:Aq ks ds k=some d) (h4:Q d δ2)
def R5(ta tb:bJ):bJ:=fun i Q=>ta i fun P B=>tb B fun m O=>JG Q P m O
theorem iX(l:X.A.units+1 < cLine)(f:Ev X a ta)(c:Ev X b tb)(hs:OA b:=by exact fun _ _=>rfl):Ev X (.Subscript a b pos) (R5 ta tb):=PE.imp (ky l f c hs) fun σ H Q s=>(by
 obtain⟨W,M,O,i,I,E,q,k⟩:=s;refine⟨W,M,O,i,_,E,q,fun T B m x p N D r=>⟨W,M,O,B,_,N,p,fun J S G y s g u P=>?_⟩⟩;obtain⟨Y,L,V,d,e,R,h,Z⟩:=s;subst e;obtain⟨a,j,rfl,f,n,z,C⟩:=(r.chg N u).QC;subst z;obtain⟨v,o,F⟩:=ua C h;obtain⟨U,rfl,w⟩:=oA P R;exact⟨a,v,rfl,by rw[<-o];exact mQ.t f w,k _ _ _ _ Z g (D.tr u) F⟩)
inductive R4(i:Nat)(Δ:dX)(δ:List Sl):Prop
 | mk (h1:bZ δ i) (h2:Δ.nx (δ.set i (td [] [])))
theorem Dm(i:Nat)(r:X.N.Nodup)(hi:X.N[i]?=some x:=by rfl)(h:Loc X.env.scope x:=by first | exact Or.inl rfl | exact Or.inr rfl)(hs:swapsWith (.Dict [] [] pos') (some (.Name x xp)) pos.line X.env=pure false:=by rfl)(u:X.fn x=true\/X.env.scope.names.lookup x=some .local:=by first | exact .inl rfl | exact .inr rfl | assumption):
  Ex X (.Assign [.Name x xp] (.Dict [] [] pos') pos) (R4 i):=PS.imp (dY r hi h DW hs u) fun D c H y=>(by
 obtain⟨l,M,P,j,O,E,L,w,q⟩:=y;intro p v;exact L.nx _ _ _ _ _ (E.rJ (s:=td [] []) v (fun f z=>by cases z) w rfl ⟨_,rfl,p,[],rfl,rfl,af,rfl,.nil⟩) q)
theorem uo{i:Nat}(E:aB W M α H σ δ)(h:δ[i]?=some (td ks ds)): ∃a u,σ[i]?=some (some (.ref a))/\α[i]?=some [a]/\H a=some (.dT u)/\u.map (·.1)=ks/\aA M H (u.map (·.2)) ds:=by
 obtain⟨o,C,J,w,v,rfl,a,u,rfl,rfl,f,g,T⟩:=E.sl i _ h;exact⟨a,u,J,w,f,g,T⟩
inductive zP(i:Nat)(Δ:dX)(d d2:Dt)(δ2:List Sl):Prop
 | mk (k:List Key) (ks:List (List Key)) (ds:List Dt) (h1:IZ d2=some k) (h2:δ2[i]?=some (td ks ds)) (h3:ks.length < sizeLine) (h4:k∉ks) (h5:Δ.nx (δ2.set i (td (ks++ [k]) (ds++ [d]))))
def R3(i:Nat)(tb tv:bJ):mf:=fun N j=>tv j fun d B=>(∃y M,B[i]?=some (td y M))/\tb B fun m O=>zP i N d m O
theorem rM(i:Nat)(T:X.A.units+1 < cLine)(J:PE X (.Name x xp) (fV i))(c:Ev X b tb)(U:Ev X e tv)(hs:swapsWith e (some (.Subscript (.Name x xp) b pos')) pos.line X.env=pure false:=by rfl):
  Ex X (.Assign [.Subscript (.Name x xp) b pos'] e pos) (R3 i tb tv):=PS.imp (y6 T J c U hs) fun D σ H s=>(by
 obtain⟨m,M,P,δ,Δ,E,L,q⟩:=s;refine⟨m,M,P,δ,_,E,q,fun d F H1 v s N c1 r1=>?_⟩;obtain⟨⟨Yn,K4,p⟩,Z⟩:=s;obtain⟨a,vs0,g,h2,h3,h4,r3⟩:=uo N p;refine⟨_,g,m,M,P,F,_,N,Z,fun d2 δ2 C y s f I r2=>?_⟩;obtain⟨k,ks,o,S,r,l,W,q2⟩:=s;obtain⟨a',w,h,O,j,B,R⟩:=uo f r;rw[g] at h;cases h;obtain⟨kb,rfl,G⟩:=oA r2 S;subst B;refine⟨a,_,rfl,pw.t j G (by rw[aa4] at l;exact l),?_⟩;rw[uL W];have V:M a:=f.mu a (bj O (by simp));have Y: ∀b u,C b=some u-> ¬M b->upd C a (.dT (w++ [(k,v)])) b=some u/\ ¬M b:=fun b u e n=>⟨by rw[ah (fun z=>n (by rw[z];exact V))];exact e,n⟩
 obtain⟨Q,_⟩:=f.mod (s':=td (w.map (·.1)++ [k]) (o++ [d])) (H':=upd C a (.dT (w++ [(k,v)]))) r g O rfl ⟨_,rfl,a,w++ [(k,v)],rfl,rfl,af,by rw[ac5];rfl,by
   rw[ac5];exact(R.mono Y).append (.one ((r1.chg N I).mono Y))⟩ (fun b u e n=>by rw[ah (fun z=>n (by rw[z];simp))];exact e) (fun b c=>by rw[ab1.mp c];exact⟨_,af,fun xs z=>by cases z⟩)
 exact L.nx _ _ _ _ _ Q q2)
inductive fC:List Sl->List Sl->Prop
 | nil:fC [] []
 | no {δ δ0:List Sl}:fC δ δ0->fC (.no::δ) (.no::δ0)
 | im {d:Dt} {δ δ0:List Sl}:fC δ δ0->fC (.im d::δ) (.im d::δ0)
 | fn {f:Addr} {δ δ0:List Sl}:fC δ δ0->fC (.fn f::δ) (.fn f::δ0)
 | td {ks:List (List Key)} {ds:List Dt} {δ δ0:List Sl}:fC δ δ0->fC (td ks ds::δ) (.im (.pB ks ds)::δ0)
theorem fC.len(h:fC δ δ0):δ.length=δ0.length:=by induction h <;> simp_all
theorem fC.at(h:fC δ δ0): ∀{i:Nat} {s0:Sl},δ0[i]?=some s0->(δ[i]?=some s0/\(s0= .no\/(∃d,s0= .im d)\/ ∃f,s0= .fn f))\/ ∃B n,δ[i]?=some (LD.td B n)/\s0= .im (.pB B n):=by
 induction h with
 | nil=>intro i s0 h;simp at h
 | no _ ih=>intro i s0 h;cases i with
  | zero=>cases h;exact .inl ⟨rfl,.inl rfl⟩
  | succ i=>simpa using ih (by simpa using h)
 | im _ ih=>intro i s0 h;cases i with
  | zero=>cases h;exact .inl ⟨rfl,.inr (.inl ⟨_,rfl⟩)⟩
  | succ i=>simpa using ih (by simpa using h)
 | fn _ ih=>intro i s0 h;cases i with
  | zero=>cases h;exact .inl ⟨rfl,.inr (.inr ⟨_,rfl⟩)⟩
  | succ i=>simpa using ih (by simpa using h)
 | td _ ih=>intro i s0 h;cases i with
  | zero=>cases h;exact .inr ⟨_,_,rfl,rfl⟩
  | succ i=>simpa using ih (by simpa using h)
inductive N5(t:bJ)(δ:List Sl)(Q:Dt->List Sl->Prop):Prop
 | mk (δ0:List Sl) (h1:fC δ δ0) (h2:t δ0 fun d _=>Co d/\Q d δ)
theorem Bm(E:aB W M α H σ δ)(h:fC δ δ0):aB [] (fun a=>M a/\a∉α.flatten) (List.replicate δ0.length []) H σ δ0:=by
 have c:(List.replicate δ0.length ([]:List Addr)).flatten= []:=by simp
 have Y: ∀a u,H a=some u-> ¬M a->H a=some u/\ ¬(M a/\a∉α.flatten):=fun a u e n=>⟨e,fun z=>n z.1⟩
 refine⟨by rw[E.ls,h.len],by simp,fun i R I=>?_,by rw[c];exact aj4,fun a g=>by rw[c] at g;exact absurd g aa8,fun a g=>E.al a g.1,fun W U=>absurd U aa8⟩;have y:=(ab0.mp I).1;have g:(List.replicate δ0.length ([]:List Addr))[i]?=some []:=by rw[ad2,if_pos y]
 rcases h.at I with ⟨s,A⟩ | ⟨B,p,s,rfl⟩
 . obtain⟨o,C,j,k,T⟩:=E.sl i _ s;refine⟨o,[],j,g,?_⟩;rcases A with rfl | ⟨d,rfl⟩ | ⟨f,rfl⟩
   . rfl
   . exact⟨rfl,let ⟨v,e,r⟩:=T.2;⟨v,e,r.mono Y⟩⟩
   . exact⟨rfl,T.2⟩
 . obtain⟨a,D,j,k,T,J,r⟩:=uo E s;have w:=r.mono Y;exact⟨_,[],j,g,rfl,_,rfl,.pB T (fun z=>z.2 (bj k (by simp))) J w.1 w.2⟩
theorem tf(h:Ev X e t):Ev X e (N5 t):=PE.imp h fun g H Q s=>(by
 obtain⟨W,M,O,i,z,E,⟨B,r,q⟩,k⟩:=s;refine⟨[],_,_,B,_,Bm E r,q,fun d j w v s N D y=>?_⟩;obtain⟨c,o⟩:=s;have f:aD H w:=fun b u e=>D b u e (by simp);exact k _ _ _ _ o (E.same f) (dz.of f) (y.Hl c))
end
theorem aB.WT(E:aB Ws M α H σ δ)(hi:δ[i]?=some (td ks ds)): ∃N C,aB Ws N C H σ (δ.set i (.im (.pB ks ds))):=by
 have S:=(ab0.mp hi).1;obtain⟨a,I,Q,D,U,h4,r⟩:=uo E hi;have Z: ∀{v:V} {d:Dt},Rep M H v d->Rep (fun b=>M b/\b≠a) H v d:=fun r=>r.mono fun b u e n=>⟨e,fun z=>n z.1⟩
 have m: ∀{v:List V} {d:List Dt},aA M H v d->aA (fun b=>M b/\b≠a) H v d:=fun r=>r.mono fun b u e n=>⟨e,fun z=>n z.1⟩
 refine⟨fun b=>M b/\b≠a,α.set i [],⟨by rw[ae5,E.ls],by rw[ae5,ae5,E.la],fun j s X=>?_,cX E.nd aj4 (fun x h=>absurd h aa8),fun b g=>?_,fun b g=>E.al b g.1,fun W hW=>?_⟩⟩
 . by_cases o:i=j
   . subst o;rw[ac7 S] at X;cases X;have G:=m r;exact⟨some (.ref a),[],Q,by rw[ac7 (by rw[E.la];exact S)],rfl,_,rfl,.pB U (fun z=>z.2 rfl) h4 G.1 G.2⟩
   . rw[ab7 o] at X;obtain⟨o2,J,F,p,L⟩:=E.sl j s X;refine⟨o2,J,F,by rw[ab7 o];exact p,?_⟩;cases s with
     | no=>exact L
     | im d=>exact⟨L.1,let ⟨v,e,r⟩:=L.2;⟨v,e,Z r⟩⟩
     | ow ds=>obtain⟨b,I,A,B,Y,r⟩:=L;exact⟨b,I,A,B,Y,m r⟩
     | bx t=>exact L
     | dk ks ds=>obtain⟨b,vs,A,B,Y,P,r⟩:=L;exact⟨b,vs,A,B,Y,P,m r⟩
     | ob R=>obtain⟨v,e,r⟩:=L;exact⟨v,e,R.st r (fun _ _ _ q=>q) fun b u q n=>⟨q,fun z=>n z.1⟩⟩
     | fn f=>exact L
 . obtain⟨l,hl,h⟩:=aq7.mp g;obtain⟨j,X,e⟩:=ak0 hl;have T:(α.set i [])[j]?=some l:=by rw[aa6 X,e]
   by_cases o:i=j
   . subst o;rw[ac7 (by rw[E.la];exact S)] at T;cases T;exact absurd h aa8
   . rw[ab7 o] at T;refine⟨E.mu b (bj T h),fun z=>?_⟩;subst z;exact gK E.nd T D (Ne.symm o) h (by simp)
 . have k:=E.w W hW;refine⟨k.bs,k.ex,fun b g=>(cq g).elim (k.fr b) fun z=>absurd z aa8,fun b z=>⟨k.m0 b z,fun y=>?_⟩,fun b z=>k.m1 b z.1,fun d c e=>?_,fun j s O F p nb=>?_⟩
   . subst y;exact k.fz i _ _ hi D rfl b (by simp) z
   . obtain⟨t,A,B⟩:=k.bx d c e;have:i≠0:=fun z=>by subst z;rw[hi] at A;cases A
     exact⟨t,by rw[ab7 this];exact A,by rw[ab7 this];exact B⟩
   . by_cases o:i=j
     . subst o;rw[ac7 (by rw[E.la];exact S)] at p;cases p;exact fun b g=>absurd g aa8
     . rw[ab7 o] at F p;exact k.fz j s O F p nb
section
variable{X:Cx}{st:Stmt}{rest:List Stmt}{T:mf}
inductive Le(i:Nat)(T:mf)(Δ:dX)(δ:List Sl):Prop
 | mk (ks:List (List Key)) (ds:List Dt) (h1:δ[i]?=some (td ks ds)) (h2:T Δ (δ.set i (.im (.pB ks ds))))
theorem BC: ∀D b H,lS (Le i T) D b H->lS T D b H:=fun D b H W=>(by obtain⟨l,M,O,k,N,E,L,B,n,h,q⟩:=W;exact(by
 obtain⟨V,j,U⟩:=aB.WT E h;exact⟨l,V,j,_,N,U,L,q⟩))
theorem rO(i:Nat)(h:Ex X st T):Ex X st (Le i T):=PS.imp h BC
end
end LD
namespace L2
open PySem PySem.Spec PyProof.Rows
theorem pM (I : Nat -> Shared -> Prop) (turn : ∀ n s, I n s -> wpAny (model prog w) A (pyNext it) (fun r U => match r with
   | none=>R (.ok .next) U
   | some v=>wpAny (model prog w) A (letOwnedTupleGo target it v) (fun _ E=>wpAny (model prog w) A (assign target env v) (fun _ i=>
     wpAny (model prog w) A (eval kx env) (fun y G=>wpAny (model prog w) A (eval vx env) (fun S Y=>
       wpAny (model prog w) A (dictSet D y S) (fun _ b=> ∃m,m < n/\I m b) (fun _ _=>False) Y) (fun _ _=>False) G) (fun _ _=>False) i) (fun _ _=>False) E) (fun _ _=>False) U) (fun _ _=>False) s) (n:Nat) (h:I n s):codeAny (model prog w) A (.compLoop (.DictComp kx vx [⟨target,iter,[],0⟩] scope pos) 0 it (.ref D) env) R s:=by
 refine codeAny_loop rfl I (fun n s J=>?_) n h;show wpAny _ A ((compTurn (.DictComp kx vx [⟨target,iter,[],0⟩] scope pos) 0 it (.ref D) env).onRaise (fun x=>do noteFrame x env;theTreesLotGoes x)) _ _ s;refine wpAny_noted ?_;rw[compTurn_dict];refine aa5 (ai5 (aa5 (ae8 (turn n s J) (fun r U k=>?_) fun _ _ F=>F.elim)));cases r with
 | none=>exact ab2 k
 | some v=>
  refine aa5 (ae8 k (fun _ E B=>?_) fun _ _ F=>F.elim);refine aa5 (ae8 B (fun _ i H=>aa5 (wpAny_tests_nil ?_)) fun _ _ F=>F.elim);refine aa5 (aa5 (ae8 H (fun y G Z=>aa5 (ai6 (ae8 Z (fun S Y P=>aa5 (ai5 (ai6 (ae8 P (fun _ b W=>ab2 ⟨rfl,W⟩) fun _ _ F=>F.elim)))) fun _ _ F=>F.elim))) fun _ _ F=>F.elim))
def G8(nt:Nat)(js:List Nat)(g:TG)(tk F:TE)(b:St)(Q:VK)(D:Addr)(J:It)(t:Hp):Prop:=
 ∃W:Nat->Nat->Hp->Prop,(∃m,W 0 m t)/\ ∀i m H,W i m H->
  (J.stop i H/\Q (.ref D) H)\/(J.go i H/\ ∃B:Hp->Prop,(∀w,B w-> ∃a,a < m/\W (i+1) a w)/\ ∀x w,J.wy i H x w->g x (lB nt js b) w fun L C=>
   tk L C fun y O=>F L O fun v u=> ∃s,pw u D y v s/\B s)
def C4(nt:Nat)(js:List Nat)(l:TI)(g:TG)(tk F:TE):TE:=fun b H Q=>l b H fun J k=> ∀D,k D=none->G8 nt js g tk F b Q D J (upd k D (.dT []))
theorem nv(h:Q (.ref s.heap.objs.size) {s with heap:=s.heap.push {cls:= .type "dict",data:= .dict #[]}}):wpAny M A newDict Q E s:=by
 unfold newDict;exact ah8 h
theorem BQ(n:A.units < cLine)(I:Inv X pins σ H s)(g:pw H a y v H')(j:RelV y u)(p:RelV v r)(h: ∀m,Inv X pins σ H' m->Q () m):
  wpAny (model X.prog X.w) A (dictSet a u r) Q E s:=by
 rcases g with ⟨x,k,e,G,l,V⟩ | ⟨x,k,b,e,G,J,l,V⟩
 . subst G V;obtain⟨z,B,Y,M,S⟩:=FN I.bc e;have f:Y.length<=sizeLine:=by rw[<-M.length];exact z
   have C:(putK x k v).length<=sizeLine:=by have:=dU x k v;lia
   refine wpAny_dictSet_pairs (hsz:=f) (vb j) S fun F t D=>h _ ?_;have W: ∃q,F.get? a=some q:=let ⟨q,_,_,R,_⟩:=t;⟨q,R⟩;exact i9 I (by rw[e];exact True.intro) D W (xV C B (M.put k p) t)
 . subst G V;cases (show u=Value.ref b from j);obtain⟨z,B,o,M,S⟩:=zF I.bc e;have f:o.length<=sizeLine:=by rw[<-Paired.length M];exact z
   have C:(putK x k v).length<=sizeLine:=by have:=dU x k v;lia
   refine wpAny_dictSet_heap (hsz:=f) n (sF I.bc J) S fun F t D=>h _ ?_;obtain⟨q,O,L,R,i,T,P,_,U⟩:=t;refine i9 I (by rw[e];exact True.intro) D ⟨q,R⟩ ⟨C,B,_,(M.put k J p).keeps fun c Z N=>?_,q,O,L,R,i,T,P,U⟩;rw[ah (zm N e (fun z=>nomatch z))];exact N
theorem xZ{kx vx tg iter:Expr}{pos:Pos}{g:TG}{tk tv:TE}{j:List (Str × Addr)}{Q:VK}{E:Value->Shared->Prop}{RR:Value->Addr->Result->Shared->Prop}(S:k9 X N nt js scope)(hc:X.calm=true)(hg: ∀s H j C t,PG (eD X N scope s H j C t) tg g)(fQ:k6 nt g)(hk: ∀s H j C t,PE (eD X N scope s H j C t) kx tk)(hv: ∀s H j C t,PE (eD X N scope s H j C t) vx tv)(hu:X.A.units < cLine){tn:Nat->Heap->Prop}(I:Inv X pins σ H s)(T:Turn X.prog X.w X.K tg J fp it tn)(st:tn 0 s.heap)(M: ∀b∈fp,dW X pins H b)(c1: ∀x c,(x,c)∈j->X.env.cells.lookup x=some c)(c2: ∀x,(x,NameKind.free)∈scope.names-> ∃c,(x,c)∈j)(R: ∀D,H D=none->G8 nt js g tk tv σ Q D J (upd H D (.dT [])))(fin: ∀(D C:Addr) (s':Shared) (H':Hp),Inv X pins σ H' s'->dW X pins H' C->(∃m,s'.heap.Ns C m)->Q (.ref D) H'->RR (.ref D) C (.ok .next) s'):
  wpAny (model X.prog X.w) X.A newDict (fun O l=>wpAny (model X.prog X.w) X.A (newFunctionEnv scope X.env.globals j [] X.env.qual none .none (some X.env)) (fun jQ V=>
   codeAny (model X.prog X.w) X.A (.compStart (.DictComp kx vx [⟨tg,iter,[],0⟩] scope pos) 0 (.ref it) O {jQ with scope:=relabel scope X.env}) (RR O jQ.locals) V) E l) E s:=by
 refine nv (fL fun jQ vC FH=>?_);rw[vC,FH];dsimp only;have hD:H s.heap.objs.size=none:=I.bc.fresh (ab3 _);obtain⟨W,⟨m0,w0⟩,turn⟩:=R s.heap.objs.size hD;have kD: ∀b u,s.heap.get? b=some u->(s.heap.push {cls:= .type "dict",data:= .dict #[]}).get? b=some u:=fun b u e=>aa7 _ e;have I3:Inv X pins σ (upd H s.heap.objs.size (.dT [])) {s with heap:=s.heap.push {cls:= .type "dict",data:= .dict #[]},toks:=s.toks}:=
  I.laid kD (ab3 _) (oT s.heap I.big)
 have fs: ∀b∈fp,b < s.heap.objs.size:=fun b f=>by
  obtain⟨o,e,_⟩:=T.obj _ _ st b f;exact ad7 e
 have K1: ∀b∈fp,dW X pins (upd H s.heap.objs.size (.dT [])) b:=fun b f=>⟨by rw[ah (af4 (fs b f))];exact(M b f).1,(M b f).2⟩
 have L:=l5 (tk:=s.toks) S hc I3 K1 (fun b f=>by show b < (s.heap.push _).objs.size;rw[ag4];exact ak9 (fs b f)) c1 c2;dsimp only at L;have RB:(s.heap.push {cls:= .type "dict",data:= .dict #[]}).objs.size=s.heap.objs.size+1:=ag4 ..;generalize hY:eD X N scope {s with heap:=s.heap.push {cls:= .type "dict",data:= .dict #[]},toks:=s.toks} (upd H s.heap.objs.size (.dT [])) j (s.heap.push {cls:= .type "dict",data:= .dict #[]}).objs.size fp=Y at L;have YW:=hY;have o6:Y.env=oY scope j (s.heap.push {cls:= .type "dict",data:= .dict #[]}).objs.size X.env:=by rw[<-hY];rfl
 have G:Y.prog=X.prog:=by rw[<-hY];rfl
 have F:Y.w=X.w:=by rw[<-hY];rfl
 have YA:Y.A=X.A:=by rw[<-hY];rfl
 have YK:Y.K=X.K:=by rw[<-hY];rfl
 have kY:Y.calm=true:=by rw[<-hY];exact hc
 have tU:Y.xe=fun _ _=>False:=by rw[<-hY];rfl
 have h:Y.ex=fp:=by rw[<-hY];rfl
 have SN:Y.pn= []:=by rw[<-hY];rfl
 have SO:Y.fs=tT X.stack:=by rw[<-hY];rfl
 have Li:Y.s₀={s with heap:=s.heap.push {cls:= .type "dict",data:= .dict #[]},toks:=s.toks}:=by rw[<-hY];rfl
 have SQ:Y.H₀=upd H s.heap.objs.size (.dT []):=by rw[<-hY];rfl
 have Rr:PG Y tg g:=by rw[<-hY];exact hg _ _ _ _ _
 have hkY:PE Y kx tk:=by rw[<-hY];exact hk _ _ _ _ _
 have hvY:PE Y vx tv:=by rw[<-hY];exact hv _ _ _ _ _
 have huY:Y.A.units < cLine:=by rw[YA];exact hu
 have hm:(Y.N.length:Nat)=(lB nt js σ).length:=L.len.symm;rw[<-o6,<-G,<-F,<-YA];have Fq: ∀{H':Hp} (_: ∀b∈fp,H' b=none),∀b∈fp,dW Y [] H' b:=fun{H'} hn b f=>by
  refine⟨hn b f,(L.ok.K2 b (by rw[h];exact f)).1,L.ok.xQ b (by rw[h];exact f),.inl (by rw[h];exact f),(L.ok.K2 b (by rw[h];exact f)).2,fun p hp=>?_⟩;rw[SN] at hp;simp at hp
 have P: ∀{H':Hp} {s':Shared} {z:St},Inv Y [] z H' s'->Inv X pins σ H' s'/\dW X pins H' Y.env.locals/\ ∃m,s'.heap.Ns Y.env.locals m:=fun{H' s' z} J=>by
  have f:Un (tT X.stack) fp (upd H s.heap.objs.size (.dT [])) H' (s.heap.push {cls:= .type "dict",data:= .dict #[]}) s'.heap:=by
   have:=J.base;rw[SO,h,SQ,Li] at this;exact this
  have loc:Y.env.locals=s.heap.objs.size+1:=by rw[o6];exact RB
  have os:s'.os=s.os:=by
   have:=J.os;rw[Li] at this;exact this
  have bc:jk X.prog X.w H' s'.heap:=by
   have:=J.bc;rw[G,F] at this;exact this
  refine⟨I3.Gx (ch:=fp) os f bc J.bare fun b f=>⟨(M b f).2.2.2.1,(M b f).2.1,(M b f).2.2.2.2.1,(M b f).2.2.2.2.2⟩,?_,let ⟨m,q,_⟩:=J.loc;⟨m,q⟩⟩;exact I.sW (by rw[loc];exact ap4 _) J.free
 have a:codeAny (model Y.prog Y.w) Y.A (.compLoop (.DictComp kx vx [⟨tg,iter,[],0⟩] scope pos) 0 (.ref it) (.ref s.heap.objs.size) Y.env) (RR (.ref s.heap.objs.size) Y.env.locals)
   {s with heap:=pushCells ((s.heap.push {cls:= .type "dict",data:= .dict #[]}).push {cls:= .type "dict",data:= .dict #[]}) scope.names}:=by
  refine pM (fun n s'=> ∃i H',Inv Y [] (lB nt js σ) H' s'/\tn i s'.heap/\(∀b∈fp,H' b=none)/\W i n H') ?_ m0
   ⟨0,_,L,T.keep _ _ _ st fun b _ o e=>al9 _ _ b o (aa7 _ (kD b o e)),fun b f=>(K1 b f).1,w0⟩
  rintro n s5 ⟨i,H5,I5,wR,BD,w5⟩
  rcases turn i n H5 w5 with ⟨U,q⟩ | ⟨go,B,hB,Z⟩
  . have y:=T.done Y G F YK kY i [] s5 _ H5 (fun _ _=>False) I5 (Fq BD) wR U;rw[<-G,<-F] at y;refine aP y fun r s6 lr=>?_;obtain⟨hr,I6⟩:=lr;subst hr;obtain⟨b1,b2,b3⟩:=P I6;exact fin _ _ _ _ b1 b2 b3 q
  . have y:=T.item Y G F YK kY i [] s5 _ H5 (fun _ _=>False) I5 (Fq BD) wR go;rw[<-G,<-F] at y;refine aP y fun r s6 lq=>?_;obtain⟨u,hr,h6⟩:=lq;subst hr;refine aP h6 fun _ s7 qU=>?_;obtain⟨x,H7,I7,r7,y7,wQ,NC⟩:=qU;have OH:=I7.pinned (Fq NC) (T.obj _ _ wQ);have g7:=fQ _ _ _ _ (Z x H7 y7);have h7:=Rr _ s7 _ H7 x u _ OH r7 g7;rw[tU] at h7;refine aP h7 fun _ s8 tV=>?_;obtain⟨σ8,H8,I8,q8,l8,k8⟩:=tV;have h8:=hkY _ s8 σ8 H8 _ I8 q8;rw[tU] at h8;refine aP h8 fun kvl s9 gw=>?_;obtain⟨kv,H9,I9,r9,q9⟩:=gw;have h9:=hvY _ s9 σ8 H9 _ I9 q9;rw[tU] at h9;refine aP h9 fun vvl kn gv=>?_;obtain⟨vv,mD,v7,Qf,Hn,dp,Mi⟩:=gv;have Jn:=BQ (E:=fun _ _=>False) (Q:=fun _ s'=> ∃m,m < n/\ ∃i H',Inv Y [] (lB nt js σ) H' s'/\tn i s'.heap/\(∀b∈fp,H' b=none)/\W i m H') huY v7 dp r9 Qf fun Cq J9=>by
     obtain⟨m',Hf,Lz⟩:=hB Hn Mi;refine⟨m',Hf,i+1,Hn,J9.eQ.weak l8.symm fun k v e=>?_,T.keep _ _ _ wQ fun b f o e=>(J9.pin (b,o) (ac0 _ (ac0 _ (bH f e)))).1,fun b f=>?_,Lz⟩
     . by_cases hk:nt<=k
       . rw[k8 k hk];exact e
       . exfalso;unfold lB at e;rw[ae4 (by simp;lia),ad2,if_pos (by lia)] at e;cases e
     . obtain⟨o,e,d⟩:=T.obj _ _ wQ b f;exact(J9.pin (b,o) (ac0 _ (ac0 _ (bH f e)))).2.1
    exact Jn
 have vB:(s.heap.push {cls:= .type "dict",data:= .dict #[]}).objs.size=Y.env.locals:=by rw[o6];rfl
 rw[vB];exact codeAny_compStart_dict a (by rw[G,F,YA] at*;exact T.self _ 0 _ _ _ (T.keep _ _ _ st fun b _ o e=>al9 _ _ b o (aa7 _ (kD b o e))) a)
theorem DX(S:k9 X N nt js scope)(P:X.calm=true)(hi:PI X tg iter wi)(U: ∀s H i C r,PG (eD X N scope s H i C r) tg g)(V:k6 nt g)(W: ∀s H i C r,PE (eD X N scope s H i C r) kx tk)(hv: ∀s H i C r,PE (eD X N scope s H i C r) vx tv)(Z:X.A.units < cLine)(hs: ∀x,foldedSetIterable iter X.env x=pure x:=by intro _;rfl):PE X (.DictComp kx vx [⟨tg,iter,[],0⟩] scope pos) (C4 nt js wi g tk tv):=by
 intro a s c H Q I h;obtain⟨i,M,E,t⟩:=gQ (scope:=scope) (env:=X.env) fun x hx e=>I.ok.has x.1 (S.OT x hx e);rw[arm_eval_DictComp];refine ap0 (use:=none) rfl hs M S.kind S.names (aP (hi a s c H _ I h) fun v s1 k=>aP k fun OX s2 n=>?_);obtain⟨it,fp,tn,J,H2,rfl,L,T,F,j,R⟩:=n;refine xZ (RR:=fun G C=>compPost (model X.prog X.w) X.A X.xe none (EP X a c Q) G C) S P U V W hv Z L T F j E t R fun D C s' y d O jx q=>?_;obtain⟨m,Y⟩:=jx;refine⟨m,Y,fun h' sb=>⟨.ref D,y,?_,rfl,q⟩⟩;obtain⟨z,f,_,u,l,B⟩:=O;exact d.turned (t':=s'.toks) (fun b o p e=>(sb.2 b p).trans e) z f u l B
end L2
namespace LD
open PySem PySem.Spec L2 LB PyProof.Rows LW
abbrev G6:=List Sl->(List (List Key)->List Dt->List Sl->Prop)->Prop
inductive Ym(t:G6)(σ:L2.St)(H:Hp)(Q:VK):Prop
 | mk (W:List Wd) (M:Addr->Prop) (α:List (List Addr)) (δ:List Sl) (Qd:List (List Key)->List Dt->List Sl->Prop) (h1:aB W M α H σ δ) (h2:t δ Qd) (h3: ∀ks ds δ' H1 vs a,Qd ks ds δ'->aB W M α H1 σ δ'->dz α H H1->vs.map (·.1)=ks->aA M H1 (vs.map (·.2)) ds->H1 a=none->Q (.ref a) (upd H1 a (.dT vs)))
abbrev XM(X:Cx)(e:Expr)(t:G6):Prop:=PE X e (Ym t)
section
variable{X:Cx}{N:List Str}{nt:Nat}{js:List Nat}{scope:Scope}{kx vx tg iter e:Expr}{pos pos':Pos}{ti:pV}{g:we}{tk tv:bJ}{t:G6}{x:Str}{xp:Pos}
def R6(i:Nat)(t:G6):mf:=fun M k=>t k fun B n j=>bZ j i/\M.nx (j.set i (td B n))
theorem Dn(i:Nat)(p:X.N.Nodup)(F:XM X e t)(hi:X.N[i]?=some x:=by rfl)(h:Loc X.env.scope x:=by first | exact Or.inl rfl | exact Or.inr rfl)(hs:swapsWith e (some (.Name x xp)) pos.line X.env=pure false:=by rfl)(A:X.fn x=true\/X.env.scope.names.lookup x=some .local:=by first | exact .inl rfl | exact .inr rfl | assumption):
  Ex X (.Assign [.Name x xp] e pos) (R6 i t):=PS.imp (dY p hi h F hs A) fun D c H v=>(by
 obtain⟨l,M,P,j,Q,E,L,q⟩:=v;refine⟨l,M,P,j,_,E,q,fun B o m k w a v O I y G f=>?_⟩;obtain⟨C,r⟩:=v;have Y: ∀b u,k b=some u-> ¬M b->upd k a (.dT w) b=some u/\ ¬(M b\/b=a):=fun b u e n=>⟨by rw[ah (ar e f)];exact e,fun z=>z.elim n (ar e f)⟩
 exact L.nx _ _ _ _ _ (O.rJ (s:=td B o) f (fun J z=>by cases z) C rfl ⟨_,rfl,a,w,rfl,rfl,af,y,G.mono Y⟩) r)
def Ge(nt:Nat)(js:List Nat)(ti:pV)(g:we)(tk tv:bJ):G6:=fun i Q=>ti i fun s B=>s.length<=sizeLine/\ ∃(fk:Dt->List Key) (fv:Dt->Dt),(∀d∈s,g d (cin nt js B) fun O=>tk O fun y L=>IZ y=some (fk d)/\tv L fun r _=>r=fv d)/\(s.map fk).Nodup/\Q (s.map fk) (s.map fv) B
theorem x4(sR: ∀v j H Q,lG g v j H Q->gh v j H Q): ∀j H Q,Ym (Ge nt js ti g tk tv) j H Q->C4 nt js (lI ti) gh (lE tk) (lE tv) j H Q:=fun j H Q zz=>(by
 obtain⟨W,M,α,δ,Qd,E,q,k⟩:=zz;refine⟨W,M,α,δ,_,E,q,fun B P l J fT O c1 yl D L=>?_⟩;obtain⟨hsz,T,fv,Y,nd,q1⟩:=fT;have s0:aD l (upd l D (.dT [])):=aD.new L;refine⟨fun i m C=>m=B.length - i/\i<=B.length/\ ∃A,C D=some (.dT A)/\A.map (·.1)=(B.take i).map T/\aA (fun b=>M b\/b=D) C (A.map (·.2)) ((B.take i).map fv)/\aD l C/\gZ (fun b=>M b\/b=D) C,⟨B.length,by simp,ag0 _,[],af,rfl,.nil,s0,fun a p=>?_⟩,?_⟩
 . rcases p with p | p
   . obtain⟨o,e,n⟩:=O.al a p;exact⟨o,s0 _ _ e,n⟩
   . subst p;exact⟨_,af,fun xs z=>by cases z⟩
 rintro i m C ⟨rfl,hi,A,Z,I,ko,S,KI⟩
 have kf:Kf M l C:=fun b o e _=>S _ _ e;by_cases eM:i < B.length
 . have c: ∀b,l b≠none-> ¬M b-> ¬(fun b=>M b\/b=D) b:=fun b n z y=>y.elim z fun w=>n (by rw[w];exact L);obtain⟨go,wy⟩:=yl.go i C (fun b=>M b\/b=D) kf KI c eM;refine .inr ⟨go,fun G=> ∃A,G D=some (.dT A)/\A.map (·.1)=(B.take (i+1)).map T/\aA (fun b=>M b\/b=D) G (A.map (·.2)) ((B.take (i+1)).map fv)/\aD l G/\gZ (fun b=>M b\/b=D) G,fun G je=>⟨B.length - (i+1),by omega,rfl,eM,je⟩,fun x H3 y=>?_⟩;obtain⟨s3,d,hd,rx⟩:=wy x H3 y;have E2:aB [] (fun b=>M b\/b=D) (List.replicate (nt+js.length) []) C (lB nt js j) (cin nt js P):=by
    have su:aD (upd l D (.dT A)) C:=fun b o e=>by
     by_cases c:b=D
     . subst c;rw[af] at e;cases e;exact Z
     . rw[ah c] at e;exact S _ _ e
    have Ea:aB [] (fun b=>M b\/b=D) α C j P:=⟨O.ls,O.la,fun i s h=>let ⟨o,as,h1,h2,h3⟩:=O.sl i s h;⟨o,as,h1,h2,(h3.grow (u:= .dT A) L).same su⟩,O.nd,fun a h=> .inl (O.mu a h),KI,fun W hW=>absurd hW aa8⟩
    exact tE Ea
   have E3:=E2.same s3;have bN:(List.replicate (nt+js.length) ([]:List Addr)).flatten= []:=by simp
   refine sR _ _ _ _ ⟨[],_,_,_,d,_,E3,rx,Y d (ac8 hd),fun F δ4 σ4 q4 E4 hα=>?_⟩;have Hk:F.flatten= []:=ai9.mpr fun x hx=>by have:=hα x hx;rw[bN] at this;exact absurd this aa8
   refine⟨[],_,F,δ4,_,E4,q4,fun dk δ5 H5 kv jw E5 c5 rk=>?_⟩;obtain⟨hk,q5⟩:=jw;have s5:aD H3 H5:=fun b o e=>c5 b o e (by rw[Hk];exact aa8);refine⟨[],_,F,δ5,_,E5,q5,fun r δ6 R v e6 E6 c6 r6=>?_⟩;subst e6;have s6:aD H5 R:=fun b o e=>c6 b o e (by rw[Hk];exact aa8);have U:aD C R:=fun b o e=>s6 _ _ (s5 _ _ (s3 _ _ e));have WN:=U _ _ Z;have UM:B.take (i+1)=B.take i++ [d]:=by rw[ap8,hd];rfl
   obtain⟨kb,ekv,Rp⟩:=oA (rk.same s6) hk;subst ekv;have nk:T d∉A.map (·.1):=by
    rw[I];have:(B.map T).Nodup:=nd;rw[<-List.take_append_drop (i+1) B,UM,ac5,ac5] at this;have:=(aj2.mp (aj2.mp this).1).2.2;exact fun z=>this _ z _ ab4 rfl
   have lv:A.length < sizeLine:=by
    have:A.length=(B.take i).length:=by rw[<-aa4 (f:=(·.1)),I,aa4]
    rw[this,ak5];exact ae0 (by omega) hsz
   refine⟨_,pw.t WN Rp lv,?_⟩;rw[uL nk];have up: ∀{zs:List V} {ds:List Dt},aA (fun b=>M b\/b=D) R zs ds->aA (fun b=>M b\/b=D) (upd R D (.dT (A++ [(T d,v)]))) zs ds:=fun r=>r.mono fun a o e n=>⟨by rw[ah (fun z=>n (.inr z))];exact e,n⟩
   refine⟨A++ [(T d,v)],af,by rw[UM,ac5,ac5,I];rfl,?_,fun b o e=>by rw[ah (ar e L)];exact U _ _ (S _ _ e),fun a p=>?_⟩
   . rw[UM,ac5,ac5];exact up ((ko.same U).append (.one r6))
   . by_cases c:a=D
     . subst c;exact⟨_,af,fun xs z=>by cases z⟩
     . rw[ah c];exact E6.al a p
 . have e:i=B.length:=by omega
   subst e;refine .inl ⟨yl.stop C kf,?_⟩;rw[al5] at ko I;have eH:upd (fun b=>if b=D then none else C b) D (.dT A)=C:=by
    funext b
    by_cases c:b=D
    . subst c;rw[af,Z]
    . rw[ah c,if_neg c]
   rw[<-eH];have sH:aD l (fun b=>if b=D then none else C b):=fun b o e=>by
    show(if b=D then none else C b)=some o;rw[if_neg (ar e L)];exact S _ _ e
   refine k _ _ _ _ _ _ q1 (O.same sH) (c1.tr (dz.of sH)) I (ko.mono fun a o e n=>⟨?_,fun z=>n (.inl z)⟩) (by show(if D=D then none else C D)=none;rw[if_pos rfl]);show(if a=D then none else C a)=some o;rw[if_neg (fun z=>n (.inr z))];exact e)
theorem IS(S:k9 X N nt js scope)(l:X.calm=true)(hi:Iv X tg iter ti)(T: ∀s H i C r,PG (eD X N scope s H i C r) tg gh)(V:k6 nt gh)(u: ∀v b H Q,lG g v b H Q->gh v b H Q)(R: ∀s H i C r,Ev (eD X N scope s H i C r) kx tk)(c: ∀s H i C r,Ev (eD X N scope s H i C r) vx tv)(m:X.A.units < cLine)(hs: ∀x,foldedSetIterable iter X.env x=pure x:=by intro _;rfl):XM X (.DictComp kx vx [⟨tg,iter,[],0⟩] scope pos) (Ge nt js ti g tk tv):=PE.imp (DX S l hi T V R c m hs) (x4 u)
end
section
variable{X:Cx}{x:Str}{xp p pos:Pos}
noncomputable def vg(P:Program)(w:World)(k:List Key):Int:=tupleKeyHash (aY P w) k
inductive Oa(P:Program)(w:World)(i:Nat)(δ:List Sl)(Q:List (List Key)->List Dt->List Sl->Prop):Prop
 | mk (ks:List (List Key)) (ds:List Dt) (h1:δ[i]?=some (td ks ds)) (h2:ks≠ []) (h3:(ks.map (vg P w)).Nodup) (h4:Q ks ds δ)
theorem ya:bootBuiltins "dict"=some (.type "dict"):=by decide+kernel
theorem IQ(i:Nat)(r:X.A.handled=none)(B:X.mg "dict"=none)(h:PE X (.Name x xp) (fV i))(S:Gl X "dict":=by rfl)(F:starEach [.Name x xp] X.env=(false,eval (.Name x xp) X.env)::starEach [] X.env:=by rfl)(y:(backTo pos (starEach [] X.env)).any (·.1)=false:=by rfl):
  XM X (.Call (.Name "dict" p) [.Name x xp] [] pos) (Oa X.prog X.w i):=PE.imp (gg (OF.x8 r) S B ya (a8 h bQ F) (by decide) (by decide) F y) fun b H Q v=>(by
 obtain⟨W,M,N,j,C,E,⟨D,n,f,g,T,q⟩,k⟩:=v;obtain⟨a,u,J,G,t,P,o⟩:=uo E f;subst P;refine⟨_,J,a,u,rfl,t,fun z=>g (by rw[z];rfl),by rw[ad6] at T;exact T,fun d s=>k _ _ _ _ _ _ q E dz.rf rfl o s⟩)
end
end LD
namespace L2
open PySem PySem.Spec PyProof.Rows
noncomputable def held:Option Value->Array Value
 | none=> #[]
 | some v=> #[v,v]
def yy(val:Nat->Int)(j:Nat):Option Value->Prop
 | none=>j=0
 | some v=> ∃i t,i < j/\v= .int (val i) t/\ ∀k,k < j->val k<=val i
theorem GD(a v:Value):argsOk "max" ⟨[a],[("default",v)]⟩:=by unfold argsOk;kernel_rfl
section
variable{prog:Program}{w:World}{A:Around}{R:Result->Shared->Prop}{I S:Addr}{fp wr:List Addr}{n:Nat}{P:Nat->Value->Prop}{St:Nat->Heap->Prop}{val:Nat->Int}{d:Value}
theorem Bh(W:Walks prog w A.in1 I fp wr n P St)(hv: ∀i v,P i v-> ∃t,v= .int (val i) t)(E:S∉fp): ∀(k j:Nat) (s:Shared) (b:Option Value) (c:Nat),n - j=k->j<=n->St j s.heap->yy val j b->
  s.heap.get? S=some {cls:= .type "list",dict:=none,data:= .seq (held b) c,slots:= #[]}->
  (∀b G y,yy val n b->(∀x o,x∉wr->x≠S->s.heap.get? x=some o->G.get? x=some o)->R (.ok (.ret (b.getD d))) {s with heap:=G,toks:=y})->
  codeAny (model prog w) A (.builtin "max.loop" ⟨[.ref I,.none,.ref S],[("default",d)]⟩) R s:=by
 have N:S∉wr:=fun z=>E (W.sub _ z);have J:(toString "max"++toString ".loop":String)="max.loop":=by decide
 intro k;induction k with
 | zero=>
  intro j s b c O Q Y g D V;have X:j=n:=by omega
  subst X;refine codeAny_builtin F.entry_max_loop ?_;rw[Around.under_plainId ao9 _];show wpAny _ A.in1 (seqItems? (.ref S) >>=_) _ _ s;refine aa5 (ak6 D rfl ?_);show wpAny _ A.in1 (tryCatch (pyNext (.ref I)) _ >>=_) _ _ s;refine aa5 (wpAny_tryCatch (W.done s _ _ Y fun G y T=>?_));have B:=T S _ N D;cases b with
  | none=>exact aa5 (aq4 (ab2 (V none _ y g fun x o p f e=>T x o p e)))
  | some v=>
   have m:G.get? S=some {cls:= .type "list",dict:=none,data:= .seq #[v,v] c,slots:= #[]}:=B;show wpAny _ A.in1 (updateSeq S (fun _=> #[]) >>=_) _ _ _;refine aa5 (wpAny_updateSeq m rfl (aa5 (ar3 (ab2 ?_))));exact V (some v) _ y g fun x o p f e=>(aj9 _ _ (Ne.symm f)).trans (T x o p e)
 | succ k ih=>
  intro j s b c O Q Y g D V;have U:j < n:=by omega
  refine codeAny_builtin F.entry_max_loop ?_;rw[Around.under_plainId ao9 _];show wpAny _ A.in1 (seqItems? (.ref S) >>=_) _ _ s;refine aa5 (ak6 D rfl ?_);show wpAny _ A.in1 (tryCatch (pyNext (.ref I)) _ >>=_) _ _ s;refine aa5 (wpAny_tryCatch (W.item j s _ _ U Y fun v G y a L T=>?_));have B:=T S _ N D;obtain⟨t,rfl⟩:=hv _ _ a;cases b with
  | none=>
   have X:j=0:=g;subst X;show wpAny _ A.in1 (updateSeq S (fun _=> #[_,_]) >>=_) _ _ _;refine aa5 (wpAny_updateSeq B rfl ?_);rw[J];refine ab2 ⟨at6 ao9 _,ih 1 _ (some (.int (val 0) t)) _ (by omega) U (W.frame _ _ _ L fun x H o e=>?_) ⟨0,t,Nat.one_pos,rfl,fun k T=>?_⟩ (ao2 _ B rfl) fun b h C r l=>?_⟩
   . exact(aj9 _ _ (fun z:S=x=>E (by rw[z];exact H))).trans e
   . rw[show k=0 by omega];exact at5 _
   . exact V b h C r fun x o p f e=>l x o p f ((aj9 _ _ (Ne.symm f)).trans (T x o p e))
  | some u=>
   obtain⟨i,q,i1,rfl,Z⟩:=g;have m:G.get? S=some {cls:= .type "list",dict:=none,data:= .seq #[.int (val i) q,.int (val i) q] c,slots:= #[]}:=B;show wpAny _ A.in1 (tryCatch (holding [_,_] (richCompare .Gt (.int (val j) t) (.int (val i) q) >>=_)) _ >>=_) _ _ _;refine aa5 (wpAny_tryCatch (ai6 (aa5 (CmpOf.ints_gt (P:=fun i v=> ∃t,v= .int (val i) t) val (fun _ _ z=>z) j i _ _ _ _ _ ⟨t,rfl⟩ ⟨q,rfl⟩ ?_))));refine aa5 (ai6 (ah1 ?_));refine aa5 (ar3 (ab2 ?_));by_cases M:val j > val i
   . rw[if_pos (show(fun i j=>decide (val i > val j)) j i=true from ab8 M)];refine aa5 (wpAny_updateSeq m rfl (aa5 (ar3 ?_)));rw[J];refine ab2 ⟨at6 ao9 _,ih (j+1) _ (some (.int (val j) t)) _ (by omega) U (W.frame _ _ _ L fun x H o e=>?_) ⟨j,t,aq5 _,rfl,fun k T=>?_⟩ (ao2 _ m rfl) fun b h C r l=>?_⟩
     . exact(aj9 _ _ (fun z:S=x=>E (by rw[z];exact H))).trans e
     . rcases Nat.lt_succ_iff_lt_or_eq.mp T with z | z
       . have:=Z k z;omega
       . rw[z];exact at5 _
     . exact V b h C r fun x o p f e=>l x o p f ((aj9 _ _ (Ne.symm f)).trans (T x o p e))
   . rw[if_neg (show¬(fun i j=>decide (val i > val j)) j i=true from fun z=>M (ae1 z))];refine aa5 (ar3 ?_);rw[J];refine ab2 ⟨at6 ao9 _,ih (j+1) _ (some (.int (val i) q)) c (by omega) U L ⟨i,q,by omega,rfl,fun k T=>?_⟩ B fun b h C r l=>?_⟩
     . rcases Nat.lt_succ_iff_lt_or_eq.mp T with z | z
       . exact Z k z
       . rw[z];omega
     . exact V b h C r fun x o p f e=>l x o p f (T x o p e)
end
theorem Bi(R:A.handled=none)(y:s.heap.IsList l (intItems xs))(h: ∀b G r,yy (numAt xs) xs.size b->(∀x o,s.heap.get? x=some o->G.get? x=some o)->Q (b.getD d) {s with heap:=G,toks:=r}):
  wpAny (model prog w) A (call (.builtin "max") [.ref l] [("default",d)]) Q E s:=by
 have B:(toString "max"++toString ".loop":String)="max.loop":=by decide
 refine kmb_tree F.kind_max F.plain_max F.entry_max (GD _ _) ?_;show wpAny _ A.in1 (Builtin.Builtins.bindParams "max" ["key","default"] 0 ⟨[],[("default",d)]⟩ >>=_) _ _ s;refine aa5 (wpAny_of_eq (show Builtin.Builtins.bindParams "max" ["key","default"] 0 ⟨[],[("default",d)]⟩=pure [none,some d] from rfl) ?_);refine aa5 (ab2 ?_);refine aa5 (iter_intList y fun v e Y t D=>?_);subst e;refine aa5 (ah8 ?_);rw[B];have f:(intItems xs).size=xs.size:=by simp [intItems]
 have W:=Walks.list (prog:=prog) (w:=w) (A:=A.in1) R s.heap.objs.size l D (intItems xs);refine ab2 ⟨at6 ao9 _,Bh (val:=numAt xs) W (fun _ _=>intItems_at) (fun z=>ag6 _ (t _ z)) _ 0 _ none 0 rfl (ag0 _) (W.frame _ _ _ Y fun x _ o e=>aa7 _ e) rfl (ac9 _ rfl) fun b G r g S=>?_⟩;refine h b G r (f▸g) (old_kept fun x o n e=>S x o n (af4 (ad7 e)) (aa7 _ e))
section
variable{X:Cx}{e:Expr}{mv:List Keyword}{t tk:TA}{p pos:Pos}
def GrD(D:List Int)(d:V)(v:V):Prop:=(D= []/\v=d)\/ ∃M,v= .int M/\M∈D/\ ∀a∈D,a<=M
def PL(t tk:TA):TE:=fun b H Q=>t b H fun u k=>tk b k fun B C=> ∃(a:Addr) (ns:List Int) (d:V),u= [.ref a]/\B= [d]/\C a=some (.lst (ns.map V.int))/\ ∀v,GrD ns d v->Q v C
theorem B7:bootBuiltins "max"=some (.builtin "max"):=by decide+kernel
theorem Ii(F:X.calm=true)(S:Gl X "max")(z:X.mg "max"=none)(B:PA X [e] t)(R:PK X mv tk)
  (r:(backToKw pos (keywordEach mv X.env)).filterMap (·.1)=(["default"]:List Str):=by rfl) (U:backTo pos (starEach [e] X.env)=(false,eval e X.env)::backTo pos (starEach [] X.env):=by rfl) (G:(backTo pos (starEach [e] X.env)).any (·.1)=false:=by rfl)
  (M:(backToKw pos (keywordEach mv X.env)).all (·.1.isSome)=true:=by rfl) (N:(backToKw pos (keywordEach mv X.env)).any (·.1.isNone)=false:=by rfl):
  PE X (.Call (.Name "max" p) [e] mv pos) (PL t tk):=by
 intro c s n H Q I h;refine al7 (ez I S z B7 (callWith_kw (aP (B pos c s n H _ I h) fun us s1 w=>?_) U G M N));obtain⟨vs,o,W,Y,P⟩:=w;refine aP (R pos c s1 n o _ W P) fun ws s2 w=>?_;obtain⟨zs,E,J,rz,Z⟩:=w;obtain⟨a,D,d,rfl,rfl,T,q⟩:=Z;obtain⟨u,rfl,ru⟩:=vals1 Y;cases ru;obtain⟨ud,rfl,rd⟩:=vals1 rz;rw[r];obtain⟨y,rv,O,_⟩:=J.list (cc.of T);have L:=intsAre_of rv;obtain⟨k,l⟩:=L.allInts.items;have x:s2.heap.IsList a (intItems k):=l▸O.isList;have C:D=k.toList.map (·.1):=by
  rw[<-nums_intItems,<-l];exact(show numsOf y.toArray.toList=D from L.numsOf).symm
 refine Bi (J.ok.hd F) x fun b h' tk g R=>?_;have f:D.length=k.size:=by rw[C,aa4,aj1]
 cases b with
 | none=>exact⟨d,E,J.kept R,rd,q d (.inl ⟨List.eq_nil_of_length_eq_zero (f.trans g),rfl⟩)⟩
 | some v=>
  obtain⟨i,t2,g1,rfl,A⟩:=g;refine⟨.int _,E,J.kept R,⟨_,rfl⟩,q _ (.inr ⟨_,rfl,?_,fun m z=>?_⟩)⟩
  . rw[numAt_eq,<-C];exact getD_mem (by omega)
  . rw[C] at z;obtain⟨j,V,rfl⟩:=mem_getD z;rw[aa4,aj1] at V;rw[<-numAt_eq];exact A j V
end
end L2
namespace LD
open PySem PySem.Spec L2 LB PyProof.Rows LW
section
variable{X:Cx}{e:Expr}{tA:fJ}{p pos sE cp:Pos}{j:Nat}{nm:Option Str}
inductive OJ(ds:List Dt)(Q:Dt->Prop):Prop
 | mk (ns:List Int) (h1:ds= [.lst (ns.map .int)]) (h2:ns= []->Q .aN) (h3: ∀m,m∈ns->(∀a∈ns,a<=m)->Q (.int m))
theorem NU(l:X.calm=true)(z:X.mg "max"=none)(d:Av X [e] tA)(S:Gl X "max":=by rfl)
  (g:(backToKw pos (keywordEach [⟨nm,.Constant .none j cp,sE⟩] X.env)).filterMap (·.1)=(["default"]:List Str):=by rfl) (T:backTo pos (starEach [e] X.env)=(false,eval e X.env)::backTo pos (starEach [] X.env):=by rfl) (i:(backTo pos (starEach [e] X.env)).any (·.1)=false:=by rfl)
  (F:(backToKw pos (keywordEach [⟨nm,.Constant .none j cp,sE⟩] X.env)).all (·.1.isSome)=true:=by rfl) (w:(backToKw pos (keywordEach [⟨nm,.Constant .none j cp,sE⟩] X.env)).any (·.1.isNone)=false:=by rfl):
  Ev X (.Call (.Name "max" p) [e] [⟨nm,.Constant .none j cp,sE⟩] pos) (BR OJ tA):=PE.imp (Ii l S z d (zb DR DI) g T i F w) fun b H Q s=>(by
 obtain⟨W,M,O,t,C,E,q,k⟩:=s;refine⟨W,M,O,t,_,E,q,fun I B A J s N D r=>?_⟩;obtain⟨G,u,Z,P⟩:=s;subst u;obtain⟨x,rfl,o⟩:=eJ r;obtain⟨a,L,rfl,d,n,y⟩:=o.cA;rw[ints_rep y] at d;refine⟨a,G,.aN,rfl,rfl,d,fun v c=>?_⟩;rcases c with ⟨f,rfl⟩ | ⟨m,rfl,f,h⟩
 . exact k _ _ _ _ (Z f) N D .aN
 . exact k _ _ _ _ (P m f h) N D (.int _))
end
end LD
namespace PySem
open Sem (wp)
open Builtin
theorem kz:fillsNumberSlot (.type "tuple") "mul"=pure false:=
 fillsNumberSlot_seq (id:="tuple.__mul__") (r:=some (.builtin "tuple.__rmul__")) F.slot_tuple_mul.lookup (by decide+kernel) F.slot_tuple_rmul.lookup (by decide+kernel)
theorem pH:seqRepeat? (.type "tuple")=pure (some (.builtin "tuple.__mul__")):=by
 unfold seqRepeat?;rw[seqSlot_of (T:="tuple") (name:="__mul__") (id:="tuple.__mul__") F.slot_tuple_mul.lookup (by decide+kernel),seqSlot_of (T:="tuple") (name:="__rmul__") (id:="tuple.__rmul__") F.slot_tuple_rmul.lookup (by decide+kernel)];rfl
theorem gk(a:Int)(t:Tok)(l:Addr)(items:Array Value)(n:Nat)(S:Option Addr)(e:Array (Option Value)):
  Meets (Builtin.«int.__rmul__» ⟨[.int a t,.ref l],[]⟩) (fun _ R s=>s.heap.get? l=some {cls:= .type "tuple",dict:=S,data:= .seq items n,slots:=e}/\R (.ok (.ret Value.notImplemented)) s):=
 .of_wp fun i w A R s h=>by obtain⟨p,g,d,r,j⟩:=s;obtain⟨x,h⟩:=h;wp_walk using af3 x;exact⟨_,rfl,h⟩
theorem ug(l:Addr)(items:Array Value)(n:Nat)(S:Option Addr)(e:Array (Option Value))(t:Tok):
  Meets (Builtin.«tuple.__mul__» ⟨[.ref l,.int 1 t],[]⟩) (fun _ R s=>s.heap.get? l=some {cls:= .type "tuple",dict:=S,data:= .seq items n,slots:=e}/\R (.ok (.ret (Value.ref l))) {s with heap:=s.heap,toks:=s.toks}):=
 .of_wp fun i w A R s h=>by obtain⟨p,g,d,r,j⟩:=s;obtain⟨x,h⟩:=h;have b:=AutoSeq1.idx_int;wp_walk using af3 x;exact⟨_,rfl,h⟩
theorem uf(l:Addr)(items:Array Value)(n:Nat)(S:Option Addr)(f:Array (Option Value))(k:Int)(t:Tok)(z: ¬(decide (k < -(2^63)) || decide (k>=2^63))=true)(m: ¬(items.isEmpty || k==1)=true)(j: ¬(decide (k<=0) || items.isEmpty)=true)
  (y: ¬(items.size:Int)*k > (2^63 - 1) / 8) (C: ¬Builtin.Tuple.tupleTooMany ((items.size:Int)*k)=true) (hsz:(List.foldl (fun o e=>o++e) #[] (List.replicate k.toNat items)).size<=sizeLine):
  Meets (Builtin.«tuple.__mul__» ⟨[.ref l,.int k t],[]⟩) (fun _ R s=>s.heap.get? l=some {cls:= .type "tuple",dict:=S,data:= .seq items n,slots:=f}/\R (.ok (.ret (Value.ref s.heap.objs.size))) {s with heap:=s.heap.push {cls:=Value.type "tuple",data:=Data.seq (List.foldl (fun o e=>o++e) #[] (List.replicate k.toNat items))},toks:=s.toks}):=
 .of_wp fun i w A R s h=>by obtain⟨p,g,d,r,q⟩:=s;obtain⟨x,h⟩:=h;have b:=AutoSeq1.idx_int;wp_walk using af3 x;rw[if_neg z];dsimp only;wp_walk using af3 x;rw[if_neg y,if_neg C];wp_walk using af3 x;exact⟨_,rfl,h⟩
end PySem
namespace L2
open PySem PySem.Spec PyProof.Rows HT
section
variable{X:Cx}
def Kx:R2:=fun x y H Q=> ∃l k e,x= .ref l/\y= .int k/\H l=some (.tup e)/\e≠ []/\1<=k/\k < 2^63/\e.length*k.toNat<=sizeLine/\ ∀p v,vX H (List.replicate k.toNat e).flatten p v->Q (.ref p) v
theorem Iq:g6 X (binaryOp .Mult) Kx:=by
 intro a s σ H x y v u Q I j m h;obtain⟨l,k,J,rfl,rfl,f,B,M,N,g,q⟩:=h;cases j;obtain⟨t,rfl⟩:=m;obtain⟨w,r,P,_⟩:=I.tuple (dm.of f);obtain⟨⟨L,O,W,Y⟩,G,d,p,A⟩:=id P;simp only at d A;subst d A;have e:w≠ []:=fun z=>B (r.sv.mp z);have c:w.toArray.size*k.toNat<=sizeLine:=by rw[ac2,<-r.length];exact g
 refine wpAny_binaryOp_repeat_ref (T:="tuple") (U:="int") (by decide) ⟨_,G,rfl⟩ (fun n=>typeIs_int n k t) kz F.fills_int_mul F.slot_int_rmul pH F.slot_int_index.lookup
  (ap1 F.slot_int_rmul (typeIs_int s k t) F.entry_int_rmul (F.args_int_rmul_2 _ _) (gk k t l w.toArray p O Y) ⟨G,rfl,⟨_,G,rfl⟩,?_⟩)
 by_cases R:k=1
 . subst R;refine ap1 F.slot_tuple_mul ⟨_,G,rfl⟩ F.entry_tuple_mul (F.args_tuple_mul_2 _ _) (ug l w.toArray p O Y t) ⟨G,?_⟩;exact⟨.ref l,H,I,rfl,q l H (.inl ⟨rfl,by simpa using f⟩)⟩
 . have i : List.foldl (fun C E => C ++ E) #[] (List.replicate k.toNat w.toArray) = (List.replicate k.toNat w).flatten.toArray := by
     have:=foldl_rep w k.toNat [];rw[List.nil_append] at this;exact this
   have V:((w.toArray.size:Int)*k)=((w.toArray.size*k.toNat:Nat):Int):=by
    rw[Int.natCast_mul,Int.toNat_of_nonneg (by lia)]
   have D:(sizeLine:Nat)<=(2^63 - 1) / 8:=by decide
   refine ap1 F.slot_tuple_mul ⟨_,G,rfl⟩ F.entry_tuple_mul (F.args_tuple_mul_2 _ _) (uf l w.toArray p O Y k t (by simp;lia) (by simp [e,R]) (by simp [e];lia) (by rw[V];lia) (by rw[V];intro z;have Z:=ae1 z;lia) (by rw[i,ac2,len_rep];rw[ac2,Nat.mul_comm] at c;exact c)) ⟨G,?_⟩;rw[i];refine⟨.ref s.heap.objs.size,_,I.laid (t':=s.toks) (o:= .tup (List.replicate k.toNat J).flatten) (fun b S q=>aa7 _ q) (ab3 _) ⟨by rw[len_rep,Nat.mul_comm];exact g,_,r.rep _,pf.new _ _⟩,rfl,q _ _ (.inr ⟨I.bc.fresh (ab3 _),rfl⟩)⟩
end
end L2
namespace LD
open PySem PySem.Spec L2 PyProof.Rows
section
variable{X:Cx}{a b:Expr}{ta tb:bJ}{pos:Pos}
def GZ:D2:=fun O m Q=> ∃n k,O= .tup n/\m= .int k/\n≠ []/\1<=k/\k < 2^63/\n.length*k.toNat<=sizeLine/\Q (.tup (List.replicate k.toNat n).flatten)
theorem Jx:yu Kx GZ:=fun M H x y O m B Q Y r P U k=>(by obtain⟨o,n,u,A,D,f,g,l,q⟩:=U;exact(by
 subst u;subst A;obtain⟨a,e,rfl,d,N,w⟩:=r.bM;refine⟨a,n,e,rfl,P.ofInt,d,fun z=>D (by subst z;have:=w.1;cases o with | nil=>rfl | cons _ _=>simp at this),f,g,by rw[w.1];exact l,fun p v W=>?_⟩;exact k v _ _ q W.keep (Rep.hU W.at (Y.MM W) ((w.rep _).same W.keep))))
theorem NQ(d:Ev X a ta)(c:Ev X b tb):Ev X (.BinOp a .Mult b pos) (nh GZ ta tb):=vI Iq Jx d c
end
section
variable{X:Cx}{pos:Pos}
def FQ(i j l:Nat):we:=fun d k Q=> ∃O m e,d= .tup [O,m,e]/\bZ k i/\bZ (k.set i (.im O)) j/\bZ ((k.set i (.im O)).set j (.im m)) l/\Q (((k.set i (.im O)).set j (.im m)).set l (.im e))
theorem xJ{i j l:Nat}{K:PySem.W.Frag}: ∀v b H Q,lG (FQ i j l) v b H Q->BB K 3 (fF (cB i) (fF (cB j) (fF (cB l) xP))) v b H Q:=fun v b H Q w=>(by obtain⟨W,M,N,D,d,B,E,r,⟨O,s,g,e,o,m,p,q⟩,k⟩:=w;exact(by
 subst e;obtain⟨a,t,rfl,f,n,A⟩:=r.bM;obtain⟨x,u,rfl,P,L⟩:=A.aG;obtain⟨y,C,rfl,F,T⟩:=L.aG;obtain⟨z,I,rfl,Z,G⟩:=T.aG;cases G.cG;exact⟨a,_,rfl,dm.of f,rfl,x,_,rfl,y,_,rfl,z,_,rfl,rfl,k _ _ _ q (((E.ig P o).ig F m).ig Z p) fun x h=>cI x (cI x (cI x h))⟩))
theorem oN(i j l:Nat)(m:X.calm=true)(p:X.N.Nodup)(hi:X.N[i]?=some x:=by rfl)(V:X.N[j]?=some y:=by rfl)(w:X.N[l]?=some z:=by rfl)(k:Loc X.env.scope x:=by first | exact Or.inl rfl | exact Or.inr rfl)(a:Loc X.env.scope y:=by first | exact Or.inl rfl | exact Or.inr rfl)(e:Loc X.env.scope z:=by first | exact Or.inl rfl | exact Or.inr rfl)(s:X.fn x=true\/X.env.scope.names.lookup x=some .local:=by first | exact .inl rfl | exact .inr rfl | assumption)(Y:X.fn y=true\/X.env.scope.names.lookup y=some .local:=by first | exact .inl rfl | exact .inr rfl | assumption)(I:X.fn z=true\/X.env.scope.names.lookup z=some .local:=by first | exact .inl rfl | exact .inr rfl | assumption)(h:(assignEach [.Name x px, .Name y py, .Name z pz] X.env).length=3:=by rfl)(R:(assignEach [.Name x px, .Name y py, .Name z pz] X.env).findIdx? (·.1)=none:=by rfl)(f:(assignEach [.Name x px, .Name y py, .Name z pz] X.env).map (·.2)=assign (.Name x px) X.env::(assignEach [.Name y py, .Name z pz] X.env).map (·.2):=by rfl)(g:(assignEach [.Name y py, .Name z pz] X.env).map (·.2)=assign (.Name y py) X.env::(assignEach [.Name z pz] X.env).map (·.2):=by rfl)(T:(assignEach [.Name z pz] X.env).map (·.2)=assign (.Name z pz) X.env::(assignEach [] X.env).map (·.2):=by rfl):
  Gv X (.Tuple [.Name x px,.Name y py,.Name z pz] kk pos) (FQ i j l):=PG.imp (bP m (az (au p hi k s) (az (au p V a Y) (az (au p w e I) bo T) g) f) h R) xJ
end
end LD
namespace LD
open PySem PySem.Spec L2 LB PyProof.Rows LW
section
variable{X:Cx}{a b e f:Expr}{ta tb:bJ}{tA:fJ}{p pos:Pos}
inductive G1(ds:List Dt)(Q:Dt->Prop):Prop
 | mk (i j:Int) (h1:ds= [.int i,.int j]) (h2:0 < j) (h3:j < 2^64) (h4:Q (.tup [.int (i / j),.int (i % j)]))
theorem tI:bootBuiltins "divmod"=some (.builtin "divmod"):=by decide+kernel
theorem F1(z:X.mg "divmod"=none)(d:Av X [e,f] tA)(S:Gl X "divmod":=by rfl)(E:starEach [e,f] X.env=(false,eval e X.env)::starEach [f] X.env:=by rfl)(w:(backTo pos (starEach [f] X.env)).any (·.1)=false:=by rfl):
  Ev X (.Call (.Name "divmod" p) [e,f] [] pos) (BR G1 tA):=gN kW (fun M H h n A Q Y r s k=>(by
 obtain⟨i,j,u,g,T,q⟩:=s;subst u;obtain⟨x,t,rfl,P,L⟩:=r.aG;obtain⟨y,B,rfl,F,U⟩:=L.aG;cases U.cG;cases P.ofInt;cases F.ofInt;refine⟨i,j,rfl,⟨g,T⟩,fun o R=>?_⟩;exact k _ _ _ q (aD.new R) (Rep.hU af (Y.fresh R) (.cons (.int _) (.cons (.int _) .nil))))) S z tI d (by decide) (by decide) E w
end
section
variable{X:Cx}{pos:Pos}
inductive FR(i j l m:Nat)(d:Dt)(δ:List Sl)(Q:List Sl->Prop):Prop
 | mk (d1 d2 d3 d4:Dt) (h1:d= .tup [d1,d2,d3,d4]) (h2:bZ δ i) (h3:bZ (δ.set i (.im d1)) j) (h4:bZ ((δ.set i (.im d1)).set j (.im d2)) l) (h5:bZ (((δ.set i (.im d1)).set j (.im d2)).set l (.im d3)) m) (h6:Q ((((δ.set i (.im d1)).set j (.im d2)).set l (.im d3)).set m (.im d4)))
theorem xK{i j l m:Nat}{K:PySem.W.Frag}: ∀v b H Q,lG (FR i j l m) v b H Q->BB K 4 (fF (cB i) (fF (cB j) (fF (cB l) (fF (cB m) xP)))) v b H Q:=fun v b H Q t=>(by
 obtain⟨W,M,Y,c,d,A,E,r,⟨O,B,g,R,e,p,o,s,J,q⟩,k⟩:=t;subst e;obtain⟨a,C,rfl,f,n,w⟩:=r.bM;obtain⟨x,D,rfl,P,L⟩:=w.aG;obtain⟨y,V,rfl,F,T⟩:=L.aG;obtain⟨z,U,rfl,Z,G⟩:=T.aG;obtain⟨u,S,rfl,N,I⟩:=G.aG;cases I.cG;exact⟨a,_,rfl,dm.of f,rfl,x,_,rfl,y,_,rfl,z,_,rfl,u,_,rfl,rfl,k _ _ _ q ((((E.ig P p).ig F o).ig Z s).ig N J) fun x h=>cI x (cI x (cI x (cI x h)))⟩)
theorem Nz(i j l m:Nat)(n:X.calm=true)(p:X.N.Nodup)(hi:X.N[i]?=some x:=by rfl)(V:X.N[j]?=some y:=by rfl)(w:X.N[l]?=some z:=by rfl)(A:X.N[m]?=some u:=by rfl)(k:Loc X.env.scope x:=by first | exact Or.inl rfl | exact Or.inr rfl)(a:Loc X.env.scope y:=by first | exact Or.inl rfl | exact Or.inr rfl)(e:Loc X.env.scope z:=by first | exact Or.inl rfl | exact Or.inr rfl)(o:Loc X.env.scope u:=by first | exact Or.inl rfl | exact Or.inr rfl)(s:X.fn x=true\/X.env.scope.names.lookup x=some .local:=by first | exact .inl rfl | exact .inr rfl | assumption)(Y:X.fn y=true\/X.env.scope.names.lookup y=some .local:=by first | exact .inl rfl | exact .inr rfl | assumption)(I:X.fn z=true\/X.env.scope.names.lookup z=some .local:=by first | exact .inl rfl | exact .inr rfl | assumption)(M:X.fn u=true\/X.env.scope.names.lookup u=some .local:=by first | exact .inl rfl | exact .inr rfl | assumption)(h:(assignEach [.Name x px, .Name y py, .Name z pz, .Name u pu] X.env).length=4:=by rfl)(R:(assignEach [.Name x px, .Name y py, .Name z pz, .Name u pu] X.env).findIdx? (·.1)=none:=by rfl)(f:(assignEach [.Name x px, .Name y py, .Name z pz, .Name u pu] X.env).map (·.2)=assign (.Name x px) X.env::(assignEach [.Name y py, .Name z pz, .Name u pu] X.env).map (·.2):=by rfl)(g:(assignEach [.Name y py, .Name z pz, .Name u pu] X.env).map (·.2)=assign (.Name y py) X.env::(assignEach [.Name z pz, .Name u pu] X.env).map (·.2):=by rfl)(T:(assignEach [.Name z pz, .Name u pu] X.env).map (·.2)=assign (.Name z pz) X.env::(assignEach [.Name u pu] X.env).map (·.2):=by rfl)(H:(assignEach [.Name u pu] X.env).map (·.2)=assign (.Name u pu) X.env::(assignEach [] X.env).map (·.2):=by rfl):
  Gv X (.Tuple [.Name x px,.Name y py,.Name z pz,.Name u pu] kk pos) (FR i j l m):=PG.imp (bP n (az (au p hi k s) (az (au p V a Y) (az (au p w e I) (az (au p A o M) bo H) T) g) f) h R) xK
end
section
variable{X:Cx}
inductive Sa(i:Nat)(δ:List Sl)(Q:Dt->List Sl->Prop):Prop
 | mk (ds:List Dt) (h1:δ[i]?=some (.ow ds)) (h2:Q .aN (δ.set i (.ow ds.reverse)))
theorem qC(i:Nat){b V N:Pos}(h:PE X (.Name x b) (fV i))(L:attributeBase (.Name x b) "reverse" X.env (eval (.Name x b) X.env)=eval (.Name x b) X.env:=by rfl)(O:(V.endLine==N.line)=true:=by rfl):
  Ev X (.Call (.Attribute (.Name x b) "reverse" V) [] [] N) (Sa i):=
 PE.imp (Mx as6 PySem.F.slot_list_reverse PySem.F.type_list_reverse xt h L O) fun c H Q s=>(by
  obtain⟨W,M,R,j,y,E,⟨n,r,q⟩,k⟩:=s;obtain⟨a,e,f,g,T,P⟩:=E.ow r;refine⟨_,f,.inl ⟨rfl,_,cc.of T⟩,a,e,rfl,rfl,T,?_⟩;obtain⟨d,t⟩:=zg E r f g P.rev;exact k _ _ _ _ q d t .aN)
end
end LD
namespace jV
open PySem PySem.Spec L2 LB LD PyProof.Rows
abbrev Pr:=Nat × Nat
noncomputable def fH(n:Nat):List Pr:=(List.range (n - 1)).flatMap fun k=>(List.range (n - (k+1))).map fun j=>(j+1,j+1+(k+1))
theorem gG:p∈fH n↔1<=p.1/\p.1 < p.2/\p.2<=n:=by
 unfold fH;constructor
 . intro h;obtain⟨k,R,h⟩:=af1.mp h;obtain⟨j,V,rfl⟩:=ab6.mp h;have:=af9.mp R;have:=af9.mp V;exact⟨by dsimp only;lia,by dsimp only;lia,by dsimp only;lia⟩
 . rintro⟨f,g,T⟩
   refine af1.mpr ⟨p.2 - p.1 - 1,af9.mpr (by lia),ab6.mpr ⟨p.1 - 1,af9.mpr (by lia),?_⟩⟩;obtain⟨a,b⟩:=p;simp only at f g T ⊢;rw[show a - 1+1=a by lia,show a+(b - a - 1+1)=b by lia]
def lo(p q:Pr):Prop:=p.2 - p.1 < q.2 - q.1\/(p.2 - p.1=q.2 - q.1/\p.1 < q.1)
theorem Gy(n:Nat):(fH n).Pairwise lo:=by
 unfold fH;rw[List.pairwise_flatMap];refine⟨fun k _=>?_,?_⟩
 . rw[List.pairwise_map];refine List.pairwise_lt_range.imp fun h=> .inr ⟨?_,?_⟩
   . show _+1+(k+1) - (_+1)=_+1+(k+1) - (_+1);lia
   . show _+1 < _+1;lia
 . refine List.pairwise_lt_range.imp fun h x l y a=> .inl ?_;obtain⟨j,_,rfl⟩:=ab6.mp l;obtain⟨i,_,rfl⟩:=ab6.mp a;show _+1+(_+1) - (_+1) < _+1+(_+1) - (_+1);lia
theorem vR(h:(fH n)[i]?=some p)(Q:q∈fH n)(l:q.2 - q.1 < p.2 - p.1):q∈(fH n).take i:=by
 obtain⟨j,V,rfl⟩:=ak0 Q;obtain⟨I,rfl⟩:=ab0.mp h;have S:j < i:=by
  rcases as9 j i with c | c | c
  . exact c
  . subst c;lia
  . have:=ar7.mp (Gy n) i j I V c;unfold lo at this;lia
 exact List.mem_take_iff_getElem.mpr ⟨j,by lia,rfl⟩
theorem tG(h:(fH n)[i]?=some p):p∉(fH n).take i:=fun z=>by
 obtain⟨I,rfl⟩:=ab0.mp h;obtain⟨j,V,e⟩:=List.mem_take_iff_getElem.mp z;have:=ar7.mp (Gy n) j i (by lia) I (by lia);rw[e] at this;unfold lo at this;lia
noncomputable def pk(p:Pr):List Key:= [.inl (p.1:Int),.inl (p.2:Int)]
theorem DJ(h:pk p=pk q):p=q:=by
 unfold pk at h;injection h with h1 h2
 injection h2 with h2 _
 injection h1 with h1
 injection h2 with h2
 exact Prod.ext (by lia) (by lia)
theorem eE: ∀{L:List Pr},p∈L->Aq (L.map pk) (L.map g) (pk p)=some (g p)
 | q::L,h=>by
  rw[ad5,ad5,Aq];by_cases c:pk q=pk p
  . rw[if_pos c,DJ c]
  . rw[if_neg c];exact eE ((ab9.mp h).elim (fun z=>absurd (by rw[z]) c) id)
theorem Mr{p:Pr}{L:List Pr}(h:p∉L):pk p∉L.map pk:=fun z=>by
 obtain⟨q,Q,e⟩:=ab6.mp z;exact h (DJ e▸Q)
noncomputable def dg(n:Nat):List Pr:=(List.range' 1 n).map fun i=>(i,i)
theorem sx:p∈dg n↔p.1=p.2/\1<=p.1/\p.1<=n:=by
 unfold dg;constructor
 . intro h;obtain⟨i,I,rfl⟩:=ab6.mp h;have:=ad0.mp I;exact⟨rfl,by simp;lia,by simp;lia⟩
 . rintro⟨f,g,T⟩
   exact ab6.mpr ⟨p.1,ad0.mpr ⟨by lia,by lia⟩,Prod.ext rfl f⟩
theorem FP(h:(fH n)[i]?=some p):p∉dg n++(fH n).take i:=fun z=>by
 have:=gG.mp (ac8 h);rcases ad8.mp z with z | z
 . have:=sx.mp z;lia
 . exact tG h z
theorem Ab(e:(fH n)[i]?=some (l,h))(f:l<=a)(g:a<=b)(T:b<=h)(H:b - a < h - l):(a,b)∈dg n++(fH n).take i:=by
 have m:=gG.mp (ac8 e);simp only at m;by_cases c:a=b
 . exact ae6 _ (sx.mpr ⟨c,by simp;lia,by simp;lia⟩)
 . exact ac0 _ (vR e (gG.mpr ⟨by simp;lia,by simp;lia,by simp;lia⟩) H)
theorem XE(e:(fH n)[i]?=some (l,h))(f:l<=a)(g:a < b)(T:b<=h)(H:b - a < h - l):(a,b)∈(fH n).take i:=by
 have m:=gG.mp (ac8 e);simp only at m;exact vR e (gG.mpr ⟨by simp;lia,by simp;lia,by simp;lia⟩) H
theorem take_snoc(h:(fH n)[i]?=some p):(fH n).take (i+1)=(fH n).take i++ [p]:=by rw[ap8,h];rfl
noncomputable def hk(i:Nat):Int:=reduceHash (Builtin.Tuple.tupleHashOf [hashInt (i:Int),hashInt (i:Int)])
theorem Jk(P:Program)(w:World)(i:Nat):vg P w (pk (i,i))=hk i:=by rfl
theorem EX:((List.range' 1 12).map hk).Nodup:=by decide+kernel
theorem Bc{f:Nat->Int}(L:((List.range' 1 m).map f).Nodup)(h:n<=m):((List.range' 1 n).map f).Nodup:=by
 have e:List.range' 1 m=List.range' 1 n++List.range' (1+n) (m - n):=by
  rw[ah9,Nat.add_sub_cancel' h]
 rw[e,ac5] at L;exact L.sublist (List.sublist_append_left _ _)
theorem NO(f:List Key->Int)(n:Nat):((dg n).map pk).map f=(List.range' 1 n).map fun i=>f (pk (i,i)):=by
 unfold dg;rw[ad6,ad6];rfl
theorem zH(P:Program)(w:World)(h:n<=12):(((dg n).map pk).map (vg P w)).Nodup:=by
 have u:=NO (vg P w) n;have x:((List.range' 1 n).map fun i=>vg P w (pk (i,i)))=(List.range' 1 n).map hk:=ad4 fun i _=>Jk P w i;exact(u.trans x)▸Bc EX h
section
variable{α:Type}
noncomputable def pJ(w:List α->α)(d q:Nat->Nat->α)(l h:Nat):List α:=(List.range' l (h - l)).map fun a=>w [d l a,q (a+1) h]
noncomputable def Mf(w:List α->α)(d rt:Nat->Nat->α)(l h:Nat):List α:=(List.range' (l+1) (h - l)).map fun a=>w [rt l a,d a h]
noncomputable def MT(w:List α->α)(q S:Nat->Nat->α)(l h:Nat):List α:=(List.range' l (h - l)).map fun a=>w [q l a,S a h]
noncomputable def toV(x:List α->α)(w q d:Nat->Nat->α)(n:Nat):List α:=(List.range' 1 n).map fun t=>x [w t 0,q 1 t,d t n]
structure XI(oJ oC:List α->Prop)(jn ch:List α->α)(n:Nat)(w rg rt lf lt:Nat->Nat->α):Prop where
 j0:oJ []
 r0: ∀l,rg l l=jn []
 l0: ∀l,lf l l=jn []
 ji: ∀l a h,1<=l->l<=a->a < h->h<=n->oJ [rg l a,lf (a+1) h]
 ci: ∀l h,1<=l->l < h->h<=n->oC (pJ jn rg lf l h)
 jr: ∀l h,1<=l->l < h->h<=n->oJ [w h l,ch (pJ jn rg lf l h)]
 er: ∀l h,1<=l->l < h->h<=n->rt l h=jn [w h l,ch (pJ jn rg lf l h)]
 jl: ∀l h,1<=l->l < h->h<=n->oJ [w l h,ch (pJ jn rg lf l h)]
 el: ∀l h,1<=l->l < h->h<=n->lt l h=jn [w l h,ch (pJ jn rg lf l h)]
 jR: ∀l a h,1<=l->l < a->a<=h->h<=n->oJ [rt l a,rg a h]
 cR: ∀l h,1<=l->l < h->h<=n->oC (Mf jn rg rt l h)
 eR: ∀l h,1<=l->l < h->h<=n->rg l h=ch (Mf jn rg rt l h)
 jL: ∀l a h,1<=l->l<=a->a < h->h<=n->oJ [lf l a,lt a h]
 cL: ∀l h,1<=l->l < h->h<=n->oC (MT jn lf lt l h)
 eL: ∀l h,1<=l->l < h->h<=n->lf l h=ch (MT jn lf lt l h)
 jt: ∀t,1<=t->t<=n->oJ [w t 0,lf 1 t,rg t n]
 ct:oC (toV jn w lf rg n)
variable (D:α->Dt)
def qy(u:List α->Prop)(f:List α->α):DN:=fun n Q=> ∃L:List α,n= [.lst (L.map D)]/\u L/\Q (D (f L))
noncomputable def JB(L:List Pr)(f:Nat->Nat->α):Dt:= .pB (L.map pk) (L.map fun p=>D (f p.1 p.2))
noncomputable def uI(n:Nat)(w:Nat->Nat->α)(i:Nat):Dt:= .tup ((List.range (n+1)).map fun o=>D (w i o))
noncomputable def LN(n:Nat)(w:Nat->Nat->α):Dt:= .tup ((List.range' 1 n).map (uI D n w))
theorem rW{n:Nat}{w:Nat->Nat->α}{i x:Nat}(h:x<=n):jh ((List.range (n+1)).map fun o=>D (w i o)) (x:Int)=some (D (w i x)):=
 bw (j:=x) (by rw[aa9,ai4 (by omega)];rfl)
theorem yE{n:Nat}{w:Nat->Nat->α}{x:Nat}(f:1<=x)(h:x<=n):jh ((List.range' 1 n).map (uI D n w)) ((x:Int) - 1)=some (uI D n w x):=by
 rw[show(x:Int) - 1=((x - 1:Nat):Int) by omega];exact bw (j:=x - 1) (by rw[aa9,ah2 (by omega),show 1+1*(x - 1)=x by omega];rfl)
end
end jV
namespace LD
open PySem PySem.Spec L2 LB PyProof.Rows
theorem pY{M:dX}(I:Nat->List Sl->Prop)(k: ∃m,I m i)(h: ∀m i,I m i-> ∀W:dX,(∀a j,a < m->I a j->W.nx j)->(∀d j,M.rt d j->W.rt d j)->u i fun b B=>if b=true then tb W B else M.nx B):F4 u tb M i:=
 ⟨I,k,fun m i J=>h m i J _ (fun a j A L=>⟨a,A,L⟩) fun _ _ z=>z⟩
theorem cQ{s:List Dt}{g:we}{E:mf}{M:dX}(I:Nat->List Sl->Prop)(k:I 0 δ1)(h: ∀i d O,s[i]?=some d->I i O-> ∀W:dX,(∀j,I (i+1) j->W.nx j)->(∀d j,M.rt d j->W.rt d j)->g d O fun L=>E W L)(fin: ∀O,I s.length O->M.nx O):
  ∃P:Nat->List Sl->Prop,P 0 δ1/\(∀i d O,s[i]?=some d->P i O->g d O fun L=>E {M with nx:=P (i+1),ct:=P (i+1),bk:=M.nx} L)/\ ∀O,P s.length O->M.nx O:=
 ⟨I,k,fun i d O e J=>h i d O e J _ (fun _ z=>z) fun _ _ z=>z,fin⟩
end LD
namespace jW
abbrev Wo:=Option Int
noncomputable def ad:Wo->Wo->Wo
 | some a,some b=>some (a+b)
 | _,_=>none
noncomputable def mx:Wo->Wo->Wo
 | some a,some b=>some (max a b)
 | some a,none=>some a
 | none,y=>y
noncomputable def jf:List Wo->Wo
 | []=>some 0
 | x::xs=>ad x (jf xs)
noncomputable def gp:List Wo->Wo
 | []=>none
 | x::xs=>mx x (gp xs)
theorem o5(x y z:Wo):ad (ad x y) z=ad x (ad y z):=by cases x <;> cases y <;> cases z <;> simp [ad,Int.add_assoc]
theorem nq(x y:Wo):ad x y=ad y x:=by cases x <;> cases y <;> simp [ad,Int.add_comm]
theorem J1(x:Wo):ad (some 0) x=x:=by cases x <;> simp [ad]
theorem o4(x:Wo):ad x (some 0)=x:=by cases x <;> simp [ad]
theorem Ad(x:Wo):ad x none=none:=by cases x <;> rfl
theorem zo(x:Wo):mx x none=x:=by cases x <;> rfl
theorem Ez(x y z:Wo):mx (mx x y) z=mx x (mx y z):=by cases x <;> cases y <;> cases z <;> simp [mx] <;> lia
theorem Lh(x y z:Wo):ad x (mx y z)=mx (ad x y) (ad x z):=by cases x <;> cases y <;> cases z <;> simp [ad,mx] <;> lia
theorem QK(x y z:Wo):ad (mx y z) x=mx (ad y x) (ad z x):=by rw[nq,Lh,nq x y,nq x z]
theorem HC(l m:List Wo):jf (l++m)=ad (jf l) (jf m):=by
 induction l with
 | nil=>simp [jf,J1]
 | cons x xs ih=>show ad x (jf (xs++m))=_;rw[ih,jf,o5]
theorem Jq(l m:List Wo):gp (l++m)=mx (gp l) (gp m):=by
 induction l with
 | nil=>rfl
 | cons x xs ih=>show mx x (gp (xs++m))=_;rw[ih,gp,Ez]
theorem C1{l m:List Wo}(h:l.Perm m):jf l=jf m:=by
 induction h with
 | nil=>rfl
 | cons x _ ih=>rw[jf,jf,ih]
 | swap x y l=>rw[jf,jf,jf,jf,<-o5,<-o5,nq y x]
 | trans _ _ i1 i2=>rw[i1,i2]
theorem kH:gp l=none↔ ∀x∈l,x=none:=by
 induction l with
 | nil=>simp [gp]
 | cons x xs ih=>
  cases x with
  | none=>
   show gp xs=none↔_;rw[ih];exact⟨fun h y c=>(ab9.mp c).elim id (h y),fun h y c=>h y (ab5 _ c)⟩
  | some a=>
   refine⟨fun h=>?_,fun h=>?_⟩
   . cases e:gp xs with
     | none=>rw[gp,e] at h;cases h
     | some b=>rw[gp,e] at h;cases h
   . have:=h _ ab4;cases this
theorem m8: ∀{l:List Wo} {v:Int},gp l=some v->some v∈l
 | x::xs,v,h=>by
  cases x with
  | none=>exact ab5 _ (m8 (by simpa [gp,mx] using h))
  | some a=>
   cases e:gp xs with
   | none=>rw[gp,e] at h;cases h;exact ab4
   | some b=>
    rw[gp,e] at h;have d:max a b=v:=Option.some.inj h;by_cases c:a<=b
    . have:b=v:=by lia
      rw[this] at e;exact ab5 _ (m8 e)
    . have:a=v:=by lia
      rw[this];exact ab4
theorem Ff: ∀{l:List Wo} {v u:Int},gp l=some v->some u∈l->u<=v
 | x::xs,v,u,h,m=>by
  rcases ab9.mp m with e | m
  . subst e;cases e:gp xs with
    | none=>rw[gp,e] at h;cases h;exact at5 _
    | some b=>rw[gp,e] at h;have:max u b=v:=Option.some.inj h;lia
  . cases e:gp xs with
    | none=>have:=kH.mp e _ m;cases this
    | some b=>
     have i:=Ff e m;cases x with
     | none=>rw[gp,e] at h;cases h;exact i
     | some a=>rw[gp,e] at h;have:max a b=v:=Option.some.inj h;lia
theorem bV{α v:Type}{f g:α->List v}: ∀{l:List α},(∀a∈l,f a=g a)->l.flatMap f=l.flatMap g
 | [],_=>rfl
 | a::l,h=>by rw[ap9,ap9,h a ab4,bV fun b c=>h b (ab5 _ c)]
abbrev Way:=List (Nat × Nat)
noncomputable def wt(w:Nat->Nat->Wo)(a:Way):Wo:=jf (a.map fun p=>w p.1 p.2)
noncomputable def ev(w:Nat->Nat->Wo)(S:List Way):Wo:=gp (S.map (wt w))
noncomputable def pr(S T:List Way):List Way:=S.flatMap fun a=>T.map fun b=>a++b
theorem Ly(w:Nat->Nat->Wo)(a b:Way):wt w (a++b)=ad (wt w a) (wt w b):=by unfold wt;rw[ac5,HC]
theorem Fw(w:Nat->Nat->Wo)(S T:List Way):ev w (S++T)=mx (ev w S) (ev w T):=by unfold ev;rw[ac5,Jq]
theorem Jt(w:Nat->Nat->Wo)(a:Way)(T:List Way):ev w (T.map fun b=>a++b)=ad (wt w a) (ev w T):=by
 induction T with
 | nil=>exact(Ad _).symm
 | cons b T ih=>
  show mx (wt w (a++b)) (ev w (T.map fun b=>a++b))=ad (wt w a) (mx (wt w b) (ev w T));rw[ih,Ly,Lh]
theorem my(w:Nat->Nat->Wo)(S T:List Way):ev w (pr S T)=ad (ev w S) (ev w T):=by
 induction S with
 | nil=>rfl
 | cons a S ih=>
  show ev w ((T.map fun b=>a++b)++pr S T)=ad (mx (wt w a) (ev w S)) (ev w T);rw[Fw,Jt,ih,QK]
theorem kK(w:Nat->Nat->Wo)(L:List Nat)(f:Nat->List Way):ev w (L.flatMap f)=gp (L.map fun x=>ev w (f x)):=by
 induction L with
 | nil=>rfl
 | cons x L ih=>rw[ap9,Fw,ih];rfl
theorem NH(w:Nat->Nat->Wo)(a:Way):ev w [a]=wt w a:=zo _
theorem sY(w:Nat->Nat->Wo)(i o:Nat):ev w [[(i,o)]]=w i o:=by rw[NH];exact o4 _
structure yd where
 rg:List Way
 rt:List Way
 lf:List Way
 lt:List Way
noncomputable def pI(q:Nat->Nat->yd)(l h:Nat):List Way:=(List.range' l (h - l)).flatMap fun b=>pr (q l b).rg (q (b+1) h).lf
noncomputable def VO(q:Nat->Nat->yd)(rt:List Way)(l h:Nat):List Way:=(List.range' (l+1) (h - l)).flatMap fun a=>pr (if a=h then rt else(q l a).rt) (if a=h then [[]] else(q a h).rg)
noncomputable def VP(q:Nat->Nat->yd)(S:List Way)(l h:Nat):List Way:=(List.range' l (h - l)).flatMap fun a=>pr (if a=l then [[]] else(q l a).lf) (if a=l then S else(q a h).lt)
noncomputable def QL(q:Nat->Nat->yd)(l h:Nat):yd:=⟨VO q (pr [[(h,l)]] (pI q l h)) l h,pr [[(h,l)]] (pI q l h),VP q (pr [[(l,h)]] (pI q l h)) l h,pr [[(l,h)]] (pI q l h)⟩
noncomputable def sp:Nat->Nat->Nat->yd
 | 0,_,_=>⟨[[]],[],[[]],[]⟩
 | d+1,l,h=>if h<=l+d then sp d l h else QL (sp d) l h
noncomputable def Q(l h:Nat):yd:=sp (h - l) l h
theorem Kt: ∀(d l h:Nat),h<=l+d->sp d l h=Q l h
 | 0,l,h,hd=>by unfold Q;rw[show h - l=0 by lia]
 | d+1,l,h,hd=>by
  by_cases c:h<=l+d
  . rw[sp,if_pos c];exact Kt d l h c
  . unfold Q;rw[show h - l=d+1 by lia]
theorem i3(l:Nat):Q l l=⟨[[]],[],[[]],[]⟩:=by unfold Q;rw[an6];rfl
theorem Bg(e: ∀a b,l<=a->b<=h->b - a < h - l->q a b=r a b):QL q l h=QL r l h:=by
 have j:pI q l h=pI r l h:=by
  unfold pI;refine bV fun a d=>?_;have:=ad0.mp d;rw[e l a (by lia) (by lia) (by lia),e (a+1) h (by lia) (by lia) (by lia)]
 have A: ∀x,VO q x l h=VO r x l h:=fun x=>bV fun a d=>by
  have:=ad0.mp d;by_cases c:a=h
  . rw[if_pos c,if_pos c,if_pos c,if_pos c]
  . rw[if_neg c,if_neg c,if_neg c,if_neg c,e l a (by lia) (by lia) (by lia),e a h (by lia) (by lia) (by lia)]
 have m: ∀x,VP q x l h=VP r x l h:=fun x=>bV fun a d=>by
  have:=ad0.mp d;by_cases c:a=l
  . rw[if_pos c,if_pos c,if_pos c,if_pos c]
  . rw[if_neg c,if_neg c,if_neg c,if_neg c,e l a (by lia) (by lia) (by lia),e a h (by lia) (by lia) (by lia)]
 unfold QL;rw[j,A,m]
theorem bX(S:l < h):Q l h=QL Q l h:=by
 obtain⟨d,e⟩: ∃d,h - l=d+1:=⟨h - l - 1,by lia⟩
 unfold Q;rw[e,sp,if_neg (by lia)];exact Bg fun a b f g T=>Kt d a b (by lia)
theorem L5(w:Nat->Nat->Wo)(S:l < h):ev w (Q l h).rt=ad (w h l) (gp ((List.range' l (h - l)).map fun a=>ad (ev w (Q l a).rg) (ev w (Q (a+1) h).lf))):=by
 rw[bX S];show ev w (pr [[(h,l)]] (pI Q l h))=_;rw[my,sY];unfold pI;rw[kK];congr 2
 exact ad4 fun a _=>my _ _ _
theorem MQ(w:Nat->Nat->Wo)(S:l < h):ev w (Q l h).lt=ad (w l h) (gp ((List.range' l (h - l)).map fun a=>ad (ev w (Q l a).rg) (ev w (Q (a+1) h).lf))):=by
 rw[bX S];show ev w (pr [[(l,h)]] (pI Q l h))=_;rw[my,sY];unfold pI;rw[kK];congr 2
 exact ad4 fun a _=>my _ _ _
theorem Me(w:Nat->Nat->Wo)(S:l < h):ev w (Q l h).rg=gp ((List.range' (l+1) (h - l)).map fun a=>ad (ev w (Q l a).rt) (ev w (Q a h).rg)):=by
 have A:(Q l h).rg=(List.range' (l+1) (h - l)).flatMap fun a=>pr (Q l a).rt (Q a h).rg:=by
  conv=>lhs;rw[bX S]
  show(List.range' (l+1) (h - l)).flatMap _=_;refine bV fun a d=>?_;by_cases c:a=h
  . subst c;rw[if_pos rfl,if_pos rfl,i3];congr 1
    rw[bX S];rfl
  . rw[if_neg c,if_neg c]
 rw[A,kK];congr 1
 exact ad4 fun a _=>my _ _ _
theorem MS(w:Nat->Nat->Wo)(S:l < h):ev w (Q l h).lf=gp ((List.range' l (h - l)).map fun a=>ad (ev w (Q l a).lf) (ev w (Q a h).lt)):=by
 have A:(Q l h).lf=(List.range' l (h - l)).flatMap fun a=>pr (Q l a).lf (Q a h).lt:=by
  conv=>lhs;rw[bX S]
  show(List.range' l (h - l)).flatMap _=_;refine bV fun a d=>?_;by_cases c:a=l
  . subst c;rw[if_pos rfl,if_pos rfl,i3];congr 1
    rw[bX S];rfl
  . rw[if_neg c,if_neg c]
 rw[A,kK];congr 1
 exact ad4 fun a _=>my _ _ _
noncomputable def ws(a:Way):List Nat:=a.map (·.1)
structure jY(S:List Way)(lo n m:Nat):Prop where
 c: ∀a∈S,(ws a).Perm (List.range' lo n)/\ ∀p∈a,p.2<=m
theorem jP(f:jY S lo n m)(g:jY T (lo+n) k m):jY (pr S T) lo (n+k) m:=⟨fun a d=>by
 obtain⟨x,h,d⟩:=af1.mp d;obtain⟨y,b,rfl⟩:=ab6.mp d;refine⟨?_,fun p q=>(ad8.mp q).elim ((f.c x h).2 p) ((g.c y b).2 p)⟩;unfold ws;rw[ac5,<-ah9];exact(f.c x h).1.append (g.c y b).1⟩
theorem kR{L:List Nat}{f:Nat->List Way}{lo n m:Nat}(h: ∀x∈L,jY (f x) lo n m):jY (L.flatMap f) lo n m:=⟨fun a d=>by
 obtain⟨x,i,d⟩:=af1.mp d;exact(h x i).c a d⟩
theorem ni:jY [[]] lo 0 m:=⟨fun a d=>by rw[ab1.mp d];exact⟨.nil,fun p q=>absurd q aa8⟩⟩
theorem kQ(h:o<=m):jY [[(i,o)]] i 1 m:=⟨fun a d=>by
 rw[ab1.mp d];exact⟨.refl _,fun p q=>by rw[ab1.mp q];exact h⟩⟩
theorem jY.cast(h:jY S lo n m)(u:lo=lo')(x:n=n'):jY S lo' n' m:=by subst u;subst x;exact h
theorem Gm(f:jY S (lo+k) n m)(g:jY T lo k m):jY (pr S T) lo (n+k) m:=⟨fun a d=>by
 obtain⟨x,h,d⟩:=af1.mp d;obtain⟨y,b,rfl⟩:=ab6.mp d;refine⟨?_,fun p q=>(ad8.mp q).elim ((f.c x h).2 p) ((g.c y b).2 p)⟩;unfold ws;rw[ac5,Nat.add_comm n k,<-ah9];exact List.perm_append_comm.trans ((g.c y b).1.append (f.c x h).1)⟩
theorem gY: ∀(d l h:Nat),h - l=d->l<=h->h<=m->jY (Q l h).rg (l+1) (h - l) m/\jY (Q l h).lf l (h - l) m/\(l < h->jY (Q l h).rt (l+1) (h - l) m/\jY (Q l h).lt l (h - l) m):=fun d=>by
 induction d using Nat.strongRecOn with
 | _ d ih=>
  intro l h r w A;by_cases c:l=h
  . subst c;rw[i3,an6];exact⟨ni,ni,fun z=>absurd z (ag6 _)⟩
  have lt:l < h:=by lia
  have I:jY (pI Q l h) (l+1) (h - l - 1) m:=kR fun a i=>by
   have:=ad0.mp i;have f:=(ih (a - l) (by lia) l a rfl (by lia) (by lia)).1;have g:=(ih (h - (a+1)) (by lia) (a+1) h rfl (by lia) (by lia)).2.1;exact(jP f (g.cast (by lia) rfl)).cast rfl (by lia)
  have j:jY (Q l h).rt (l+1) (h - l) m:=by
   rw[bX lt];show jY (pr [[(h,l)]] (pI Q l h)) _ _ _;have f:jY [[(h,l)]] (l+1+(h - l - 1)) 1 m:=(kQ (by lia)).cast (by lia) rfl;exact(Gm f I).cast rfl (by lia)
  have S:jY (Q l h).lt l (h - l) m:=by
   rw[bX lt];show jY (pr [[(l,h)]] (pI Q l h)) _ _ _;exact(jP (kQ (by lia)) I).cast rfl (by lia)
  refine⟨?_,?_,fun _=>⟨j,S⟩⟩
  . rw[bX lt];refine kR fun a i=>?_;have:=ad0.mp i;by_cases e:a=h
    . rw[if_pos e,if_pos e];rw[bX lt] at j;exact(jP j ni).cast rfl (by lia)
    . rw[if_neg e,if_neg e];have f:=((ih (a - l) (by lia) l a rfl (by lia) (by lia)).2.2 (by lia)).1;have g:=(ih (h - a) (by lia) a h rfl (by lia) A).1;exact(jP f (g.cast (by lia) rfl)).cast rfl (by lia)
  . rw[bX lt];refine kR fun a i=>?_;have:=ad0.mp i;by_cases e:a=l
    . rw[if_pos e,if_pos e];rw[bX lt] at S;exact(jP ni S).cast rfl (by lia)
    . rw[if_neg e,if_neg e];have f:=(ih (a - l) (by lia) l a rfl (by lia) (by lia)).2.1;have g:=((ih (h - a) (by lia) a h rfl (by lia) A).2.2 (by lia)).2;exact(jP f (g.cast (by lia) rfl)).cast rfl (by lia)
noncomputable def Cz(n:Nat):List Way:=(List.range' 1 n).flatMap fun t=>pr [[(t,0)]] (pr (Q 1 t).lf (Q t n).rg)
theorem HB(w:Nat->Nat->Wo)(n:Nat):ev w (Cz n)=gp ((List.range' 1 n).map fun t=>ad (w t 0) (ad (ev w (Q 1 t).lf) (ev w (Q t n).rg))):=by
 unfold Cz;rw[kK];congr 1
 exact ad4 fun t _=>by rw[my,sY,my]
theorem zU(n:Nat): ∀a∈Cz n,(ws a).Perm (List.range' 1 n)/\ ∀p∈a,p.2<=n:=fun a d=>by
 obtain⟨t,r,d⟩:=af1.mp d;have:=ad0.mp r;have g:=(gY (m:=n) (t - 1) 1 t rfl (by lia) (by lia)).2.1;have h:=(gY (m:=n) (n - t) t n rfl (by lia) (ab3 _)).1;have T:jY [[(t,0)]] t 1 n:=kQ (ag0 _);obtain⟨x,j,d⟩:=af1.mp d;obtain⟨y,b,rfl⟩:=ab6.mp d;obtain⟨u,l,b⟩:=af1.mp b;obtain⟨v,i,rfl⟩:=ab6.mp b;refine⟨?_,fun p q=>?_⟩
 . have O:=(g.c u l).1;have R:=(h.c v i).1;have X:=(T.c x j).1;unfold ws at O R X ⊢;rw[ac5,ac5];have e:List.range' 1 n=List.range' 1 (t - 1)++(List.range' t 1++List.range' (t+1) (n - t)):=by
    have G:List.range' t 1++List.range' (t+1) (n - t)=List.range' t (1+(n - t)):=ah9 ..;have f:List.range' 1 (t - 1)++List.range' (1+(t - 1)) (1+(n - t))=List.range' 1 ((t - 1)+(1+(n - t))):=ah9 ..;rw[G];rw[show(1:Nat)+(t - 1)=t by lia] at f;rw[f];congr 1
    lia
   rw[e];refine(X.append (O.append R)).trans ?_;rw[<-ag8,<-ag8];exact List.perm_append_comm.append_right _
 . rcases ad8.mp q with q | q
   . exact(T.c x j).2 p q
   . rcases ad8.mp q with q | q
     . exact(g.c u l).2 p q
     . exact(h.c v i).2 p q
noncomputable def eP(w:Nat->Nat->Wo):Nat->List Nat->Wo
 | _,[]=>some 0
 | i,x::xs=>ad (w i x) (eP w (i+1) xs)
noncomputable abbrev g0 (w:Nat->Nat->Wo) (h:List Nat):Wo:=eP w 1 h
noncomputable def lk(a:Way)(i:Nat):Nat:=(a.lookup i).getD 0
noncomputable def Jl(n:Nat)(a:Way):List Nat:=(List.range' 1 n).map (lk a)
theorem tX(w:Nat->Nat->Wo)(f:Nat->Nat): ∀(n i:Nat),eP w i ((List.range' i n).map f)=jf ((List.range' i n).map fun j=>w j (f j))
 | 0,_=>rfl
 | n+1,i=>by rw[ao8,ad5,ad5,eP,jf,tX w f n (i+1)]
theorem lookup_mem: ∀{a:Way} {p:Nat × Nat},(ws a).Nodup->p∈a->a.lookup p.1=some p.2
 | q::a,p,nd,h=>by
  unfold ws at nd;rw[ad5,ak1] at nd;obtain⟨A,j⟩:=q;rcases ab9.mp h with e | h
  . subst e;simp [ae7]
  . have D:p.1≠A:=fun z=>nd.1 (by rw[<-z];exact ab6.mpr ⟨p,h,rfl⟩);have:(p.1==A)=false:=ah6.mpr D;rw[ae7,this];exact lookup_mem nd.2 h
theorem Hs(w:Nat->Nat->Wo)(h:(ws a).Perm (List.range' 1 n)):wt w a=g0 w (Jl n a):=by
 have u:(ws a).Nodup:=h.nodup_iff.mpr at3;unfold g0 Jl;rw[tX];have e:a.map (fun p=>w p.1 p.2)=(ws a).map fun j=>w j (lk a j):=by
  unfold ws;rw[ad6];refine ad4 fun p q=>?_;show w p.1 p.2=w p.1 (lk a p.1);unfold lk;rw[lookup_mem u q];rfl
 unfold wt;rw[e];exact C1 (h.map _)
noncomputable def cN(n:Nat):List (List Nat):=(Cz n).map (Jl n)
theorem t6(w:Nat->Nat->Wo)(n:Nat):ev w (Cz n)=gp ((cN n).map (g0 w)):=by
 unfold ev cN;rw[ad6];congr 1
 exact ad4 fun a d=>Hs w (zU n a d).1
theorem aL(m:h∈cN n):h.length=n:=by
 obtain⟨a,_,rfl⟩:=ab6.mp m;unfold Jl;rw[aa4,ac4]
theorem Bj{a:Way}:a.lookup i=some x->(i,x)∈a:=by
 induction a with
 | nil=>intro h;cases h
 | cons p a ih=>
  intro h;obtain⟨L,k⟩:=p;rw[ae7] at h;by_cases c:i=L
  . subst c;simp at h;subst h;exact ab4
  . have:(i==L)=false:=ah6.mpr c;rw[this] at h;exact ab5 _ (ih h)
theorem dJ(m:h∈cN n): ∀x∈h,x<=n:=by
 obtain⟨a,d,rfl⟩:=ab6.mp m;intro x j;obtain⟨i,_,rfl⟩:=ab6.mp j;unfold lk;cases e:a.lookup i with
 | none=>exact ag0 _
 | some y=>exact(zU n a d).2 _ (Bj e)
noncomputable def code(B:Nat):List Nat->Int
 | []=>0
 | x::xs=>(x:Int)*(B:Int)^xs.length+code B xs
theorem uO{B:Nat}(h:0 < B)(n:Nat):0 < (B:Int)^n:=Int.pow_pos (by lia)
theorem nj: ∀{h:List Nat},(∀x∈h,x < B)->0<=code B h/\code B h < (B:Int)^h.length
 | [],_=>⟨at5 _,by show(0:Int) < 1;decide⟩
 | x::xs,hx=>by
  have n:=hx x ab4;obtain⟨a,b⟩:=nj (h:=xs) fun y c=>hx y (ab5 _ c);have p:=uO (B:=B) (by lia) xs.length;unfold code;rw[ad3,Int.pow_succ];generalize (B:Int)^xs.length=P at*;have u:0<=(x:Int)*P:=Int.mul_nonneg (by lia) (by lia);have z:((x:Int)+1)*P<=(B:Int)*P:=aj0 (by lia) (by lia);rw[ap5,Int.one_mul] at z;rw[Int.mul_comm P];exact⟨by lia,by lia⟩
theorem qI(B:Nat): ∀(h:List Nat) (x:Nat),code B (h++ [x])=code B h*(B:Int)+(x:Int)
 | [],x=>by simp [code]
 | y::ys,x=>by
  rw[al6,code,code,qI B ys x,ac1,List.length_singleton,Int.pow_succ,ap5,Int.mul_assoc,Int.add_assoc]
theorem code_inj: ∀{h g:List Nat},h.length=g.length->(∀x∈h,x < B)->(∀x∈g,x < B)->code B h=code B g->h=g
 | [],[],_,_,_,_=>rfl
 | x::xs,y::ys,l,hx,hy,e=>by
  have n:xs.length=ys.length:=by simpa using l
  obtain⟨G,i⟩:=nj (h:=xs) fun z f=>hx z (ab5 _ f);obtain⟨T,u⟩:=nj (h:=ys) fun z f=>hy z (ab5 _ f);have p:=uO (B:=B) (by have:=hx x ab4;lia) xs.length;unfold code at e;rw[<-n] at u e;have c:x=y:=by
   generalize (B:Int)^xs.length=P at*;rcases as9 x y with d | d | d
   . have A:((x:Int)+1)*P<=(y:Int)*P:=aj0 (by lia) (by lia);rw[ap5,Int.one_mul] at A;lia
   . exact d
   . have A:((y:Int)+1)*P<=(x:Int)*P:=aj0 (by lia) (by lia);rw[ap5,Int.one_mul] at A;lia
  subst c;rw[code_inj n (fun z f=>hx z (ab5 _ f)) (fun z f=>hy z (ab5 _ f)) (by lia)]
noncomputable def wr(n:Nat)(w:Nat->Nat->Wo)(i o:Nat):Wo:=(w i o).map fun v=>v*((n:Int)+1)^n - (o:Int)*((n:Int)+1)^(n - i)
theorem mR(n:Nat)(w:Nat->Nat->Wo): ∀(h:List Nat) (i:Nat),i+h.length=n+1->1<=i->eP (wr n w) i h=(eP w i h).map fun v=>v*((n:Int)+1)^n - code (n+1) h
 | [],i,e,_=>by simp [eP,code]
 | x::xs,i,e,i1=>by
  have Q:i+1+xs.length=n+1:=by rw[ad3] at e;lia
  rw[eP,eP,mR n w xs (i+1) Q (by lia)];unfold wr;rw[show n - i=xs.length by lia];have N:code (n+1) (x::xs)=(x:Int)*((n:Int)+1)^xs.length+code (n+1) xs:=by
   rw[code];push_cast
   rfl
  rw[N];cases w i x with
  | none=>rfl
  | some a=>
   cases eP w (i+1) xs with
   | none=>rfl
   | some b=>
    show some ((a*((n:Int)+1)^n - (x:Int)*((n:Int)+1)^xs.length)+(b*((n:Int)+1)^n - code (n+1) xs))=some ((a+b)*((n:Int)+1)^n - ((x:Int)*((n:Int)+1)^xs.length+code (n+1) xs));congr 1
    rw[ap5];generalize a*((n:Int)+1)^n=p;generalize b*((n:Int)+1)^n=q;generalize (x:Int)*((n:Int)+1)^xs.length=r;lia
inductive jX(n:Nat)(w:Nat->Nat->Wo):Option (Int × List Nat)->Prop
 | no (h: ∀g∈cN n,g0 w g=none):jX n w none
 | yes (v:Int) (h:List Nat) (m:h∈cN n) (e:g0 w h=some v) (b: ∀g∈cN n,∀u,g0 w g=some u->u < v\/(u=v/\code (n+1) h<=code (n+1) g)):jX n w (some (v,h))
theorem HV{v u c d P:Int}(w:0<=c)(l:c < P)(m:0<=d)(n:d < P)(h:u*P - d<=v*P - c):u < v\/(u=v/\c<=d):=by
 rcases Int.lt_trichotomy u v with z | z | z
 . exact .inl z
 . subst z;exact .inr ⟨rfl,by lia⟩
 . have x:(v+1)*P<=u*P:=aj0 (by lia) (by lia);rw[ap5,Int.one_mul] at x;lia
theorem pZ(m:h∈cN n):0<=code (n+1) h/\code (n+1) h < ((n:Int)+1)^n:=by
 have:=nj (B:=n+1) (h:=h) fun x i=>at0 (dJ m x i);rw[aL m] at this;push_cast at this
 exact this
theorem qR(h:ev (wr n w) (Cz n)=none):jX n w none:= .no fun g m=>by
 rw[t6] at h;have:=kH.mp h _ (ab6.mpr ⟨g,m,rfl⟩);unfold g0 at this;rw[mR n w g 1 (by rw[aL m];lia) (by decide)] at this;cases e:g0 w g with
 | none=>rfl
 | some v=>unfold g0 at e;rw[e] at this;cases this
theorem qQ(h:ev (wr n w) (Cz n)=some T): ∃v g,jX n w (some (v,g))/\T=v*((n:Int)+1)^n - code (n+1) g:=by
 rw[t6] at h;obtain⟨g,m,e⟩:=ab6.mp (m8 h);unfold g0 at e;rw[mR n w g 1 (by rw[aL m];lia) (by decide)] at e;cases x:g0 w g with
 | none=>unfold g0 at x;rw[x] at e;cases e
 | some v=>
  have B:=x;unfold g0 at B;rw[B] at e;have C:v*((n:Int)+1)^n - code (n+1) g=T:=Option.some.inj e;refine⟨v,g,.yes v g m x fun i f u y=>?_,C.symm⟩;have z:some (u*((n:Int)+1)^n - code (n+1) i)∈(cN n).map (g0 (wr n w)):=ab6.mpr ⟨i,f,by
   unfold g0 at y ⊢;rw[mR n w i 1 (by rw[aL f];lia) (by decide),y];rfl⟩
  have:=Ff h z;rw[<-C] at this;obtain⟨a,b⟩:=pZ m;obtain⟨c,d⟩:=pZ f;exact HV a b c d this
abbrev Rs:=Int × List Nat
structure InR(n:Nat)(r:Rs):Prop where
 l:r.2.length=n
 b: ∀x∈r.2,x<=n
theorem JY(h:jX n w (some r)):InR n r:=by
 cases h with
 | yes v h m e b=>exact⟨aL m,dJ m⟩
theorem l6(h:jX n w r)(h':jX n w r'):r=r':=by
 cases h with
 | no h=>cases h' with
  | no _=>rfl
  | yes v g m e b=>rw[h g m] at e;cases e
 | yes v g m e b=>cases h' with
  | no h=>rw[h g m] at e;cases e
  | yes v' g' m' e' b'=>
   have O:=b g' m' v' e';have p:=b' g m v e;have o:v=v':=by lia
   subst o;have N:code (n+1) g=code (n+1) g':=by lia
   rw[code_inj (by rw[aL m,aL m']) (fun x i=>at0 (dJ m x i)) (fun x i=>at0 (dJ m' x i)) N]
noncomputable def mN(B:Int):Nat->Int->List Int
 | 0,_=> []
 | k+1,x=>x % B::mN B k (x / B)
theorem qA(q:0 < B)(v:Int): ∀(n:Nat) (h:List Nat),h.length=n->(∀x∈h,x < B)->mN B n (code B h - v*(B:Int)^n)=h.reverse.map Int.ofNat
 | 0,[],_,_=>rfl
 | n+1,h,l,hx=>by
  have D:h≠ []:=fun z=>by rw[z] at l;cases l
  obtain⟨A,x,e⟩: ∃A x,h=A++ [x]:=⟨h.dropLast,h.getLast D,(ag5 D).symm⟩
  subst e;have o:A.length=n:=by rw[ac1] at l;simpa using l
  have p:=hx x (by simp);have u:code B (A++ [x]) - v*(B:Int)^(n+1)=(x:Int)+(code B A - v*(B:Int)^n)*(B:Int):=by
   rw[qI,Int.pow_succ,Int.sub_mul,Int.mul_assoc];lia
  have C:(B:Int)≠0:=by lia
  rw[mN,u,Int.add_mul_emod_self_right,Int.emod_eq_of_lt (by lia) (by lia),Int.add_mul_ediv_right _ _ C,Int.ediv_eq_zero_of_lt (by lia) (by lia),Int.zero_add,qA q v n A o fun y a=>hx y (ae6 _ a)];simp
abbrev LL:=List (List Nat)
noncomputable def Mq(S T:LL):LL:=S.flatMap fun a=>T.map fun b=>a++b
theorem mZ:x∈Mq S T↔ ∃a b,a∈S/\b∈T/\x=a++b:=by
 unfold Mq;rw[af1];constructor
 . rintro⟨a,d,h⟩
   obtain⟨b,c,e⟩:=ab6.mp h;exact⟨a,b,d,c,e.symm⟩
 . rintro⟨a,b,d,c,e⟩
   exact⟨a,d,ab6.mpr ⟨b,c,e.symm⟩⟩
noncomputable def ft:Nat->(Nat->Nat->Nat->LL) × (Nat->Nat->Nat->LL)
 | 0=>(fun _ _ _=> [[]],fun _ _ _=> [])
 | d+1=>(fun f m l=>if m=0 then [[]] else(List.range m).flatMap fun e=>Mq ((ft d).2 f (e+1) l) ((ft d).1 (f+e+1) (m - (e+1)) l),
   fun f m l=>(List.range m).flatMap fun k=>Mq ((ft d).1 f k (f+k)) (((ft d).1 (f+k+1) (m - (k+1)) (f+k)).map fun b=>l::b))
noncomputable def Fo(f m k:Nat):LL:=(ft (2*m+1)).1 f m k
noncomputable def Tr(f m k:Nat):LL:=(ft (2*m)).2 f m k
theorem iR: ∀(d d':Nat),(∀f m l,2*m<=d->2*m<=d'->(2*m+1<=d->2*m+1<=d'->(ft d).1 f m l=(ft d').1 f m l)/\(ft d).2 f m l=(ft d').2 f m l)
 | 0,0=>fun f m l _ _=>⟨fun _ _=>rfl,rfl⟩
 | 0,d'+1=>fun f m l h _=>by
  have:m=0:=by lia
  subst this;exact⟨fun h=>absurd h (by lia),rfl⟩
 | d+1,0=>fun f m l _ h=>by
  have:m=0:=by lia
  subst this;exact⟨fun _ h=>absurd h (by lia),rfl⟩
 | d+1,d'+1=>fun f m l h F=>by
  refine⟨fun k i=>?_,?_⟩
  . show(if m=0 then [[]] else _)=(if m=0 then [[]] else _)
    by_cases c:m=0
    . rw[if_pos c,if_pos c]
    . rw[if_neg c,if_neg c];refine bV fun e E=>?_;have:=af9.mp E;rw[(iR d d' f (e+1) l (by lia) (by lia)).2,(iR d d' (f+e+1) (m - (e+1)) l (by lia) (by lia)).1 (by lia) (by lia)]
  . show(List.range m).flatMap _=(List.range m).flatMap _;refine bV fun e E=>?_;have:=af9.mp E;rw[(iR d d' f e (f+e) (by lia) (by lia)).1 (by lia) (by lia),(iR d d' (f+e+1) (m - (e+1)) (f+e) (by lia) (by lia)).1 (by lia) (by lia)]
theorem Ka(f k:Nat):Fo f 0 k= [[]]:=rfl
theorem Kb(h:0 < m):Fo f m on=(List.range m).flatMap fun e=>Mq (Tr f (e+1) on) (Fo (f+e+1) (m - (e+1)) on):=by
 unfold Fo Tr;show(if m=0 then [[]] else _)=_;rw[if_neg (by lia)];refine bV fun e E=>?_;have:=af9.mp E;rw[(iR (2*m) (2*(e+1)) f (e+1) on (by lia) (by lia)).2,(iR (2*m) (2*(m - (e+1))+1) (f+e+1) (m - (e+1)) on (by lia) (by lia)).1 (by lia) (by lia)]
theorem J4:Tr f m on=(List.range m).flatMap fun k=>Mq (Fo f k (f+k)) ((Fo (f+k+1) (m - (k+1)) (f+k)).map fun b=>on::b):=by
 unfold Fo Tr;cases m with
 | zero=>rfl
 | succ m=>
  rw[show 2*(m+1)=(2*m+1)+1 by lia];show(List.range (m+1)).flatMap (fun k=>Mq ((ft (2*m+1)).1 f k (f+k)) (((ft (2*m+1)).1 (f+k+1) (m+1 - (k+1)) (f+k)).map fun b=>on::b))=_;refine bV fun e E=>?_;have:=af9.mp E;rw[(iR (2*m+1) (2*e+1) f e (f+e) (by lia) (by lia)).1 (by lia) (by lia),(iR (2*m+1) (2*(m+1 - (e+1))+1) (f+e+1) (m+1 - (e+1)) (f+e) (by lia) (by lia)).1 (by lia) (by lia)]
theorem dZ(h:0 < m):x∈Fo f m on↔ ∃e t r,e < m/\t∈Tr f (e+1) on/\r∈Fo (f+e+1) (m - (e+1)) on/\x=t++r:=by
 rw[Kb h,af1];constructor
 . rintro⟨e,E,j⟩
   obtain⟨t,r,g,i,T⟩:=mZ.mp j;exact⟨e,t,r,af9.mp E,g,i,T⟩
 . rintro⟨e,t,r,E,g,i,T⟩
   exact⟨e,af9.mpr E,mZ.mpr ⟨t,r,g,i,T⟩⟩
theorem dG:x∈Tr f m on↔ ∃k a b,k < m/\a∈Fo f k (f+k)/\b∈Fo (f+k+1) (m - (k+1)) (f+k)/\x=a++on::b:=by
 rw[J4,af1];constructor
 . rintro⟨e,E,i⟩
   obtain⟨a,c,g,h,T⟩:=mZ.mp i;obtain⟨b,d,rfl⟩:=ab6.mp h;exact⟨e,a,b,af9.mp E,g,d,T⟩
 . rintro⟨e,a,b,E,g,h,T⟩
   exact⟨e,af9.mpr E,mZ.mpr ⟨a,on::b,g,ab6.mpr ⟨b,h,rfl⟩,T⟩⟩
theorem cO:x∈Fo f 0 on↔x= []:=by rw[Ka,ab1]
theorem fP: ∀(m:Nat),(∀f l x,x∈Fo f m l->x.length=m)/\ ∀f l x,x∈Tr f m l->x.length=m:=fun m=>by
 induction m using Nat.strongRecOn with
 | _ m ih=>
  have y: ∀f l x,x∈Tr f m l->x.length=m:=fun f l x h=>by
   obtain⟨k,a,b,R,j,n,rfl⟩:=dG.mp h;have g:=(ih k (by lia)).1 _ _ _ j;have i:=(ih (m - (k+1)) (by lia)).1 _ _ _ n;rw[ac1,ad3,g,i];lia
  refine⟨fun f l x h=>?_,y⟩;by_cases c:m=0
  . subst c;rw[cO.mp h];rfl
  . obtain⟨e,t,r,E,q,o,rfl⟩:=(dZ (by lia)).mp h;have i:=(ih (m - (e+1)) (by lia)).1 _ _ _ o;have g:t.length=e+1:=by
     by_cases d:e+1=m
     . rw[d] at q ⊢;exact y _ _ _ q
     . exact(ih (e+1) (by lia)).2 _ _ _ q
    rw[ac1,g,i];lia
theorem IX: ∀(m f on:Nat) (x:List Nat),0 < m->x∈Fo f m on-> ∃e a t,e < m/\a∈Fo f e on/\t∈Tr (f+e) (m - e) on/\x=a++t:=fun m=>by
 induction m using Nat.strongRecOn with
 | _ m ih=>
  intro f on x z h;obtain⟨e,t,r,F,q,n,rfl⟩:=(dZ z).mp h;by_cases c:m - (e+1)=0
  . rw[c] at n;rw[cO.mp n];exact⟨0,[],t,z,cO.mpr rfl,by rw[show m - 0=e+1 by lia];exact q,by rw[ag3];rfl⟩
  . obtain⟨Q,J,E,i,g,T,rfl⟩:=ih (m - (e+1)) (by lia) (f+e+1) on r (by lia) n;refine⟨e+1+Q,t++J,E,by lia,(dZ (by lia)).mpr ⟨e,t,J,by lia,q,by rw[show e+1+Q - (e+1)=Q by lia];exact g,rfl⟩,?_,by rw[ag8]⟩;rw[show f+(e+1+Q)=f+e+1+Q by lia,show m - (e+1+Q)=m - (e+1) - Q by lia];exact T
theorem zi: ∀(e m f on:Nat) (a t:List Nat),e < m->a∈Fo f e on->t∈Tr (f+e) (m - e) on->a++t∈Fo f m on:=fun e=>by
 induction e using Nat.strongRecOn with
 | _ e ih=>
  intro m f on a t h d q;by_cases c:e=0
  . subst c;rw[cO.mp d];exact(dZ (by lia)).mpr ⟨m - 1,t,[],by lia,by rw[show m - 1+1=m - 0 by lia];exact q,by rw[show m - (m - 1+1)=0 by lia];exact cO.mpr rfl,by rw[ag3];rfl⟩
  . obtain⟨Q,L,H,i,g,T,rfl⟩:=(dZ (by lia)).mp d;have:=ih (e - (Q+1)) (by lia) (m - (Q+1)) (f+Q+1) on H t (by lia) T (by
     rw[show f+Q+1+(e - (Q+1))=f+e by lia,show m - (Q+1) - (e - (Q+1))=m - e by lia];exact q)
    exact(dZ (by lia)).mpr ⟨Q,L,H++t,by lia,g,this,by rw[ag8]⟩
noncomputable def hg(lo n:Nat)(a:Way):List Nat:=(List.range' lo n).map (lk a)
theorem oq(u:(ws a).Nodup)(h:(i,x)∈a):lk a i=x:=by
 unfold lk;rw[show a.lookup i=some x from lookup_mem (p:=(i,x)) u h];rfl
theorem CM(h:i∈ws a): ∃x,(i,x)∈a:=by
 obtain⟨p,q,rfl⟩:=ab6.mp h;exact⟨p.2,q⟩
def Om(S:List Way)(lo n:Nat)(x:List Nat):Prop:= ∃a∈S,x=hg lo n a
theorem iN{a b c:Way}(d:(ws a).Perm (List.range' lo n))(e:(ws b).Perm (List.range' (lo+n) k))(l:c.Perm (a++b)):hg lo (n+k) c=hg lo n a++hg (lo+n) k b:=by
 have E:(ws c).Perm (List.range' lo (n+k)):=by
  rw[<-ah9];refine(l.map _).trans ?_;rw[ac5];exact d.append e
 have o:(ws c).Nodup:=E.nodup_iff.mpr at3;unfold hg;rw[<-ah9,ac5];congr 1
 . refine ad4 fun i I=>?_;obtain⟨x,h⟩:=CM (d.mem_iff.mpr I);rw[oq (d.nodup_iff.mpr at3) h,oq o (l.mem_iff.mpr (ae6 _ h))]
 . refine ad4 fun i I=>?_;obtain⟨x,h⟩:=CM (e.mem_iff.mpr I);rw[oq (e.nodup_iff.mpr at3) h,oq o (l.mem_iff.mpr (ac0 _ h))]
theorem zh(f:jY S lo n m)(g:jY T (lo+n) k m):Om (pr S T) lo (n+k) x↔ ∃y z,Om S lo n y/\Om T (lo+n) k z/\x=y++z:=by
 constructor
 . rintro⟨c,l,rfl⟩
   obtain⟨a,d,l⟩:=af1.mp l;obtain⟨b,e,rfl⟩:=ab6.mp l;exact⟨_,_,⟨a,d,rfl⟩,⟨b,e,rfl⟩,iN (f.c a d).1 (g.c b e).1 (.refl _)⟩
 . rintro⟨y,z,⟨a,d,rfl⟩,⟨b,e,rfl⟩,rfl⟩
   exact⟨a++b,af1.mpr ⟨a,d,ab6.mpr ⟨b,e,rfl⟩⟩,(iN (f.c a d).1 (g.c b e).1 (.refl _)).symm⟩
theorem Iy(f:jY S (lo+k) n m)(g:jY T lo k m):Om (pr S T) lo (k+n) x↔ ∃y z,Om T lo k y/\Om S (lo+k) n z/\x=y++z:=by
 constructor
 . rintro⟨c,l,rfl⟩
   obtain⟨a,d,l⟩:=af1.mp l;obtain⟨b,e,rfl⟩:=ab6.mp l;exact⟨_,_,⟨b,e,rfl⟩,⟨a,d,rfl⟩,iN (g.c b e).1 (f.c a d).1 List.perm_append_comm⟩
 . rintro⟨y,z,⟨b,e,rfl⟩,⟨a,d,rfl⟩,rfl⟩
   exact⟨a++b,af1.mpr ⟨a,d,ab6.mpr ⟨b,e,rfl⟩⟩,(iN (g.c b e).1 (f.c a d).1 List.perm_append_comm).symm⟩
theorem mY{L:List Nat}:Om (L.flatMap g) lo n x↔ ∃j∈L,Om (g j) lo n x:=by
 constructor
 . rintro⟨c,l,rfl⟩
   obtain⟨j,V,h⟩:=af1.mp l;exact⟨j,V,c,h,rfl⟩
 . rintro⟨j,V,c,h,rfl⟩
   exact⟨c,af1.mpr ⟨j,V,h⟩,rfl⟩
theorem D6:Om [[]] lo 0 x↔x= []:=by
 constructor
 . rintro⟨c,l,rfl⟩;rfl
 . rintro rfl;exact⟨[],ab1.mpr rfl,rfl⟩
theorem se:Om [[(i,o)]] i 1 x↔x= [o]:=by
 have e:hg i 1 [(i,o)]= [o]:=by
  show [lk [(i,o)] i]= [o]
  rw[oq (x:=o) (by simp [ws]) (ab1.mpr rfl)]
 constructor
 . rintro⟨c,l,rfl⟩;rw[ab1.mp l];exact e
 . rintro rfl;exact⟨_,ab1.mpr rfl,e.symm⟩
theorem sg(S:l < h):Om (pI Q l h) (l+1) (h - l - 1) x↔ ∃m u v,l<=m/\m < h/\Om (Q l m).rg (l+1) (m - l) u/\Om (Q (m+1) h).lf (m+1) (h - (m+1)) v/\x=u++v:=by
 unfold pI;rw[mY];have j: ∀m,l<=m->m < h-> ∀x,Om (pr (Q l m).rg (Q (m+1) h).lf) (l+1) (h - l - 1) x↔ ∃u v,Om (Q l m).rg (l+1) (m - l) u/\Om (Q (m+1) h).lf (m+1) (h - (m+1)) v/\x=u++v:=fun m f g x=>by
  have D:=(gY (m:=h) (m - l) l m rfl f (by lia)).1;have t:=(gY (m:=h) (h - (m+1)) (m+1) h rfl (by lia) (ab3 _)).2.1;have:=zh D (t.cast (show m+1=l+1+(m - l) by lia) rfl) (x:=x);rw[show m - l+(h - (m+1))=h - l - 1 by lia,show l+1+(m - l)=m+1 by lia] at this;exact this
 constructor
 . rintro⟨m,z,i⟩
   have:=ad0.mp z;obtain⟨u,v,f,g,T⟩:=(j m (by lia) (by lia) x).mp i;exact⟨m,u,v,by lia,by lia,f,g,T⟩
 . rintro⟨m,u,v,G,c,f,g,T⟩
   exact⟨m,ad0.mpr ⟨G,by lia⟩,(j m G c x).mpr ⟨u,v,f,g,T⟩⟩
theorem zV(S:l < h)(z:h<=m):jY (pI Q l h) (l+1) (h - l - 1) m:=kR fun a d=>by
 have:=ad0.mp d;have f:=(gY (m:=m) (a - l) l a rfl (by lia) (by lia)).1;have g:=(gY (m:=m) (h - (a+1)) (a+1) h rfl (by lia) (by lia)).2.1;exact(jP f (g.cast (by lia) rfl)).cast rfl (by lia)
theorem KD(S:l < h):Om (Q l h).rt (l+1) (h - l) x↔ ∃y,Om (pI Q l h) (l+1) (h - l - 1) y/\x=y++ [l]:=by
 rw[bX S];show Om (pr [[(h,l)]] (pI Q l h)) _ _ _↔_;have D:jY [[(h,l)]] (l+1+(h - l - 1)) 1 h:=(kQ (by lia)).cast (by lia) rfl;have:=Iy D (zV S (ab3 _)) (x:=x);rw[show h - l - 1+1=h - l by lia,show l+1+(h - l - 1)=h by lia] at this;rw[this];constructor
 . rintro⟨y,z,f,g,T⟩
   rw[se.mp g] at T;exact⟨y,f,T⟩
 . rintro⟨y,f,T⟩
   exact⟨y,[l],f,se.mpr rfl,T⟩
theorem KG(S:l < h):Om (Q l h).lt l (h - l) x↔ ∃y,Om (pI Q l h) (l+1) (h - l - 1) y/\x=h::y:=by
 rw[bX S];show Om (pr [[(l,h)]] (pI Q l h)) _ _ _↔_;have:=zh (lo:=l) (n:=1) (kQ (m:=h) (ab3 _)) (zV S (ab3 _)) (x:=x);rw[show 1+(h - l - 1)=h - l by lia] at this;rw[this];constructor
 . rintro⟨y,z,f,g,T⟩
   rw[se.mp f] at T;exact⟨z,g,T⟩
 . rintro⟨y,f,T⟩
   exact⟨[h],y,se.mpr rfl,f,T⟩
theorem Qx(S:l < h):Om (Q l h).rg (l+1) (h - l) x↔ ∃a y z,l < a/\a<=h/\Om (Q l a).rt (l+1) (a - l) y/\Om (Q a h).rg (a+1) (h - a) z/\x=y++z:=by
 have A:(Q l h).rg=(List.range' (l+1) (h - l)).flatMap fun a=>pr (Q l a).rt (Q a h).rg:=by
  conv=>lhs;rw[bX S]
  show(List.range' (l+1) (h - l)).flatMap _=_;refine bV fun a d=>?_;by_cases c:a=h
  . subst c;rw[if_pos rfl,if_pos rfl,i3];congr 1
    rw[bX S];rfl
  . rw[if_neg c,if_neg c]
 rw[A,mY];have j: ∀a,l < a->a<=h-> ∀x,Om (pr (Q l a).rt (Q a h).rg) (l+1) (h - l) x↔ ∃y z,Om (Q l a).rt (l+1) (a - l) y/\Om (Q a h).rg (a+1) (h - a) z/\x=y++z:=fun a f g x=>by
  have D:=((gY (m:=h) (a - l) l a rfl (by lia) (by lia)).2.2 f).1;have t:=(gY (m:=h) (h - a) a h rfl (by lia) (ab3 _)).1;have:=zh D (t.cast (show a+1=l+1+(a - l) by lia) rfl) (x:=x);rw[show a - l+(h - a)=h - l by lia,show l+1+(a - l)=a+1 by lia] at this;exact this
 constructor
 . rintro⟨a,d,i⟩
   have:=ad0.mp d;obtain⟨u,v,f,g,T⟩:=(j a (by lia) (by lia) x).mp i;exact⟨a,u,v,by lia,by lia,f,g,T⟩
 . rintro⟨a,u,v,G,e,f,g,T⟩
   exact⟨a,ad0.mpr ⟨G,by lia⟩,(j a G e x).mpr ⟨u,v,f,g,T⟩⟩
theorem Qy(S:l < h):Om (Q l h).lf l (h - l) x↔ ∃a y z,l<=a/\a < h/\Om (Q l a).lf l (a - l) y/\Om (Q a h).lt a (h - a) z/\x=y++z:=by
 have A:(Q l h).lf=(List.range' l (h - l)).flatMap fun a=>pr (Q l a).lf (Q a h).lt:=by
  conv=>lhs;rw[bX S]
  show(List.range' l (h - l)).flatMap _=_;refine bV fun a d=>?_;by_cases c:a=l
  . subst c;rw[if_pos rfl,if_pos rfl,i3];congr 1
    rw[bX S];rfl
  . rw[if_neg c,if_neg c]
 rw[A,mY];have j: ∀a,l<=a->a < h-> ∀x,Om (pr (Q l a).lf (Q a h).lt) l (h - l) x↔ ∃y z,Om (Q l a).lf l (a - l) y/\Om (Q a h).lt a (h - a) z/\x=y++z:=fun a f g x=>by
  have D:=(gY (m:=h) (a - l) l a rfl (by lia) (by lia)).2.1;have t:=((gY (m:=h) (h - a) a h rfl (by lia) (ab3 _)).2.2 g).2;have:=zh D (t.cast (show a=l+(a - l) by lia) rfl) (x:=x);rw[show a - l+(h - a)=h - l by lia,show l+(a - l)=a by lia] at this;exact this
 constructor
 . rintro⟨a,d,i⟩
   have:=ad0.mp d;obtain⟨u,v,f,g,T⟩:=(j a (by lia) (by lia) x).mp i;exact⟨a,u,v,by lia,by lia,f,g,T⟩
 . rintro⟨a,u,v,G,e,f,g,T⟩
   exact⟨a,ad0.mpr ⟨G,by lia⟩,(j a G e x).mpr ⟨u,v,f,g,T⟩⟩
theorem si: ∀(d l h:Nat),h - l=d->l<=h->(∀x,Om (Q l h).rg (l+1) (h - l) x↔x∈Fo (l+1) (h - l) l)/\ ∀x,Om (Q l h).lf l (h - l) x↔x∈Fo l (h - l) h:=fun d=>by
 induction d using Nat.strongRecOn with
 | _ d ih=>
  intro l h r A;by_cases c:l=h
  . subst c;rw[i3,an6];exact⟨fun x=>by rw[cO];exact D6,fun x=>by rw[cO];exact D6⟩
  have S:l < h:=by lia
  refine⟨fun x=>?_,fun x=>?_⟩
  . rw[Qx S];constructor
    . rintro⟨a,y,z,G,i,b,g,rfl⟩
      obtain⟨Y,N,rfl⟩:=(KD G).mp b;obtain⟨m,u,v,o,I,n,f,rfl⟩:=(sg G).mp N;have O:=((ih (m - l) (by lia) l m rfl o).1 u).mp n;have U:=((ih (a - (m+1)) (by lia) (m+1) a rfl (by lia)).2 v).mp f;have T:=((ih (h - a) (by lia) a h rfl i).1 z).mp g;have w:v++l::z∈Tr (m+1) (h - m) l:=dG.mpr ⟨a - (m+1),v,z,by lia,by rw[show m+1+(a - (m+1))=a by lia];exact U,by rw[show m+1+(a - (m+1))=a by lia,show h - m - (a - (m+1)+1)=h - a by lia];exact T,rfl⟩;have:=zi (m - l) (h - l) (l+1) l u (v++l::z) (by lia) O (by rw[show l+1+(m - l)=m+1 by lia,show h - l - (m - l)=h - m by lia];exact w);rw[show u++v++ [l]++z=u++(v++l::z) by simp];exact this
    . intro j;obtain⟨e,u,t,E,n,q,rfl⟩:=IX (h - l) (l+1) l x (by lia) j;obtain⟨k,v,z,X,f,g,rfl⟩:=dG.mp q;have P:=((ih e (by lia) l (l+e) (by lia) (by lia)).1 u).mpr (by rw[show l+e - l=e by lia];exact n);have W:=((ih k (by lia) (l+1+e) (l+1+e+k) (by lia) (by lia)).2 v).mpr (by rw[show l+1+e+k - (l+1+e)=k by lia];exact f);have F:=((ih (h - (l+1+e+k)) (by lia) (l+1+e+k) h rfl (by lia)).1 z).mpr (by rw[show h - (l+1+e+k)=h - l - e - (k+1) by lia];exact g);refine⟨l+1+e+k,u++v++ [l],z,by lia,by lia,(KD (by lia)).mpr ⟨u++v,(sg (by lia)).mpr ⟨l+e,u,v,by lia,by lia,P,?_,rfl⟩,rfl⟩,F,by simp⟩;rw[show l+e+1=l+1+e by lia];exact W
  . rw[Qy S];constructor
    . rintro⟨a,y,z,G,i,b,g,rfl⟩
      obtain⟨p,R,rfl⟩:=(KG i).mp g;obtain⟨m,u,v,o,I,n,f,rfl⟩:=(sg i).mp R;have V:=((ih (a - l) (by lia) l a rfl G).2 y).mp b;have O:=((ih (m - a) (by lia) a m rfl o).1 u).mp n;have U:=((ih (h - (m+1)) (by lia) (m+1) h rfl (by lia)).2 v).mp f;have w:y++h::u∈Tr l (m - l+1) h:=dG.mpr ⟨a - l,y,u,by lia,by rw[show l+(a - l)=a by lia];exact V,by rw[show l+(a - l)=a by lia,show m - l+1 - (a - l+1)=m - a by lia];exact O,rfl⟩;refine(dZ (by lia)).mpr ⟨m - l,y++h::u,v,by lia,w,by rw[show l+(m - l)+1=m+1 by lia,show h - l - (m - l+1)=h - (m+1) by lia];exact U,by simp⟩
    . intro j;obtain⟨e,t,v,E,q,f,rfl⟩:=(dZ (by lia)).mp j;obtain⟨k,y,u,X,b,n,rfl⟩:=dG.mp q;have H:=((ih k (by lia) l (l+k) (by lia) (by lia)).2 y).mpr (by rw[show l+k - l=k by lia];exact b);have P:=((ih (e - k) (by lia) (l+k) (l+e) (by lia) (by lia)).1 u).mpr (by rw[show l+e - (l+k)=e+1 - (k+1) by lia];exact n);have W:=((ih (h - (l+e+1)) (by lia) (l+e+1) h rfl (by lia)).2 v).mpr (by rw[show h - (l+e+1)=h - l - (e+1) by lia];exact f);exact⟨l+k,y,h::(u++v),by lia,by lia,H,(KG (by lia)).mpr ⟨u++v,(sg (by lia)).mpr ⟨l+e,u,v,by lia,by lia,P,W,rfl⟩,rfl⟩,by simp⟩
theorem kA:g∈cN n↔g∈Tr 1 n 0:=by
 have e:g∈cN n↔Om (Cz n) 1 n g:=by
  unfold cN Om;rw[ab6];exact⟨fun⟨a,h,z⟩=>⟨a,h,z.symm⟩,fun⟨a,h,z⟩=>⟨a,h,z.symm⟩⟩
 rw[e];unfold Cz;rw[mY];have j: ∀t,1<=t->t<=n->(Om (pr [[(t,0)]] (pr (Q 1 t).lf (Q t n).rg)) 1 n g↔ ∃y z,y∈Fo 1 (t - 1) t/\z∈Fo (t+1) (n - t) t/\g=y++0::z):=fun t A B=>by
  have D:=(gY (m:=n) (t - 1) 1 t rfl A B).2.1;have C:=(gY (m:=n) (n - t) t n rfl B (ab3 _)).1;constructor
  . rintro⟨c,p,rfl⟩
    obtain⟨a,q,p⟩:=af1.mp p;obtain⟨b,o,rfl⟩:=ab6.mp p;cases ab1.mp q;obtain⟨u,l,o⟩:=af1.mp o;obtain⟨v,d,rfl⟩:=ab6.mp o;have O:=(D.c u l).1;have R:=(C.c v d).1;have X:(ws [(t,0)]).Perm (List.range' t 1):= .refl _;have J:=iN (lo:=t) (n:=1) (k:=n - t) (a:= [(t,0)]) (b:=v) X R (.refl _);have S:(ws ([(t,0)]++v)).Perm (List.range' (1+(t - 1)) (1+(n - t))):=by
     rw[show 1+(t - 1)=t by lia,<-ah9];show(ws [(t,0)]++ws v).Perm _;exact X.append R
    have w:=iN (lo:=1) (n:=t - 1) (k:=1+(n - t)) (a:=u) (b:= [(t,0)]++v) (c:= [(t,0)]++(u++v)) O S (by
     show((t,0)::(u++v)).Perm (u++(t,0)::v);exact List.perm_middle.symm)
    rw[show t - 1+(1+(n - t))=n by lia,show 1+(t - 1)=t by lia,J] at w;refine⟨hg 1 (t - 1) u,hg (t+1) (n - t) v,((si (t - 1) 1 t rfl A).2 _).mp ⟨u,l,rfl⟩,((si (n - t) t n rfl B).1 _).mp ⟨v,d,rfl⟩,?_⟩;rw[w];have:hg t 1 [(t,0)]= [0]:=by
     show [lk [(t,0)] t]= [0]
     rw[oq (x:=0) (by simp [ws]) (ab1.mpr rfl)]
    rw[this];rfl
  . rintro⟨y,z,f,i,rfl⟩
    obtain⟨u,l,rfl⟩:=((si (t - 1) 1 t rfl A).2 _).mpr f;obtain⟨v,d,rfl⟩:=((si (n - t) t n rfl B).1 _).mpr i;have O:=(D.c u l).1;have R:=(C.c v d).1;have X:(ws [(t,0)]).Perm (List.range' t 1):= .refl _;have J:=iN (lo:=t) (n:=1) (k:=n - t) (a:= [(t,0)]) (b:=v) X R (.refl _);have S:(ws ([(t,0)]++v)).Perm (List.range' (1+(t - 1)) (1+(n - t))):=by
     rw[show 1+(t - 1)=t by lia,<-ah9];show(ws [(t,0)]++ws v).Perm _;exact X.append R
    have w:=iN (lo:=1) (n:=t - 1) (k:=1+(n - t)) (a:=u) (b:= [(t,0)]++v) (c:= [(t,0)]++(u++v)) O S (by
     show((t,0)::(u++v)).Perm (u++(t,0)::v);exact List.perm_middle.symm)
    rw[show t - 1+(1+(n - t))=n by lia,show 1+(t - 1)=t by lia,J] at w;refine⟨[(t,0)]++(u++v),af1.mpr ⟨_,ab1.mpr rfl,ab6.mpr ⟨u++v,af1.mpr ⟨u,l,ab6.mpr ⟨v,d,rfl⟩⟩,rfl⟩⟩,?_⟩;rw[w];have:hg t 1 [(t,0)]= [0]:=by
     show [lk [(t,0)] t]= [0]
     rw[oq (x:=0) (by simp [ws]) (ab1.mpr rfl)]
    rw[this];rfl
 rw[dG];constructor
 . rintro⟨t,r,h⟩
   have:=ad0.mp r;obtain⟨y,z,f,i,rfl⟩:=(j t (by lia) (by lia)).mp h;exact⟨t - 1,y,z,by lia,by rw[show 1+(t - 1)=t by lia];exact f,by rw[show 1+(t - 1)=t by lia,show n - (t - 1+1)=n - t by lia];exact i,rfl⟩
 . rintro⟨k,y,z,T,f,i,rfl⟩
   refine⟨1+k,ad0.mpr ⟨by lia,by lia⟩,(j (1+k) (by lia) (by lia)).mpr ⟨y,z,by rw[show 1+k - 1=k by lia];exact f,by rw[show n - (1+k)=n - (k+1) by lia];exact i,rfl⟩⟩
theorem QZ: ∀(m:Nat),(∀f l x,x∈Fo f m l-> ∀e∈x,e=l\/(f<=e/\e < f+m))/\ ∀f l x,x∈Tr f m l-> ∀e∈x,e=l\/(f<=e/\e < f+m):=fun m=>by
 induction m using Nat.strongRecOn with
 | _ m ih=>
  have y: ∀f l x,x∈Tr f m l-> ∀e∈x,e=l\/(f<=e/\e < f+m):=fun f l x h e E=>by
   obtain⟨k,a,b,R,g,i,rfl⟩:=dG.mp h;rcases ad8.mp E with z | z
   . have:=(ih k (by lia)).1 _ _ _ g e z;lia
   . rcases ab9.mp z with z | z
     . exact .inl z
     . have:=(ih (m - (k+1)) (by lia)).1 _ _ _ i e z;lia
  refine⟨fun f l x h e E=>?_,y⟩;by_cases c:m=0
  . subst c;rw[cO.mp h] at E;exact absurd E aa8
  . obtain⟨k,t,r,R,q,n,rfl⟩:=(dZ (by lia)).mp h;rcases ad8.mp E with z | z
    . by_cases d:k+1=m
      . rw[d] at q;exact y _ _ _ q e z
      . have:=(ih (k+1) (by lia)).2 _ _ _ q e z;lia
    . have:=(ih (m - (k+1)) (by lia)).1 _ _ _ n e z;lia
end jW
namespace ay
open PySem L2 LB LD PyProof.Rows
noncomputable def top(i:Nat):Stmt:=PySem.Challenge.pw_hungwords_k86_whole_slips_from_first_to.main.body.getD i (.Pass ⟨0,0,0,0⟩)
noncomputable abbrev iz:Stmt:=top 6
noncomputable abbrev jC:Stmt:=top 7
noncomputable abbrev rT:Stmt:=top 8
noncomputable abbrev lC:Stmt:=top 11
noncomputable abbrev fY:Stmt:=top 12
noncomputable abbrev iu:Stmt:=top 13
noncomputable abbrev kd:Stmt:=top 14
noncomputable abbrev wY:Stmt:=top 15
noncomputable abbrev nR:Stmt:=top 16
noncomputable abbrev jE:Stmt:=top 18
noncomputable abbrev iA:Stmt:=top 19
noncomputable abbrev iB:Stmt:=top 20
noncomputable abbrev ix:Stmt:=top 21
noncomputable abbrev kj:Stmt:=top 23
noncomputable abbrev L1:Stmt:=top 25
noncomputable abbrev w8:Stmt:=top 26
noncomputable abbrev uF:Stmt:=top 27
noncomputable abbrev eY:Stmt:=top 28
noncomputable abbrev nQ:Stmt:=top 29
noncomputable abbrev nO:Stmt:=top 31
noncomputable abbrev iw:Stmt:=top 32
noncomputable abbrev w6:Stmt:=top 33
noncomputable abbrev dS:Stmt:=top 34
noncomputable abbrev gA:Stmt:=top 35
noncomputable abbrev iC:Stmt:=top 37
noncomputable abbrev eZ:Stmt:=top 38
noncomputable abbrev kh:Stmt:=top 39
noncomputable abbrev jD:Stmt:=top 40
noncomputable abbrev wZ:Stmt:=top 41
noncomputable abbrev Ds:Stmt:=top 42
noncomputable abbrev Dq:Stmt:=top 43
noncomputable abbrev nP:Stmt:=top 44
noncomputable abbrev eW:Stmt:=top 45
noncomputable abbrev rS:Stmt:=top 47
noncomputable abbrev rQ:Stmt:=top 48
noncomputable abbrev rR:Stmt:=top 49
noncomputable abbrev kg:Stmt:=top 50
noncomputable abbrev iy:Stmt:=top 52
noncomputable abbrev dD:Stmt:=top 53
noncomputable abbrev dR:Stmt:=top 54
noncomputable abbrev w4:Stmt:=top 55
noncomputable abbrev L3:Stmt:=top 56
structure Txt(mg:Str->Option Value):Prop where
 len:mg "len"=none
 Ju:mg "enumerate"=none
 tup:mg "tuple"=none
 cg:mg "range"=none
 lst:mg "list"=none
 Y7:mg "divmod"=none
 all:mg "all"=none
 sum:mg "sum"=none
 zip:mg "zip"=none
 srt:mg "sorted"=none
 max:mg "max"=none
 min:mg "min"=none
 RQ:mg "dict"=none
theorem rL:av ["n"] ["n"] (ab iz):=⟨rfl,rfl,rfl,by decide+kernel,rfl,by decide+kernel,by decide+kernel⟩
theorem ij:av ["stand","pile","ahead","ons","found"] ["stand"] (ab jC):=⟨rfl,rfl,rfl,by decide+kernel,rfl,by decide+kernel,by decide+kernel⟩
theorem kc:av ["stand","word","pile","ahead","ons","high","on"] ["stand","word"] (ab rT):=⟨rfl,rfl,rfl,by decide+kernel,rfl,by decide+kernel,by decide+kernel⟩
theorem wW:av ["worths"] ["worths"] (ab lC):=⟨rfl,rfl,rfl,by decide+kernel,rfl,by decide+kernel,by decide+kernel⟩
theorem wX:av ["worths"] ["worths"] (ab fY):=⟨rfl,rfl,rfl,by decide+kernel,rfl,by decide+kernel,by decide+kernel⟩
theorem AJ:av ["w","h"] ["w","h"] (ab iu):=⟨rfl,rfl,rfl,by decide+kernel,rfl,by decide+kernel,by decide+kernel⟩
theorem uC:av ["w","scale"] ["w"] (ab kd):=⟨rfl,rfl,rfl,by decide+kernel,rfl,by decide+kernel,by decide+kernel⟩
theorem rK:av ["base","many","scale","place"] ["base","many"] (ab wY):=⟨rfl,rfl,rfl,by decide+kernel,rfl,by decide+kernel,by decide+kernel⟩
theorem i6:av ["number","base","many","found","place","figure"] ["number","base","many"] (ab nR):=⟨rfl,rfl,rfl,by decide+kernel,rfl,by decide+kernel,by decide+kernel⟩
theorem ik:av ["w","total","h"] ["w"] (ab jE):=⟨rfl,rfl,rfl,by decide+kernel,rfl,by decide+kernel,by decide+kernel⟩
theorem jB:av ["w","joined","chosen","right","left","right_tied","left_tied","low","high","inner"] ["w","joined","chosen"] (ab iA):=⟨rfl,rfl,rfl,by decide+kernel,rfl,by decide+kernel,by decide+kernel⟩
theorem AL:av ["n"] ["n"] (ab iB):=⟨rfl,rfl,rfl,by decide+kernel,rfl,by decide+kernel,by decide+kernel⟩
theorem qg:av ["w","joined","chosen","right","right_tied","left","left_tied"] ["w","joined","chosen"] (ab ix):=⟨rfl,rfl,rfl,by decide+kernel,rfl,by decide+kernel,by decide+kernel⟩
theorem Dl:av ["h","word"] ["h","word"] (ab kj):=⟨rfl,rfl,rfl,by decide+kernel,rfl,by decide+kernel,by decide+kernel⟩
theorem P0:av ["word","on"] ["word","on"] (ab L1):=⟨rfl,rfl,rfl,by decide+kernel,rfl,by decide+kernel,by decide+kernel⟩
theorem HQ:av ["first","second"] ["first","second"] (ab w8):=⟨rfl,rfl,rfl,by decide+kernel,rfl,by decide+kernel,by decide+kernel⟩
theorem LU:av ["h"] ["h"] (ab uF):=⟨rfl,rfl,rfl,by decide+kernel,rfl,by decide+kernel,by decide+kernel⟩
theorem mj:av ["h","found"] ["h"] (ab eY):=⟨rfl,rfl,rfl,by decide+kernel,rfl,by decide+kernel,by decide+kernel⟩
theorem AK:av ["h"] ["h"] (ab nQ):=⟨rfl,rfl,rfl,by decide+kernel,rfl,by decide+kernel,by decide+kernel⟩
theorem eO:av ["h","stand","found","place","word"] ["h"] (ab nO):=⟨rfl,rfl,rfl,by decide+kernel,rfl,by decide+kernel,by decide+kernel⟩
theorem qf:av ["h","stand","can"] ["h","stand"] (ab iw):=⟨rfl,rfl,rfl,by decide+kernel,rfl,by decide+kernel,by decide+kernel⟩
theorem yQ:av ["h","stand","word","high"] ["h","stand","word"] (ab w6):=⟨rfl,rfl,rfl,by decide+kernel,rfl,by decide+kernel,by decide+kernel⟩
theorem j9:av ["h","stand","pile","ahead","ons"] ["h","stand"] (ab dS):=⟨rfl,rfl,rfl,by decide+kernel,rfl,by decide+kernel,by decide+kernel⟩
theorem fM:av ["n","steps","found","place","word"] ["n","steps"] (ab gA):=⟨rfl,rfl,rfl,by decide+kernel,rfl,by decide+kernel,by decide+kernel⟩
theorem AM:av ["stand"] ["stand"] (ab iC):=⟨rfl,rfl,rfl,by decide+kernel,rfl,by decide+kernel,by decide+kernel⟩
theorem fD:av ["stand","word","pile","ahead","ons","bottomed","coming"] ["stand","word"] (ab eZ):=⟨rfl,rfl,rfl,by decide+kernel,rfl,by decide+kernel,by decide+kernel⟩
theorem Dk:av ["w","lists"] ["w","lists"] (ab kh):=⟨rfl,rfl,rfl,by decide+kernel,rfl,by decide+kernel,by decide+kernel⟩
theorem uE:av ["w","stand"] ["w","stand"] (ab jD):=⟨rfl,rfl,rfl,by decide+kernel,rfl,by decide+kernel,by decide+kernel⟩
theorem yN:av ["w","stand","best"] ["w","stand"] (ab wZ):=⟨rfl,rfl,rfl,by decide+kernel,rfl,by decide+kernel,by decide+kernel⟩
theorem LY:av ["w","stand","step"] ["w","stand","step"] (ab Ds):=⟨rfl,rfl,rfl,by decide+kernel,rfl,by decide+kernel,by decide+kernel⟩
theorem LX:av ["before","after"] ["before","after"] (ab Dq):=⟨rfl,rfl,rfl,by decide+kernel,rfl,by decide+kernel,by decide+kernel⟩
theorem yO:av ["w","steps","worths"] ["w","steps"] (ab nP):=⟨rfl,rfl,rfl,by decide+kernel,rfl,by decide+kernel,by decide+kernel⟩
theorem uB:av ["w","stand"] ["w","stand"] (ab eW):=⟨rfl,rfl,rfl,by decide+kernel,rfl,by decide+kernel,by decide+kernel⟩
theorem nM:av ["_law_script","_law_cells"] ["_law_script"] (ab rS):=⟨rfl,rfl,rfl,by decide+kernel,rfl,by decide+kernel,by decide+kernel⟩
theorem gy:av ["_law_state","_law_many","_law_turn","_law_place","_law_cell","_law_digit","_law_stirred"] ["_law_state","_law_many"] (ab rQ):=⟨rfl,rfl,rfl,by decide+kernel,rfl,by decide+kernel,by decide+kernel⟩
theorem eV:av ["_law_state","_law_many","_law_way","_law_none","_law_rows","_law_word","_law_row","_law_on","_law_some"] ["_law_state","_law_many"] (ab rR):=⟨rfl,rfl,rfl,by decide+kernel,rfl,by decide+kernel,by decide+kernel⟩
theorem uD:av ["_law_w","_law_h","_law_some"] ["_law_w","_law_h"] (ab kg):=⟨rfl,rfl,rfl,by decide+kernel,rfl,by decide+kernel,by decide+kernel⟩
theorem eF:av ["_law_h","_law_word","_law_here","_law_many"] ["_law_h"] (ab iy):=⟨rfl,rfl,rfl,by decide+kernel,rfl,by decide+kernel,by decide+kernel⟩
theorem jA:av ["_law_h","_law_some","_law_a","_law_b"] ["_law_h"] (ab dD):=⟨rfl,rfl,rfl,by decide+kernel,rfl,by decide+kernel,by decide+kernel⟩
theorem cZ:av ["_law_w","_law_stand","_law_found","_law_worth_here","_law_h","_law_barred","_law_row","_law_some"] ["_law_w","_law_stand"] (ab dR):=⟨rfl,rfl,rfl,by decide+kernel,rfl,by decide+kernel,by decide+kernel⟩
theorem cY:av ["_law_state","_law_w","_law_sure_from","_law_reader","_law_spent","_law_count","_law_stand","_law_ahead","_law_sure","_law_some","_law_word","_law_price","_law_behind","_law_worth_here","_law_best_here"] ["_law_state","_law_w","_law_sure_from"] (ab w4):=⟨rfl,rfl,rfl,by decide+kernel,rfl,by decide+kernel,by decide+kernel⟩
theorem nL:av ["_law_script","_law_state","_law_turn","_law_great","_law_w","_law_sure_from","_law_best_here"] ["_law_script"] (ab L3):=⟨rfl,rfl,rfl,by decide+kernel,rfl,by decide+kernel,by decide+kernel⟩
end ay
namespace ay
open PySem PySem.Spec L2 LB LD PyProof.Rows jW
theorem eK{c A B:Prop} [Decidable c](l:c)(h:A):if c then A else B:=by rw[if_pos l];exact h
theorem dh{c A B:Prop} [Decidable c](l: ¬c)(h:B):if c then A else B:=by rw[if_neg l];exact h
noncomputable def bh:Wo->Dt
 | none=> .aN
 | some v=> .int v
def lz:DN:=fun n Q=> ∃L:List Wo,n= [.lst (L.map bh)]/\Q (bh (jf L))
def qu:DN:=fun n Q=> ∃L:List Wo,n= [.lst (L.map bh)]/\L.length<=sizeLine/\Q (bh (gp L))
theorem yA(L:List Wo):(L.map bh).all bO=true:=by
 induction L with
 | nil=>rfl
 | cons x xs ih=>rw[ad5,ar1,ih,Bool.and_true];cases x <;> rfl
theorem Kh(L:List Wo):inD .aN (L.map bh)=decide (none∈L):=by
 induction L with
 | nil=>rfl
 | cons x xs ih=>
  unfold inD at ih ⊢;rw[ad5,ao3,ih];cases x with
  | none=>simp [bh,zE]
  | some v=>simp [bh,zE]
theorem nE: ∀{L:List Wo},none∈L->jf L=none
 | x::xs,h=>by
  rcases ab9.mp h with e | e
  . rw[<-e];rfl
  . rw[jf,nE e,Ad]
theorem nF: ∀(L:List Wo),none∉L-> ∃D:List Int,L=D.map some/\jf L=some D.sum
 | [],_=>⟨[],rfl,rfl⟩
 | none::xs,h=>absurd ab4 h
 | some v::xs,h=>by
  obtain⟨D,u,x⟩:=nF xs fun z=>h (ab5 _ z);exact⟨v::D,by rw[u];rfl,by rw[jf,x];rfl⟩
theorem yz(D:List Int):(D.map some).map bh=D.map Dt.int:=by rw[ad6];rfl
noncomputable def ic(L:List Wo):List Int:=L.filterMap id
noncomputable def V0:Dt->Bool
 | .aN=>false
 | _=>true
theorem CN(L:List Wo):((L.map bh).filter V0).map id=(ic L).map Dt.int:=by
 induction L with
 | nil=>rfl
 | cons x xs ih=>
  rw[List.map_id] at ih ⊢;cases x with
  | none=>exact ih
  | some v=>show Dt.int v::((xs.map bh).filter V0)=_;rw[ih];rfl
theorem Jo(h:ic L= []):gp L=none:=kH.mpr fun x i=>by
 cases x with
 | none=>rfl
 | some v=>
  have:v∈ic L:=ap3.mpr ⟨some v,i,rfl⟩;rw[h] at this;cases this
theorem Jp(f:m∈ic L)(g: ∀a∈ic L,a<=m):gp L=some m:=by
 induction L generalizing m with
 | nil=>cases f
 | cons x xs ih=>
  cases x with
  | none=>exact ih f g
  | some v=>
   have e:ic (some v::xs)=v::ic xs:=rfl;rw[e] at f g;show mx (some v) (gp xs)=some m;cases A:gp xs with
   | none=>
    have n:ic xs= []:=by
     cases W:ic xs with
     | nil=>rfl
     | cons a as=>
      have B:a∈ic xs:=by rw[W];exact ab4
      obtain⟨y,b,D⟩:=ap3.mp B;have:=kH.mp A y b;rw[this] at D;cases D
    rw[n] at f;cases ab1.mp f;rfl
   | some u=>
    have l:some u∈xs:=m8 A;have O:u∈ic xs:=ap3.mpr ⟨some u,l,rfl⟩;show some (max v u)=some m;have G:=g v ab4;have c:=g u (ab5 _ O);rcases ab9.mp f with z | z
    . rw[z] at c ⊢;congr 1;omega
    . have:=ih z fun a d=>g a (ab5 _ d);rw[A] at this;cases this;congr 1;omega
section
variable{P:Program}{w:World}{K:PySem.W.Frag}{mg:Str->Option Value}{base:Heap}
theorem mn(F:dj K "together" "together" lC f fd)(T:Txt mg):aK P w K mg base bD 1 f fd ["worths"] (a0 lz):=by
 refine iT F wW (fun n y h=>?_) (fun j A I s H E m=>⟨_,(aj (c7 (wH fG (dv 0))
 (aw (aC fG))
 bF)
 (aw (aC (FW rfl T.sum (aa (dv 0) ae))))),fun n y h=>?_⟩)
 . obtain⟨L,rfl,_⟩:=h;rfl
 . obtain⟨L,rfl,q⟩:=h;refine⟨_,rfl,⟨_, .inl rfl,rfl,yA L,?_⟩⟩;rw[Kh];by_cases c:none∈L
   . rw[ab8 c];rw[nE c] at q;exact⟨true,rfl,cm q⟩
   . rw[ad1 c];obtain⟨D,u,x⟩:=nF L c;rw[x] at q;exact⟨false,rfl,aW ⟨_,rfl,D,by rw[u,yz],q⟩⟩
theorem uS(F:dj K "greatest" "greatest" fY f fd)(T:Txt mg):aK P w K mg base bD 1 f fd ["worths"] (a0 qu):=by
 refine iT F wX (fun n y h=>?_) (fun k A I s H E o=>⟨_,(aw (aC (NU rfl T.max (aa (Ov.ev (bB (N:= ["worth"]) (nt:=1) (js:= []) ⟨rfl,by decide+kernel,by decide,rfl,by decide+kernel,(by show∀x∈(_:List (Str × NameKind)),x.2=NameKind.free->(ab fY).names.lookup x.1=some .cell\/(ab fY).names.lookup x.1=some .free;decide+kernel)⟩ rfl (dH (dv 0)) (fun _ _ _ _ _=>au (i:=0) (show(["worth"]:List Str).Nodup by decide+kernel) rfl (by first | exact Or.inl rfl | exact Or.inr rfl)) bf aO (fun _ _ _ _ _=>oP (hZ (dv 0))) (fun _ _ _ _ _=>(dv 0)))) ae)))),fun n y h=>?_⟩)
 . obtain⟨L,rfl,_⟩:=h;rfl
 . obtain⟨L,rfl,l,q⟩:=h;refine⟨_,rfl,⟨_,rfl,by rw[aa4];exact l,V0,id,fun d r=>?_,?_⟩⟩
   . obtain⟨x,_,rfl⟩:=ab6.mp r;refine⟨⟨_,rfl,rfl⟩,?_⟩;cases x with
     | none=>exact⟨_,rfl,false,rfl,rfl,fun z=>by cases z⟩
     | some v=>exact⟨_,rfl,true,rfl,rfl,fun z=>⟨_,rfl,rfl⟩⟩
   . rw[CN];refine⟨_,rfl,fun z=>?_,fun m g j=>?_⟩
     . rw[Jo z] at q;exact q
     . rw[Jp g j] at q;exact q
end
noncomputable def ku(b:Int)(m:Nat):List Int:=(List.range (m+1)).map fun i=>b^i
def CU:DN:=fun n Q=> ∃(b:Int) (m:Nat),n= [.int b,.int (m:Int)]/\0<=b/\b < 2^60/\m<=60/\Q (.lst ((ku b m).reverse.map .int))
noncomputable def shr(B:Int):Nat->Int->Int
 | 0,x=>x
 | k+1,x=>shr B k x / B
theorem Df(B:Int): ∀(k:Nat) (x:Int),shr B k (x / B)=shr B (k+1) x
 | 0,_=>rfl
 | k+1,x=>by rw[shr,Df B k x];rfl
theorem qz(B:Int): ∀(k:Nat) (x:Int),mN B (k+1) x=mN B k x++ [shr B k x % B]
 | 0,_=>rfl
 | k+1,x=>by rw[mN,qz B k (x / B),Df,mN];rfl
theorem vt(B:Int): ∀(k:Nat) (x:Int),(mN B k x).length=k
 | 0,_=>rfl
 | k+1,x=>by rw[mN,ad3,vt B k]
def vq:DN:=fun n Q=> ∃(x b:Int) (m:Nat),n= [.int x,.int b,.int (m:Int)]/\0 < b/\b < 2^60/\m<=60/\Q (.lst ((mN b m x).reverse.map .int))
inductive UnI(b:Int)(m:Nat)(i:Nat)(δ:List Sl):Prop
 | mk (s:Sl) (h1:δ= [.im (.int b),.im (.int (m:Int)),.ow ((ku b i).map .int),s]) (h2:s.bz=false)
inductive FiI(x b:Int)(m:Nat)(i:Nat)(δ:List Sl):Prop
 | mk (s4 s5:Sl) (h1:δ= [.im (.int (shr b i x)),.im (.int b),.im (.int (m:Int)),.ow ((mN b i x).map .int),s4,s5]) (h2:s4.bz=false) (h3:s5.bz=false)
theorem qh(b:Int)(m:Nat):ku b (m+1)=ku b m++ [b^(m+1)]:=by
 unfold ku;rw[List.range_succ,ac5];rfl
section
variable{P:Program}{w:World}{K:PySem.W.Frag}{mg:Str->Option Value}{base:Heap}
theorem D7(F:dj K "units" "units" wY f fd)(T:Txt mg):aK P w K mg base bD 1 f fd ["base","many"] (a0 CU):=by
 refine iT F rK (fun n y h=>?_) (fun l A I s H E o=>⟨_,(aj (fN 2 rK.nd (jo (aa aq ae)))
 (aj (gW rfl (oH T.cg (aa (dv 1) ae)) (iP 3 rK.nd)
 (aw (dB (cK 2 (pv 2) (aa (qD (zM 2 (pv 2) (kO aq)) (dv 0)) ae)))) ah4)
 (aj (dB (qC 2 (pv 2)))
 (aw (ir 2 (aC (dv 2))))))),fun n y h=>?_⟩)
 . obtain⟨b,m,rfl,_⟩:=h;rfl
 . obtain⟨b,m,rfl,C,U,r,q⟩:=h;refine⟨by show 1<=sizeLine;decide,⟨_,rfl,rfl⟩,?_⟩;refine⟨_,rfl,_,rfl,by lia,by lia,?_⟩;refine cQ (UnI b m) ⟨.no,by rw[show ku b 0= [1] from by simp [ku]];rfl,rfl⟩ (fun i d j J R X S k=>?_) (fun j R=>?_)
   . obtain⟨s,rfl,B⟩:=R;have p:i < m:=by have:=(ab0.mp J).1;rw[aa4,ae2] at this;lia
     refine⟨⟨_,rfl,B⟩,?_⟩;have x:jh ((ku b i).map Dt.int) (-1)=some (.int (b^i)):=by
      cases i with
      | zero=>rw[show ku b 0= [1] from by simp [ku]];rw[Int.pow_zero];exact oZ (α:=Dt) [] _
      | succ i=>rw[qh,ac5];exact oZ _ _
     refine⟨⟨_,rfl⟩,⟨_,rfl⟩,_,rfl,_,_,_,rfl,rfl,x,_,rfl,?_⟩;refine⟨_,_,rfl,rfl,.inr ⟨by lia,by lia⟩,_,_,rfl,rfl,?_,S _ ⟨.im d,?_,rfl⟩⟩
     . rw[aa4];exact ae0 (show(ku b i).length < 100 by rw[ku,aa4,ae2];lia) (by decide)
     . rw[qh,ac5,Int.pow_succ];rfl
   . obtain⟨s,rfl,B⟩:=R;rw[aa4,ae2,af0];refine⟨_,rfl,_,rfl,?_⟩;rw[List.map_reverse] at q;exact⟨_,rfl,q⟩
theorem xk(F:dj K "figures" "figures" nR f fd)(T:Txt mg):aK P w K mg base bD 1 f fd ["number","base","many"] (a0 vq):=by
 refine iT F i6 (fun n y h=>?_) (fun l A I s H E p=>⟨_,(aj (fN 3 i6.nd (jo ae))
 (aj (gW rfl (oH T.cg (aa (dv 2) ae)) (iP 4 i6.nd)
 (aj (mm (F1 T.Y7 (aa (dv 0) (aa (dv 1) ae))) (lV 0 5 rfl i6.nd))
 (aw (dB (cK 3 (pv 3) (aa (dv 5) ae))))) ah4)
 (aj (dB (qC 3 (pv 3)))
 (aw (ir 3 (aC (dv 3))))))),fun n y h=>?_⟩)
 . obtain⟨x,b,m,rfl,_⟩:=h;rfl
 . obtain⟨x,b,m,rfl,B,U,t,q⟩:=h;refine⟨by show 0<=sizeLine;decide,⟨_,rfl,rfl⟩,?_⟩;refine⟨_,rfl,_,rfl,by lia,by lia,?_⟩;refine cQ (FiI x b m) ⟨.no, .no,rfl,rfl,rfl⟩ (fun i d j M R X S k=>?_) (fun j R=>?_)
   . obtain⟨Q,o,rfl,J,L⟩:=R;have r:i < m:=by have:=(ab0.mp M).1;rw[aa4,ae2] at this;lia
     refine⟨⟨_,rfl,J⟩,?_⟩;refine⟨_,rfl,_,rfl,_,_,rfl,B,by lia,_,_,rfl,⟨_,rfl,rfl⟩,⟨_,rfl,L⟩,?_⟩;refine⟨⟨_,rfl⟩,_,rfl,_,_,rfl,rfl,?_,S _ ⟨.im d,.im (.int (shr b i x % b)),?_,rfl,rfl⟩⟩
     . rw[aa4,vt];exact ae0 (show i < 100 by lia) (by decide)
     . rw[qz,ac5];rfl
   . obtain⟨Q,o,rfl,J,L⟩:=R;rw[aa4,ae2,af0];refine⟨_,rfl,_,rfl,?_⟩;rw[List.map_reverse] at q;exact⟨_,rfl,q⟩
end
noncomputable def dq(p:Nat × Nat):Dt:= .tup [.int (p.1:Int),.int (p.2:Int)]
noncomputable def fH(n:Nat):List (Nat × Nat):=(List.range (n - 1)).flatMap fun k=>(List.range (n - (k+1))).map fun j=>(j+1,j+1+(k+1))
def vQ:DN:=fun o Q=> ∃n:Nat,o= [.int (n:Int)]/\n<=60/\Q (.lst ((fH n).map dq))
theorem u6{α v:Type}{f:α->List v}{c:Nat}: ∀{l:List α},(∀x∈l,(f x).length<=c)->(l.flatMap f).length<=l.length*c
 | [],_=>by simp
 | x::l,h=>by
  rw[ap9,ac1,ad3,Nat.succ_mul];have:=u6 (l:=l) fun y a=>h y (ab5 _ a);have:=h x ab4;omega
theorem zY(h:n<=60):(fH n).length < 3601:=by
 have:=u6 (f:=fun k=>(List.range (n - (k+1))).map fun j=>(j+1,j+1+(k+1))) (c:=60) (l:=List.range (n - 1)) fun x _=>by rw[aa4,ae2];omega
 rw[ae2] at this;have e:(n - 1)*60<=60*60:=Nat.mul_le_mul_right _ (by omega);unfold fH;omega
noncomputable def wF(n:Nat):Dt->List Dt
 | .int v=>(List.range (n - v.toNat)).map fun j=>dq (j+1,j+1+v.toNat)
 | _=> []
noncomputable def Z6(v:Int):Dt->Dt
 | .int u=> .tup [.int u,.int (u+v)]
 | _=> .aN
theorem CT(n:Nat):((List.range ((n:Int) - 1).toNat).map fun k=>Dt.int (1+(k:Nat))).flatMap (wF n)=(fH n).map dq:=by
 unfold fH;rw[List.flatMap_map,List.map_flatMap,show((n:Int) - 1).toNat=n - 1 by omega];congr 1
 funext k
 show(List.range (n - (1+(k:Int)).toNat)).map _=_;rw[show(1+(k:Int)).toNat=k+1 by omega,ad6];rfl
section
variable{P:Program}{w:World}{K:PySem.W.Frag}{mg:Str->Option Value}{base:Heap}
theorem xm(F:dj K "by_width" "by_width" iB f fd)(T:Txt mg):aK P w K mg base bD 1 f fd ["n"] (a0 vQ):=by
 refine iT F AL (fun o y h=>?_) (fun l A I s H E m=>⟨_,(aw (aC (Ov.ev (zj 1 (N:= ["width","low","n"]) (nt:=2) (js:= [0]) ⟨rfl,by decide+kernel,by decide,rfl,by decide+kernel,(by show∀x∈(_:List (Str × NameKind)),x.2=NameKind.free->(ab iB).names.lookup x.1=some .cell\/(ab iB).names.lookup x.1=some .free;decide+kernel)⟩ rfl
 (gH T.cg (aa aq (aa (dv 0) ae))) (fun _ _ _ _ _=>au (i:=0) (show(["width","low","n"]:List Str).Nodup by decide+kernel) rfl (by first | exact Or.inl rfl | exact Or.inr rfl)) bf aO (fun _ _ _ _ _=>cu) (fun _ _ _ _ _=>(gH T.cg (aa aq (aa (cM (di (dv 2) (dv 0)) aq) ae)))) (fun _ _ _ _ _=>au (i:=1) (show(["width","low","n"]:List Str).Nodup by decide+kernel) rfl (by first | exact Or.inl rfl | exact Or.inr rfl)) qw aO (fun _ _ _ _ _=>cu) (fun _ _ _ _ _=>(bL (aa (dv 1) (aa (cM (dv 1) (dv 0)) ae)))))))),fun o y h=>?_⟩)
 . obtain⟨n,rfl,_⟩:=h;rfl
 . obtain⟨n,rfl,p,q⟩:=h;refine⟨_,rfl,_,_,rfl,⟨by decide,by decide,by lia,by lia⟩,?_⟩;refine⟨wF n,?_,fun d r=>?_,?_⟩
   . rw[CT,aa4];exact ae0 (zY p) (by decide)
   . obtain⟨k,R,rfl⟩:=ab6.mp r;have B:k < n - 1:=by have:=af9.mp R;omega
     refine⟨⟨_,rfl,rfl⟩,?_⟩;simp only [Lc,ar2];refine⟨_,rfl,_,rfl,_,_,rfl,rfl,_,_,rfl,rfl,_,_,rfl,⟨by decide,by decide,by lia,by lia⟩,fun _=>true,Z6 (1+(k:Int)),fun e G=>?_,?_⟩
     . obtain⟨j,_,rfl⟩:=ab6.mp G;refine⟨⟨_,rfl,rfl⟩,rfl,fun _=>?_⟩;exact⟨_,rfl,_,rfl,_,rfl,_,_,rfl,rfl,by show 2<=sizeLine;decide,rfl⟩
     . rw[ae9.mpr fun _ _=>rfl,ad6];show(List.range (n - (1+(k:Int)).toNat)).map _=_;rw[show(1+(k:Int)).toNat=k+1 by omega,show((n:Int) - (1+(k:Int))+1 - 1).toNat=n - (k+1) by omega];refine ad4 fun j _=>?_;show Dt.tup [.int ((j+1:Nat):Int),.int ((j+1+(k+1):Nat):Int)]=Dt.tup [.int (1+(j:Int)),.int (1+(j:Int)+(1+(k:Int)))];rw[show((j+1:Nat):Int)=1+(j:Int) by omega,show((j+1+(k+1):Nat):Int)=1+(j:Int)+(1+(k:Int)) by omega]
   . show y (.lst _);rw[CT];exact q
end
noncomputable def cF(n:Nat)(w:Nat->Nat->Wo)(i:Nat):Dt:= .tup ((List.range (n+1)).map fun o=>bh (w i o))
noncomputable def cE(n:Nat)(w:Nat->Nat->Wo):Dt:= .tup ((List.range' 1 n).map (cF n w))
noncomputable def xI(x:Nat):Dt:= .int (x:Int)
noncomputable def gn(h:List Nat):Dt:= .tup (h.map xI)
def t5:DN:=fun o Q=> ∃(n:Nat) (w:Nat->Nat->Wo) (h:List Nat),o= [cE n w,gn h]/\h.length=n/\(∀x∈h,x<=n)/\n<=60/\Q (bh (g0 w h))
theorem nU{n:Nat}{w:Nat->Nat->Wo}(h:x<=n):jh ((List.range (n+1)).map fun o=>bh (w i o)) (x:Int)=some (bh (w i x)):=
 bw (j:=x) (by rw[aa9,ai4 (by omega)];rfl)
noncomputable def NK:Dt->Dt
 | .tup [.tup ds,.int v]=>(jh ds v).getD .aN
 | _=> .aN
theorem qY: ∀{h:List Nat} {i:Nat},(∀x∈h,x<=n)->(cD ((List.range' i h.length).map (cF n w)) (h.map xI)).map NK=(List.zipWith w (List.range' i h.length) h).map bh
 | [],_,_=>rfl
 | x::h,i,hx=>by
  have z:=qY (n:=n) (w:=w) (h:=h) (i:=i+1) fun y a=>hx y (ab5 _ a);rw[ad3,ao8,ad5,ad5,an4,ad5,<-z];unfold cD;rw[an4,ad5];congr 1
  show(jh ((List.range (n+1)).map fun o=>bh (w i o)) (x:Int)).getD .aN=_;rw[nU (hx x ab4)];rfl
theorem wu: ∀{h:List Nat} {i:Nat} {d:Dt},d∈cD ((List.range' i h.length).map (cF n w)) (h.map xI)-> ∃j x,x∈h/\d= .tup [cF n w j,xI x]
 | [],_,d,hd=>by cases hd
 | x::h,i,d,hd=>by
  rw[ad3,ao8,ad5,ad5] at hd;unfold cD at hd;rw[an4] at hd;rcases ab9.mp hd with e | e
  . exact⟨i,x,ab4,e⟩
  . obtain⟨j,y,a,e⟩:=wu (i:=i+1) e;exact⟨j,y,ab5 _ a,e⟩
theorem rA: ∀{h:List Nat} {i:Nat},jf (List.zipWith w (List.range' i h.length) h)=eP w i h
 | [],_=>rfl
 | x::h,i=>by rw[ad3,ao8,an4,jf,rA,eP]
section
variable{P:Program}{w:World}{K:PySem.W.Frag}{mg:Str->Option Value}{base:Heap}
theorem xg(F:dj K "worth_of" "worth_of" iu f fd)(T:Txt mg)(J:cj P w K mg base "together" 1 ["worths"] (a0 lz)):aK P w K mg base bD 2 f fd ["w","h"] (a0 t5):=by
 refine iT F AJ (fun o y h=>?_) (fun p A I s H E m=>⟨_,(aw (aC (aE J (m.mono (by decide)) (aa (Ov.ev (bB (N:= ["row","on"]) (nt:=2) (js:= []) ⟨rfl,by decide+kernel,by decide,rfl,by decide+kernel,(by show∀x∈(_:List (Str × NameKind)),x.2=NameKind.free->(ab iu).names.lookup x.1=some .cell\/(ab iu).names.lookup x.1=some .free;decide+kernel)⟩ rfl (qo (aa (dv 0) (aa (dv 1) ae)) fun z=>lD (by rfl) T.zip z) (fun _ _ _ _ _=>bP rfl (az (au (i:=0) (show(["row","on"]:List Str).Nodup by decide+kernel) rfl (by first | exact Or.inl rfl | exact Or.inr rfl)) (az (au (i:=1) (show(["row","on"]:List Str).Nodup by decide+kernel) rfl (by first | exact Or.inl rfl | exact Or.inr rfl)) bo))) aZ aR (fun _ _ _ _ _=>cu) (fun _ _ _ _ _=>(cy (dv 0) (dv 1))))) ae)))),fun o y h=>?_⟩)
 . obtain⟨n,w,h,rfl,_⟩:=h;rfl
 . obtain⟨n,w,h,rfl,l,k,u,q⟩:=h;subst l;refine⟨_,rfl,_,rfl,true,true,_,_,rfl,?_⟩;have t:(cD ((List.range' 1 h.length).map (cF h.length w)) (h.map xI)).length<=60:=by
    unfold cD;rw[al0,aa4,aa4,ac4];omega
   refine⟨ad9 t (by decide),fun _=>true,NK,fun d r=>?_,?_⟩
   . obtain⟨j,x,B,rfl⟩:=wu r;refine⟨_,_,rfl,⟨_,rfl,rfl⟩,⟨_,rfl,rfl⟩,rfl,fun _=>?_⟩;exact⟨_,rfl,_,rfl,_,_,_,.inr rfl,rfl,nU (k x B),by show bh (w j x)=(jh _ _).getD _;rw[nU (k x B)];rfl⟩
   . rw[ae9.mpr fun _ _=>rfl,qY k];exact⟨_,rfl,by rw[rA];exact q⟩
end
theorem rG{env:Env}: ∀x∈([]:List (Str × NameKind)),x.2= .free->env.kindOf x.1=some .cell\/env.kindOf x.1=some .free:=fun x h=>absurd h aa8
theorem mT{env:Env}{p:Str × NameKind}(h:p.2≠ .free)(r: ∀x∈l,x.2= .free->env.kindOf x.1=some .cell\/env.kindOf x.1=some .free): ∀x∈p::l,x.2= .free->env.kindOf x.1=some .cell\/env.kindOf x.1=some .free:=fun x i e=>by
 rcases ab9.mp i with z | z
 . subst z;exact absurd e h
 . exact r x z e
theorem mS{env:Env}{p:Str × NameKind}(h:env.kindOf p.1=some .cell\/env.kindOf p.1=some .free)(r: ∀x∈l,x.2= .free->env.kindOf x.1=some .cell\/env.kindOf x.1=some .free): ∀x∈p::l,x.2= .free->env.kindOf x.1=some .cell\/env.kindOf x.1=some .free:=fun x i e=>by
 rcases ab9.mp i with z | z
 . subst z;exact h
 . exact r x z e
def Sm(w:Nat->Nat->Wo):Prop:= ∀i o v,w i o=some v-> -(2^60) < v/\v < 2^60
def yV:DN:=fun o Q=> ∃(n:Nat) (w:Nat->Nat->Wo),o= [cE n w]/\n<=60/\Sm w/\Q (cE n (wr n w))
noncomputable def P5(n i:Nat):Dt->Dt
 | .tup [.int o,.int v]=> .int (v*((n:Int)+1)^n - o*((n:Int)+1)^(n - i))
 | _=> .aN
noncomputable def Yb(n:Nat):Dt->Dt
 | .tup [.int i,.tup ds]=> .tup ((aM 0 ds).map (P5 n i.toNat))
 | _=> .aN
theorem kM(h:d∈aM k ds): ∃j e,ds[j]?=some e/\d= .tup [.int ((j+k:Nat):Int),e]:=by
 unfold aM at h;obtain⟨j,V,e⟩:=List.mem_mapIdx.mp h;exact⟨j,_,aa6 V,e.symm⟩
theorem L9(n:Nat)(w:Nat->Nat->Wo)(i:Nat):(aM 0 ((List.range (n+1)).map fun o=>bh (w i o))).map (P5 n i)=(List.range (n+1)).map fun o=>bh (wr n w i o):=by
 apply aj3;intro j;unfold aM;rw[aa9,ai8,aa9,aa9];cases e:(List.range (n+1))[j]? with
 | none=>rfl
 | some o=>
  have:o=j:=by
   have:=ab0.mp e;obtain⟨f,g⟩:=this;rw[List.getElem_range] at g;exact g.symm
  subst this;show some (P5 n i (.tup [.int ((o+0:Nat):Int),bh (w i o)]))=some (bh (wr n w i o));unfold wr;cases w i o <;> rfl
theorem Ma(n:Nat)(w:Nat->Nat->Wo):(aM 1 ((List.range' 1 n).map (cF n w))).map (Yb n)=(List.range' 1 n).map (cF n (wr n w)):=by
 apply aj3;intro j;unfold aM;rw[aa9,ai8,aa9,aa9];cases e:(List.range' 1 n)[j]? with
 | none=>rfl
 | some i=>
  have:i=j+1:=by
   obtain⟨f,g⟩:=ab0.mp e;rw[List.getElem_range'] at g;omega
  subst this;show some (Dt.tup ((aM 0 _).map (P5 n (((j+1:Nat):Int)).toNat)))=some (cF n (wr n w) (j+1));rw[af0,L9];rfl
theorem DH{n k:Nat}(h:k<=n):jh ((ku ((n:Int)+1) n).reverse.map Dt.int) (k:Int)=some (.int (((n:Int)+1)^(n - k))):=
 bw (j:=k) (by
  unfold ku;rw[aa9,List.getElem?_reverse (by rw[aa4,ae2];omega),aa4,ae2,aa9,ai4 (by omega)];rw[show n+1 - 1 - k=n - k by omega];rfl)
section
variable{P:Program}{w:World}{K:PySem.W.Frag}{mg:Str->Option Value}{base:Heap}
theorem A5(F:dj K "ranked" "ranked" kd f fd)(T:Txt mg)(S:cj P w K mg base "units" 1 ["base","many"] (a0 CU)):aK P w K mg base bD 2 f fd ["w"] (a0 yV):=by
 refine iT F uC (fun t C h=>?_) (fun O A I s H E m=>⟨_,(aj (bY 1 uC.nd (aE S (m.mono (by decide)) (aa (cM (cv T.len (aa (dv 0) ae)) aq) (aa (cv T.len (aa (dv 0) ae)) ae))))
 (aw (aC (gL T.tup (aa (Ov.ev (bB (N:= ["word","row","scale"]) (nt:=2) (js:= [1]) ⟨rfl,by decide+kernel,by decide,rfl,by decide+kernel,(by show∀x∈(_:List (Str × NameKind)),x.2=NameKind.free->(ab kd).names.lookup x.1=some .cell\/(ab kd).names.lookup x.1=some .free;decide+kernel)⟩ rfl (m7 T.Ju (aa (dv 0) ae) aq) (fun _ _ _ _ _=>bP rfl (az (au (i:=0) (show(["word","row","scale"]:List Str).Nodup by decide+kernel) rfl (by first | exact Or.inl rfl | exact Or.inr rfl)) (az (au (i:=1) (show(["word","row","scale"]:List Str).Nodup by decide+kernel) rfl (by first | exact Or.inl rfl | exact Or.inr rfl)) bo))) aZ aR (fun _ _ _ _ _=>cu) (fun _ _ _ _ _=>(gL T.tup (aa (Ov.ev (bB (N:= ["on","worth","scale","word"]) (nt:=2) (js:= [2,0]) ⟨rfl,by decide+kernel,by decide,rfl,by decide+kernel,(by repeat (first | exact rG | refine mS (by first | exact Or.inl rfl | exact Or.inr rfl) ?_ | refine mT (fun z=>nomatch z) ?_))⟩ rfl (sN T.Ju (aa (dv 1) ae)) (fun _ _ _ _ _=>bP rfl (az (au (i:=0) (show(["on","worth","scale","word"]:List Str).Nodup by decide+kernel) rfl (by first | exact Or.inl rfl | exact Or.inr rfl)) (az (au (i:=1) (show(["on","worth","scale","word"]:List Str).Nodup by decide+kernel) rfl (by first | exact Or.inl rfl | exact Or.inr rfl)) bo))) aZ aR (fun _ _ _ _ _=>cu) (fun _ _ _ _ _=>(cS (gU (dv 1)) fG (di (qD (dv 1) (cy (dv 2) aq)) (qD (dv 0) (cy (dv 2) (dv 3)))))))) ae))))) ae))))),fun t C h=>?_⟩)
 . obtain⟨n,w,rfl,_⟩:=h;rfl
 . obtain⟨n,w,rfl,p,u,q⟩:=h;have B:((List.range' 1 n).map (cF n w)).length=n:=by rw[aa4,ac4]
   have l:(aM 1 ((List.range' 1 n).map (cF n w))).length=n:=by unfold aM;rw[aj6,B]
   refine⟨_,rfl,_,.inr rfl,_,_,rfl,rfl,_,rfl,_,.inr rfl,?_⟩;rw[B];refine⟨(n:Int)+1,n,rfl,by lia,by lia,p,⟨_,rfl,rfl⟩,?_⟩;refine⟨_,rfl,_,rfl,rfl,by rw[l];exact ad9 p (by decide),fun _=>true,Yb n,fun d r=>?_,?_⟩
   . obtain⟨j,e,G,rfl⟩:=kM r;have g:j < n:=by have:=(ab0.mp G).1;rw[B] at this;exact this
     have y:e=cF n w (j+1):=by
      rw[aa9,ah2 g] at G;have:=(Option.some.inj G).symm;rw[this];congr 1;omega
     subst y;have L:(aM 0 ((List.range (n+1)).map fun o=>bh (w (j+1) o))).length=n+1:=by unfold aM;rw[aj6,aa4,ae2]
     refine⟨_,_,rfl,⟨_,rfl,rfl⟩,⟨_,rfl,rfl⟩,rfl,fun _=>?_⟩;refine⟨_,rfl,_,rfl,by rw[L];exact ad9 (show n+1<=61 by omega) (by decide),fun _=>true,P5 n (j+1),fun d r=>?_,?_⟩
     . obtain⟨o,e,G,rfl⟩:=kM r;have Q:o<=n:=by have:=(ab0.mp G).1;rw[aa4,ae2] at this;omega
       have y:e=bh (w (j+1) o):=by
        rw[aa9,ai4 (by omega)] at G;exact(Option.some.inj G).symm
       subst y;refine⟨_,_,rfl,⟨_,rfl,rfl⟩,⟨_,rfl,rfl⟩,rfl,fun _=>?_⟩;cases D:w (j+1) o with
       | none=>exact⟨_,rfl,true,rfl,cm rfl⟩
       | some v=>
        have R:=u _ _ _ D;refine⟨_,rfl,false,rfl,aW ?_⟩;have J:yw ((o+0:Nat):Int) (((n:Int)+1)^(n - (j+1))):= .inl ⟨by lia,by lia⟩;have M:yw v (((n:Int)+1)^(n - 0)):= .inl ⟨by lia,by lia⟩;exact⟨_,rfl,_,rfl,_,_,_,.inl rfl,rfl,DH (k:=0) (ag0 _),_,_,rfl,rfl,M,_,rfl,_,rfl,_,rfl,_,_,_,.inl rfl,rfl,DH (k:=j+1) g,_,_,rfl,rfl,J,_,_,rfl,rfl,rfl⟩
     . rw[ae9.mpr fun _ _=>rfl];exact⟨_,.inl rfl,rfl⟩
   . rw[ae9.mpr fun _ _=>rfl,Ma];exact⟨_,.inl rfl,q⟩
end
noncomputable def rsD(r:Rs):Dt:= .tup [.int r.1,gn r.2]
noncomputable def AY:Option Rs->Dt
 | none=> .aN
 | some r=>rsD r
end ay
namespace ay
open PySem PySem.Spec L2 LB LD PyProof.Rows jV
theorem P4:((List.range m).map fun k=>Dt.int (1+(k:Nat)))=(List.range' 1 m).map xI:=by
 rw[am8,ad6];refine ad4 fun k _=>?_;show Dt.int _=Dt.int _;congr 1
noncomputable def fI{w:Type} [Inhabited w](g:Nat->w):Dt->w
 | .int v=>g v.toNat
 | _=>default
instance:Inhabited Dt:=⟨.aN⟩
theorem L7{l h:Nat}:((List.range ((h:Int) - (l:Int)).toNat).map fun k=>Dt.int ((l:Int)+(k:Nat)))=(List.range' l (h - l)).map xI:=by
 rw[show((h:Int) - (l:Int)).toNat=h - l by omega,am8,ad6];refine ad4 fun k _=>?_;show Dt.int _=Dt.int _;congr 1
theorem xv{L:List Nat}{g:Nat->Dt}:(((L.map xI).filter fun _=>true).map (fI g))=L.map g:=by
 rw[ae9.mpr fun _ _=>rfl,ad6];rfl
theorem zt:((List.range' 1 n).map xI).map (fI fun i=>pk (i,i))=(dg n).map pk:=by
 unfold dg;rw[ad6,ad6];rfl
theorem Hz{n:Nat}{d:Dt}(h: ∀i,f (i,i)=d):((List.range' 1 n).map xI).map (fI fun _=>d)=(dg n).map f:=by
 unfold dg;rw[ad6,ad6];exact ad4 fun i _=>(h i).symm
section
variable{α:Type}(D:α->Dt)
noncomputable abbrev LK (L:List Pr) (f:Nat->Nat->α):Sl:=td (L.map pk) (L.map fun p=>D (f p.1 p.2))
def K0(T U:List α->Prop)(x ch:List α->α)(k i:Addr):DS:=fun H Q=> ∃(n:Nat) (w rg rt lf lt:Nat->Nat->α),H= [.im (LN D n w),.fn k,.fn i]/\1<=n/\n<=12/\XI T U x ch n w rg rt lf lt/\
 Q (.tup [JB D (dg n++jV.fH n) rg,JB D (jV.fH n) rt,JB D (dg n++jV.fH n) lf,JB D (jV.fH n) lt])
def FI(n:Nat)(w d rt q S:Nat->Nat->α)(k j:Addr)(i:Nat)(l:List Sl):Prop:= ∃(s7 s8 s9:Sl),l= [.im (LN D n w),.fn k,.fn j,LK D (dg n++(jV.fH n).take i) d,LK D (dg n++(jV.fH n).take i) q,LK D ((jV.fH n).take i) rt,LK D ((jV.fH n).take i) S,s7,s8,s9]/\s7.bz=false/\s8.bz=false/\s9.bz=false/\fC [s9] [s9]
end
theorem yY{M:dX}(x:d2=dq (l,h))(u:δ[i]?=some (LK D L f))(v:L.length<=4000)(g:(l,h)∉L)(r:d=D (f l h))(q:M.nx (δ.set i (LK D (L++ [(l,h)]) f))):zP i M d d2 δ:=by
 subst x;subst r;refine⟨pk (l,h),_,_,rfl,u,by rw[aa4];exact an9 v (by decide),Mr g,?_⟩;unfold LK at q;rw[ac5,ac5] at q;exact q
section
variable{P:Program}{wd:World}{K:PySem.W.Frag}{mg:Str->Option Value}{base:Heap}
theorem II(J: ∀x,Co (D x))(y:v8 P wd K mg base fj 1 pj (a0 (qy D oJ jn)))(U:v8 P wd K mg base fc 1 pc (a0 (qy D oC ch)))(F:dj K "fill" "fill" iA f fd)(T:Txt mg)(GR:cj P wd K mg base "by_width" 1 ["n"] (a0 vQ)):aK P wd K mg base bD 2 f fd ["w","joined","chosen"] (spS (K0 D oJ oC jn ch fj fc)):=by
 refine RG F jB (fun ss Qd h=>?_) (fun bq A O s H E m=>⟨_,aj (Dn 3 jB.nd (IS (N:= ["word","joined"]) (nt:=1) (js:= [1]) ⟨rfl,by decide+kernel,by decide,rfl,by decide+kernel,(by show∀x∈(_:List (Str × NameKind)),x.2=NameKind.free->(ab iA).names.lookup x.1=some .cell\/(ab iA).names.lookup x.1=some .free;decide+kernel)⟩ rfl (gH T.cg (aa aq (aa (cM (cv T.len (aa (dv 0) ae)) aq) ae))) (fun _ _ _ _ _=>au (i:=0) (show(["word","joined"]:List Str).Nodup by decide+kernel) rfl (by first | exact Or.inl rfl | exact Or.inr rfl)) bf aO (fun _ _ _ _ _=>bL (aa (dv 0) (aa (dv 0) ae))) (fun _ _ _ _ _=>iZ 1 y (m.mono (by decide)) (pv 1) (aa (gX ae) ae)) (Nat.lt_of_succ_lt (fh m))))
  (aj (Dn 4 jB.nd (IQ 3 m.hd T.RQ (pv 3)))
  (aj (Dm 5 jB.nd)
  (aj (Dm 6 jB.nd)
  (aj (gW rfl (dH (aE GR (m.mono (by decide)) (aa (cv T.len (aa (dv 0) ae)) ae))) (lV 7 8 rfl jB.nd)
   (aj (bY 9 jB.nd (tf (iZ 2 U (m.mono (by decide)) (pv 2) (aa (Ov.ev (bB (N:= ["at","joined","right","low","left","high"]) (nt:=1) (js:= [1,3,7,4,8]) ⟨rfl,by decide+kernel,by decide,rfl,by decide+kernel,(by show∀x∈(_:List (Str × NameKind)),x.2=NameKind.free->(ab iA).names.lookup x.1=some .cell\/(ab iA).names.lookup x.1=some .free;decide+kernel)⟩ rfl (gH T.cg (aa (dv 7) (aa (dv 8) ae))) (fun _ _ _ _ _=>au (i:=0) (show(["at","joined","right","low","left","high"]:List Str).Nodup by decide+kernel) rfl (by first | exact Or.inl rfl | exact Or.inr rfl)) bf aO (fun _ _ _ _ _=>cu) (fun _ _ _ _ _=>iZ 1 y (m.mono (by decide)) (pv 1) (aa (gX (aa (iX (fh m) (dv 2) (bL (aa (dv 3) (aa (dv 0) ae)))) (aa (iX (fh m) (dv 4) (bL (aa (cM (dv 0) aq) (aa (dv 5) ae)))) ae))) ae)))) ae))))
   (aj (rM 5 (fh m) (pv 5) (bL (aa (dv 7) (aa (dv 8) ae))) (iZ 1 y (m.mono (by decide)) (pv 1) (aa (gX (aa (cy (cy (dv 0) (di (dv 8) aq)) (dv 7)) (aa (dv 9) ae))) ae)))
   (aj (rM 6 (fh m) (pv 6) (bL (aa (dv 7) (aa (dv 8) ae))) (iZ 1 y (m.mono (by decide)) (pv 1) (aa (gX (aa (cy (cy (dv 0) (di (dv 7) aq)) (dv 8)) (aa (dv 9) ae))) ae)))
   (aj (rM 3 (fh m) (pv 3) (bL (aa (dv 7) (aa (dv 8) ae))) (tf (iZ 2 U (m.mono (by decide)) (pv 2) (aa (Ov.ev (bB (N:= ["at","joined","right_tied","low","right","high"]) (nt:=1) (js:= [1,5,7,3,8]) ⟨rfl,by decide+kernel,by decide,rfl,by decide+kernel,(by show∀x∈(_:List (Str × NameKind)),x.2=NameKind.free->(ab iA).names.lookup x.1=some .cell\/(ab iA).names.lookup x.1=some .free;decide+kernel)⟩ rfl (gH T.cg (aa (cM (dv 7) aq) (aa (cM (dv 8) aq) ae))) (fun _ _ _ _ _=>au (i:=0) (show(["at","joined","right_tied","low","right","high"]:List Str).Nodup by decide+kernel) rfl (by first | exact Or.inl rfl | exact Or.inr rfl)) bf aO (fun _ _ _ _ _=>cu) (fun _ _ _ _ _=>iZ 1 y (m.mono (by decide)) (pv 1) (aa (gX (aa (iX (fh m) (dv 2) (bL (aa (dv 3) (aa (dv 0) ae)))) (aa (iX (fh m) (dv 4) (bL (aa (dv 0) (aa (dv 5) ae)))) ae))) ae)))) ae))))
   (aw (rM 4 (fh m) (pv 4) (bL (aa (dv 7) (aa (dv 8) ae))) (tf (iZ 2 U (m.mono (by decide)) (pv 2) (aa (Ov.ev (bB (N:= ["at","joined","left","low","left_tied","high"]) (nt:=1) (js:= [1,4,7,6,8]) ⟨rfl,by decide+kernel,by decide,rfl,by decide+kernel,(by show∀x∈(_:List (Str × NameKind)),x.2=NameKind.free->(ab iA).names.lookup x.1=some .cell\/(ab iA).names.lookup x.1=some .free;decide+kernel)⟩ rfl (gH T.cg (aa (dv 7) (aa (dv 8) ae))) (fun _ _ _ _ _=>au (i:=0) (show(["at","joined","left","low","left_tied","high"]:List Str).Nodup by decide+kernel) rfl (by first | exact Or.inl rfl | exact Or.inr rfl)) bf aO (fun _ _ _ _ _=>cu) (fun _ _ _ _ _=>iZ 1 y (m.mono (by decide)) (pv 1) (aa (gX (aa (iX (fh m) (dv 2) (bL (aa (dv 3) (aa (dv 0) ae)))) (aa (iX (fh m) (dv 4) (bL (aa (dv 0) (aa (dv 5) ae)))) ae))) ae)))) ae))))))))) ah4)
  (aw (rO 3 (rO 5 (rO 4 (rO 6 (aC (bL (aa (dv 3) (aa (dv 5) (aa (dv 4) (aa (dv 6) ae))))))))))))))),fun ss Qd h=>?_⟩)
 . obtain⟨n,w,g,B,t,S,rfl,_⟩:=h;rfl
 . obtain⟨n,w,g,B,t,S,rfl,n1,C,V,q⟩:=h;have G:((List.range' 1 n).map (uI D n w)).length=n:=by rw[aa4,ac4]
   refine⟨_,rfl,_,.inr rfl,_,_,rfl,rfl,1,_,rfl,⟨by decide,by decide,by rw[G];lia,by rw[G];lia⟩,?_⟩;rw[G,show((n:Int)+1 - 1).toNat=n by lia,P4];refine⟨by rw[aa4,ac4];exact ad9 C (by decide),fI fun i=>pk (i,i),fI fun i=>D (jn []),fun d v=>?_,?_,?_⟩
   . obtain⟨i,M,rfl⟩:=ab6.mp v;exact⟨⟨_,rfl,rfl⟩,_,rfl,_,rfl,by show 2<=sizeLine;decide,rfl,rfl,by show 0<=sizeLine;decide,[],rfl,V.j0,rfl⟩
   . rw[zt];exact List.Pairwise.of_map _ (fun a b z e=>z (af7 _ e)) (zH P wd C)
   . rw[zt,show((List.range' 1 n).map xI).map (fI fun i=>D (jn []))=(dg n).map fun p=>D (g p.1 p.2) from Hz fun i=>by rw[V.r0]];refine⟨⟨_,rfl,rfl⟩,_,_,rfl,fun z=>?_,zH _ _ C,⟨_,rfl,rfl⟩,⟨_,rfl,rfl⟩,⟨_,rfl,rfl⟩,?_⟩
     . have:=af7 List.length z;unfold dg at this;rw[aa4,aa4,ac4] at this;have:n=0:=this;lia
     refine⟨_,rfl,_,.inr rfl,n,by rw[G],ad9 C (by decide),_,rfl,?_⟩;have e0:((dg n).map fun p=>D (g p.1 p.2))=(dg n).map fun p=>D (t p.1 p.2):=ad4 fun p r=>by
      have:=(sx.mp r).1;rw[this,V.r0,V.l0]
     refine cQ (FI D n w g B t S fj fc) ⟨.no,.no,.no,?_,rfl,rfl,rfl,.no .nil⟩ (fun i d δ M R Δ' pA _=>?_) (fun δ R=>?_)
     . rw[List.take_zero,ag3];show [_,_,_,td ((dg n).map pk) ((dg n).map fun p=>D (g p.1 p.2)),td ((dg n).map pk) ((dg n).map fun p=>D (g p.1 p.2)),td [] [],td [] [],_,_,_]= [_,_,_,td ((dg n).map pk) ((dg n).map fun p=>D (g p.1 p.2)),td ((dg n).map pk) ((dg n).map fun p=>D (t p.1 p.2)),td [] [],td [] [],_,_,_]
       rw[<-e0]
     . obtain⟨s7,s8,s9,rfl,Q,X,Y,Z⟩:=R;rw[aa9] at M;obtain⟨⟨l,h⟩,r,rfl⟩:=ai3.mp M;have r:(jV.fH n)[i]?=some (l,h):=r;obtain⟨o,I,u⟩:=gG.mp (ac8 r);have o:1<=l:=o;have I:l < h:=I;have u:h<=n:=u;have lw:(jV.fH n).length < 3601:=zY (ad9 C (by decide));have lt':((jV.fH n).take i).length<=3601:=by rw[ak5];lia
       have k:(dg n++(jV.fH n).take i).length<=4000:=by
        rw[ac1];have:(dg n).length=n:=by unfold dg;rw[aa4,ac4]
        lia
       refine⟨_,_,rfl,⟨_,rfl,Q⟩,⟨_,rfl,X⟩,?_⟩;refine⟨_,fC.im (fC.fn (fC.fn (fC.td (fC.td (fC.td (fC.td (fC.im (fC.im Z)))))))),rfl,?_⟩;refine⟨_,rfl,_,rfl,(l:Int),(h:Int),rfl,⟨by lia,by lia,by lia,by lia⟩,?_⟩;rw[L7];refine⟨by rw[aa4,ac4];exact ad9 (show h - l<=12 by lia) (by decide),fun _=>true,fI fun a=>D (jn [g l a,t (a+1) h]),fun d v=>?_,?_⟩
       . obtain⟨a,j,rfl⟩:=ab6.mp v;have:=ad0.mp j;exact⟨⟨_,rfl,rfl⟩,rfl,fun _=>⟨rfl,_,rfl,_,rfl,_,rfl,by show 2<=sizeLine;decide,⟨_,_,pk (l,a),_,rfl,rfl,eE (Ab r (by lia) (by lia) (by lia) (by lia)),_,rfl,_,rfl,_,_,rfl,rfl,_,rfl,by show 2<=sizeLine;decide,⟨_,_,pk (a+1,h),_,rfl,rfl,eE (Ab r (by lia) (by lia) (by lia) (by lia)),by show 2<=sizeLine;decide,[g l a,t (a+1) h],rfl,V.ji l a h (by lia) (by lia) (by lia) (by lia),rfl⟩⟩⟩⟩
       rw[xv];refine⟨jV.pJ jn g t l h,by rw[jV.pJ,ad6];rfl,V.ci l h o I u,J _,⟨_,rfl,Y⟩,?_⟩;refine⟨rfl,_,rfl,_,rfl,_,_,rfl,rfl,_,_,_,.inr rfl,rfl,yE D (by lia) (by lia),_,rfl,_,_,_,.inr rfl,rfl,rW D (by lia),_,rfl,by show 2<=sizeLine;decide,[w h l,ch (jV.pJ jn g t l h)],rfl,V.jr l h o I u,⟨_,_,rfl⟩,_,rfl,_,rfl,by show 2<=sizeLine;decide,yY (L:=(jV.fH n).take i) (f:=B) rfl rfl (by lia) (tG r) (by rw[V.er l h o I u]) ?_⟩;refine⟨rfl,_,rfl,_,rfl,_,_,rfl,rfl,_,_,_,.inr rfl,rfl,yE D (by lia) (by lia),_,rfl,_,_,_,.inr rfl,rfl,rW D (by lia),_,rfl,by show 2<=sizeLine;decide,[w l h,ch (jV.pJ jn g t l h)],rfl,V.jl l h o I u,⟨_,_,rfl⟩,_,rfl,_,rfl,by show 2<=sizeLine;decide,yY (L:=(jV.fH n).take i) (f:=S) rfl rfl (by lia) (tG r) (by rw[V.el l h o I u]) ?_⟩;refine⟨_,fC.im (fC.fn (fC.fn (fC.td (fC.td (fC.td (fC.td (fC.im (fC.im (fC.im .nil))))))))),rfl,?_⟩;refine⟨_,rfl,_,_,rfl,rfl,_,rfl,_,_,rfl,rfl,((l+1:Nat):Int),((h+1:Nat):Int),rfl,⟨by lia,by lia,by lia,by lia⟩,?_⟩;rw[L7];have mt: ∀{a b:Nat},l<=a->a < b->b<=h->(a,b)∈(jV.fH n).take i++ [(l,h)]:=fun{a b} h1 h2 h3=>by
        by_cases c:b - a < h - l
        . exact ae6 _ (XE r h1 h2 h3 c)
        . exact ac0 _ (by rw[show a=l by lia,show b=h by lia];exact ab1.mpr rfl)
       refine⟨by rw[aa4,ac4];exact ad9 (show h+1 - (l+1)<=12 by lia) (by decide),fun _=>true,fI fun a=>D (jn [B l a,g a h]),fun d v=>?_,?_⟩
       . obtain⟨a,j,rfl⟩:=ab6.mp v;have:=ad0.mp j;exact⟨⟨_,rfl,rfl⟩,rfl,fun _=>⟨rfl,_,rfl,_,rfl,_,rfl,by show 2<=sizeLine;decide,⟨_,_,pk (l,a),_,rfl,rfl,eE (mt (by lia) (by lia) (by lia)),_,rfl,_,rfl,_,rfl,by show 2<=sizeLine;decide,⟨_,_,pk (a,h),_,rfl,rfl,eE (Ab r (by lia) (by lia) (by lia) (by lia)),by show 2<=sizeLine;decide,[B l a,g a h],rfl,V.jR l a h (by lia) (by lia) (by lia) (by lia),rfl⟩⟩⟩⟩
       rw[xv];refine⟨Mf jn g B l h,by rw[Mf,ad6,Nat.add_sub_add_right];rfl,V.cR l h o I u,J _,⟨_,_,rfl⟩,_,rfl,_,rfl,by show 2<=sizeLine;decide,yY (L:=dg n++(jV.fH n).take i) (f:=g) rfl rfl k (FP r) (by rw[V.eR l h o I u]) ?_⟩;refine⟨_,fC.im (fC.fn (fC.fn (fC.td (fC.td (fC.td (fC.td (fC.im (fC.im (fC.im .nil))))))))),rfl,?_⟩;refine⟨_,rfl,_,rfl,(l:Int),(h:Int),rfl,⟨by lia,by lia,by lia,by lia⟩,?_⟩;rw[L7];refine⟨by rw[aa4,ac4];exact ad9 (show h - l<=12 by lia) (by decide),fun _=>true,fI fun a=>D (jn [t l a,S a h]),fun d v=>?_,?_⟩
       . obtain⟨a,j,rfl⟩:=ab6.mp v;have:=ad0.mp j;exact⟨⟨_,rfl,rfl⟩,rfl,fun _=>⟨rfl,_,rfl,_,rfl,_,rfl,by show 2<=sizeLine;decide,⟨_,_,pk (l,a),_,rfl,rfl,eE (Ab r (by lia) (by lia) (by lia) (by lia)),_,rfl,_,rfl,_,rfl,by show 2<=sizeLine;decide,⟨_,_,pk (a,h),_,rfl,rfl,eE (mt (by lia) (by lia) (by lia)),by show 2<=sizeLine;decide,[t l a,S a h],rfl,V.jL l a h (by lia) (by lia) (by lia) (by lia),rfl⟩⟩⟩⟩
       rw[xv];refine⟨MT jn t S l h,by rw[MT,ad6];rfl,V.cL l h o I u,J _,⟨_,_,rfl⟩,_,rfl,_,rfl,by show 2<=sizeLine;decide,yY (L:=dg n++(jV.fH n).take i) (f:=t) rfl rfl k (FP r) (by rw[V.eL l h o I u]) ?_⟩;refine pA _ ⟨.im (.int (l:Int)),.im (.int (h:Int)),.im (D (ch (jV.pJ jn g t l h))),?_,rfl,rfl,rfl,.im .nil⟩;rw[take_snoc r,<-ag8];rfl
     . obtain⟨s7,s8,s9,rfl,Q,X,Y,Z⟩:=R;rw[aa4,show(ay.fH n).length=(jV.fH n).length from rfl,al5];exact⟨_,_,rfl,_,_,rfl,_,_,rfl,_,_,rfl,_,rfl,_,rfl,_,rfl,_,rfl,by show 4<=sizeLine;decide,q⟩
end
section
variable{α:Type}(D:α->Dt)
def Kz(T U:List α->Prop)(x ch:List α->α)(k i:Addr):DS:=fun H Q=> ∃(n:Nat) (w rg rt lf lt:Nat->Nat->α),H= [.im (LN D n w),.fn k,.fn i]/\1<=n/\n<=12/\XI T U x ch n w rg rt lf lt/\Q (D (ch (toV x w lf rg n)))
noncomputable def X5(g:Nat->Dt):Dt->Dt
 | .tup [.int v,_]=>g v.toNat
 | _=> .aN
theorem IV{n:Nat}{w:Nat->Nat->α}{g:Nat->Dt}:((aM 1 ((List.range' 1 n).map (uI D n w))).filter fun _=>true).map (X5 g)=(List.range' 1 n).map g:=by
 rw[ae9.mpr fun _ _=>rfl];apply aj3;intro j;unfold aM;rw[aa9,ai8,aa9,aa9];by_cases c:j < n
 . rw[ah2 c];show some (g (((j+1:Nat):Int)).toNat)=some (g (1+1*j));rw[af0,show 1+1*j=j+1 by lia]
 . rw[ag1 (by rw[ac4];lia)];rfl
end
section
variable{P:Program}{wd:World}{K:PySem.W.Frag}{mg:Str->Option Value}{base:Heap}
theorem xi(M: ∀x,Co (D x))(l:v8 P wd K mg base fj 1 pj (a0 (qy D oJ jn)))(U:v8 P wd K mg base fc 1 pc (a0 (qy D oC ch)))(F:dj K "over_all" "over_all" ix f fd)(T:Txt mg)(X:cj P wd K mg base "fill" 2 ["w","joined","chosen"] (spS (K0 D oJ oC jn ch fj fc))):aK P wd K mg base bD 3 f fd ["w","joined","chosen"] (spS (Kz D oJ oC jn ch fj fc)):=by
 refine RG F qg (fun L z h=>?_) (fun O A I s H E m=>⟨_,(aj (mm (K9 X (m.mono (by decide)) (Pk (dv 0) (Pn (f:=fj) 1 (pv 1) (Pn (f:=fc) 2 (pv 2) Kj)))) (Nz 3 4 5 6 rfl qg.nd))
 (aw (aC (iZ 2 U (m.mono (by decide)) (pv 2) (aa (Ov.ev (bB (N:= ["top","row","joined","left","right","w"]) (nt:=2) (js:= [1,5,3,0]) ⟨rfl,by decide+kernel,by decide,rfl,by decide+kernel,(by show∀x∈(_:List (Str × NameKind)),x.2=NameKind.free->(ab ix).names.lookup x.1=some .cell\/(ab ix).names.lookup x.1=some .free;decide+kernel)⟩ rfl (m7 T.Ju (aa (dv 0) ae) aq) (fun _ _ _ _ _=>bP rfl (az (au (i:=0) (show(["top","row","joined","left","right","w"]:List Str).Nodup by decide+kernel) rfl (by first | exact Or.inl rfl | exact Or.inr rfl)) (az (au (i:=1) (show(["top","row","joined","left","right","w"]:List Str).Nodup by decide+kernel) rfl (by first | exact Or.inl rfl | exact Or.inr rfl)) bo))) aZ aR (fun _ _ _ _ _=>cu) (fun _ _ _ _ _=>(iZ 2 l (m.mono (by decide)) (pv 2) (aa (gX (aa (cy (dv 1) aq) (aa (iX (fh m) (dv 3) (bL (aa aq (aa (dv 0) ae)))) (aa (iX (fh m) (dv 4) (bL (aa (dv 0) (aa (cv T.len (aa (dv 5) ae)) ae)))) ae)))) ae))))) ae))))),fun L z h=>?_⟩)
 . obtain⟨n,w,g,o,r,S,rfl,_⟩:=h;rfl
 . obtain⟨n,w,g,o,r,S,rfl,C,u,V,q⟩:=h;have y:((List.range' 1 n).map (uI D n w)).length=n:=by rw[aa4,ac4]
   have k:(aM 1 ((List.range' 1 n).map (uI D n w))).length=n:=by unfold aM;rw[aj6,y]
   refine⟨_,rfl,rfl,rfl,n,w,g,o,r,S,rfl,C,u,V,_,_,_,_,rfl,⟨_,rfl,rfl⟩,⟨_,rfl,rfl⟩,⟨_,rfl,rfl⟩,⟨_,rfl,rfl⟩,?_⟩;refine⟨rfl,_,rfl,_,rfl,rfl,by rw[k];exact ad9 u (by decide),fun _=>true,X5 fun t=>D (jn [w t 0,r 1 t,g t n]),fun d v=>?_,?_⟩
   . obtain⟨j,e,G,rfl⟩:=kM v;have p:j < n:=by have:=(ab0.mp G).1;rw[y] at this;exact this
     have B:e=uI D n w (j+1):=by
      rw[aa9,ah2 p] at G;have:=(Option.some.inj G).symm;rw[this];congr 1;lia
     subst B;have J: ∀{a b:Nat},1<=a->a<=b->b<=n->(a,b)∈dg n++jV.fH n:=fun{a b} Q R Y=>by
      by_cases c:a=b
      . exact ae6 _ (sx.mpr ⟨c,by dsimp only;lia,by dsimp only;lia⟩)
      . exact ac0 _ (gG.mpr ⟨by dsimp only;lia,by dsimp only;lia,by dsimp only;lia⟩)
     refine⟨_,_,rfl,⟨_,rfl,rfl⟩,⟨_,rfl,rfl⟩,rfl,fun _=>?_⟩;refine⟨rfl,_,rfl,_,_,_,.inr rfl,rfl,rW D (x:=0) (ag0 _),_,rfl,_,rfl,by show 2<=sizeLine;decide,?_⟩;refine⟨_,_,pk (1,j+1),_,rfl,rfl,eE (J (by lia) (by lia) (by lia)),_,rfl,_,rfl,_,rfl,_,.inr rfl,by show 2<=sizeLine;decide,?_⟩;rw[y];exact⟨_,_,pk (j+1,n),_,rfl,rfl,eE (J (by lia) (by lia) (by lia)),by show 3<=sizeLine;decide,[w (j+1) 0,r 1 (j+1),g (j+1) n],rfl,V.jt (j+1) (by lia) (by lia),rfl⟩
   . rw[IV];exact⟨toV jn w r g n,by rw[toV,ad6];rfl,V.ct,q⟩
end
open jW
theorem Ax:jf [a,b]=ad a b:=by show ad a (ad b (some 0))=_;rw[o4]
theorem UL:jf [a,b,c]=ad a (ad b c):=by show ad a (ad b (ad c (some 0)))=_;rw[o4]
def Vo(n:Nat)(L:List Wo):Prop:=L.length<=n
theorem Fv(w:Nat->Nat->Wo):ev w [[]]=jf []:=by
 show mx (wt w []) none=jf [];exact zo _
theorem spv{n:Nat}(w:Nat->Nat->Wo)(r:n<=12):XI (fun _=>True) (Vo 12) jf gp n w (fun l h=>ev w (Q l h).rg) (fun l h=>ev w (Q l h).rt) (fun l h=>ev w (Q l h).lf) (fun l h=>ev w (Q l h).lt) where
 j0:=trivial
 r0:=fun l=>by rw[i3];exact Fv w
 l0:=fun l=>by rw[i3];exact Fv w
 ji:=fun _ _ _ _ _ _ _=>trivial
 ci:=fun l h _ _ _=>by show(jV.pJ _ _ _ _ _).length<=12;unfold jV.pJ;rw[aa4,ac4];lia
 jr:=fun _ _ _ _ _=>trivial
 er:=fun l h _ lt _=>by rw[Ax,L5 w lt];unfold jV.pJ;congr 2;exact ad4 fun a _=>Ax.symm
 jl:=fun _ _ _ _ _=>trivial
 el:=fun l h _ lt _=>by rw[Ax,MQ w lt];unfold jV.pJ;congr 2;exact ad4 fun a _=>Ax.symm
 jR:=fun _ _ _ _ _ _ _=>trivial
 cR:=fun l h _ _ _=>by show(Mf _ _ _ _ _).length<=12;unfold Mf;rw[aa4,ac4];lia
 eR:=fun l h _ lt _=>by rw[Me w lt];unfold Mf;congr 1;exact ad4 fun a _=>Ax.symm
 jL:=fun _ _ _ _ _ _ _=>trivial
 cL:=fun l h _ _ _=>by show(MT _ _ _ _ _).length<=12;unfold MT;rw[aa4,ac4];lia
 eL:=fun l h _ lt _=>by rw[MS w lt];unfold MT;congr 1;exact ad4 fun a _=>Ax.symm
 jt:=fun _ _ _=>trivial
 ct:=by show(toV _ _ _ _ _).length<=12;unfold toV;rw[aa4,ac4];exact r
theorem LH(w:Nat->Nat->Wo)(n:Nat):gp (toV jf w (fun l h=>ev w (Q l h).lf) (fun l h=>ev w (Q l h).rg) n)=ev w (Cz n):=by
 rw[HB];unfold toV;congr 1
 exact ad4 fun t _=>UL
theorem CO(x:Wo):Co (bh x):=by cases x <;> constructor
def vT:DN:=fun o Q=> ∃(n:Nat) (w:Nat->Nat->Wo),o= [cE n w]/\1<=n/\n<=12/\Sm w/\ ∀r,jX n w r->Q (AY r)
abbrev Yx:DN:=qy bh (fun _=>True) jf
abbrev ZH:DN:=qy bh (Vo 12) gp
theorem yK(h: ∀n Q,S' n Q->S n Q): ∀t H Q E,a0 S' t H Q E->a0 S t H Q E:=fun t H Q E z=>by
 obtain⟨M,n,y,Y,r,q,k⟩:=z;exact⟨M,n,y,Y,r,h _ _ q,k⟩
theorem QY: ∀n Q,Yx n Q->lz n Q:=fun n Q z=>by obtain⟨L,e,_,q⟩:=z;exact⟨L,e,q⟩
theorem zX: ∀n Q,ZH n Q->qu n Q:=fun n Q z=>by obtain⟨L,e,l,q⟩:=z;exact⟨L,e,ad9 l (by decide),q⟩
section
variable{P:Program}{wd:World}{K:PySem.W.Frag}{mg:Str->Option Value}{base:Heap}
theorem IJ(L:mg "together"=some (.ref fj))(M:mg "greatest"=some (.ref fc))(F:dj K "best_plain" "best_plain" jE f fd)(T:Txt mg)(N:cj P wd K mg base "over_all" 3 ["w","joined","chosen"] (spS (Kz bh (fun _=>True) (Vo 12) jf gp fj fc)))(Z:cj P wd K mg base "ranked" 2 ["w"] (a0 yV))(O:cj P wd K mg base "figures" 1 ["number","base","many"] (a0 vq))(Y:cj P wd K mg base "worth_of" 2 ["w","h"] (a0 t5)):aK P wd K mg base bD 4 f fd ["w"] (a0 vT):=by
 refine iT F ik (fun o y h=>?_) (fun k A I s H E m=>⟨_,(aj (bY 1 ik.nd (K9 N (m.mono (by decide)) (Pk (aE Z (m.mono (by decide)) (aa (dv 0) ae)) (Pl (by rfl) L (Pl (by rfl) M Kj)))))
 (aj (c7 (gU (dv 1))
 (aw (aC fG))
 bF)
 (aj (bY 2 ik.nd (gL T.tup (aa (aE O (m.mono (by decide)) (aa (kO (dv 1)) (aa (cM (cv T.len (aa (dv 0) ae)) aq) (aa (cv T.len (aa (dv 0) ae)) ae)))) ae)))
 (aw (aC (bL (aa (aE Y (m.mono (by decide)) (aa (dv 0) (aa (dv 2) ae))) (aa (dv 2) ae)))))))),fun o y h=>?_⟩)
 . obtain⟨n,w,rfl,_⟩:=h;rfl
 . obtain⟨n,w,rfl,p,r,j,q⟩:=h;have D:((List.range' 1 n).map (cF n w)).length=n:=by rw[aa4,ac4]
   refine⟨_,rfl,n,w,rfl,by lia,j,n,wr n w,_,_,_,_,rfl,p,r,spv (wr n w) r,⟨_,rfl,rfl⟩,?_⟩;rw[LH];cases e:ev (wr n w) (Cz n) with
   | none=>exact⟨_,rfl,true,rfl,cm (q none (qR e))⟩
   | some t=>
    obtain⟨v,g,B,rfl⟩:=qQ e;refine⟨_,rfl,false,rfl,aW ?_⟩;have G:=JY B;have X:mN ((n:Int)+1) n (-(v*((n:Int)+1)^n - code (n+1) g))=g.reverse.map Int.ofNat:=by
     have:=qA (B:=n+1) (by lia) v n g G.l fun x i=>at0 (G.b x i);rw[show -(v*((n:Int)+1)^n - code (n+1) g)=code (n+1) g - v*((n:Int)+1)^n by lia];push_cast at this
     exact this
    refine⟨_,rfl,_,rfl,_,rfl,_,.inr rfl,_,_,rfl,rfl,_,rfl,_,.inr rfl,?_⟩;rw[D];refine⟨_,_,n,rfl,by lia,by lia,by lia,?_⟩;rw[X];have z:g0 w g=some v:=by cases B;assumption
    have C:((g.reverse.map Int.ofNat).reverse.map Dt.int)=g.map xI:=by rw[<-List.map_reverse,List.reverse_reverse,ad6];rfl
    rw[C];refine⟨_,.inl rfl,⟨_,rfl,rfl⟩,_,rfl,_,rfl,n,w,g,rfl,G.l,G.b,by lia,_,rfl,by show 2<=sizeLine;decide,?_⟩;rw[z];exact q (some (v,g)) B
end
end ay
namespace ay
open PySem PySem.Spec L2 LB LD PyProof.Rows
noncomputable abbrev nI (x:Nat):Dt:= .int (x:Int)
noncomputable def oD:Option Nat->Dt
 | none=> .aN
 | some x=>nI x
structure St where
 ag:List Nat
 b:Nat
 aX:List (Option Nat)
noncomputable def St.dt(s:St):Dt:= .tup [.tup (s.ag.map nI),nI s.b,.tup (s.aX.map oD)]
structure jm(s:St):Prop where
 n:s.aX.length<=1000
 p:s.ag.length<=1000
 cg: ∀w∈s.ag,1<=w/\w<=s.aX.length
noncomputable def St.read(s:St):St:=⟨s.ag++ [s.b],s.b+1,s.aX⟩
noncomputable def St.mG(s:St)(k:Nat):St:=⟨s.ag.dropLast,s.b,s.aX.set (s.ag.getLastD 1 - 1) (some k)⟩
noncomputable def St.next(s:St):St:=s.mG s.b
noncomputable def St.under(s:St):St:=s.mG (s.ag.dropLast.getLastD 1)
noncomputable def aV(s:St):Bool:=decide (s.b<=s.aX.length)
noncomputable def aI(s:St):Bool:=aV s && !s.ag.isEmpty
noncomputable def aJ(s:St):Bool:=decide (1 < s.ag.length)
noncomputable def eh(s:St):List Dt:=(if aV s then [Dt.str "read"] else [])++(if aI s then [Dt.str "next"] else [])++(if aJ s then [Dt.str "under"] else [])
noncomputable def first(n:Nat):St:=⟨[],1,List.replicate n none⟩
def oO:DN:=fun o Q=> ∃n:Nat,o= [nI n]/\1<=n/\n<=1000/\Q (first n).dt
def xu:DN:=fun n Q=> ∃s:St,n= [s.dt]/\jm s/\Q (.lst (eh s))
def dN:DN:=fun n Q=> ∃(s:St) (w:Str),n= [s.dt,.str w]/\jm s/\((w="read"/\Q s.read.dt)\/(w="next"/\s.ag≠ []/\Q s.next.dt)\/(w="under"/\2<=s.ag.length/\Q s.under.dt))
theorem small(h:n<=3000):n<=sizeLine:=by
 have:3000<=sizeLine:=by decide
 omega
theorem KZ{α:Type}(n:Nat)(x:α):(List.replicate n [x]).flatten=List.replicate n x:=by
 induction n with
 | zero=>rfl
 | succ k ih=>rw[ah7,ah7,ag2,ih];rfl
section
variable{P:Program}{w:World}{K:PySem.W.Frag}{mg:Str->Option Value}{base:Heap}
theorem Ej(F:dj K "first_stand" "first_stand" iz f fd)(T:Txt mg):aK P w K mg base bD 1 f fd ["n"] (a0 oO):=by
 refine iT F rL (fun o y h=>?_) (fun j A I s H E m=>⟨_,(aw (aC (bL (aa (bL ae) (aa aq (aa (NQ (bL (aa fG ae)) (dv 0)) ae)))))),fun o y h=>?_⟩)
 . obtain⟨n,rfl,_⟩:=h;rfl
 . obtain⟨n,rfl,p,g,q⟩:=h;refine⟨by show 0<=sizeLine;decide,by show 1<=sizeLine;decide,_,rfl,[.aN],n,rfl,rfl,by simp,by omega,by omega,small (by simp;omega),?_⟩;refine⟨by show 3<=sizeLine;decide,?_⟩;have e:(Dt.tup (List.replicate ((n:Int)).toNat [Dt.aN]).flatten)= .tup ((List.replicate n none).map oD):=by
    rw[List.map_replicate,af0];congr 1
    exact KZ n Dt.aN
   rw[e];exact q
theorem IH(F:dj K "steps_from" "steps_from" jC f fd)(T:Txt mg):aK P w K mg base bD 1 f fd ["stand"] (a0 xu):=by
 refine iT F ij (fun o y h=>?_) (fun j A I s H E m=>⟨_,(aj (mm (dv 0) (oN 1 2 3 rfl ij.nd))
 (aj (fN 4 ij.nd (jo ae))
 (aj (c7 (Pz (dv 2) (cv T.len (aa (dv 3) ae)))
 (aj (dB (cK 4 (pv 4) (aa iY ae)))
 (aw (c7 (Pw (dv 1))
 (aw (dB (cK 4 (pv 4) (aa iY ae))))
 bF)))
 bF)
 (aj (c7 (LP (cv T.len (aa (dv 1) ae)) aq)
 (aw (dB (cK 4 (pv 4) (aa iY ae))))
 bF)
 (aw (ir 4 (aC (dv 4)))))))),fun o y h=>?_⟩)
 . obtain⟨n,rfl,_⟩:=h;rfl
 . obtain⟨s,rfl,r,q⟩:=h;refine⟨_,rfl,_,_,_,rfl,⟨_,rfl,rfl⟩,⟨_,rfl,rfl⟩,⟨_,rfl,rfl⟩,?_⟩;refine⟨by show 0<=sizeLine;decide,⟨_,rfl,rfl⟩,?_⟩;refine⟨_,rfl,_,rfl,_, .inr rfl,_,_,rfl,rfl,_,rfl,?_⟩;by_cases D:s.b<=s.aX.length
   . refine eK (ab8 (by rw[aa4];exact Int.ofNat_le.mpr D)) ?_;refine⟨⟨_,rfl⟩,_,_,rfl,rfl,by show 0 < sizeLine;decide,_,rfl,_,rfl,?_⟩;by_cases t:s.ag= []
     . refine dh (by rw[t];decide) ?_;refine⟨_,rfl,_,.inr rfl,_,_,rfl,rfl,_,rfl,dh (by rw[t];decide) ⟨_,rfl,_,rfl,?_⟩⟩;simpa [eh,aV,aI,aJ,D,t] using q
     . refine eK (by simpa using t) ?_;refine⟨⟨_,rfl⟩,_,_,rfl,rfl,by show 1 < sizeLine;decide,?_⟩;refine⟨_,rfl,_, .inr rfl,_,_,rfl,rfl,_,rfl,?_⟩;by_cases v:1 < s.ag.length
       . refine eK (ab8 (by rw[aa4];exact ao7.mpr v)) ?_;refine⟨⟨_,rfl⟩,_,_,rfl,rfl,by show 2 < sizeLine;decide,_,rfl,_,rfl,?_⟩;simpa [eh,aV,aI,aJ,D,t,v] using q
       . refine dh (by rw[aa4];intro z;exact v (ao7.mp (ae1 z))) ⟨_,rfl,_,rfl,?_⟩;simpa [eh,aV,aI,aJ,D,t,v] using q
   . refine dh (by rw[aa4];intro z;exact D (Int.ofNat_le.mp (ae1 z))) ?_;refine⟨_,rfl,_, .inr rfl,_,_,rfl,rfl,_,rfl,?_⟩;by_cases v:1 < s.ag.length
     . refine eK (ab8 (by rw[aa4];exact ao7.mpr v)) ?_;refine⟨⟨_,rfl⟩,_,_,rfl,rfl,by show 0 < sizeLine;decide,_,rfl,_,rfl,?_⟩;simpa [eh,aV,aI,aJ,D,v] using q
     . refine dh (by rw[aa4];intro z;exact v (ao7.mp (ae1 z))) ⟨_,rfl,_,rfl,?_⟩;simpa [eh,aV,aI,aJ,D,v] using q
end
theorem vL(ds:List Dt):LD.cutD ds none (some (-1))=ds.dropLast:=by
 unfold LD.cutD;rw[HT.fX,an1,Nat.sub_zero];have e:HT.da ds.length ds.length (some (-1))=ds.length - 1:=by
  show(if (-1:Int) < 0 then((-1:Int)+(ds.length:Int)).toNat else min (-1:Int).toNat ds.length)=_;rw[if_pos (by decide)];omega
 rw[e,List.dropLast_eq_take]
theorem zR{os:List (Option Nat)}(q:1<=hi)(m:hi<=os.length)(k:i=((hi - 1:Nat):Int))(T:j=(hi:Int))(d:Dt)(x:Option Nat)(y:d=oD x):LD.cutD (os.map oD) none (some i)++ [d]++LD.cutD (os.map oD) (some j) none=(os.set (hi - 1) x).map oD:=by
 subst k;subst T;subst y;unfold LD.cutD;rw[HT.ki,HT.ki,HT.fX,HT.fX,aa4,Nat.min_eq_left m,Nat.min_eq_left (by omega),an1,Nat.sub_zero,<-List.map_take,<-List.map_drop,ap6 (l:=(os.drop hi).map oD) (by rw[aa4,an3];exact ab3 _)];rw[List.set_eq_take_append_cons_drop,if_pos (by omega),ac5,ad5,ag8];rw[show hi - 1+1=hi by omega];rfl
theorem Gj(ds:List Dt)(lo hi:Option Int):(LD.cutD ds lo hi).length<=ds.length:=by
 unfold LD.cutD;have:=HT.Dr ds.length ds.length (ab3 _) hi;exact ad9 (List.length_take_le ..) (by omega)
theorem C0(h:ps≠ []):jh (ps.map nI) (-1)=some (nI (ps.getLastD 1)):=by
 have e:ps.map nI=ps.dropLast.map nI++ [nI (ps.getLastD 1)]:=by
  rw[<-List.map_singleton (f:=nI),<-ac5];congr 1
  rw[ak2,am9 h,al4,ag5 h]
 rw[e];exact oZ _ _
theorem top2{ps:List Nat}(h:2<=ps.length):jh (ps.map nI) (-2)=some (nI (ps.dropLast.getLastD 1)):=by
 have u:ps.dropLast≠ []:=fun z=>by have:=af7 List.length z;simp at this;omega
 have g:(ps.map nI)[ps.length - 2]?=some (nI (ps.dropLast.getLastD 1)):=by
  rw[aa9,ak2,List.getLast?_eq_getElem?,am1,List.getElem?_dropLast,if_pos (by omega)];rw[show ps.length - 1 - 1=ps.length - 2 by omega,aa6 (by omega)];rfl
 unfold jh zw;rw[if_neg (by decide),aa4,if_pos (by omega)];show(ps.map nI)[_]?=_;rw[show(-2+(ps.length:Int)).toNat=ps.length - 2 by omega];exact g
theorem gq(h:ps≠ []):ps.getLastD 1∈ps:=by
 rw[ak2,am9 h,al4];exact List.getLast_mem h
section
variable{P:Program}{w:World}{K:PySem.W.Frag}{mg:Str->Option Value}{base:Heap}
theorem A9(F:dj K "behind" "behind" rT f fd)(T:Txt mg):aK P w K mg base bD 1 f fd ["stand","word"] (a0 dN):=by
 refine iT F kc (fun o B h=>?_) (fun l A I s H E m=>⟨_,(aj (mm (dv 0) (oN 2 3 4 rfl kc.nd))
 (aj (c7 (wI (dv 1) iY)
 (aw (aC (bL (aa (tj (dv 2) (bL (aa (dv 3) ae))) (aa (cM (dv 3) aq) (aa (dv 4) ae))))))
 bF)
 (aj (bY 5 kc.nd (cy (dv 2) (kO aq)))
 (aj (bY 6 kc.nd (cS (wI (dv 1) iY) (dv 3) (cy (dv 2) (kO aq))))
 (aw (aC (bL (aa (FX (dv 2) n8 (n6 (kO aq))) (aa (dv 3) (aa (tj (tj (FX (dv 4) n8 (n6 (di (dv 5) aq))) (bL (aa (dv 6) ae))) (FX (dv 4) (n6 (dv 5)) n8)) ae)))))))))),fun o B h=>?_⟩)
 . obtain⟨s,w,rfl,_⟩:=h;rfl
 . obtain⟨s,w,rfl,r,q⟩:=h;refine⟨_,rfl,_,_,_,rfl,⟨_,rfl,rfl⟩,⟨_,rfl,rfl⟩,⟨_,rfl,rfl⟩,_,rfl,_,rfl,_,rfl,?_⟩;rcases q with ⟨rfl,q⟩ | ⟨rfl,g,q⟩ | ⟨rfl,g,q⟩
   . refine eK (by decide) ?_;refine⟨_,rfl,_,rfl,by show 1<=sizeLine;decide,_,_,rfl,rfl,small (by have:=r.p;rw[aa4];simp;omega),_,rfl,_,_,rfl,rfl,_,rfl,by show 3<=sizeLine;decide,?_⟩;have e:s.read.dt= .tup [.tup (s.ag.map nI++ [nI s.b]), .int ((s.b:Int)+1), .tup (s.aX.map oD)]:=by
      unfold St.read St.dt;rw[ac5];rfl
     rw[e] at q;exact q
   . refine dh (by decide) ?_;have t:=r.cg _ (gq g);have Z: ∀i:Option Int,(LD.cutD (s.aX.map oD) none i).length<=s.aX.length:=fun i=>by have:=Gj (s.aX.map oD) none i;rwa [aa4] at this
     have k:=r.n;have Y:=zR (os:=s.aX) (hi:=s.ag.getLastD 1) t.1 t.2 (i:=((s.ag.getLastD 1:Nat):Int) - 1) (j:=((s.ag.getLastD 1:Nat):Int)) (by omega) rfl (nI s.b) (some s.b) rfl;refine⟨_,rfl,_,rfl,_,_,_,.inr rfl,rfl,C0 g,⟨_,rfl,rfl⟩,_,rfl,_,rfl,_,rfl,eK (by decide) ⟨_,rfl,⟨_,rfl,rfl⟩,?_⟩⟩;refine⟨_,rfl,_,rfl,_,rfl,_,rfl,_,rfl,_,rfl,_,rfl,_,_,rfl,rfl,_,rfl,_,rfl,_,rfl,by show 1<=sizeLine;decide,_,_,rfl,rfl,small (by have:=Z (some (((s.ag.getLastD 1:Nat):Int) - 1));simp only [ad3,ar4];omega),_,rfl,_,rfl,_,rfl,_,rfl,_,_,rfl,rfl,?_,by show 3<=sizeLine;decide,?_⟩
     . rw[<-ac1,Y,aa4,ae5];exact small (by omega)
     . rw[Y,vL];have e:s.next.dt= .tup [.tup (s.ag.map nI).dropLast,nI s.b, .tup ((s.aX.set (s.ag.getLastD 1 - 1) (some s.b)).map oD)]:=by
        unfold St.next St.mG St.dt;rw[List.map_dropLast]
       rw[e] at q;exact q
   . refine dh (by decide) ?_;have y:s.ag≠ []:=fun z=>by rw[z] at g;exact absurd g (by decide)
     have t:=r.cg _ (gq y);have Z: ∀i:Option Int,(LD.cutD (s.aX.map oD) none i).length<=s.aX.length:=fun i=>by have:=Gj (s.aX.map oD) none i;rwa [aa4] at this
     have k:=r.n;have Y:=zR (os:=s.aX) (hi:=s.ag.getLastD 1) t.1 t.2 (i:=((s.ag.getLastD 1:Nat):Int) - 1) (j:=((s.ag.getLastD 1:Nat):Int)) (by omega) rfl (nI (s.ag.dropLast.getLastD 1)) (some (s.ag.dropLast.getLastD 1)) rfl;refine⟨_,rfl,_,rfl,_,_,_,.inr rfl,rfl,C0 y,⟨_,rfl,rfl⟩,_,rfl,_,rfl,_,rfl,dh (by decide) ⟨_,rfl,_,rfl,_,_,_,.inr rfl,rfl,top2 g,⟨_,rfl,rfl⟩,?_⟩⟩;refine⟨_,rfl,_,rfl,_,rfl,_,rfl,_,rfl,_,rfl,_,rfl,_,_,rfl,rfl,_,rfl,_,rfl,_,rfl,by show 1<=sizeLine;decide,_,_,rfl,rfl,small (by have:=Z (some (((s.ag.getLastD 1:Nat):Int) - 1));simp only [ad3,ar4];omega),_,rfl,_,rfl,_,rfl,_,rfl,_,_,rfl,rfl,?_,by show 3<=sizeLine;decide,?_⟩
     . rw[<-ac1,Y,aa4,ae5];exact small (by omega)
     . rw[Y,vL];have e:s.under.dt= .tup [.tup (s.ag.map nI).dropLast,nI s.b, .tup ((s.aX.set (s.ag.getLastD 1 - 1) (some (s.ag.dropLast.getLastD 1))).map oD)]:=by
        unfold St.under St.mG St.dt;rw[List.map_dropLast]
       rw[e] at q;exact q
end
end ay
namespace ay
open PySem PySem.Spec L2 LB LW LD PyProof.Rows
section
variable{P:Program}{w:World}{K:PySem.W.Frag}{mg:Str->Option Value}{base:Heap}
theorem IA(F:dj K "_law_take" "_law_take" rQ f fd)(T:Txt mg):aK P w K mg base bD 1 f fd ["_law_state","_law_many"] Dd:=by
 refine F.ok gy (fun a H Q E h=>?_) (fun bq A J s H a Q E X h=>?_)
 . obtain⟨d,c,t,m,rfl,_⟩:=h;rfl
 . obtain⟨d,c,t,m,rfl,B,ht,I,Y,q⟩:=h;have l:=fh X;have M:=B.ne;have t0:=B.t0;obtain⟨D,S,O,L⟩:=B.cs;refine⟨_,bt (dY (i:=2) gy.nd rfl (Or.inl rfl) (de oa (ky l (pv 0) iF (fun _ _=>rfl)) ck))
    (bt (y6 l (pv 0) iF (pv 2) rfl)
    (bt (dY (i:=3) gy.nd rfl (Or.inl rfl) (de lJ (pv 2) (nZ kU (by rfl) T.len PySem.boot_len (a8 (ky l (pv 0) iF (fun _ _=>rfl)) bQ))))
    (bt (dY (i:=4) gy.nd rfl (Or.inl rfl) (DU sG (ky l (pv 0) iF (fun _ _=>rfl)) (pv 3) (fun _ _=>rfl)))
    (bt (yZ (kq KA (pv 4) (de D4 ck ck) (dF _))
     (bt (DF (nZ kW (by rfl) T.Y7 tJ (a8 (pv 4) (a8 (pv 1) bQ))) (bP rfl (az (Mt (ky l (pv 0) iF (fun _ _=>rfl)) (pv 3) set_list) (az (au (i:=5) gy.nd rfl (Or.inl rfl)) bo))))
      (eI (nV (pv 5)))) mW)
    (bt (dY (i:=6) gy.nd rfl (Or.inl rfl) (de lJ (de jI (de oa (de oa (de lJ (pv 4) ck) (de jI (de jI (pv 2) (pv 2)) ck)) ck) ck) ck))
    (bt (dY (i:=6) gy.nd rfl (Or.inl rfl) (de lJ (de jI (pv 6) (pv 6)) ck))
    (eI (nV (de lJ (de Ir (de lJ (de jI (de oa (pv 6) (de jI (pv 2) ck)) ck) ck) ck) (pv 1)))))))))),?_⟩
   refine⟨_,rfl,d,_,rfl,by rw[<-JV c t];exact mQ.k (k:=Sum.inr "turn") B.dc,_,_,rfl,rfl,?_⟩;refine⟨_,rfl,_,rfl,d,_,rfl,pw.k (k:=Sum.inr "turn") B.dc (by show 2 < sizeLine;decide),?_⟩;rw[Ol];have G:(upd H d (.dK (bx c (t+1)))) d=some (.dK (bx c (t+1))):=af;have r:(upd H d (.dK (bx c (t+1)))) c=some (.lst (D.map V.int)):=by rw[ah M.symm];exact S
   have N:mQ (upd H d (.dK (bx c (t+1)))) d (.str "cells") (some (.ref c)):=by rw[<-vS c (t+1)];exact mQ.k (k:=Sum.inr "cells") G
   have C:(0:Int) < ((D.map V.int).length:Int):=by rw[aa4];omega
   refine⟨_,rfl,_,rfl,d,_,rfl,N,c,_,rfl,.inl (cc.of r),_,_,rfl,rfl,C,?_⟩;have z:0<=(t+1) % ((D.map V.int).length:Int):=Int.emod_nonneg _ (by omega);have v:(t+1) % ((D.map V.int).length:Int) < ((D.map V.int).length:Int):=as2 _ C;obtain⟨g,Z⟩: ∃g,(D.map V.int)[((t+1) % ((D.map V.int).length:Int)).toNat]?=some (V.int g):=by
    have U:((t+1) % ((D.map V.int).length:Int)).toNat < D.length:=by rw[aa4] at z v ⊢;omega
    exact⟨D[((t+1) % ((D.map V.int).length:Int)).toNat],by simp⟩
   refine⟨_,rfl,d,_,rfl,N,_,rfl,c,_,_,_,rfl,rfl,cc.of r,J0 z Z,?_⟩;refine⟨_,rfl,_,_,rfl,rfl,(show Cn 10 18 from by unfold Cn;decide),_,_,rfl,rfl,_,rfl,?_⟩;refine VW (fun _=>?_) (fun _=>?_)
   . refine⟨_,rfl,_,rfl,_,_,rfl,⟨I,Y⟩,fun p u=>?_⟩;have y:(upd (upd H d (.dK (bx c (t+1)))) p (.tup [.int (g / m), .int (g % m)])) d=some (.dK (bx c (t+1))):=by rw[ah (ar G u)];exact G
     have R:(upd (upd H d (.dK (bx c (t+1)))) p (.tup [.int (g / m),.int (g % m)])) c=some (.lst (D.map V.int)):=by rw[ah (ar r u)];exact r
     refine⟨p,_,rfl,dm.of af,rfl,_,_,rfl,?_⟩;refine⟨_,rfl,d,_,rfl,by rw[<-vS c (t+1)];exact mQ.k (k:=Sum.inr "cells") y,_,rfl,c,_,_,_,rfl,rfl,R,Ja z v,?_⟩;refine⟨_,_,rfl,rfl,?_⟩;refine⟨_,rfl,?_⟩;refine q _ _ (Int.emod_nonneg _ (by omega)) (as2 _ I) ⟨by rw[ah M];exact y,⟨D.set ((t+1) % ((D.map V.int).length:Int)).toNat (g / m),?_,by rw[ae5];exact O,by rw[ae5];exact L⟩,by omega,by omega⟩ fun b o e j n=>?_
     . rw[af,List.map_set]
     . have x:(upd H d (.dK (bx c (t+1)))) b=some o:=by rw[ah j];exact e
       rw[ah n,ah (ar x u)];exact x
   . refine⟨_,rfl,_,_,rfl,rfl,(by show(0:Int) < 2147483549;decide),_,rfl,_,rfl,_,_,rfl,rfl, .inl ⟨by omega,by omega⟩,_,_,rfl,rfl, .inr ⟨by decide,by decide⟩,_,_,rfl,rfl,_,_,rfl,rfl,_,_,rfl,rfl, .inr ⟨by decide,by decide⟩,_,_,rfl,rfl,(by show(0:Int) < 2147483647;decide),?_⟩;generalize YO:((g % 2147483549+(t+1)*(t+1)*4441+23)*48271 % 2147483647:Int)=mx;have m0:0<=mx:=by rw[<-YO];exact Int.emod_nonneg _ (by decide)
     have m1:mx < 2147483647:=by rw[<-YO];exact as2 _ (by decide)
     refine⟨_,rfl,_,rfl,_,_,rfl,rfl,.inl ⟨by omega,by omega⟩,_,_,rfl,rfl,(by show(0:Int) < 2147483399;decide),?_⟩;refine⟨_,rfl,_,rfl,_,_,rfl,rfl,.inr ⟨by decide,by decide⟩,_,_,rfl,rfl,_,_,rfl,rfl,.inr ⟨by decide,by decide⟩,_,_,rfl,rfl,(by show(0:Int) < 2147483549;decide),_,_,rfl,rfl,⟨by decide,by decide⟩,_,rfl,_,_,rfl,rfl,I,?_⟩;refine q _ _ (Int.emod_nonneg _ (by omega)) (as2 _ I) ⟨G,⟨D,r,O,L⟩,by omega,by omega⟩ fun b o e j n=>?_;rw[ah j];exact e
theorem Em(F:dj K "_law_begin" "_law_begin" rS f fd)(T:Txt mg):aK P w K mg base bD 1 f fd ["_law_script"] (rE K):=by
 refine F.ok nM (fun N H Q E h=>?_) (fun O A I s H N Q E m h=>?_)
 . obtain⟨a,D,rfl,_⟩:=h;rfl
 . obtain⟨a,D,rfl,t,B,q⟩:=h;have X:=fh m;refine⟨_,bt (dY (i:=1) nM.nd rfl (Or.inl rfl) (gg kT (by rfl) T.lst jS (a8 (nX yM (pv 0) za (y9 ck)) bQ)))
    (bt (yZ (kq (lK m.nC) (pv 1) (jG bQ) (dF _)) (eI (dY (i:=1) nM.nd rfl (Or.inl rfl) (jG (a8 ck bQ)))) mW)
    (eI (nV (Il (uN iF (pv 1) (uN iF ck Ic)) rfl rfl (by simp) (by decide))))),?_⟩
   refine⟨_,rfl,_,rfl,a,_,rfl,t,fun p L=>?_⟩;have U:mP (D.map V.int) none (some 63)=D.map V.int:=by
    unfold mP;rw[HT.fX,show((63:Int))=((63:Nat):Int) from rfl,HT.ki,an1,Nat.sub_zero,aa4];exact ap6 (by rw[aa4];omega)
   rw[U];refine⟨p,_,rfl,.inl (cc.of af),fun l y=>?_⟩;have J:aD H (upd (upd H p (.lst (D.map V.int))) l (.lst (D.map V.int))):=fun b o e=>by
    have u:(upd H p (.lst (D.map V.int))) b=some o:=by rw[ah (ar e L)];exact e
    rw[ah (ar u y)];exact u
   have c:(upd (upd H p (.lst (D.map V.int))) l (.lst (D.map V.int))) l=some (.lst (D.map V.int)):=af;generalize upd (upd H p (.lst (D.map V.int))) l (.lst (D.map V.int))=H1 at J c;refine⟨_,rfl,ag0 _,fun R j=>?_⟩;have v:aD H1 (upd H1 R (.lst [])):=fun b o e=>by rw[ah (ar e j)];exact e
   refine⟨l,R,_,rfl,rfl,cc.of (v _ _ c),cc.of af,_,rfl,?_⟩;have fin: ∀(g:Addr) (Z:List Int) (C:Hp),aD H C->C g=some (.lst (Z.map V.int))->0 < Z.length->Z.length<=63->Ks [(tC (.str "cells"),fV 1),(tC (.str "turn"),tC (.int 0))] [some (.ref a),some (.ref g)] C Q:=fun g Z C M S k n=>by
    intro d r;have x:g≠d:=ar S r;refine⟨_,rfl,af,[(Sum.inr "cells",.ref g),(Sum.inr "turn",.int 0)],rfl,by show 2<=15;decide,?_⟩;have z:jJ [] [((Sum.inr "cells":Key),V.ref g),(Sum.inr "turn",V.int 0)]=bx g 0:=by
     simp [jJ,putK,bx,VU]
    rw[z];refine q d g _ ⟨af,⟨Z,by rw[ah x,ah x];exact S,k,n⟩,at5 _,by decide⟩ fun b o e=>?_;have u:=M b o e;rw[ah (ar u r),ah (ar u r)];exact u
   cases G:D with
   | nil=>
    refine cm ⟨by show 1<=sizeLine;decide,fun g S=>?_⟩;refine fin g [17] _ (fun b o e=>?_) af (by decide) (by decide);have u:=v _ _ (J b o e);rw[ah (ar u S)];exact u
   | cons n0 nr=>
    refine aW ?_;exact fin l D _ (fun b o e=>v _ _ (J b o e)) (v _ _ c) (by rw[G];simp) B
theorem D8(F:dj K "_law_take" "_law_take" rQ f fd)(T:Txt mg):aK P w K mg base bD 1 f fd ["_law_state","_law_many"] (Cp ur):=(IA F T).imp fun _ _ _ _ h=>HE h
end
end ay
namespace L2
open PySem PySem.Spec PyProof.Rows
open AutoSeq1 (wpAny_loadPart')
theorem BL(t:Addr):Meets (Builtin.«enumerate.__new__» ⟨[.type "enumerate",.ref t],[]⟩) (BI t 0):=
 .of_wp fun i w A R s ⟨⟨Z,x⟩,h⟩=>by
  obtain⟨p,g,d,u,j⟩:=s;have I:=sub_enumerate;obtain⟨⟨c,b,L,e⟩,y,l,n,r⟩:=id x;replace l:c= .type "list":=l
  replace r:L= .seq Z n:=r
  subst l r;wp_walk using af3 y
  refine wpAny_stack_any fun Y=>ab2 ?_;split
  . rename_i c _ _ _ _ _;cases (c==Value.type "enumerate") <;> (wp_walk using af3 y,ak8 x;exact⟨_,rfl,h⟩)
  . wp_walk using af3 y,ak8 x
    exact⟨_,rfl,h⟩
section
variable{X:Cx}{pos:Pos}
def M8(K:PySem.W.Frag)(k:Nat)(e:TA):TI:=fun b H R=>e b H fun t l=> ∃a,t= [.ref a]/\(∃f,cc K l a f)/\R (GW K a k) l
theorem AW{x1}(S:Gl X "enumerate")(z:X.mg "enumerate"=none)(d:PA X [e] t)(hs:starEach [e] X.env= [(false,eval e X.env)]:=by rfl):
  PI X (.Tuple es x1 tp) (.Call (.Name "enumerate" p) [e] [] pos) (M8 X.K 0 t):=by
 intro a s b H R I h;refine Call_ (ez I S z boot_enumerate (ag7 (aP (d pos a s b H _ I h) fun N M w=>?_) hs rfl));obtain⟨y,l,W,r,o⟩:=w;obtain⟨p,rfl,⟨g,Q⟩,q⟩:=o;obtain⟨u,rfl,L⟩:=vals1 r;cases L;obtain⟨v,x,J,f⟩:=W.list Q;exact i0 as3 (by decide) (F.typeCall_enumerate_1 _) (F.newCall_enumerate_1 _) (fun i=>F.args_object_init_2 i _) aq3 (BL p) ⟨⟨_,J.isList⟩,⟨_,ac9 _ rfl,rfl⟩,sZ (k:=0) W q⟩
end
end L2
namespace LD
open PySem PySem.Spec L2 LB PyProof.Rows
section
variable{X:Cx}{tg e a b:Expr}{ta t:bJ}{tA:fJ}{p pos:Pos}
def JR(t:fJ):pV:=fun i Q=>t i fun B j=> ∃n,B= [.lst n]/\Q (aM 0 n) j
theorem EO{x1}(z:X.mg "enumerate"=none)(d:Av X [e] tA)(S:Gl X "enumerate":=by rfl)(hs:starEach [e] X.env= [(false,eval e X.env)]:=by rfl):Iv X (.Tuple es x1 tp) (.Call (.Name "enumerate" p) [e] [] pos) (JR tA):=PI.imp (AW S z d hs) fun c H R f=>(by obtain⟨W,M,O,i,y,E,q,k⟩:=f;exact(
 ⟨W,M,O,i,_,E,q,fun es l v u j N D r=>(by obtain⟨s,e,o⟩:=j;exact(by
  subst e;obtain⟨x,A,rfl,P,L⟩:=r.aG;cases L.cG;obtain⟨a,g,rfl,d,n,w⟩:=P.cA;exact⟨a,rfl,⟨g,cc.of d⟩,k _ _ _ _ o N D (CK d n w)⟩))⟩))
end
end LD
namespace ay
open PySem PySem.Spec L2 LB LD PyProof.Rows
noncomputable def lL(s:St)(w:Str):Bool:=(aV s && ("read":Str)==w) || (aI s && ("next":Str)==w) || (aJ s && ("under":Str)==w)
noncomputable def fA(s:St)(w:Str):St:=if ("read":Str)=w then s.read else if ("next":Str)=w then s.next else s.under
theorem sM:inD (.str w) (eh s)=lL s w:=by
 unfold eh lL inD;cases aV s <;> cases aI s <;> cases aJ s <;> simp [zE,Bool.or_assoc]
structure Good(n m:Nat)(s:St):Prop where
 l:s.aX.length=n
 p:s.ag.length<=m
 b:1<=s.b
 cg: ∀w∈s.ag,1<=w/\w<=n
theorem xM(n:Nat):Good n 0 (first n):=⟨ah5,ab3 _,ab3 _,fun w f=>absurd f aa8⟩
theorem Good.BF(g:Good n m s)(r:n<=12)(R:m<=100):jm s:=⟨by rw[g.l];lia,by have:=g.p;lia,fun w f=>by rw[g.l];exact g.cg w f⟩
theorem vi(g:Good n m s)(k:Nat):Good n (m+1) (s.mG k):=⟨by show(s.aX.set _ _).length=n;rw[ae5,g.l],by show s.ag.dropLast.length<=_;rw[am1];have:=g.p;lia,g.b,fun w f=>g.cg w ((List.dropLast_sublist _).subset f)⟩
theorem df(h:lL s w=true):(w="read"/\aV s=true/\fA s w=s.read)\/(w="next"/\aI s=true/\fA s w=s.next)\/(w="under"/\aJ s=true/\fA s w=s.under):=by
 unfold lL at h;rw[Bool.or_eq_true,Bool.or_eq_true,ae3,ae3,ae3,ai7,ai7,ai7] at h;unfold fA;rcases h with (⟨h,e⟩ | ⟨h,e⟩) | ⟨h,e⟩
 . subst e;exact .inl ⟨rfl,h,if_pos rfl⟩
 . subst e;exact .inr (.inl ⟨rfl,h,by rw[if_neg (by decide),if_pos rfl]⟩)
 . subst e;exact .inr (.inr ⟨rfl,h,by rw[if_neg (by decide),if_neg (by decide)]⟩)
theorem Bz(g:Good n m s)(h:lL s w=true):Good n (m+1) (fA s w):=by
 rcases df h with ⟨_,c,e⟩ | ⟨_,c,e⟩ | ⟨_,c,e⟩
 . rw[e];have X:s.b<=s.aX.length:=ae1 c;refine⟨g.l,by show(s.ag++ [s.b]).length<=_;rw[ac1];have:=g.p;show s.ag.length+1<=_;lia,by show 1<=s.b+1;lia,fun w f=>?_⟩;rcases ad8.mp f with h | h
   . exact g.cg w h
   . cases ab1.mp h;exact⟨g.b,by rw[<-g.l];exact X⟩
 . rw[e];exact vi g _
 . rw[e];exact vi g _
theorem ia(f:jm s)(h:lL s w=true)(q:Q (fA s w).dt):dN [s.dt,.str w] Q:=by
 refine⟨s,w,rfl,f,?_⟩;rcases df h with ⟨e,c,z⟩ | ⟨e,c,z⟩ | ⟨e,c,z⟩
 . rw[z] at q;exact .inl ⟨e,q⟩
 . rw[z] at q;refine .inr (.inl ⟨e,fun y=>?_,q⟩);unfold aI at c;rw[y] at c;simp at c
 . rw[z] at q;exact .inr (.inr ⟨e,ae1 c,q⟩)
theorem om:(eh s).all bO=true:=by
 unfold eh;cases aV s <;> cases aI s <;> cases aJ s <;> rfl
theorem FD:eq2 (nI x) (nI y)=some (decide (x=y)):=by
 show some (decide ((x:Int)=(y:Int)))=_;exact af7 some (al2.mpr ⟨fun h=>by lia,fun h=>by rw[h]⟩)
theorem Ac{ds:List Dt}{t:Nat}(f:1<=t)(h:ds[t - 1]?=some d):jh ds ((t:Int) - 1)=some d:=by
 rw[show((t:Int) - 1)=((t - 1:Nat):Int) by lia];exact bw h
noncomputable def nD(hs:List Nat):Dt:= .tup (hs.map nI)
end ay
namespace ay.h
open PySem PySem.Spec L2 LB LD PyProof.Rows
noncomputable def tupI(h:List Nat):Dt:= .tup (h.map nI)
theorem SE{f:List Dt}{k:Nat}(h:1<=k)(e:f[k - 1]?=some v):jh f ((k:Int) - 1)=some v:=by
 rw[show((k:Int) - 1)=((k - 1:Nat):Int) by grind];exact bw e
theorem Dh{os:List (Option Nat)}(f:1<=k)(g:k<=os.length):((os.set (k - 1) (some x)).map oD)[k - 1]?=some (nI x):=by
 rw[aa9,ac7 (by omega)];rfl
theorem Rx{h:List Nat}(f:1<=k)(g:k<=h.length):(h.map nI)[k - 1]?=some (nI (h.getD (k - 1) 0)):=by
 rw[aa9,ac6,aa6 (by omega)];rfl
noncomputable def bS(h:List Nat)(s:St):Nat:=h.getD (s.ag.getLastD 1 - 1) 0
def EI:DN:=fun n Q=> ∃(h:List Nat) (s:St) (w:Str),n= [tupI h,s.dt,.str w]/\jm s/\h.length=s.aX.length/\
 ((w="read"/\Q (.bl true))\/(w="next"/\s.ag≠ []/\Q (.bl (decide (s.b=bS h s))))\/(w="under"/\2<=s.ag.length/\Q (.bl (decide (s.ag.dropLast.getLastD 1=bS h s)))))
section
variable{P:Program}{w:World}{K:PySem.W.Frag}{mg:Str->Option Value}{base:Heap}
theorem Ei(F:dj K "keeps" "keeps" w6 f fd)(T:Txt mg)(D:cj P w K mg base "behind" 1 ["stand","word"] (a0 dN)):aK P w K mg base bD 2 f fd ["h","stand","word"] (a0 EI):=by
 refine iT F yQ (fun n B h=>?_) (fun j A I s H E m=>⟨_,(aj (c7 (wI (dv 2) iY)
 (aw (aC jg))
 bF)
 (aj (bY 3 yQ.nd (cy (cy (dv 1) aq) (kO aq)))
 (aw (aC (xY (cy (cy (aE D (m.mono (by decide)) (aa (dv 1) (aa (dv 2) ae))) aq) (di (dv 3) aq)) (cy (dv 0) (di (dv 3) aq))))))),fun n B h=>?_⟩)
 . obtain⟨h,s,w,rfl,_⟩:=h;rfl
 . obtain⟨h,s,w,rfl,r,x,q⟩:=h;refine⟨_,rfl,_,rfl,_,rfl,?_⟩;rcases q with ⟨rfl,q⟩ | ⟨rfl,e,q⟩ | ⟨rfl,e,q⟩
   . exact eK (by decide) q
   . have p:=r.cg _ (gq e);refine dh (by decide) ⟨_,rfl,_,_,_,.inr rfl,rfl,rfl,_,rfl,_,_,_,.inr rfl,rfl,C0 e,⟨_,rfl,rfl⟩,_,rfl,_,rfl,s,"next",rfl,r,.inr (.inl ⟨rfl,e,?_⟩)⟩;refine⟨_,_,_,.inr rfl,rfl,rfl,_,rfl,_,_,rfl,rfl,_,_,_,.inr rfl,rfl,SE p.1 (Dh p.1 p.2),_,rfl,_,rfl,_,_,rfl,rfl,_,_,_,.inr rfl,rfl,SE p.1 (Rx p.1 (by lia)),decide (s.b=bS h s),?_,q⟩;show some (decide ((s.b:Int)=((bS h s:Nat):Int)))=_;exact af7 some (al2.mpr Int.ofNat_inj)
   . have y:s.ag≠ []:=fun z=>by rw[z] at e;exact absurd e (by decide)
     have p:=r.cg _ (gq y);refine dh (by decide) ⟨_,rfl,_,_,_,.inr rfl,rfl,rfl,_,rfl,_,_,_,.inr rfl,rfl,C0 y,⟨_,rfl,rfl⟩,_,rfl,_,rfl,s,"under",rfl,r,.inr (.inr ⟨rfl,e,?_⟩)⟩;refine⟨_,_,_,.inr rfl,rfl,rfl,_,rfl,_,_,rfl,rfl,_,_,_,.inr rfl,rfl,SE p.1 (Dh p.1 p.2),_,rfl,_,rfl,_,_,rfl,rfl,_,_,_,.inr rfl,rfl,SE p.1 (Rx p.1 (by lia)),decide (s.ag.dropLast.getLastD 1=bS h s),?_,q⟩;show some (decide (((s.ag.dropLast.getLastD 1:Nat):Int)=((bS h s:Nat):Int)))=_;exact af7 some (al2.mpr Int.ofNat_inj)
end
end ay.h
namespace MH
noncomputable def up(hs:List Nat)(w:Nat):Nat:=hs.getD (w - 1) 0
structure Hg(hs:List Nat):Prop where
 pos:0 < hs.length
 le: ∀x∈hs,x<=hs.length
 rk: ∃rk:Nat->Nat,∀w,1<=w->w<=hs.length->up hs w≠0->rk (up hs w) < rk w
 one: ∃t:Nat,hs[t]?=some 0/\ ∀j:Nat,hs[j]?=some 0->j=t
theorem g9{hs:List Nat}(f:1<=w)(g:w<=hs.length):hs[w - 1]?=some (up hs w):=by
 unfold up;rw[List.getD,aa6 (by lia)];rfl
theorem Hg.Po(h:Hg hs)(f:1<=w)(g:w<=hs.length):up hs w<=hs.length:=h.le _ (ac8 (g9 f g))
noncomputable def kids(hs:List Nat)(j:Nat):List Nat:=(List.range' 1 hs.length).filter fun x=>up hs x==j
theorem uY:x∈kids hs j↔1<=x/\x<=hs.length/\up hs x=j:=by
 unfold kids;rw[af8,ad0];simp
 lia
theorem Ey: ∀{l m:List Nat},l.Nodup->l ⊆ m->l.length<=m.length
 | [],_,_,_=>ag0 _
 | x::l,m,h,s=>by
  have i:x∈m:=s ab4;obtain⟨f,g⟩:=ak1.mp h;have:=Ey (l:=l) (m:=m.erase x) g fun y a=>(List.mem_erase_of_ne (show y≠x from fun e=>f (by rw[<-e];exact a))).mpr (s (ab5 _ a));rw[List.length_erase_of_mem i] at this;have:=List.length_pos_of_mem i;rw[ad3];lia
end MH
namespace ay.h
open PySem PySem.Spec L2 LB LD MH PyProof.Rows
def KQ:DN:=fun n Q=> ∃(hs:List Nat) (j:Nat),n= [tupI hs,nI j]/\hs.length<=500/\Q (.lst ((kids hs j).map nI))
theorem FD:eq2 (nI x) (nI y)=some (decide (x=y)):=by
 show some (decide ((x:Int)=(y:Int)))=_;congr 1
 by_cases h:x=y
 . subst h;simp
 . rw[ad1 h,ad1 fun z=>h (by lia)]
theorem Pa(hs:List Nat):aM 1 (hs.map nI)=(List.range' 1 hs.length).map fun x=> .tup [nI x,nI (up hs x)]:=by
 refine aj3 fun i=>?_;unfold aM;rw[ai8,aa9,aa9];by_cases I:i < hs.length
 . have:=g9 (hs:=hs) (w:=i+1) (by lia) (by lia);rw[as0] at this;rw[this,ah2 (by lia)];show some _=some _;rw[show 1+1*i=i+1 by lia]
 . rw[ag1 (by lia),ag1 (by rw[ac4];lia)];rfl
section
variable{P:Program}{w:World}{K:PySem.W.Frag}{mg:Str->Option Value}{base:Heap}
theorem IE(F:dj K "hung_on" "hung_on" kj f fd)(T:Txt mg):aK P w K mg base bD 1 f fd ["h","word"] (a0 KQ):=by
 refine iT F Dl (fun n y h=>?_) (fun k A I s H E m=>⟨_,(aw (aC (Ov.ev (bB (N:= ["at","on","word"]) (nt:=2) (js:= [1]) ⟨rfl,by decide+kernel,by decide,rfl,by decide+kernel,(by show∀x∈(_:List (Str × NameKind)),x.2=NameKind.free->(ab kj).names.lookup x.1=some .cell\/(ab kj).names.lookup x.1=some .free;decide+kernel)⟩ rfl (m7 T.Ju (aa (dv 0) ae) aq) (fun _ _ _ _ _=>bP rfl (az (au (i:=0) (show(["at","on","word"]:List Str).Nodup by decide+kernel) rfl (by first | exact Or.inl rfl | exact Or.inr rfl)) (az (au (i:=1) (show(["at","on","word"]:List Str).Nodup by decide+kernel) rfl (by first | exact Or.inl rfl | exact Or.inr rfl)) bo))) aZ aR (fun _ _ _ _ _=>oP (wI (dv 1) (dv 2))) (fun _ _ _ _ _=>(dv 0)))))),fun n y h=>?_⟩)
 . obtain⟨B,j,rfl,_⟩:=h;rfl
 . obtain⟨B,j,rfl,J,q⟩:=h;have G:(aM 1 (B.map nI)).length=B.length:=by rw[Pa,aa4,ac4]
   have D: ∀d∈aM 1 (B.map nI),∃x,d= .tup [nI x,nI (up B x)]:=fun d r=>by
    rw[Pa] at r;obtain⟨x,_,rfl⟩:=ab6.mp r;exact⟨x,rfl⟩
   refine⟨_,rfl,_,rfl,rfl,by rw[G];exact small (by lia),fun d=>match d with | .tup [_,.int o]=>decide (o=(j:Int)) | _=>false,fun d=>match d with | .tup [a,_]=>a | d=>d,fun d r=>?_,?_⟩
   . obtain⟨x,rfl⟩:=D d r;refine⟨_,_,rfl,⟨_,rfl,rfl⟩,⟨_,rfl,rfl⟩,_,rfl,_,rfl,_,FD,_,rfl,?_,fun _=>⟨_,rfl,rfl⟩⟩;show decide (up B x=j)=decide (((up B x:Nat):Int)=(j:Int));by_cases h:up B x=j
     . rw[ab8 h,ab8 (by rw[h])]
     . rw[ad1 h,ad1 fun z=>h (by lia)]
   . have e : (List.map (fun d => match d with | .tup [a, _] => a | d => d) (List.filter (fun d => match d with | .tup [_, .int o] => decide (o = (j : Int)) | _ => false) (aM 1 (B.map nI)))) = (kids B j).map nI := by
       rw[Pa,ar5,ad6];unfold kids;have C:((fun d=>match d with | .tup [_,.int o]=>decide (o=(j:Int)) | _=>false) ∘ fun x=>Dt.tup [nI x,nI (up B x)])=fun x=>up B x==j:=by
        funext x
        show decide (((up B x:Nat):Int)=(j:Int))=(up B x==j)
        by_cases h:up B x=j
        . simp [h]
        . rw[ad1 fun z=>h (by lia)];simp [h]
       rw[C];rfl
     rw[e];exact q
noncomputable def gI(h:List Nat)(s:St):Bool:=(kids h (s.ag.getLastD 1)).all fun x=>(s.aX.getD (x - 1) none).isSome
def KY:DN:=fun n Q=> ∃(h:List Nat) (s:St),n= [tupI h,s.dt]/\jm s/\h.length=s.aX.length/\h.length<=500/\s.ag≠ []/\Q (.bl (gI h s))
theorem IG(F:dj K "is_gathered" "is_gathered" dS f fd)(T:Txt mg)(S:cj P w K mg base "hung_on" 1 ["h","word"] (a0 KQ)):aK P w K mg base bD 2 f fd ["h","stand"] (a0 KY):=by
 refine iT F j9 (fun n z h=>?_) (fun k A I s H E m=>⟨_,(aj (mm (dv 1) (oN 2 3 4 rfl j9.nd))
 (aw (aC (Lb rfl T.all (aa (Ov.ev (bB (N:= ["word","ons"]) (nt:=1) (js:= [4]) ⟨rfl,by decide+kernel,by decide,rfl,by decide+kernel,(by show∀x∈(_:List (Str × NameKind)),x.2=NameKind.free->(ab dS).names.lookup x.1=some .cell\/(ab dS).names.lookup x.1=some .free;decide+kernel)⟩ rfl (dH (aE S (m.mono (by decide)) (aa (dv 0) (aa (cy (dv 2) (kO aq)) ae)))) (fun _ _ _ _ _=>au (i:=0) (show(["word","ons"]:List Str).Nodup by decide+kernel) rfl (by first | exact Or.inl rfl | exact Or.inr rfl)) bf aO (fun _ _ _ _ _=>cu) (fun _ _ _ _ _=>(NS (cy (dv 1) (di (dv 0) aq)))))) ae))))),fun n z h=>?_⟩)
 . obtain⟨h,s,rfl,_⟩:=h;rfl
 . obtain⟨h,s,rfl,t,B,J,g,q⟩:=h;refine⟨_,rfl,_,_,_,rfl,⟨_,rfl,rfl⟩,⟨_,rfl,rfl⟩,⟨_,rfl,rfl⟩,?_⟩;refine⟨_,rfl,_,rfl,_,rfl,_,_,_, .inr rfl,rfl,C0 g,h,_,rfl,J,?_⟩;have U: ∀x∈kids h (s.ag.getLastD 1),1<=x/\x<=h.length:=fun x j=>by
    have:=(af8.mp j).1;rw[ad0] at this;lia
   have C:(kids h (s.ag.getLastD 1)).length<=h.length:=ad9 (ao1 _ _) (by rw[ac4];exact ab3 _);refine⟨_,rfl,small (by rw[aa4];lia),fun _=>true,fun d=>match d with | .int i=> .bl (s.aX.getD (i.toNat - 1) none).isSome | d=>d,fun d r=>?_,?_⟩
   . obtain⟨x,j,rfl⟩:=ab6.mp r;have m:=U x j;have e:(s.aX.map oD)[x - 1]?=some (oD (s.aX.getD (x - 1) none)):=by
      rw[aa9,ac6,aa6 (by lia)];rfl
     refine⟨⟨_,rfl,rfl⟩,rfl,fun _=>⟨_,rfl,_,rfl,_,_,rfl,rfl,_,_,_,.inr rfl,rfl,SE m.1 e,?_⟩⟩;show _=Dt.bl (s.aX.getD (((x:Nat):Int).toNat - 1) none).isSome;rw[af0];cases s.aX.getD (x - 1) none with
     | none=>rfl
     | some y=>rfl
   . refine⟨(kids h (s.ag.getLastD 1)).map fun x=>(s.aX.getD (x - 1) none).isSome,?_,?_⟩
     . rw[ae9.mpr (fun _ _=>rfl),ad6,ad6];rfl
     . have e : (((kids h (s.ag.getLastD 1)).map fun x => (s.aX.getD (x - 1) none).isSome).all id) = gI h s := by
         unfold gI;rw[List.all_map];rfl
       rw[e];exact q
noncomputable def pQ(c1 c2 c3:Bool):List Dt:=(if c1 then [Dt.str "read"] else [])++(if c2 then [Dt.str "next"] else [])++(if c3 then [Dt.str "under"] else [])
theorem vO(O:p (.str "read")=true)(R:p (.str "next")=k2)(X:p (.str "under")=k3):List.filter p (pQ c1 c2 c3)=pQ c1 (c2 && k2) (c3 && k3):=by
 unfold pQ;rw[ai2,ai2];cases c1 <;> cases c2 <;> cases c3 <;> cases k2 <;> cases k3 <;> simp [O,R,X]
theorem BY(c1 c2 c3:Bool):inD (.str "next") (pQ c1 c2 c3)=c2:=by cases c1 <;> cases c2 <;> cases c3 <;> decide+kernel
theorem x6(c1 c2 c3:Bool):inD (.str "under") (pQ c1 c2 c3)=c3:=by cases c1 <;> cases c2 <;> cases c3 <;> decide+kernel
theorem qJ(c1 c2 c3:Bool):(pQ c1 c2 c3).all bO=true:=by cases c1 <;> cases c2 <;> cases c3 <;> rfl
theorem Gs(c1 c2 c3:Bool):(pQ c1 c2 c3).length<=3:=by cases c1 <;> cases c2 <;> cases c3 <;> decide
theorem Gr(h:d∈pQ c1 c2 c3):(d= .str "read"/\c1=true)\/(d= .str "next"/\c2=true)\/(d= .str "under"/\c3=true):=by
 unfold pQ at h;rcases ad8.mp h with h | h
 . rcases ad8.mp h with h | h
   . cases c1 with
     | false=>cases h
     | true=>exact .inl ⟨by simpa using h,rfl⟩
   . cases c2 with
     | false=>cases h
     | true=>exact .inr (.inl ⟨by simpa using h,rfl⟩)
 . cases c3 with
   | false=>cases h
   | true=>exact .inr (.inr ⟨by simpa using h,rfl⟩)
noncomputable def ql(h:List Nat)(s:St)(w:Str):Bool:=if w="read" then true else if w="next" then decide (s.b=bS h s) else decide (s.ag.dropLast.getLastD 1=bS h s)
noncomputable def toward(h:List Nat)(s:St):Str:=
 if aI s && decide (s.b=bS h s) then "next"
 else if aJ s && decide (s.ag.dropLast.getLastD 1=bS h s) && gI h s then "under"
 else "read"
def yC:DN:=fun n Q=> ∃(h:List Nat) (s:St),n= [tupI h,s.dt]/\jm s/\h.length=s.aX.length/\h.length<=500/\Q (.str (toward h s))
theorem A1(F:dj K "towards" "towards" iw f fd)(T:Txt mg)(p:cj P w K mg base "steps_from" 1 ["stand"] (a0 xu))(j:cj P w K mg base "keeps" 2 ["h","stand","word"] (a0 EI))(U:cj P w K mg base "is_gathered" 2 ["h","stand"] (a0 KY)):aK P w K mg base bD 3 f fd ["h","stand"] (a0 yC):=by
 refine iT F qf (fun n B h=>?_) (fun k A I s H E m=>⟨_,(aj (rP 2 qf.nd (N:= ["word","h","stand"]) (nt:=1) (js:= [0,1]) ⟨rfl,by decide+kernel,by decide,rfl,by decide+kernel,(by show∀x∈(_:List (Str × NameKind)),x.2=NameKind.free->(ab iw).names.lookup x.1=some .cell\/(ab iw).names.lookup x.1=some .free;decide+kernel)⟩ rfl (dH (aE p (m.mono (by decide)) (aa (dv 1) ae))) (fun _ _ _ _ _=>au (i:=0) (show(["word","h","stand"]:List Str).Nodup by decide+kernel) rfl (by first | exact Or.inl rfl | exact Or.inr rfl)) bf aO (fun _ _ _ _ _=>oP (iW (aE j (m.mono (by decide)) (aa (dv 1) (aa (dv 2) (aa (dv 0) ae)))))) (fun _ _ _ _ _=>(dv 0)))
 (aj (ir 2 (c7 (wH iY (dv 2))
 (aw (aC iY))
 bF))
 (aj (c7 (PW.pt (w_and (wH iY (dv 2)) (jz (iW (aE U (m.mono (by decide)) (aa (dv 0) (aa (dv 1) ae)))))))
 (aw (aC iY))
 bF)
 (aw (aC iY))))),fun n B h=>?_⟩)
 . obtain⟨h,s,rfl,_⟩:=h;rfl
 . obtain⟨h,s,rfl,r,y,J,q⟩:=h;refine⟨_,rfl,s,rfl,r,?_⟩;have O:ql h s "read"=true:=if_pos rfl;have R:ql h s "next"=decide (s.b=bS h s):=by unfold ql;rw[if_neg (by decide),if_pos rfl]
   have X:ql h s "under"=decide (s.ag.dropLast.getLastD 1=bS h s):=by unfold ql;rw[if_neg (by decide),if_neg (by decide)]
   refine⟨_,rfl,small (ad9 (Gs (aV s) (aI s) (aJ s)) (by decide)),fun d=>match d with | .str w=>ql h s w | _=>false,fun d=>d,fun d t=>?_,?_⟩
   . rcases Gr (c1:=aV s) (c2:=aI s) (c3:=aJ s) t with ⟨rfl,c⟩ | ⟨rfl,c⟩ | ⟨rfl,c⟩
     . exact⟨⟨_,rfl,rfl⟩,_,rfl,_,rfl,_,rfl,h,s,"read",rfl,r,y,.inl ⟨rfl,_,rfl,O.symm,fun _=>⟨_,rfl,rfl⟩⟩⟩
     . have e:s.ag≠ []:=fun z=>by unfold aI at c;rw[z] at c;simp at c
       exact⟨⟨_,rfl,rfl⟩,_,rfl,_,rfl,_,rfl,h,s,"next",rfl,r,y,.inr (.inl ⟨rfl,e,_,rfl,R.symm,fun _=>⟨_,rfl,rfl⟩⟩)⟩
     . exact⟨⟨_,rfl,rfl⟩,_,rfl,_,rfl,_,rfl,h,s,"under",rfl,r,y,.inr (.inr ⟨rfl,ae1 c,_,rfl,X.symm,fun _=>⟨_,rfl,rfl⟩⟩)⟩
   . rw[show eh s=pQ (aV s) (aI s) (aJ s) from rfl,vO O R X,List.map_id'];refine⟨⟨_,rfl,rfl⟩,_,rfl,_,rfl,_, .inl rfl,rfl,qJ _ _ _,_,rfl,?_⟩;rw[if_neg ac3,BY];by_cases c:(aI s && decide (s.b=bS h s))=true
     . refine eK c ?_;rw[toward,if_pos c] at q;exact q
     . refine dh c ?_;rw[toward,if_neg c] at q;refine⟨_,rfl,_, .inl rfl,rfl,qJ _ _ _,_,rfl,?_⟩;rw[if_neg ac3,x6];by_cases v:(aJ s && decide (s.ag.dropLast.getLastD 1=bS h s))=true
       . have e:s.ag≠ []:=fun z=>by unfold aJ at v;rw[z] at v;simp at v
         refine eK v ⟨_,rfl,_,rfl,h,s,rfl,r,y,J,e,_,rfl,?_⟩;by_cases g:gI h s=true
         . refine eK g ?_;rw[if_pos (by rw[v,g];rfl)] at q;exact q
         . refine dh g ?_;rw[if_neg (by rw[v];simpa using g)] at q;exact q
       . refine dh v (aW ?_);rw[if_neg (by rw[Bool.not_eq_true] at v;rw[v];simp)] at q;exact q
end
end ay.h
namespace Cg
structure Tree(n:Int)(h:Int->Int)(f:Int->Nat)(F:Nat):Prop where
 cg: ∀w,1<=w->w<=n->h w=0\/(1<=h w/\h w<=n/\f w < f (h w))
 ZL: ∀w,1<=w->w<=n->f w<=F
 one: ∀v w,1<=v->v<=n->1<=w->w<=n->h v=0->h w=0->v=w
 root: ∃r,1<=r/\r<=n/\h r=0
def Plain(n:Int)(h:Int->Int):Prop:=
 ∀v w,1<=v->v<=n->1<=w->w<=n->
  ¬(min v (h v) < min w (h w)/\min w (h w) < max v (h v)/\max v (h v) < max w (h w))
theorem inside{n h f F}(T:Tree n h f F)(P:Plain n h)(A:1<=x)(B:x<=n)(j:h x≠0):
  ∀(k:Nat) (w:Int),1<=w->w<=n->F - f w < k->min x (h x) < w->w < max x (h x)->f w < f (h x):=by
 obtain⟨C,s,r⟩:=(T.cg x A B).resolve_left j;intro k;induction k with
 | zero=>intro w _ _ R;grind
 | succ k ih=>
  intro w q G R z I;have O:=P x w A B q G;have S:=P w x q G A B;have d:=T.ZL w q G;rcases T.cg w q G with e | ⟨a,b,c⟩
  . rw[e] at S;grind
  . by_cases u:h w=h x
    . rw[u] at c;exact c
    . by_cases y:h w=x
      . rw[y] at c;grind
      . have V:=T.ZL (h w) a b;have:=ih (h w) a b (by grind) (by grind) (by grind);grind
theorem ins{n h f F}(T:Tree n h f F)(P:Plain n h)(A:1<=x)(B:x<=n)(j:h x≠0)(q:1<=w)(G:w<=n)(lo:min x (h x) < w)(hi:w < max x (h x)):f w < f (h x):=
 inside T P A B j (F - f w+1) w q G (by lia) lo hi
def Ch(h:Int->Int)(b:Int):List Int->Prop
 | []=>True
 | [s]=>h s=0\/b<=h s
 | s::t::r=>(h s=t\/h s=0\/b<=h s)/\Ch h b (t::r)
structure Inv(n:Int)(h:Int->Int)(p:List Int)(b:Int):Prop where
 b1:1<=b
 bn:b<=n+1
 inc:p.Pairwise (fun s t=>t < s)
 cg: ∀s,s∈p->1<=s/\s < b
 ch:Ch h b p
 own: ∀w,1<=w->w < b->w∉p->h w≠0
 gI: ∀w,1<=w->w < b->w∉p-> ∀c,1<=c->c<=n->h c=w->c < b/\c∉p
theorem V1{n h}(g:0<=n):Inv n h [] 1:=
 ⟨by omega,by omega,List.Pairwise.nil,by simp,trivial,fun w a b=>by omega,fun w a b=>by omega⟩
theorem Ch.mem: ∀{p:List Int} {s:Int},Ch h b p->s∈p->
  h s=0\/b<=h s\/ ∃u t r,p=u++s::t::r/\h s=t
 | [],s,_,hs=>by cases hs
 | [x],s,hc,hs=>by
  have e:s=x:=by simpa using hs
  subst e;rcases hc with a | a
  . exact .inl a
  . exact .inr (.inl a)
 | x::t::r,s,hc,hs=>by
  rcases ab9.1 hs with e | e
  . subst e;rcases hc.1 with a | a | a
    . exact .inr (.inr ⟨[],t,r,rfl,a⟩)
    . exact .inl a
    . exact .inr (.inl a)
  . rcases Ch.mem hc.2 e with a | a | ⟨u,E,C,a,J⟩
    . exact .inl a
    . exact .inr (.inl a)
    . exact .inr (.inr ⟨x::u,E,C,by rw[a];rfl,J⟩)
theorem Inv.up{n h p b}(I:Inv n h p b)(hs:s∈p):h s=0\/b<=h s\/(h s∈p/\h s < s):=by
 rcases I.ch.mem hs with a | a | ⟨u,t,r,e,a⟩
 . exact .inl a
 . exact .inr (.inl a)
 . refine .inr (.inr ?_);have q:=I.inc;rw[e] at q;have:=(ai0.1 q).2.1;have:=(af5.1 this).1 t (by simp);subst a;exact⟨by rw[e];simp,this⟩
theorem Inv.rq{n h s p b}(I:Inv n h (s::p) b)(l:c∈s::p):h c≠s:=by
 intro e;have A:=I.cg s (by simp);rcases I.up l with a | a | ⟨a,J⟩
 . lia
 . lia
 . rcases ab9.1 l with x | x
   . lia
   . have:=(af5.1 I.inc).1 c x;lia
theorem Inv.next{n h f F s p b}(T:Tree n h f F)(P:Plain n h)(I:Inv n h (s::p) b)(k:b<=n)(e:h s=b):
  Inv n h p b:=by
 have A:=I.cg s (by simp);refine⟨I.b1,I.bn,(af5.1 I.inc).2,fun t y=>I.cg t (by simp [y]),?_,?_,?_⟩
 . have:=I.ch;cases p with
   | nil=>trivial
   | cons t r=>exact this.2
 . intro w q u i;by_cases v:w=s
   . subst v;have:=I.b1;lia
   . exact I.own w q u (by simp [v,i])
 . intro w q u i c D g m;by_cases v:w=s
   . subst v;have o:c∉w::p:=fun z=>I.rq z m;refine⟨?_,fun z=>o (by simp [z])⟩;rcases Int.lt_or_le c b with l | l
     . exact l
     . exfalso;have W:=(T.cg w (by lia) (by lia)).resolve_left (by have:=I.b1;lia);have j:=(T.cg c D g).resolve_left (by lia);rw[e] at W;rw[m] at j;by_cases d:c=b
       . rw[d] at j;lia
       . have:=ins T P (x:=c) (w:=b) D g (by lia) I.b1 k (by rw[m];lia) (by rw[m];lia);rw[m] at this;lia
   . have:=I.gI w q u (by simp [v,i]) c D g m;exact⟨this.1,fun z=>this.2 (by simp [z])⟩
theorem Inv.under{n h s t p b}(I:Inv n h (s::t::p) b)(e:h s=t)
  (g: ∀c,1<=c->c<=n->h c=s->c < b/\c∉s::t::p):Inv n h (t::p) b:=by
 have A:=I.cg s (by simp);have u:=I.cg t (by simp);refine⟨I.b1,I.bn,(af5.1 I.inc).2,fun E u=>I.cg E (by simp only [ab9] at*;exact .inr u),I.ch.2,?_,?_⟩
 . intro w q r f;by_cases v:w=s
   . subst v;lia
   . exact I.own w q r (by intro z;rcases ab9.1 z with e | e;exact v e;exact f e)
 . intro w q r f c D i l;by_cases v:w=s
   . subst v;have:=g c D i l;exact⟨this.1,fun z=>this.2 (ab5 _ z)⟩
   . have:=I.gI w q r (by intro z;rcases ab9.1 z with e | e;exact v e;exact f e) c D i l;exact⟨this.1,fun z=>this.2 (ab5 _ z)⟩
theorem Inv.VJ{n h f F s p b}(T:Tree n h f F)(P:Plain n h)(I:Inv n h (s::p) b)(k:b<=n)
  (o:h s≠b) (j: ∀t r,p=t::r->h s=t-> ∃c,b<=c/\c<=n/\h c=s):
  ∀q,q∈s::p->h q≠b:=by
 intro q Q e;have B:=I.cg s (by simp);have X:=I.cg q Q;rcases ab9.1 Q with v | v
 . subst v;exact o e
 have S:=(af5.1 I.inc).1 q v;have O:=P q s (by grind) (by grind) (by grind) (by grind);have R:=P s q (by grind) (by grind) (by grind) (by grind);rw[e] at O R;rcases I.ch.mem (s:=s) (by simp) with a | a | ⟨u,t,r,a,J⟩
 . rw[a] at O R;grind
 . have:=T.cg s (by grind) (by grind);grind
 . have m : u = [] := by
     cases u with
     | nil=>rfl
     | cons x u=>
      exfalso;have A:s=x:=by have:=af7 List.head? a;simpa using this
      have y:=I.inc;rw[a] at y;have:=(af5.1 y).1 s (by simp);grind
   subst m;have z:p=t::r:=by simpa using a
   obtain⟨c,V,g,l⟩:=j t r z J;have Y:=P q c (by grind) (by grind) (by grind) (by grind);rw[e,l] at Y;by_cases d:c=b
   . have:=ins T P (x:=q) (w:=s) (by grind) (by grind) (by grind) (by grind) (by grind) (by rw[e];grind) (by rw[e];grind);rw[e] at this;have i:=(T.cg c (by grind) g).resolve_left (by grind);rw[l,d] at i;grind
   . grind
theorem Ch.read: ∀{p:List Int},Ch h b p->(∀q,q∈p->h q≠b)->Ch h (b+1) p
 | [],_,_=>trivial
 | [s],hc,hq=>by
  have:=hq s (by simp);rcases hc with a | a
  . exact .inl a
  . exact .inr (by lia)
 | s::t::r,hc,hq=>by
  have:=hq s (by simp);refine⟨?_,Ch.read hc.2 (fun q z=>hq q (ab5 _ z))⟩;rcases hc.1 with a | a | a
  . exact .inl a
  . exact .inr (.inl a)
  . exact .inr (.inr (by lia))
theorem Inv.read{n h f F p b}(T:Tree n h f F)(P:Plain n h)(I:Inv n h p b)(d:b<=n)
  (o: ∀s r,p=s::r->h s≠b)
  (j: ∀s t r,p=s::t::r->h s=t-> ∃c,b<=c/\c<=n/\h c=s):
  Inv n h (b::p) (b+1):=by
 have U:=I.b1;have Z: ∀q,q∈p->h q≠b:=by
  cases p with
  | nil=>intro q Q;cases Q
  | cons s r=>exact I.VJ T P d (o s r rfl) (fun t C e y=>j s t C (by rw[e]) y)
 have L:=T.cg b U d;refine⟨by grind,by grind,af5.2 ⟨fun t y=>(I.cg t y).2,I.inc⟩,?_,?_,?_,?_⟩
 . intro s B;rcases ab9.1 B with e | e
   . grind
   . have:=I.cg s e;grind
 . have D:=I.ch.read Z;have V:h b≠b:=by
    intro e;rw[e] at L;grind
   have Y:h b=0\/b+1<=h b\/ ∃s r,p=s::r/\h b=s:=by
    rcases L with a | ⟨G,k,N⟩
    . exact .inl a
    . rcases Int.lt_or_le b (h b) with l | l
      . exact .inr (.inl (by grind))
      . have S:h b < b:=by grind
        have z:h b∈p:=by
         apply ak3;intro z;have:=(I.gI (h b) G S z b U d rfl).1;grind
        cases v:p with
        | nil=>rw[v] at z;cases z
        | cons s r=>
         refine .inr (.inr ⟨s,r,rfl,?_⟩);rw[v] at z;rcases ab9.1 z with e | e
         . exact e
         . exfalso;subst v;have B:=I.cg s (by simp);have lt:=(af5.1 I.inc).1 _ e;have O:=P b s U d (by grind) (by grind);have R:=P s b (by grind) (by grind) U d;have m1:=o s r rfl;rcases I.ch.mem (s:=s) (by simp) with a | a | ⟨u,t,C,a,J⟩
           . rw[a] at O R;grind
           . grind
           . have H : u = [] := by
               cases u with
               | nil=>rfl
               | cons x u=>
                exfalso;have ex:s=x:=by have:=af7 List.head? a;simpa using this
                have v:=I.inc;rw[a] at v;have:=(af5.1 v).1 s (by simp);grind
             subst H;have E:r=t::C:=by simpa using a
             obtain⟨c,W,i,m⟩:=j s t C (by rw[E]) J;have X:=P b c U d (by grind) i;rw[m] at X;have:c≠b:=by intro e;rw[e] at m;grind
             grind
   cases p with
   | nil=>
    rcases Y with a | a | ⟨s,r,a,_⟩
    . exact .inl a
    . exact .inr a
    . cases a
   | cons s r=>
    refine⟨?_,D⟩;rcases Y with a | a | ⟨s',C,a,J⟩
    . exact .inr (.inl a)
    . exact .inr (.inr a)
    . cases a;exact .inl J
 . intro w A M g;have:w≠b:=fun e=>g (by simp [e]);exact I.own w A (by grind) (fun z=>g (ab5 _ z))
 . intro w A M g c D i m;have:w≠b:=fun e=>g (by simp [e]);have:=I.gI w A (by grind) (fun z=>g (ab5 _ z)) c D i m;refine⟨by grind,fun z=>?_⟩;rcases ab9.1 z with e | e
   . grind
   . exact this.2 e
theorem Inv.last{n h f F s t p}(T:Tree n h f F)(I:Inv n h (s::t::p) (n+1)):
  h s=t/\ ∀c,1<=c->c<=n->h c=s->c < n+1/\c∉s::t::p:=by
 have B:=I.cg s (by simp);have v:=I.cg t (by simp);have S:=(af5.1 I.inc).1 t (by simp);refine⟨?_,fun c D j l=>⟨by lia,fun A=>I.rq A l⟩⟩;have d: ∀(q:List Int) (x:Int),Ch h (n+1) (x::q)->(∀y,y∈x::q->1<=y/\y<=n)->
   ∃r,r∈x::q/\h r=0:=by
  intro q;induction q with
  | nil=>
   intro x l m;have:=m x (by simp);have:=T.cg x this.1 this.2;rcases l with a | a
   . exact⟨x,by simp,a⟩
   . lia
  | cons y q ih=>
   intro x l m;obtain⟨r,g,u⟩:=ih y l.2 (fun z i=>m z (ab5 _ i));exact⟨r,ab5 _ g,u⟩
 obtain⟨r,m,L⟩:=d p t I.ch.2 (fun y b=>by have:=I.cg y (ab5 _ b);lia);have Z:=I.cg r (ab5 _ m);rcases I.ch.1 with a | a | a
 . exact a
 . have e:=T.one s r (by lia) (by lia) (by lia) (by lia) a L;have:=(af5.1 I.inc).1 r m;lia
 . have:=T.cg s (by lia) (by lia);lia
theorem Inv.ne{n h f F p}(T:Tree n h f F)(I:Inv n h p (n+1)):p≠ []:=by
 rintro rfl
 obtain⟨r,q,W,H⟩:=T.root;exact I.own r q (by lia) (by simp) H
end Cg
namespace ay.h
open PySem LD MH Cg
noncomputable def hI(h:List Nat)(w:Int):Int:=((up h w.toNat:Nat):Int)
noncomputable def rp(s:St):List Int:=(s.ag.map fun x:Nat=>(x:Int)).reverse
structure Good(h:List Nat)(s:St):Prop where
 len:s.aX.length=h.length
 inv:Inv h.length (hI h) (rp s) s.b
 aX: ∀w,1<=w->w<=h.length->s.aX.getD (w - 1) none=if w < s.b/\w∉s.ag then some (up h w) else none
theorem dE{w:Nat}:(w:Int)∈rp s↔w∈s.ag:=by
 unfold rp;rw[List.mem_reverse,ab6];exact ⟨fun⟨x,i,e⟩=>by have:x=w:=(by lia);rwa[this] at i,fun h=>⟨w,h,rfl⟩⟩
theorem snoc(h:ps≠ []):ps=ps.dropLast++ [ps.getLastD 1]:=by
 rw[ak2,am9 h,al4,ag5 h]
theorem mV{s:St}(h:s.ag≠ []):rp s=((s.ag.getLastD 1:Nat):Int)::(s.ag.dropLast.map fun x:Nat=>(x:Int)).reverse:=by
 unfold rp;conv=>lhs;rw[snoc h]
 rw[ac5,an0];rfl
theorem fZ{s:St}(h:2<=s.ag.length):rp s=((s.ag.getLastD 1:Nat):Int)::((s.ag.dropLast.getLastD 1:Nat):Int)::(s.ag.dropLast.dropLast.map fun x:Nat=>(x:Int)).reverse:=by
 have o:s.ag≠ []:=fun z=>by rw[z] at h;exact absurd h (by decide)
 have f:s.ag.dropLast≠ []:=fun z=>by have:=af7 List.length z;simp at this;lia
 rw[mV o];congr 1
 conv=>lhs;rw[snoc f]
 rw[ac5,an0];rfl
theorem Good.mG(g:Good h s)(j:s.ag≠ [])(e:up h (s.ag.getLastD 1)=on)(i:Inv h.length (hI h) (s.ag.dropLast.map fun x:Nat=>(x:Int)).reverse s.b):Good h (s.mG on):=by
 have W:=gq j;have m:=g.inv.cg _ (dE.mpr W);have a:=g.inv.bn;have f:s.ag.getLastD 1∉s.ag.dropLast:=fun z=>by
  have:=g.inv.inc;rw[mV j] at this;have:=(af5.1 this).1 ((s.ag.getLastD 1:Nat):Int) (by rw[List.mem_reverse,ab6];exact⟨_,z,rfl⟩);lia
 refine⟨by show(s.aX.set _ _).length=_;rw[ae5];exact g.len,i,fun w q G=>?_⟩;show(s.aX.set (s.ag.getLastD 1 - 1) (some on)).getD (w - 1) none=if w < s.b/\w∉s.ag.dropLast then some (up h w) else none
 by_cases v:w=s.ag.getLastD 1
 . rw[if_pos ⟨by lia,by rw[v];exact f⟩,v,e,ac6,ac7 (by rw[g.len];lia)];rfl
 . have A : w ∈ s.ag ↔ w ∈ s.ag.dropLast := by
     constructor
     . intro z;rw[snoc j] at z;rcases ad8.mp z with z | z
       . exact z
       . exact absurd (by simpa using z) v
     . exact fun z=>List.dropLast_subset _ z
   have k:(if w < s.b/\w∉s.ag.dropLast then some (up h w) else none)=(if w < s.b/\w∉s.ag then some (up h w) else none):=by
    by_cases c:w < s.b/\w∉s.ag
    . rw[if_pos c,if_pos ⟨c.1,fun z=>c.2 (A.mpr z)⟩]
    . rw[if_neg c,if_neg fun z=>c ⟨z.1,fun y=>z.2 (A.mp y)⟩]
   rw[k,<-g.aX w q G,ac6,ac6,ab7 (by lia)]
theorem Good.Yv(g:Good h s)(n:1<=x)(M:x<=h.length):(s.aX.getD (x - 1) none).isSome=true↔x < s.b/\x∉s.ag:=by
 rw[g.aX x n M];by_cases c:x < s.b/\x∉s.ag
 . rw[if_pos c];exact⟨fun _=>c,fun _=>rfl⟩
 . rw[if_neg c];exact⟨fun z=>(by cases z),fun z=>absurd z c⟩
theorem Good.gI(g:Good h s):ay.h.gI h s=true↔ ∀c:Nat,1<=c->c<=h.length->up h c=s.ag.getLastD 1->c < s.b/\c∉s.ag:=by
 unfold ay.h.gI;rw[af6];constructor
 . intro z c D f e;exact(g.Yv D f).mp (z c (uY.mpr ⟨D,f,e⟩))
 . intro z c l;obtain⟨D,f,e⟩:=uY.mp l;exact(g.Yv D f).mpr (z c D f e)
noncomputable def go(h:List Nat)(s:St):St:=if toward h s="next" then s.next else if toward h s="under" then s.under else s.read
noncomputable def left(h:List Nat)(s:St):Nat:=2*(h.length+1 - s.b)+s.ag.length
theorem a9{w:Nat}:hI h (w:Int)=((up h w:Nat):Int):=rfl
theorem Good.step{h:List Nat}(T:Tree h.length (hI h) f Fm)(P:Plain h.length (hI h))(g:Good h s)(F:s.b<=h.length\/s.ag.length≠1):
  Good h (go h s)/\left h (go h s)+1=left h s/\((toward h s="read"/\s.b<=h.length/\go h s=s.read)\/(toward h s="next"/\s.ag≠ []/\s.b<=h.length/\go h s=s.next)\/(toward h s="under"/\2<=s.ag.length/\go h s=s.under)):=by
 have V:=g.inv.b1;have a:=g.inv.bn;have E:=g.len;by_cases D:(aI s && decide (s.b=bS h s))=true
 . have M:toward h s="next":=by unfold toward;rw[if_pos D]
   rw[ae3] at D;obtain⟨D,x⟩:=D;have x:=ae1 x;unfold aI at D;rw[ae3] at D;have W:s.b<=h.length:=by have:=ae1 D.1;lia
   have i:s.ag≠ []:=fun z=>by rw[z] at D;simp at D
   have C:go h s=s.next:=by unfold go;rw[if_pos M]
   refine⟨?_,?_,.inr (.inl ⟨M,i,W,C⟩)⟩
   . rw[C];have I:=g.inv;rw[mV i] at I;exact g.mG i x.symm (I.next T P (by lia) (by rw[a9];exact af7 Int.ofNat x.symm))
   . rw[C];unfold left;show 2*(h.length+1 - s.b)+s.ag.dropLast.length+1=_;have:0 < s.ag.length:=al1.mpr i;rw[am1];lia
 . by_cases v:(aJ s && decide (s.ag.dropLast.getLastD 1=bS h s) && ay.h.gI h s)=true
   . have M:toward h s="under":=by unfold toward;rw[if_neg D,if_pos v]
     rw[ae3,ae3] at v;obtain⟨⟨v,y⟩,j⟩:=v;have v:2<=s.ag.length:=ae1 v;have y:=ae1 y;have i:s.ag≠ []:=fun z=>by rw[z] at v;exact absurd v (by decide)
     have C:go h s=s.under:=by unfold go;rw[if_neg (by rw[M];decide),if_pos M]
     refine⟨?_,?_,.inr (.inr ⟨M,v,C⟩)⟩
     . rw[C];have I:=g.inv;rw[fZ v] at I;have:=I.under (by rw[a9];exact af7 Int.ofNat y.symm) (fun c N O e=>by
        have Q:c=((c.toNat:Nat):Int):=by lia
        rw[Q,a9] at e;have:=g.gI.mp j c.toNat (by lia) (by lia) (by lia);rw[<-fZ v,Q,dE];exact⟨by lia,this.2⟩)
       refine g.mG i y.symm ?_;have m:s.ag.dropLast≠ []:=fun z=>by have:=af7 List.length z;simp at this;lia
       rw[snoc m,ac5,an0];exact this
     . rw[C];unfold left;show 2*(h.length+1 - s.b)+s.ag.dropLast.length+1=_;rw[am1];lia
   . have M:toward h s="read":=by unfold toward;rw[if_neg D,if_neg v]
     have C:go h s=s.read:=by unfold go;rw[if_neg (by rw[M];decide),if_neg (by rw[M];decide)]
     have W:s.b<=h.length:=by
      apply ak3;intro W;have J:(s.b:Int)=(h.length:Int)+1:=by lia
      have I:=g.inv;rw[J] at I;have i:s.ag≠ []:=fun z=>I.ne T (by unfold rp;rw[z];rfl);have d:2<=s.ag.length:=by
       have:0 < s.ag.length:=al1.mpr i;lia
      rw[fZ d] at I;obtain⟨U,l⟩:=I.last T;rw[a9] at U;apply v;rw[ae3,ae3];refine⟨⟨ab8 (by lia),ab8 (by unfold bS;show _=up h _;lia)⟩,g.gI.mpr fun c N O e=>?_⟩;have:=l (c:Int) (by lia) (by lia) (by rw[a9];lia);rw[<-fZ d,dE] at this;exact⟨by lia,this.2⟩
     refine⟨?_,?_,.inl ⟨M,W,C⟩⟩
     . rw[C];have I:=g.inv.read T P (by lia) (fun t r e=>by
        have i:s.ag≠ []:=fun z=>by unfold rp at e;rw[z] at e;cases e
        rw[mV i] at e;injection e with e1 e2
        rw[<-e1,a9];intro z;apply D;rw[ae3];refine⟨?_,ab8 (by unfold bS;show _=up h _;lia)⟩;unfold aI aV;rw[ab8 (by lia)];simpa using i) (fun t u r e A=>by
        have d:2<=s.ag.length:=by
         have:=af7 List.length e;unfold rp at this;rw[List.length_reverse,aa4] at this;simp at this;lia
        rw[fZ d] at e;injection e with e1 e2
        injection e2 with e2 e3
        rw[<-e1,a9] at A;rw[<-e2] at A;have n: ¬ay.h.gI h s=true:=fun z=>v (by
         rw[ae3,ae3];exact⟨⟨ab8 (by lia),ab8 (by unfold bS;show _=up h _;lia)⟩,z⟩)
        apply ak3;intro k;apply n;rw[g.gI];intro c N O e;have o:(c:Int)∉rp s:=by
         have I:=g.inv;rw[fZ d] at I ⊢;exact fun z=>I.rq z (by rw[a9];lia)
        rw[dE] at o;refine⟨?_,o⟩;apply ak3;intro z;exact k ⟨(c:Int),by lia,by lia,by rw[a9,<-e1];lia⟩)
       refine⟨g.len,?_,fun w q G=>?_⟩
       . have B : rp s.read = (s.b : Int) :: rp s := by
           unfold rp St.read;rw[ac5,an0];rfl
         rw[B];exact I
       . show s.aX.getD (w - 1) none=if w < s.b+1/\w∉s.ag++ [s.b] then some (up h w) else none
         rw[g.aX w q G];by_cases c:w < s.b/\w∉s.ag
         . rw[if_pos c,if_pos ⟨by lia,by intro z;rcases ad8.mp z with z | z;exact c.2 z;have:=c.1;simp at z;lia⟩]
         . rw[if_neg c,if_neg];rintro⟨R,p⟩
           apply c;have:w≠s.b:=fun z=>p (by simp [z]);exact⟨by lia,fun z=>p (ae6 _ z)⟩
     . rw[C];unfold left;show 2*(h.length+1 - (s.b+1))+(s.ag++ [s.b]).length+1=_;rw[ac1,List.length_singleton];lia
theorem Fn:(List.replicate n (none:Option Nat)).getD k none=none:=by
 rw[ac6,ad2];by_cases c:k < n
 . rw[if_pos c];rfl
 . rw[if_neg c];rfl
theorem Good.start:Good h (first h.length):=
 ⟨ah5,V1 (by lia),fun w q G=>by
  show(List.replicate h.length none).getD (w - 1) none=if w < 1/\w∉ [] then some (up h w) else none
  rw[Fn,if_neg (by lia)]⟩
theorem xA:left h (first h.length)=2*h.length:=by
 unfold left first
 show 2*(h.length+1 - 1)+0=_;lia
theorem Good.BF(g:Good h s)(l:h.length<=500):jm s:=by
 refine⟨by have:=g.len;lia,?_,fun w f=>?_⟩
 . have I : s.ag.length <= (List.range (h.length + 1)).length := by
     have u:s.ag.Nodup:=by
      have:=g.inv.inc;unfold rp at this;rw[List.pairwise_reverse,List.pairwise_map] at this;exact this.imp fun z=>by lia
     have a:s.ag ⊆ List.range (h.length+1):=fun w f=>by
      have:=g.inv.cg _ (dE.mpr f);have:=g.inv.bn;rw[af9];lia
     exact Ey u a
   rw[ae2] at I;lia
 . have:=g.inv.cg _ (dE.mpr f);have:=g.inv.bn;have:=g.len;lia
end ay.h
namespace ay.h
open PySem PySem.Spec L2 LB LD MH Cg PyProof.Rows
noncomputable def at_(h:List Nat):Nat->St
 | 0=>first h.length
 | k+1=>go h (at_ h k)
noncomputable def words(h:List Nat)(k:Nat):List Str:=(List.range k).map fun j=>toward h (at_ h j)
structure S8(h:List Nat):Prop where
 n1:1<=h.length
 Bd:h.length<=500
 tree: ∃f F,Tree h.length (hI h) f F
 plain:Plain h.length (hI h)
theorem ended(g:Good h s)(l:2<=left h s):s.b<=h.length\/s.ag.length≠1:=by
 apply ak3;intro z;have N: ¬s.b<=h.length:=fun y=>z (.inl y);have o:s.ag.length=1:=ak3 fun y=>z (.inr y);unfold left at l;omega
theorem S8.at_(F:S8 h): ∀k,k < 2*h.length->Good h (ay.h.at_ h k)/\left h (ay.h.at_ h k)=2*h.length - k
 | 0,_=>⟨Good.start,xA⟩
 | k+1,hk=>by
  obtain⟨g,l⟩:=F.at_ k (by grind);obtain⟨f,c,T⟩:=F.tree;obtain⟨i,n,_⟩:=g.step T F.plain (ended g (by grind));exact⟨i,by show left h (go h _)=_;grind⟩
theorem S8.step(F:S8 h)(R:k+1 < 2*h.length):jm (ay.h.at_ h k)/\(ay.h.at_ h k).aX.length=h.length/\((toward h (ay.h.at_ h k)="read"/\aV (ay.h.at_ h k)=true/\ay.h.at_ h (k+1)=(ay.h.at_ h k).read)\/(toward h (ay.h.at_ h k)="next"/\aI (ay.h.at_ h k)=true/\(ay.h.at_ h k).ag≠ []/\ay.h.at_ h (k+1)=(ay.h.at_ h k).next)\/(toward h (ay.h.at_ h k)="under"/\aJ (ay.h.at_ h k)=true/\2<=(ay.h.at_ h k).ag.length/\ay.h.at_ h (k+1)=(ay.h.at_ h k).under)):=by
 obtain⟨g,l⟩:=F.at_ k (by lia);obtain⟨f,e,T⟩:=F.tree;obtain⟨_,_,r⟩:=g.step T F.plain (ended g (by lia));have u:=g.len;refine⟨g.BF F.Bd,g.len,?_⟩;rcases r with ⟨a,b,c⟩ | ⟨a,b,c,d⟩ | ⟨a,b,c⟩
 . exact .inl ⟨a,ab8 (by lia),c⟩
 . refine .inr (.inl ⟨a,?_,b,d⟩);unfold aI aV;rw[ab8 (by lia)];simpa using b
 . exact .inr (.inr ⟨a,ab8 (by lia),b,c⟩)
structure yr(h:List Nat):Prop where
 n1:1<=h.length
 fB:h.length<=12
 tree: ∃f F,Tree h.length (hI h) f F
theorem yr.Bd(g:yr h):h.length<=500:=ad9 g.fB (by decide)
def iI:DN:=fun n Q=> ∃h:List Nat,n= [tupI h]/\yr h/\ ∀b:Bool,(b=true↔Plain h.length (hI h))->Q (.bl b)
def Dc:DN:=fun n Q=> ∃h:List Nat,n= [tupI h]/\yr h/\Plain h.length (hI h)/\Q (.lst ((words h (2*h.length - 1)).map .str))
theorem jy:(words h (k+1)).map Dt.str=(words h k).map Dt.str++ [.str (toward h (at_ h k))]:=by
 unfold words;rw[List.range_succ,ac5,ac5];rfl
def Ox(h:List Nat)(i:Nat)(j:List Sl):Prop:= ∃t P,j= [.im (tupI h),.im (at_ h i).dt,.ow ((words h i).map .str),t,P]/\t.bz=false/\P.bz=false
section
variable{P:Program}{w:World}{K:PySem.W.Frag}{mg:Str->Option Value}{base:Heap}
theorem xh(F:dj K "steps_of" "steps_of" nO f fd)(T:Txt mg)(p:cj P w K mg base "is_plain" 4 ["h"] (a0 iI))(x:cj P w K mg base "first_stand" 1 ["n"] (a0 oO))(n:cj P w K mg base "towards" 3 ["h","stand"] (a0 yC))(D:cj P w K mg base "behind" 1 ["stand","word"] (a0 dN)):aK P w K mg base bD 5 f fd ["h"] (a0 Dc):=by
 refine iT F eO (fun t y h=>?_) (fun N A J s H E m=>⟨_,(aj (c7 (nH (iW (aE p (m.mono (by decide)) (aa (dv 0) ae)))) (aw rN) bF)
  (aj (bY 1 eO.nd (aE x (m.mono (by decide)) (aa (cv T.len (aa (dv 0) ae)) ae)))
  (aj (fN 2 eO.nd (jo ae))
  (aj (gW rfl (oH T.cg (aa (di (qD aq (cv T.len (aa (dv 0) ae))) aq) ae)) (iP 3 eO.nd)
   (aj (bY 4 eO.nd (aE n (m.mono (by decide)) (aa (dv 0) (aa (dv 1) ae))))
   (aj (dB (cK 2 (pv 2) (aa (dv 4) ae)))
   (aw (bY 1 eO.nd (aE D (m.mono (by decide)) (aa (dv 1) (aa (dv 4) ae))))))) ah4)
  (aw (ir 2 (aC (dv 2)))))))),fun t y h=>?_⟩)
 . obtain⟨h,rfl,_⟩:=h;rfl
 . obtain⟨h,rfl,I,L,q⟩:=h;have o:=I.n1;have Q:=I.Bd;refine⟨_,rfl,h,rfl,I,fun b c=>?_⟩
   . have M:=c.mpr L;subst M;have l:S8 h:=⟨o,Q,I.tree,L⟩
     refine⟨_,rfl,aW ?_⟩;refine⟨_,rfl,_,.inr rfl,h.length,by show [Dt.int _]=_;rw[aa4],o,by grind,⟨_,rfl,rfl⟩,by show 0<=sizeLine;decide,⟨_,rfl,rfl⟩,?_⟩;refine⟨_,rfl,_,.inr rfl,_,_,rfl,rfl,?_,_,_,rfl,rfl,2*(h.length:Int) - 1,by(try dsimp only);rw[aa4],by grind,by grind,?_⟩
     . exact .inl ⟨by decide,by decide⟩
     . have z : ((List.range (2 * (h.length : Int) - 1).toNat).map fun k : Nat => Dt.int (0 + (k : Nat))).length = 2 * h.length - 1 := by
         rw[aa4,ae2];grind
       refine cQ (Ox h) ⟨_,_,rfl,rfl,rfl⟩ ?_ ?_
       . rintro i d G v ⟨C,S,rfl,j,X⟩ Z R _
         have O:i < 2*h.length - 1:=by
          have:=(ab0.mp v).1;grind
         obtain⟨r,u,Y⟩:=l.step (k:=i) (by grind);have B:((words h i).map Dt.str).length < sizeLine:=by
          have:((words h i).map Dt.str).length=i:=by unfold words;rw[aa4,aa4,ae2]
          have:3000<=sizeLine:=by decide
          grind
         refine⟨⟨_,rfl,j⟩,_,rfl,_,rfl,h,at_ h i,rfl,r,u.symm,Q,⟨_,rfl,X⟩,⟨_,rfl⟩,_,rfl,_,_,rfl,rfl,B,_,rfl,_,rfl,at_ h i,toward h (at_ h i),rfl,r,?_⟩;rcases Y with ⟨a,_,e⟩ | ⟨a,_,g,e⟩ | ⟨a,_,g,e⟩
         . refine .inl ⟨a,⟨_,rfl,rfl⟩,?_⟩;rw[<-e,<-jy];exact R _ ⟨_,_,rfl,rfl,rfl⟩
         . refine .inr (.inl ⟨a,g,⟨_,rfl,rfl⟩,?_⟩);rw[<-e,<-jy];exact R _ ⟨_,_,rfl,rfl,rfl⟩
         . refine .inr (.inr ⟨a,g,⟨_,rfl,rfl⟩,?_⟩);rw[<-e,<-jy];exact R _ ⟨_,_,rfl,rfl,rfl⟩
       . rintro G ⟨C,S,rfl,j,X⟩
         rw[z];exact⟨_,rfl,_,rfl,q⟩
end
end ay.h
namespace MH
noncomputable def mF(hs:List Nat)(x:Nat):Nat × Nat:=(min x (up hs x),max x (up hs x))
noncomputable def oU(p q:Nat × Nat):Bool:=decide (p.1 < q.1) && (decide (q.1 < p.2) && decide (p.2 < q.2))
theorem zT:oU p q=true↔p.1 < q.1/\q.1 < p.2/\p.2 < q.2:=by unfold oU;simp
end MH
namespace GV
open PySem PySem.W PyProof.Rows kZ
section
variable{N:Nat}{K:Nat->Int}{s:Shared}{cmp:Nat->Nat->(Bool->Shared->Prop)->Shared->Prop}
theorem yb(l:Kg N K cmp s)(q:Pm N p): ∀(f n:Nat),1<=n->n+f<=N-> ∀Q:Nat->Shared->Prop,(∀m,n<=m->m<=n+f->Q m s)->(kas_asc p f n).kasWp cmp Q s
 | 0,n,h1,h2,Q,k=>k n (ab3 _) (by lia)
 | f+1,n,h1,h2,Q,k=>by
  refine l _ _ (q.lt (by lia)) (q.lt (by lia)) _ ?_;dsimp only;split
  . exact k n (ab3 _) (by lia)
  . exact yb l q f (n+1) (by lia) (by lia) Q fun m a b=>k m (by lia) (by lia)
theorem m9(l:Kg N K cmp s): ∀(f:Nat) (p:Array Nat) (n q:Nat),n+f<=N->Pm N p->1<=n-> ∀Q:Array Nat × Nat × Nat->Shared->Prop,(∀F m V,n<=m->m<=n+f->Pm N F->Q (F,m,V) s)->(kas_desc f p n q).kasWp cmp Q s
 | 0,p,n,q,h2,hp,h1,Q,k=>k p n q (ab3 _) (by lia) hp
 | f+1,p,n,q,h2,hp,h1,Q,k=>by
  have h: ∀F m V,n+1<=m->m<=n+1+f->Pm N F->Q (F,m,V) s:=fun F m V a b c=>k F m V (by lia) (by lia) c;refine l _ _ (hp.lt (by lia)) (hp.lt (by lia)) _ ?_;dsimp only;split
  . split
    . exact m9 l f _ (n+1) 0 (by lia) (hp.rev _ _) (by lia) Q h
    . exact m9 l f _ (n+1) 0 (by lia) hp (by lia) Q h
  . refine l _ _ (hp.lt (by lia)) (hp.lt (by lia)) _ ?_;dsimp only;split
    . exact k p n q (ab3 _) (by lia) hp
    . exact m9 l f _ (n+1) (q+1) (by lia) hp (by lia) Q h
theorem yD(l:Kg N K cmp s)(q:Pm N p)(f:1<=n)(g:n<=N)(Q:Nat × Array Nat->Shared->Prop)(k: ∀m F,1<=m->m<=N->Pm N F->Q (m,F) s):(kas_tail3 n N p).kasWp cmp Q s:=by
 unfold kas_tail3;rw[ar6];exact yb l (q.rev _ _) (N - n) n f (by lia) _ fun m a b=>k m _ (by lia) (by lia) (q.rev _ _)
theorem mz(l:Kg N K cmp s)(q:Pm N p)(g:n+1<=N)(Q:Nat × Array Nat->Shared->Prop)(k: ∀m F,1<=m->m<=N->Pm N F->Q (m,F) s):(kas_descPart n N p).kasWp cmp Q s:=by
 unfold kas_descPart;rw[ar6];refine m9 l _ p (n+1) 0 (by lia) q (by lia) _ fun F m V a b c=>?_;split
 . exact yD l (c.rev _ _) (by lia) (by lia) Q k
 . exact yD l c (by lia) (by lia) Q k
theorem Gn(l:Kg N K cmp s)(q:Pm N p)(f:1<=N)(Q:Nat × Array Nat->Shared->Prop)(k: ∀m F,1<=m->m<=N->Pm N F->Q (m,F) s):(kas_count N p).kasWp cmp Q s:=by
 unfold kas_count;rw[ar6];refine yb l q (N - 1) 1 (ab3 _) (by lia) _ fun n a b=>?_;by_cases g:n=N
 . rw[if_pos (by rw[ai7];exact g)];exact k n p a (by lia) q
 . rw[if_neg (by rw[ai7];exact g)];split
   . refine l _ _ (q.lt (by lia)) (q.lt (by lia)) _ ?_;dsimp only;split
     . exact k n p a (by lia) q
     . exact mz l (n:=n) (q.rev _ _) (by lia) Q k
   . exact mz l (n:=n) q (by lia) Q k
theorem nW(n:Kg N K cmp s)(t:Pm N p)(R:k < N): ∀(f l r:Nat),l<=r->r<=k-> ∀Q:Nat->Shared->Prop,(∀m,m<=k->Q m s)->(kas_place p k f l r).kasWp cmp Q s
 | 0,l,r,h1,h2,Q,q=>q l (by lia)
 | f+1,l,r,h1,h2,Q,q=>by
  unfold kas_place;by_cases h:l>=r
  . rw[if_pos h];exact q l (by lia)
  . rw[if_neg h];refine n _ _ (t.lt (by lia)) (t.lt (by lia)) _ ?_;dsimp only;split
    . exact nW n t R f l ((l+r) / 2) (by lia) (by lia) Q q
    . exact nW n t R f ((l+r) / 2+1) r (by lia) (by lia) Q q
theorem Gz(l:Kg N K cmp s): ∀(f:Nat) (p:Array Nat) (k:Nat),k+f=N->Pm N p-> ∀Q:Array Nat->Shared->Prop,(∀F,Pm N F->Q F s)->(kas_bin f p k).kasWp cmp Q s
 | 0,p,k,h2,hp,Q,q=>q p hp
 | f+1,p,k,h2,hp,Q,q=>by
  unfold kas_bin;rw[ar6];exact nW l hp (show k < N by lia) k 0 k (ag0 _) (ab3 _) _ fun m z=>Gz l f _ (k+1) (by lia) (hp.bub _ _) Q q
theorem HI(l:Kg N K cmp s)(f:1<=N)(Q:Array Nat->Shared->Prop)(q: ∀p,Pm N p->Q p s):(kas_sort N).kasWp cmp Q s:=by
 unfold kas_sort;rw[ar6];refine Gn l ⟨Array.Perm.refl _⟩ f _ fun m p a b r=>?_;by_cases h:m < N
 . rw[if_pos h];exact Gz l _ p _ (by lia) r Q q
 . rw[if_neg h];exact q p r
end
section
variable{prog:Program}{w:World}{A:Around}{E:Value->Shared->Prop}{z:Shared}{K:Nat->Int}{vs:List Value}
theorem AG(i:z.heap.get? a=some (seqObj "list" vs.toArray m))(v:vs.length < 64)(S:2<=vs.length-> ∀I:Heap,(∀b o,b≠a->z.heap.get? b=some o->I.get? b=some o)-> ∃j,Ask prog w A vs K {z with heap:=I} j)(h: ∀p,Pm vs.length p->P (.done (.ret .none)) {z with heap:=sortedHeap z.heap a vs (outs vs p)}):wpAny (model prog w) A (Builtin.«list.sort» ⟨[.ref a],[]⟩) P E z:=by
 have k:a < z.heap.objs.size:=ad7 i;let f:Heap:=z.heap.update a (Obj.mapSeq fun _=> #[])
 let T:Heap:=(f.push (seqObj "tuple" vs.toArray 0)).push (seqObj "list" #[] 0)
 obtain⟨s,L⟩: ∃s,f.get? a=some (seqObj "list" #[] s):=⟨_,get?_update_seq i (fun _=> #[])⟩
 have J:f.objs.size=z.heap.objs.size:=Heap.size_update _ _ _;have V:T.get? a=some (seqObj "list" #[] s):=by
  show((f.push _).push _).get? a=_;rw[ao5 _ _ _ (by rw[size_push',J];exact af4 (ak9 k)),ao5 _ _ _ (by rw[J];exact af4 k)];exact L
 have N: ∀b o,b≠a->z.heap.get? b=some o->T.get? b=some o:=fun b o d q=>by
  have u:=ad7 q;show((f.push _).push _).get? b=_;rw[ao5 _ _ _ (by rw[size_push',J];exact af4 (ak9 u)),ao5 _ _ _ (by rw[J];exact af4 u)];show(z.heap.update a _).get? b=_;rw[Heap.get?_update_ne _ _ _ _ d];exact q
 have D: ∀p,Pm vs.length p->(outs vs p).size<=sizeLine+1:=fun p r=>by rw[D3 r,ao6];lia
 rw[list_sort_plain];refine aa5 (listItems_at i rfl (aa5 (listUpdate_at i rfl (aa5 (seqEpoch_at L rfl ?_)) (by rw[ac2,ao6];lia) (ag0 _))));refine aa5 (wpAny_newTuple (aa5 (wpAny_newList (ai6 ?_) (ag0 _))) (by show vs.length<=_;rw[ao6];lia));show wpAny _ _ _ _ _ {z with heap:=T};dsimp only;by_cases t:vs.toArray.size < 2
 . rw[if_pos t,if_pos t];refine aa5 (ab2 ?_);rw[StateT.run_pure];refine aa5 (ab2 ?_);dsimp only;have l:Pm vs.length (List.range vs.length).toArray:=⟨Array.Perm.refl _⟩
   have F:=Ip (vs:=vs);refine aa5 (seqEpoch_at V rfl (aa5 (listUpdate_at V rfl ?_ (ag0 _) (by show(Array.map _ (vs.toArray.zip vs.toArray)).size<=_;rw[F];exact D _ l))));simp only [bne_self_eq_false,Bool.false_eq_true,if_false];refine ab2 ?_;have:=h _ l;rw[<-F] at this;exact this
 . rw[if_neg t,if_neg t];have c:2<=vs.length:=by rw[ac2] at t;lia
   obtain⟨j,R⟩:=S c T N;refine aa5 (ae8 (R.kind (fun H n=>H=j/\n={z with heap:=T}) ⟨rfl,rfl⟩) (fun H n q=>?_) fun _ _ x=>x.elim);obtain⟨B,C⟩:=q;subst B;subst C;refine aa5 (ae8 (kat_run (Q:=fun Y n=>n={z with heap:=T}/\failedOf Y=none/\ ∃p,Pm vs.length p/\(arrOf Y).map (·.2)=outs vs p) (ks:=vs) rfl c v (G:=fun p n=>n={z with heap:=T}/\Pm vs.length p) (fun p Y n _ x y g=>⟨g.1,y,p,g.2,kat_snds rfl x⟩) (HI R.ask (by lia) _ fun p x=>⟨rfl,x⟩)) ?_ fun _ _ x=>x);rintro⟨⟨⟩,Y⟩ n ⟨e,M,p,r,F⟩
   subst e;dsimp only;refine aa5 (seqEpoch_at V rfl (aa5 (listUpdate_at V rfl ?_ (ag0 _) (by rw[F];exact D _ r))));rw[M,F];simp only [bne_self_eq_false,Bool.false_eq_true,if_false];exact ab2 (h p r)
theorem AF(y:z.heap.IsList l vs.toArray)(i:vs.length < 64)(R:2<=vs.length-> ∀F:Heap,(∀b o,z.heap.get? b=some o->F.get? b=some o)-> ∃j,Ask prog w A.in1.in1 vs K {z with heap:=F} j)(h: ∀p,Pm vs.length p->Q (.ref (z.heap.objs.size+1)) {z with heap:=sortedAll z.heap vs (outs vs p)}):wpAny (model prog w) A (call (.builtin "sorted") [.ref l]) Q E z:=by
 refine Calls.call_function_entry kind_sorted plain_sorted entry_sorted (args_sorted1 _) ?_;unfold Builtin.«sorted»;let G:Heap:=(z.heap.push (seqObj "list" #[] 0)).update z.heap.objs.size (Obj.mapSeq (· ++vs.toArray))
 let r:Heap:=G.push (seqObj "list" vs.toArray 0)
 have J:G.objs.size=z.heap.objs.size+1:=by show(Heap.update _ _ _).objs.size=_;rw[Heap.size_update,size_push']
 have P:r.get? (z.heap.objs.size+1)=some (seqObj "list" vs.toArray 0):=by rw[<-J];exact ac9 _ rfl
 have g: ∀b o,z.heap.get? b=some o->r.get? b=some o:=fun b o q=>by
  have t:=ad7 q;show(G.push _).get? b=_;rw[ao5 _ _ _ (by rw[J];exact af4 (ak9 t))];show(Heap.update _ _ _).get? b=_;rw[Heap.get?_update_ne _ _ _ _ (af4 t),ao5 _ _ _ (af4 t)];exact q
 refine aa5 (m:=checkCount "sorted" 1 1 _) (ab2 (aa5 (collect_list y (aa5 (wpAny_newList ?_ (by rw[ao6];lia))) (by rw[ao6];lia))));show wpAny _ _ _ _ _ {z with heap:=r};rw[J];refine aa5 (ai6 (an2 slot_list_sort ⟨_,P,rfl⟩ entry_list_sort (AG (z:={z with heap:=r}) (K:=K) P i (fun c F L=>R c F fun b o q=>L b o (af4 (ak9 (ad7 q))) (g b o q)) fun p x=>⟨_,rfl,ab2 ⟨_,rfl,h p x⟩⟩) (args_list_sort _)))
end
end GV
namespace L2
open PySem PySem.Spec PyProof.Rows kZ GV
theorem tF:fK X (.builtin "sorted") (fun E H Q=> ∃(a:Addr) (ws:List (V × Int × Int)) (B:Int),E= [.ref a]/\H a=some (.lst (ws.map (·.1)))/\ws.length < 64/\(∀q∈ws,(∃t,q.1= .ref t/\H t=some (.tup [.int q.2.1, .int q.2.2]))/\0<=q.2.2/\q.2.2 < B)/\
  ∀(p:Addr) (ms:List (V × Int × Int)),H p=none->ms.Perm ws->Q (.ref p) (upd H p (.lst (ms.map (·.1))))):=by
 intro m s σ H E us Q I r h;obtain⟨a,ws,B,rfl,hq,hl,k,q⟩:=h;obtain⟨u,rfl,J⟩:=vals1 r;cases J;obtain⟨w,A,pl,_⟩:=I.list (cc.of hq);have c:w.length=ws.length:=by have:=A.length;rw[aa4] at this;exact this.symm
 have M: ∀(i:Nat) v p,w[i]?=some v->(ws.map (·.2))[i]?=some p->Cd s.heap v p:=fun i v p R g=>by
  rw[aa9] at g;cases T:ws[i]? with
  | none=>rw[T] at g;cases g
  | some f=>
   rw[T] at g;cases g;obtain⟨⟨t,e,ht⟩,_⟩:=k f (ac8 T);obtain⟨u,l,J⟩:=A.get (i:=i) (x:=f.1) (by rw[aa9,T];rfl);rw[R] at l;cases l;rw[e] at J;cases J;obtain⟨js,rj,pj,_⟩:=I.tuple (dm.of ht);obtain⟨o,ho,S,n,W⟩:=(show s.heap.IsTuple t js.toArray from pj)
   cases rj with
   | cons r1 r2=>cases r2 with
    | cons r2 r3=>
     cases r3;obtain⟨G,rfl⟩:=r1;obtain⟨U,rfl⟩:=r2;exact⟨t,o,G,U,n,rfl,ho,S,W⟩
 refine GV.AF (K:=fun i=>enc B ((ws.map (·.2)).getD i (0,0))) pl.isList (by lia) (fun g h' kk=>Cc (by rw[aa4];exact c) g (fun i v p x y=>(M i v p x y).keep kk) fun p z=>?_) fun p z=>?_
 . obtain⟨f,F,rfl⟩:=ab6.mp z;exact(k f F).2
 . obtain⟨e,Y⟩:=sortedAll_at s.heap w (outs w p);have Z:H (s.heap.objs.size+1)=none:=I.bc.fresh (ap4 _);have C:p.toList.Perm (List.range ws.length):=by have:=Array.perm_iff_toList_perm.mp z.pm;rw[<-c];simpa using this
   let d:V × Int × Int:=(.aN,0,0)
   have D:(p.toList.map fun i=>ws.getD i d).Perm ws:=by
    have:=C.map fun i=>ws.getD i d;rw[kZ.map_getD] at this;exact this
   have lt: ∀i∈p.toList,i < ws.length:=fun i L=>by have:=C.mem_iff.mp L;simpa using this
   refine⟨.ref (s.heap.objs.size+1),_,I.laid (t':=s.toks) (o:= .lst ((p.toList.map fun i=>ws.getD i d).map (·.1))) (fun b o e=>sortedAll_old e) (ap4 _) ?_,rfl,q _ _ Z D⟩;refine⟨by rw[aa4,D.length_eq];exact Nat.le_of_lt (Nat.lt_trans hl (by decide)),p.toList.map (fun i=>w.getD i Value.none),e,?_,Y⟩;rw[ad6];refine t7 fun i L=>?_;have j:=lt i L;have N:ws.getD i d=ws[i]:=by simp [List.getD,j]
   have P:w.getD i Value.none=w[i]'(by lia):=by simp [List.getD,c,j]
   show RelV (ws.getD i d).1 _;rw[N,P];obtain⟨u,O,J⟩:=A.get (i:=i) (x:=ws[i].1) (by rw[aa9,aa6 j];rfl);rw[aa6 (by lia)] at O;cases O;exact J
end L2
namespace LD
open PySem PySem.Spec L2 LB PyProof.Rows kZ
section
variable{X:Cx}{e:Expr}{tA:fJ}{pos p:Pos}
def Cj:DN:=fun n Q=> ∃(qs:List (Int × Int)) (B:Int),n= [.lst (qs.map Mp)]/\qs.length < 64/\(∀q∈qs,0<=q.2/\q.2 < B)/\ ∀Z:List (Int × Int),Z.Perm qs->Q (.lst (Z.map Mp))
theorem BN(z:X.mg "sorted"=none)(d:Av X [e] tA)(S:Gl X "sorted":=by rfl)(E:starEach [e] X.env=(false,eval e X.env)::starEach [] X.env:=by rfl)(y:(backTo pos (starEach [] X.env)).any (·.1)=false:=by rfl):
  Ev X (.Call (.Name "sorted" p) [e] [] pos) (BR Cj tA):=gN tF (fun M H h N L Q Y r U k=>(by obtain⟨O,B,e,l,c,q⟩:=U;exact(by
 subst e;obtain⟨x,rfl,F⟩:=eJ r;obtain⟨a,i,rfl,d,n,G⟩:=F.cA;obtain⟨I,v,A,f⟩:=y8 G;subst v;subst A;refine⟨a,I,B,rfl,d,by rw[aa4] at l;exact l,fun w z=>⟨?_,c _ (List.mem_map_of_mem z)⟩,fun p Z u R=>?_⟩
 . obtain⟨t,g,e,C,W,m⟩:=(f w z).bM;obtain⟨T,J,rfl,o,b⟩:=m.aG;obtain⟨V,J,rfl,P,D⟩:=b.aG;cases D.cG;cases o.ofInt;cases P.ofInt;exact⟨t,e,C⟩
 . have s:aD H (upd H p (.lst (Z.map (·.1)))):=aD.new u;exact k _ _ _ (q (Z.map (·.2)) (R.map _)) s (Rep.nG af (Y.fresh u) (yU fun w z=>(f w (R.mem_iff.mp z)).same s))))) S z tH d (by decide) (by decide) E y
end
end LD
namespace ay.h
open PySem PySem.Spec L2 LB LD MH kZ Cg PyProof.Rows
noncomputable def dq(p:Nat × Nat):Dt:= .tup [nI p.1,nI p.2]
noncomputable def DG(p:(Nat × Nat) × (Nat × Nat)):Dt:= .tup [dq p.1,dq p.2]
noncomputable def cp(p:Nat × Nat):Int × Int:=((p.1:Nat),(p.2:Nat))
noncomputable def p8(hs:List Nat):List (Nat × Nat):=(List.range' 1 hs.length).map (mF hs)
theorem Az:(p8 hs).length=hs.length:=by unfold p8;rw[aa4,ac4]
theorem LJ(g: ∀x∈hs,x<=hs.length)(h:p∈(List.range' 1 hs.length).map (mF hs)):p.1<=hs.length/\p.2<=hs.length:=by
 obtain⟨x,i,rfl⟩:=ab6.mp h;rw[ad0] at i;have:=g _ (ac8 (g9 (hs:=hs) (w:=x) (by lia) (by lia)));unfold mF;simp only;lia
noncomputable def uc(q:Int × Int):Nat × Nat:=(q.1.toNat,q.2.toNat)
theorem Kl:uc (cp p)=p:=by
 show(((p.1:Nat):Int).toNat,((p.2:Nat):Int).toNat)=p;rw[af0,af0]
theorem Ay{L:List (Nat × Nat)}{Z:List (Int × Int)}(q:Z.Perm (L.map cp)): ∃T:List (Nat × Nat),T.Perm L/\Z=T.map cp:=by
 refine⟨Z.map uc,?_,?_⟩
 . have:=q.map uc;have e:L.map (uc ∘ cp)=L:=(ad4 (f:=uc ∘ cp) (g:=id) fun p _=>Kl).trans (List.map_id L);rw[ad6,e] at this;exact this
 . rw[ad6];refine(List.map_id Z).symm.trans (ad4 fun m z=>?_);obtain⟨p,_,rfl⟩:=ab6.mp (q.mem_iff.mp z);show cp p=cp (uc (cp p));rw[Kl]
noncomputable def gO(L:List (Nat × Nat)):List ((Nat × Nat) × (Nat × Nat)):=L.flatMap fun p=>(L.filter (oU p)).map fun q=>(p,q)
def Pt:DN:=fun n Q=> ∃x y:Nat,n= [nI x,nI y]/\Q (dq (min x y,max x y))
def Gk:DN:=fun n Q=> ∃p q:Nat × Nat,n= [dq p,dq q]/\Q (.bl (oU p q))
def Km:DN:=fun n Q=> ∃A:List Nat,n= [tupI A]/\A.length<=12/\(∀x∈A,x<=A.length)/\ ∀L:List (Nat × Nat),L.Perm (p8 A)->Q (.lst (L.map dq))
def oV:DN:=fun n Q=> ∃A:List Nat,n= [tupI A]/\A.length<=12/\(∀x∈A,x<=A.length)/\ ∀L:List (Nat × Nat),L.Perm (p8 A)->Q (.lst ((gO L).map DG))
section
variable{P:Program}{w:World}{K:PySem.W.Frag}{mg:Str->Option Value}{base:Heap}
theorem MF(F:dj K "tie" "tie" L1 f fd)(T:Txt mg):aK P w K mg base bD 1 f fd ["word","on"] (a0 Pt):=by
 refine iT F P0 (fun n z h=>?_) (fun j A I s H E m=>⟨_,(aw (aC (bL (aa (FY rfl T.min (aa (dv 0) (aa (dv 1) ae))) (aa (FZ rfl T.max (aa (dv 0) (aa (dv 1) ae))) ae))))),fun n z h=>?_⟩)
 . obtain⟨x,y,rfl,_⟩:=h;rfl
 . obtain⟨x,y,rfl,q⟩:=h;refine⟨_,rfl,_,rfl,_,_,rfl,_,rfl,_,rfl,_,_,rfl,by show 2<=sizeLine;decide,?_⟩;have u:min (x:Int) (y:Int)=((min x y:Nat):Int):=by omega
   have B:max (x:Int) (y:Int)=((max x y:Nat):Int):=by omega
   rw[u,B];exact q
theorem Ek(F:dj K "cross" "cross" w8 f fd)(T:Txt mg):aK P w K mg base bD 1 f fd ["first","second"] (a0 Gk):=by
 refine iT F HQ (fun n y h=>?_) (fun j A I s H E m=>⟨_,(aw (aC (R0 (cy (dv 0) aq) (cy (dv 1) aq) (cy (dv 0) aq) (cy (dv 1) aq)))),fun n y h=>?_⟩)
 . obtain⟨p,q,rfl,_⟩:=h;rfl
 . obtain⟨p,q,rfl,k⟩:=h;refine⟨_,rfl,_,_,_, .inr rfl,rfl,rfl,_,rfl,_,_,_, .inr rfl,rfl,rfl,_,_,rfl,rfl,?_⟩;by_cases g:p.1 < q.1
   . rw[if_pos (by omega)];refine⟨_,rfl,_,_,_, .inr rfl,rfl,rfl,_,rfl,?_⟩;by_cases i:q.1 < p.2
     . rw[if_pos (by omega)];refine⟨_,rfl,_,_,_, .inr rfl,rfl,rfl,_,rfl,?_⟩;have e:oU p q=decide ((p.2:Int) < (q.2:Int)):=by unfold oU;rw[ab8 g,ab8 i];exact al2.mpr (by omega)
       rw[e] at k;exact k
     . rw[if_neg (by omega)];have e:oU p q=false:=by unfold oU;rw[ad1 i];simp
       rw[e] at k;exact k
   . rw[if_neg (by omega)];have e:oU p q=false:=by unfold oU;rw[ad1 g];rfl
     rw[e] at k;exact k
noncomputable def aU:Dt->Nat × Nat
 | .tup [.int a,.int b]=>(a.toNat,b.toNat)
 | _=>(0,0)
theorem bK:aU (dq p)=p:=by
 show(((p.1:Nat):Int).toNat,((p.2:Nat):Int).toNat)=p;rw[af0,af0]
theorem vp{α v:Type}{F:α->List v}{k:Nat}: ∀{L:List α},(∀x∈L,(F x).length<=k)->(L.flatMap F).length<=L.length*k
 | [],_=>by simp
 | x::L,h=>by
  rw[ap9,ac1,ad3,Nat.add_mul];have:=h x (by simp);have:=vp (L:=L) fun y a=>h y (by simp [a]);lia
theorem Bn{L:List (Nat × Nat)}(M:L.length<=12):(gO L).length<=144:=by
 have:=vp (F:=fun p=>(L.filter (oU p)).map fun q=>(p,q)) (k:=12) (L:=L) fun p _=>by rw[aa4];exact ad9 (ao1 _ _) M
 unfold gO;lia
theorem HD{hs:List Nat}:((List.range' 1 hs.length).map fun x=>Dt.tup [nI x,nI (up hs x)]).map (fun d=>dq (min (aU d).1 (aU d).2,max (aU d).1 (aU d).2))=(((List.range' 1 hs.length).map (mF hs)).map cp).map Mp:=by
 rw[ad6,ad6,ad6];refine ad4 fun x _=>?_;show dq (min (aU (dq (x,up hs x))).1 (aU (dq (x,up hs x))).2,max (aU (dq (x,up hs x))).1 (aU (dq (x,up hs x))).2)=_;rw[bK];rfl
theorem Iz(F:dj K "ties" "ties" uF f fd)(T:Txt mg)(k:cj P w K mg base "tie" 1 ["word","on"] (a0 Pt)):aK P w K mg base bD 2 f fd ["h"] (a0 Km):=by
 refine iT F LU (fun n y h=>?_) (fun l A I s H E m=>⟨_,(aw (aC (BN T.srt (aa (Ov.ev (bB (N:= ["word","on"]) (nt:=2) (js:= []) ⟨rfl,by decide+kernel,by decide,rfl,by decide+kernel,(by show∀x∈(_:List (Str × NameKind)),x.2=NameKind.free->(ab uF).names.lookup x.1=some .cell\/(ab uF).names.lookup x.1=some .free;decide+kernel)⟩ rfl (m7 T.Ju (aa (dv 0) ae) aq) (fun _ _ _ _ _=>bP rfl (az (au (i:=0) (show(["word","on"]:List Str).Nodup by decide+kernel) rfl (by first | exact Or.inl rfl | exact Or.inr rfl)) (az (au (i:=1) (show(["word","on"]:List Str).Nodup by decide+kernel) rfl (by first | exact Or.inl rfl | exact Or.inr rfl)) bo))) aZ aR (fun _ _ _ _ _=>cu) (fun _ _ _ _ _=>(aE k (m.mono (by decide)) (aa (dv 0) (aa (dv 1) ae)))))) ae)))),fun n y h=>?_⟩)
 . obtain⟨B,rfl,_⟩:=h;rfl
 . obtain⟨B,rfl,O,g,q⟩:=h;have z:(aM 1 (B.map nI)).length=B.length:=by rw[Pa,aa4,ac4]
   refine⟨_,rfl,_,rfl,rfl,by rw[z];exact Nat.le_of_lt (qe (by lia)),fun _=>true,fun d=>dq (min (aU d).1 (aU d).2,max (aU d).1 (aU d).2),fun d r=>?_,?_⟩
   . rw[Pa] at r;obtain⟨x,_,rfl⟩:=ab6.mp r;refine⟨_,_,rfl,⟨_,rfl,rfl⟩,⟨_,rfl,rfl⟩,rfl,fun _=>⟨_,rfl,_,rfl,x,up B x,rfl,?_⟩⟩;show dq (min x (up B x),max x (up B x))=dq (min (aU (dq (x,up B x))).1 (aU (dq (x,up B x))).2,max (aU (dq (x,up B x))).1 (aU (dq (x,up B x))).2);rw[bK]
   . rw[ae9.mpr (fun _ _=>rfl),Pa,HD];refine⟨((List.range' 1 B.length).map (mF B)).map cp,1000,rfl,by rw[aa4,aa4,ac4];lia,fun p t=>?_,fun Z j=>?_⟩
     . obtain⟨p,M,rfl⟩:=ab6.mp t;have:=LJ g M;unfold cp;simp only;lia
     . obtain⟨L,v,rfl⟩:=Ay j;rw[ad6];exact q L v
theorem sk(F:dj K "crossings" "crossings" eY f fd)(T:Txt mg)(l:cj P w K mg base "ties" 2 ["h"] (a0 Km))(z:cj P w K mg base "cross" 1 ["first","second"] (a0 Gk)):aK P w K mg base bD 3 f fd ["h"] (a0 oV):=by
 refine iT F mj (fun o y h=>?_) (fun j A I s H E m=>⟨_,(aj (bY 1 mj.nd (aE l (m.mono (by decide)) (aa (dv 0) ae)))
 (aw (aC (Ov.ev (zj 1 (N:= ["first","second","found"]) (nt:=2) (js:= [1]) ⟨rfl,by decide+kernel,by decide,rfl,by decide+kernel,(by show∀x∈(_:List (Str × NameKind)),x.2=NameKind.free->(ab eY).names.lookup x.1=some .cell\/(ab eY).names.lookup x.1=some .free;decide+kernel)⟩ rfl
  (dH (dv 1)) (fun _ _ _ _ _=>au (i:=0) (show(["first","second","found"]:List Str).Nodup by decide+kernel) rfl (by first | exact Or.inl rfl | exact Or.inr rfl)) bf aO (fun _ _ _ _ _=>cu)
  (fun _ _ _ _ _=>dH (dv 2)) (fun _ _ _ _ _=>au (i:=1) (show(["first","second","found"]:List Str).Nodup by decide+kernel) rfl (by first | exact Or.inl rfl | exact Or.inr rfl)) qw aO (fun _ _ _ _ _=>oP (iW (aE z (m.mono (by decide)) (aa (dv 0) (aa (dv 1) ae))))) (fun _ _ _ _ _=>bL (aa (dv 0) (aa (dv 1) ae)))))))),fun o y h=>?_⟩)
 . obtain⟨C,rfl,_⟩:=h;rfl
 . obtain⟨C,rfl,M,g,q⟩:=h;refine⟨_,rfl,C,rfl,M,g,fun L v=>?_⟩;have S:(L.map dq).flatMap (fun d=>(L.filter (oU (aU d))).map fun r=>DG (aU d,r))=(gO L).map DG:=by
    unfold gO;rw[List.flatMap_map,List.map_flatMap];congr 1
    funext p
    show(L.filter (oU (aU (dq p)))).map (fun r=>DG (aU (dq p),r))=_;rw[bK,ad6];rfl
   have n:L.length<=12:=by rw[v.length_eq,Az];exact M
   refine⟨⟨_,rfl,rfl⟩,_,rfl,_,rfl,fun d=>(L.filter (oU (aU d))).map fun r=>DG (aU d,r),?_,fun d t=>?_,?_⟩
   . rw[S,aa4];exact qe (ad9 (Bn n) (by lia))
   . obtain⟨p,D,rfl⟩:=ab6.mp t;refine⟨⟨_,rfl,rfl⟩,?_⟩;refine(fun{A B:Prop} (h:A)=>(show(if true=true then A else B) from cm h): ∀{A B:Prop},A->if true=true then A else B) (B:=(fun d=>(L.filter (oU (aU d))).map fun r=>DG (aU d,r)) (dq p)= []) ?_;refine⟨_,rfl,_,rfl,fun e=>oU p (aU e),fun e=>DG (p,aU e),fun e G=>?_,?_⟩
     . obtain⟨r,J,rfl⟩:=ab6.mp G;refine⟨⟨_,rfl,rfl⟩,_,rfl,_,rfl,p,r,rfl,_,rfl,?_,fun _=>⟨_,rfl,_,rfl,by show 2<=sizeLine;decide,?_⟩⟩
       . show oU p r=oU p (aU (dq r));rw[bK]
       . show DG (p,r)=DG (p,aU (dq r));rw[bK]
     . show(L.filter (oU (aU (dq p)))).map (fun r=>DG (aU (dq p),r))=_;rw[bK,ar5,ad6];have u:((fun e=>oU p (aU e)) ∘ dq)=oU p:=by funext r;show oU p (aU (dq r))=_;rw[bK]
       rw[u];refine ad4 fun r _=>?_;show _=DG (p,aU (dq r));rw[bK]
   . rw[S];exact q L v
theorem m6{α v:Type}{f:α->v}{L:List α}:(L.map f).isEmpty=L.isEmpty:=by cases L <;> rfl
theorem yr.le(g:yr h): ∀x∈h,x<=h.length:=by
 intro x j;obtain⟨i,I,rfl⟩:=ak0 j;obtain⟨f,F,T⟩:=g.tree;have:=T.cg ((i+1:Nat):Int) (by lia) (by lia);have e:hI h ((i+1:Nat):Int)=(h[i]:Int):=by
  rw[a9];have:=g9 (hs:=h) (w:=i+1) (by lia) (by lia);rw[as0,aa6 I] at this;injection this with this
  lia
 rw[e] at this;lia
theorem zS{a b c d:Nat}:(min (a:Int) (b:Int) < min (c:Int) (d:Int)/\min (c:Int) (d:Int) < max (a:Int) (b:Int)/\max (a:Int) (b:Int) < max (c:Int) (d:Int))↔(min a b < min c d/\min c d < max a b/\max a b < max c d):=by
 rw[show min (a:Int) b=((min a b:Nat):Int) by grind,show min (c:Int) d=((min c d:Nat):Int) by grind,show max (a:Int) b=((max a b:Nat):Int) by grind,show max (c:Int) d=((max c d:Nat):Int) by grind,ao7,ao7,ao7]
theorem AS{h:List Nat}:(∀v w,1<=v->v<=h.length->1<=w->w<=h.length->oU (mF h v) (mF h w)=false)↔Plain h.length (hI h):=by
 constructor
 . intro z v w i d q G k;have N:=z v.toNat w.toNat (by grind) (by grind) (by grind) (by grind);have n:v=((v.toNat:Nat):Int):=by grind
   have x:w=((w.toNat:Nat):Int):=by grind
   rw[n,x,a9,a9,zS] at k;rw[zT.mpr k] at N;cases N
 . intro z v w i d q G;rw[aq0];intro k;have:=z v w (by grind) (by grind) (by grind) (by grind);rw[a9,a9,zS] at this;exact this (zT.mp k)
theorem BU{L:List (Nat × Nat)}(x:L.Perm (p8 h)):(gO L).isEmpty=true↔Plain h.length (hI h):=by
 rw[<-AS,aq8];have X: ∀p,p∈L↔ ∃v,(1<=v/\v<=h.length)/\mF h v=p:=fun p=>by
  rw[x.mem_iff];unfold p8;rw[ab6];constructor
  . rintro⟨v,c,e⟩
    rw[ad0] at c;exact⟨v,by lia,e⟩
  . rintro⟨v,c,e⟩
    exact⟨v,ad0.mpr (by lia),e⟩
 constructor
 . intro z v w i d s G;rw[aq0];intro k;have:(mF h v,mF h w)∈gO L:=by
    unfold gO;rw[af1];refine⟨mF h v,(X _).mpr ⟨v,⟨i,d⟩,rfl⟩,?_⟩;rw[ab6];exact⟨mF h w,af8.mpr ⟨(X _).mpr ⟨w,⟨s,G⟩,rfl⟩,k⟩,rfl⟩
   rw[z] at this;exact absurd this aa8
 . intro z;apply ai9.mpr;intro t A;unfold gO at A;rw[af1] at A;obtain⟨p,r,A⟩:=A;rw[ab6] at A;obtain⟨q,Q,_⟩:=A;rw[af8] at Q;obtain⟨v,c,rfl⟩:=(X _).mp r;obtain⟨w,f,rfl⟩:=(X _).mp Q.1;have:=z v w c.1 c.2 f.1 f.2;rw[this] at Q;exact absurd Q.2 ac3
theorem xj(F:dj K "is_plain" "is_plain" nQ f fd)(T:Txt mg)(i:cj P w K mg base "crossings" 3 ["h"] (a0 oV)):aK P w K mg base bD 4 f fd ["h"] (a0 iI):=by
 refine iT F AK (fun n y h=>?_) (fun j A I s H E m=>⟨_,(aw (aC (NT (aE i (m.mono (by decide)) (aa (dv 0) ae))))),fun n y h=>?_⟩)
 . obtain⟨B,rfl,_⟩:=h;rfl
 . obtain⟨B,rfl,g,q⟩:=h;refine⟨_,rfl,B,rfl,g.fB,g.le,fun L v=>⟨_,rfl,?_⟩⟩;rw[m6,Bool.not_not];exact q _ (BU v)
end
end ay.h
namespace ay
open PySem PySem.Spec L2 LB LD PyProof.Rows
noncomputable def sC(s:St):List Str:=(if aV s then [("read":Str)] else [])++(if aI s then [("next":Str)] else [])++(if aJ s then [("under":Str)] else [])
theorem oj:eh s=(sC s).map .str:=by
 unfold eh sC;rw[ac5,ac5];congr 1
 . congr 1 <;> split <;> rfl
 . split <;> rfl
theorem zq(h:w∈sC s):lL s w=true:=by
 rw[<-sM,oj];unfold inD;exact List.any_eq_true.mpr ⟨_,List.mem_map_of_mem h,by show decide (w=w)=true;exact ab8 rfl⟩
theorem sy:(eh s).length<=3:=by
 unfold eh;cases aV s <;> cases aI s <;> cases aJ s <;> simp
structure Wk(n m:Nat)(s:St):Prop where
 g:Good n m s
 bl:s.b<=n+1
 nd:s.ag.Nodup
 lt: ∀w∈s.ag,w < s.b
 un: ∀w,1<=w->w<=n->(s.aX[w - 1]?=some none↔w∈s.ag\/s.b<=w)
theorem CQ(n:Nat):Wk n 0 (first n):=by
 refine⟨xM n,by show 1<=n+1;lia,aj4,fun w g=>absurd g aa8,fun w f h=>⟨fun _=> .inr f,fun _=>?_⟩⟩;show(List.replicate n none)[w - 1]?=some none;rw[ad2,if_pos (by lia)]
theorem CP(k:Wk n m s)(g:Good n (m+1) (s.mG on))(D:s.ag≠ []):Wk n (m+1) (s.mG on):=by
 obtain⟨q,h,e⟩: ∃q h,s.ag=q++ [h]:=⟨s.ag.dropLast,s.ag.getLast D,(ag5 D).symm⟩
 have A:s.ag.getLastD 1=h:=by rw[e];simp
 have r:s.ag.dropLast=q:=by rw[e];simp
 have u:=k.nd;have S:=k.lt;have d:=k.g.cg;rw[e] at u S d;have Q:h∉q:=fun z=>by
  have:=aj2.mp u;exact this.2.2 h z h ab4 rfl
 have j:h < s.b:=S h (by simp);have i:1<=h/\h<=n:=d h (by simp);refine⟨g,k.bl,?_,fun w f=>?_,fun w t p=>?_⟩
 . show s.ag.dropLast.Nodup;rw[r];exact(aj2.mp u).1
 . have f:w∈s.ag.dropLast:=f;rw[r] at f;exact S w (ae6 _ f)
 . show(s.aX.set (s.ag.getLastD 1 - 1) (some on))[w - 1]?=some none↔w∈s.ag.dropLast\/s.b<=w;rw[A,r];have o:=k.un w t p;rw[e] at o;have B:=k.g.l;by_cases c:w=h
   . subst c;rw[ac7 (by lia)];exact⟨fun z=>(by cases z),fun z=>z.elim (fun y=>absurd y Q) fun y=>by lia⟩
   . rw[ab7 (by lia),o,ad8,ab1];exact⟨fun z=>z.elim (fun y=>y.elim .inl fun x=>absurd x c) .inr,fun z=>z.elim (fun y=> .inl (.inl y)) .inr⟩
theorem Ht(k:Wk n m s)(h:lL s w=true):Wk n (m+1) (fA s w):=by
 have g:=Bz k.g h;rcases df h with ⟨_,c,e⟩ | ⟨_,c,e⟩ | ⟨_,c,e⟩
 . rw[e] at g ⊢;have X:s.b<=s.aX.length:=ae1 c;have A:=k.g.l;refine⟨g,by show s.b+1<=n+1;lia,?_,fun w i=>?_,fun w q o=>?_⟩
   . show(s.ag++ [s.b]).Nodup;refine aj2.mpr ⟨k.nd,ak1.mpr ⟨aa8,aj4⟩,fun a d b f z=>?_⟩;have:=k.lt a d;rw[ab1.mp f] at z;lia
   . rcases ad8.mp (show w∈s.ag++ [s.b] from i) with z | z
     . exact ak9 (k.lt w z)
     . rw[ab1.mp z];exact aq5 _
   . show s.aX[w - 1]?=some none↔w∈s.ag++ [s.b]\/s.b+1<=w;rw[k.un w q o,ad8,ab1];constructor
     . rintro(z | z)
       . exact .inl (.inl z)
       . by_cases c:w=s.b
         . exact .inl (.inr c)
         . exact .inr (by lia)
     . rintro((z | z) | z)
       . exact .inl z
       . exact .inr (by lia)
       . exact .inr (by lia)
 . rw[e] at g ⊢;refine CP k g fun z=>?_;unfold aI at c;rw[z] at c;simp at c
 . rw[e] at g ⊢;refine CP k g fun z=>?_;have c:1 < s.ag.length:=ae1 c;rw[z] at c;exact absurd c (by simp)
structure Lv(n m:Nat)(s:St):Prop where
 k:Wk n m s
 c:m+s.ag.length+2=2*s.b
 p: ∀(i:Nat) x,s.aX[i]?=some (some x)->1<=x
theorem ED(n:Nat):Lv n 0 (first n):=⟨CQ n,rfl,fun i x h=>by
 have h:(List.replicate n (none:Option Nat))[i]?=some (some x):=h;rw[ad2] at h;split at h <;> cases h⟩
theorem m4(l:Lv n m s)(o:lL s w=true):Lv n (m+1) (fA s w):=by
 refine⟨Ht l.k o,?_,?_⟩
 . have T:=l.k.g.b;have c:=l.c;rcases df o with ⟨rfl,X,e⟩ | ⟨rfl,X,e⟩ | ⟨rfl,X,e⟩ <;> rw[e]
   . show m+1+(s.ag++ [s.b]).length+2=2*(s.b+1);rw[ac1];show m+1+(s.ag.length+1)+2=2*(s.b+1);lia
   all_goals
    have f:1<=s.ag.length:=by
     first
      | (unfold aI at X;rw[ae3] at X;cases q:s.ag with | nil=>rw[q] at X;cases X.2 | cons a b=>simp)
      | (unfold aJ at X;have:=ae1 X;lia)
    show m+1+s.ag.dropLast.length+2=2*s.b;rw[am1];lia
 . rcases df o with ⟨rfl,X,e⟩ | ⟨rfl,X,e⟩ | ⟨rfl,X,e⟩ <;> rw[e]
   . exact l.p
   . intro i x h;have h:(s.aX.set (s.ag.getLastD 1 - 1) (some s.b))[i]?=some (some x):=h;rw[List.getElem?_set] at h;split at h
     . split at h
       . cases h;exact l.k.g.b
       . cases h
     . exact l.p i x h
   . intro i x h;have h:(s.aX.set (s.ag.getLastD 1 - 1) (some (s.ag.dropLast.getLastD 1)))[i]?=some (some x):=h;rw[List.getElem?_set] at h;split at h
     . split at h
       . cases h;have d:2<=s.ag.length:=by unfold aJ at X;exact ae1 X
         have f:s.ag.dropLast≠ []:=fun z=>by have:=af7 List.length z;rw[am1,ar4] at this;lia
         exact(l.k.g.cg _ ((List.dropLast_sublist _).subset (gq f))).1
       . cases h
     . exact l.p i x h
theorem IW(l:Lv n m s)(o:1<=n):(s.b=n+1/\s.ag.length=1)↔m=2*n - 1:=by
 have c:=l.c;have q:=l.k.bl;constructor
 . rintro⟨f,g⟩;lia
 . intro h;constructor <;> lia
noncomputable def dy(s:St):Bool:=!(decide (s.b<=s.aX.length) || decide (s.ag.length≠1))
noncomputable def jO(s:St):List Nat:=(s.aX.set (s.ag.headD 1 - 1) (some 0)).map (·.getD 0)
theorem gj(l:Lv n m s)(o:1<=n):dy s=decide (m=2*n - 1):=by
 have:=IW l o;have p:=l.k.g.l;have q:=l.k.bl;unfold dy;rw[p,am0,at4,ar0,aj7,aj7,ah3,<-this];constructor
 . rintro⟨f,h⟩;exact⟨by lia,by lia⟩
 . rintro⟨f,h⟩;exact⟨by lia,fun z=>z h⟩
inductive Rc(n:Nat):Nat->St->Prop
 | zero:Rc n 0 (first n)
 | step {m:Nat} {s:St} {w:Str}:Rc n m s->lL s w=true->Rc n (m+1) (fA s w)
theorem Rc.lv(h:Rc n m s):Lv n m s:=by
 induction h with
 | zero=>exact ED n
 | step _ o ih=>exact m4 ih o
theorem IU(h:dy s=true):sC s= []:=by
 unfold dy at h;rw[at4,ar0] at h;obtain⟨f,g⟩:=h;have f:=ar8 f;have g:s.ag.length=1:=Decidable.not_not.mp (ar8 g);have r:aV s=false:=ad1 f;have t:aI s=false:=by unfold aI;rw[r];rfl
 have u:aJ s=false:=ad1 (by lia);unfold sC;rw[r,t,u];rfl
theorem kB:w∈sC s↔lL s w=true:=by
 refine⟨zq,fun h=>?_⟩;unfold sC;rcases df h with ⟨rfl,c,_⟩ | ⟨rfl,c,_⟩ | ⟨rfl,c,_⟩ <;> simp [c]
theorem Rc.le(p:1<=n)(h:Rc n m s):m<=2*n - 1:=by
 cases h with
 | zero=>lia
 | step h o=>
  rename_i m s w;have l:=h.lv;have c:=l.c;have q:=l.k.bl;by_cases z:m=2*n - 1
  . have:=gj l p;rw[ab8 z] at this;have e:=kB.mpr o;rw[IU this] at e;exact absurd e aa8
  . have d:=(m4 l o).c;have u:=(m4 l o).k.bl;have M:=gj (m4 l o) p;lia
theorem Rc.up(h:Rc n m s):s.ag.Pairwise (· < ·):=by
 induction h with
 | zero=>exact List.Pairwise.nil
 | step h o ih=>
  rename_i m s w;have S:=h.lv.k.lt;have t: ∀l,(s.mG l).ag.Pairwise (· < ·):=fun l=>ih.sublist (List.dropLast_sublist _);rcases df o with ⟨rfl,X,e⟩ | ⟨rfl,X,e⟩ | ⟨rfl,X,e⟩ <;> rw[e]
  . refine ai0.mpr ⟨ih,List.pairwise_singleton _ _,fun a d b c=>?_⟩;rw[ab1.mp c];exact S a d
  . exact t _
  . exact t _
noncomputable def cH(p:List Nat)(i:Nat):Nat:=((0::p).filter fun x=>decide (x < i)).getLastD 0
noncomputable def bU(s:St)(i:Nat):List Nat:=match s.aX.getD (i - 1) none with
 | some x=> [x]
 | none=>if i∈s.ag then cH s.ag i::List.range' s.b (s.aX.length+1 - s.b) else(0::s.ag)++(List.range' s.b (s.aX.length+1 - s.b)).filter fun x=>decide (x≠i)
noncomputable def rows(s:St):List (List Nat):=(List.range' 1 s.aX.length).map (bU s)
noncomputable def fits:List Nat->List (List Nat)->Bool
 | x::h,r::R=>decide (x∈r) && fits h R
 | _,_=>true
end ay
namespace ay
open PySem PySem.Spec L2 LB LD PyProof.Rows jW
inductive Lw:List Nat->Nat->List (Option Nat)->Prop
 | nil:Lw [] 1 []
 | snoc {q:List Nat} {l p m:Nat} {o:List (Option Nat)} {x y:List Nat}:Lw q l o->l<=p->x∈Fo l (p - l) p->y∈Fo (p+1) m p->Lw (q++ [p]) (p+1+m) (o++x.map some++none::y.map some)
theorem De{p F:Nat}(h:q++ [p]=q'++ [F]):q=q'/\p=F:=by
 have:=List.append_inj' h rfl;exact⟨this.1,by simpa using this.2⟩
theorem Lw.inv(h:Lw (q++ [p]) l o): ∃k m N x y,Lw q k N/\k<=p/\x∈Fo k (p - k) p/\y∈Fo (p+1) m p/\l=p+1+m/\o=N++x.map some++none::y.map some:=by
 generalize e:q++ [p]=ps at h;cases h with
 | nil=>have:=af7 List.length e;rw[ac1] at this;simp at this
 | snoc h1 h2 h3 h4=>
  obtain⟨rfl,rfl⟩:=De e;exact⟨_,_,_,_,_,h1,h2,h3,h4,rfl,rfl⟩
theorem Lw.pos(h:Lw q l o):o.length+1=l:=by
 induction h with
 | nil=>rfl
 | snoc h1 h2 h3 h4 ih=>
  have d:=(fP _).1 _ _ _ h3;have G:=(fP _).1 _ _ _ h4;rw[ac1,ac1,ad3,aa4,aa4,d,G];lia
theorem rH{α:Type}{a b:List α}{x y:α}{k:Nat}(h:k=a.length):(a++x::b).set k y=a++y::b:=by
 subst h;rw[List.set_append_right _ _ (ab3 _),an6];rfl
structure LwS(n:Nat)(s:St):Prop where
 ex: ∃l o r,Lw s.ag l o/\l<=s.b/\s.b<=n+1/\r∈Fo l (s.b - l) s.b/\s.aX=o++r.map some++List.replicate (n+1 - s.b) none/\(s.b<=n\/r= [])
theorem Rc.lw(h:Rc n m s):LwS n s:=by
 induction h with
 | zero=>exact⟨1,[],[],.nil,ab3 _,by show 1<=n+1;lia,cO.mpr rfl,rfl,.inr rfl⟩
 | step h o ih=>
  rename_i m s w;obtain⟨l,o0,r,i,O,N,T,H,P⟩:=ih;have C:=h.lv.k.g.l;have D: ∀{q:List Nat} {p B:Nat},s.ag=q++ [p]->s.mG B=⟨q,s.b,s.aX.set (p - 1) (some B)⟩:=fun{q p B} e=>by
   unfold St.mG;rw[e,aq9,show(q++ [p]).getLastD 1=p by simp]
  have j: ∀{k:Nat},k < s.ag.length-> ∃q p,s.ag=q++ [p]:=fun{k} z=>⟨s.ag.dropLast,s.ag.getLast (by intro y;rw[y] at z;simp at z),(ag5 _).symm⟩
  rcases df o with ⟨rfl,c,e⟩ | ⟨rfl,c,e⟩ | ⟨rfl,c,e⟩ <;> rw[e]
  . have c:s.b<=s.aX.length:=ae1 c;rw[C] at c;refine⟨s.b+1+0,o0++r.map some++none:: [].map some,[], .snoc i O T (cO.mpr rfl),ab3 _,by show s.b+1<=n+1;lia,?_,?_, .inr rfl⟩
    . show []∈Fo (s.b+1+0) (s.b+1 - (s.b+1+0)) (s.b+1);rw[an6 (s.b+1)];exact cO.mpr rfl
    . show s.aX=_++List.replicate (n+1 - (s.b+1)) none;rw[H,show n+1 - s.b=n+1 - (s.b+1)+1 by lia,ah7];simp
  . unfold aI at c;rw[ae3] at c;have W:s.b<=s.aX.length:=ae1 c.1;rw[C] at W;have F:s.ag≠ []:=fun z=>by rw[z] at c;simp at c
    obtain⟨q,p,A⟩:=j (k:=0) (al1.mpr F);rw[A] at i;obtain⟨t,f,I,x,y,E,M,L,U,rfl,rfl⟩:=i.inv;have a:=E.pos;have d:=(fP _).1 _ _ _ L;unfold St.next;rw[D A];refine⟨t,I,(x++s.b::y)++r,E,by show t<=s.b;lia,N,?_,?_,.inl W⟩
    . show _∈Fo t (s.b - t) s.b;refine(dZ (by lia)).mpr ⟨p - t+f,x++s.b::y,r,by lia,dG.mpr ⟨p - t,x,y,by lia,?_,?_,rfl⟩,?_,rfl⟩
      . rw[show t+(p - t)=p by lia];exact L
      . rw[show t+(p - t)=p by lia,show p - t+f+1 - (p - t+1)=f by lia];exact U
      . rw[show t+(p - t+f)+1=p+1+f by lia,show s.b - t - (p - t+f+1)=s.b - (p+1+f) by lia];exact T
    . show s.aX.set (p - 1) (some s.b)=_++List.replicate (n+1 - s.b) none;rw[H,ag8,ag8,al6,rH (by rw[ac1,aa4,d];lia)];simp
  . have c:1 < s.ag.length:=ae1 c;obtain⟨V,p,A⟩:=j c;have Z:0 < V.length:=by rw[A,ac1] at c;simpa using c
    obtain⟨q,u,X⟩: ∃q u,V=q++ [u]:=⟨V.dropLast,V.getLast (al1.mp Z),(ag5 _).symm⟩
    have G:s.ag.dropLast.getLastD 1=u:=by rw[A,aq9,X];simp
    subst X;rw[A] at i;obtain⟨l1,v,I,x,y,E,M,L,U,rfl,rfl⟩:=i.inv;obtain⟨t,f,o2,x0,J,Y,Q,R,S,rfl,rfl⟩:=E.inv;have a:=E.pos;have d:=(fP _).1 _ _ _ L;unfold St.under;rw[D A,G];have pt:p=u+1+(p - (u+1)):=by lia
    refine⟨u+1+(f+(p - (u+1+f)+1+v)),o2++x0.map some++none::(J++(x++u::y)).map some,r,.snoc Y Q R (zi f _ _ _ J (x++u::y) (by lia) S (dG.mpr ⟨p - (u+1+f),x,y,by lia,?_,?_,rfl⟩)),by show _<=s.b;lia,N,?_,?_,P⟩
    . rw[show u+1+f+(p - (u+1+f))=p by lia];exact L
    . rw[show u+1+f+(p - (u+1+f))=p by lia,show f+(p - (u+1+f)+1+v) - f - (p - (u+1+f)+1)=v by lia];exact U
    . show r∈Fo _ (s.b - _) s.b;rw[show u+1+(f+(p - (u+1+f)+1+v))=p+1+v by lia];exact T
    . show s.aX.set (p - 1) (some u)=_++List.replicate (n+1 - s.b) none;rw[H,ag8,ag8,al6,rH (by rw[ac1,aa4,d];lia)];simp
theorem Lw.VM(h:Lw [] l o):l=1/\o= []:=by
 generalize e:([]:List Nat)=ps at h;cases h with
 | nil=>exact⟨rfl,rfl⟩
 | snoc h1 h2 h3 h4=>have:=af7 List.length e;rw[ac1] at this;simp at this
theorem xU(r:Rc n m s)(e:dy s=true):s.b=n+1/\ ∃p,s.ag= [p]/\1<=p/\p<=n:=by
 have t:=r.lv.k.g.l;have q:=r.lv.k.bl;unfold dy at e;rw[at4,ar0,aj7,aj7,Decidable.not_not,t] at e;obtain⟨p,z⟩:=List.length_eq_one_iff.mp e.2;have:=r.lv.k.g.cg p (by rw[z];exact ab4);exact⟨by lia,p,z,this⟩
theorem vA(r:Rc n m s)(e:dy s=true):jO s∈cN n:=by
 obtain⟨I,p,A,P,u⟩:=xU r e;obtain⟨l,o,w,f,h,N,V,H,M⟩:=r.lw;rw[A] at f;obtain⟨k,g,J,x,y,E,t,L,U,rfl,rfl⟩:=Lw.inv (q:= []) f;obtain⟨rfl,rfl⟩:=E.VM;have T:w= []:=M.elim (fun z=>by lia) id;subst T;have d:=(fP _).1 _ _ _ L;have G:=(fP _).1 _ _ _ V;have:p+1+g=n+1:=by rw[I] at G h;simp at G;lia
 have O:jO s=x++0::y:=by
  unfold jO;rw[A,H,I,an6];show((([]++x.map some++none::y.map some)++ [].map some++List.replicate 0 none).set (p - 1) (some 0)).map (fun(z:Option Nat)=>z.getD 0)=_;rw[List.nil_append,List.map_nil,ag3,List.replicate_zero,ag3,rH (by rw[aa4,d])];simp [Function.comp_def]
 rw[O];refine kA.mpr (dG.mpr ⟨p - 1,x,y,by lia,?_,?_,rfl⟩)
 . rw[show 1+(p - 1)=p by lia];exact L
 . rw[show 1+(p - 1)=p by lia,show n - (p - 1+1)=g by lia];exact U
theorem Gq(o:1<=n)(r:Rc n m s)(e:dy s=false):eh s≠ []:=by
 have t:=r.lv.k.g.l;have q:=r.lv.k.bl;have c:=r.lv.c;have N:=r.le o;have M:=gj r.lv o;rw[e] at M;have M: ¬m=2*n - 1:=ar8 M.symm;unfold eh;by_cases W:s.b<=n
 . rw[show aV s=true from ab8 (by rw[t];exact W)];intro z;cases z
 . rw[show aJ s=true from ab8 (by lia)];intro z;have:=af7 List.length z;simp at this
end ay
namespace ay
open PySem PySem.Spec L2 LB LD PyProof.Rows
theorem L8(n:Nat):(List.range n).map (fun j=>Dt.int (1+(j:Nat)))=(List.range' 1 n).map nI:=by
 rw[am8,ad6];refine ad4 fun j _=>?_;show Dt.int (1+(j:Int))=Dt.int ((1+j:Nat):Int);rw[show(1+(j:Int))=((1+j:Nat):Int) by lia]
noncomputable def lsN(r:List Nat):Dt:= .lst (r.map nI)
noncomputable def Oq(s:St):List Nat:=List.range' s.b (s.aX.length+1 - s.b)
theorem Vf(b n:Nat):(List.range n).map (fun k=>Dt.int ((b:Int)+(k:Nat)))=(List.range' b n).map nI:=by
 rw[am8,ad6];refine ad4 fun j _=>?_;show Dt.int _=Dt.int _;congr 1
theorem vm: ∀{L:List Nat} {k i:Nat},L.Pairwise (· < ·)->L[k]?=some i->L.filter (fun x=>decide (x < i))=L.take k
 | [],k,i,_,h=>by simp at h
 | a::L,0,i,p,h=>by
  cases h;rw[List.filter_cons_of_neg (by simp)];exact an5.mpr fun x l=>by have:=(af5.mp p).1 x l;simp;lia
 | a::L,k+1,i,p,h=>by
  have h:L[k]?=some i:=by simpa using h
  have j:=(af5.mp p).1 i (ac8 h);rw[List.filter_cons_of_pos (by simpa using j),vm (af5.mp p).2 h];rfl
theorem Ib{p:List Nat}{j i:Nat}(q:p.Pairwise (· < ·))(O: ∀x∈p,1<=x)(h:p[j]?=some i):(0::p)[j]?=some (cH p i):=by
 have u:(0::p).Pairwise (· < ·):=af5.mpr ⟨fun x k=>O x k,q⟩;have V:j < p.length:=(ab0.mp h).1;unfold cH;rw[vm u (show(0::p)[j+1]?=some i by simpa using h),ak2,List.getLast?_take,aa6 (show j < (0::p).length by rw[ad3];lia)];simp
 rw[aa6 (show j < (0::p).length by rw[ad3];lia)];rfl
theorem V3{p:List Nat}:inD (nI i) (p.map nI)=decide (i∈p):=by
 unfold inD;rw[List.any_map,am0,List.any_eq_true,ah3];constructor
 . rintro⟨x,j,e⟩
   have e:((x:Int)==(i:Int))=true:=e;have:=eq_of_beq e;rw[show i=x by lia];exact j
 . intro h;exact⟨i,h,aj8 (i:Int)⟩
theorem TM(p:List Nat):(p.map nI).all bO=true:=af6.mpr fun d r=>by obtain⟨x,_,rfl⟩:=ab6.mp r;rfl
noncomputable def Yi(i:Nat):Dt->Bool
 | .int x=>!decide (x=(i:Int))
 | _=>false
theorem IT{L:List Nat}:(L.map nI).filter (Yi i)=(L.filter fun x=>decide (x≠i)).map nI:=by
 rw[ar5];congr 1
 refine List.filter_congr fun x _=>?_;show(!decide ((x:Int)=(i:Int)))=decide (x≠i);by_cases c:x=i
 . rw[ab8 (by lia),ad1 (fun z=>z c)];rfl
 . rw[ad1 (by lia),ab8 c];rfl
def Yf:DN:=fun o Q=> ∃(n m:Nat) (s:St) (i:Nat),o= [s.dt,nI i]/\Rc n m s/\n<=12/\1<=i/\i<=n/\Q (lsN (bU s i))
def Dw:DN:=fun o Q=> ∃(n m:Nat) (s:St),o= [s.dt]/\Rc n m s/\n<=12/\Q (.lst ((rows s).map lsN))
theorem Dx{s:St}(h:s.aX.getD (i - 1) none=some x):bU s i= [x]:=by unfold bU;rw[h]
theorem L6{s:St}(h:s.aX.getD (i - 1) none=none)(hi:i∈s.ag):bU s i=cH s.ag i::Oq s:=by unfold bU;rw[h];exact if_pos hi
theorem HU{s:St}(h:s.aX.getD (i - 1) none=none)(hi:i∉s.ag):bU s i=(0::s.ag)++(Oq s).filter fun x=>decide (x≠i):=by unfold bU;rw[h];exact if_neg hi
theorem ME{s:St}(l:s.aX.length=n)(f:1<=i)(g:i<=n):(s.aX.map oD)[i - 1]?=some (oD (s.aX.getD (i - 1) none)):=by
 rw[aa9,List.getD,aa6 (show i - 1 < s.aX.length by lia)];rfl
section
variable{P:Program}{w:World}{K:PySem.W.Frag}{mg:Str->Option Value}{base:Heap}
theorem Qz(F:dj K "allowed_of" "allowed_of" eZ f fd)(T:Txt mg):aK P w K mg base bD 1 f fd ["stand","word"] (a0 Yf):=by
 refine iT F fD (fun D C h=>?_) (fun e A I s H E hr=>⟨_,(aj (mm (dv 0) (oN 2 3 4 rfl fD.nd))
 (aj (c7 (hZ (cy (dv 4) (di (dv 1) aq)))
 (aw (aC (gX (aa (cy (dv 4) (di (dv 1) aq)) ae))))
 bF)
 (aj (bY 5 fD.nd (tj (bL (aa aq ae)) (dv 2)))
 (aj (fN 6 fD.nd (IP rfl T.lst T.cg (aa (dv 3) (aa (cM (cv T.len (aa (dv 4) ae)) aq) ae))))
 (aj (c7 (wH (dv 1) (dv 2))
 (aw (ir 6 (aC (F2 (gX (aa (cy (dv 5) (JD (dv 2) (aa (dv 1) ae))) ae)) (dv 6)))))
 bF)
 (aw (ir 6 (aC (F2 (Ov.ev (MI T.lst (aa (dv 5) ae))) (Ov.ev (bB (N:= ["other","word"]) (nt:=1) (js:= [1]) ⟨rfl,by decide+kernel,by decide,rfl,by decide+kernel,(by show∀x∈(_:List (Str × NameKind)),x.2=NameKind.free->(ab eZ).names.lookup x.1=some .cell\/(ab eZ).names.lookup x.1=some .free;decide+kernel)⟩ rfl (dH (dv 6)) (fun _ _ _ _ _=>au (i:=0) (show(["other","word"]:List Str).Nodup by decide+kernel) rfl (by first | exact Or.inl rfl | exact Or.inr rfl)) bf aO (fun _ _ _ _ _=>oP (uu (dv 0) (dv 1))) (fun _ _ _ _ _=>(dv 0))))))))))))),fun D C h=>?_⟩)
 . obtain⟨n,m,s,i,rfl,_⟩:=h;rfl
 . obtain⟨n,m,s,i,rfl,X,fB,B,Y,q⟩:=h;have r:=X.lv;have J:=r.k.g.l;have a:=r.k.bl;have Z:=r.k.g.b;have pl:s.ag.length<=30:=by have:=r.k.g.p;have:=r.c;lia
   have s3:3000<=sizeLine:=by decide
   have M:=Ac B (ME J B Y);have G:(s.aX.map oD).length=n:=by rw[aa4,J]
   refine⟨_,rfl,_,_,_,rfl,⟨_,rfl,rfl⟩,⟨_,rfl,rfl⟩,⟨_,rfl,rfl⟩,?_⟩;refine⟨_,rfl,_,rfl,_,_,rfl,rfl,_,_,_,.inr rfl,rfl,M,?_⟩;cases Q:s.aX.getD (i - 1) none with
   | some x=>
    rw[Q] at M;refine⟨true,rfl,cm ?_⟩;refine⟨_,rfl,_,rfl,_,_,rfl,rfl,_,_,_,.inr rfl,rfl,M,by show 1<=sizeLine;decide,?_⟩;rw[Dx Q] at q;exact q
   | none=>
    refine⟨false,rfl,aW ?_⟩;refine⟨by show 1<=sizeLine;decide,_,rfl,_,_,rfl,rfl,by rw[aa4];show 1+s.ag.length<=sizeLine;lia,⟨_,rfl,rfl⟩,?_⟩;refine⟨_,rfl,_,rfl,_,.inr rfl,_,_,rfl,rfl,(s.b:Int),s.aX.length+1 - s.b,?_,by lia,by lia,by lia,⟨_,rfl,rfl⟩,?_⟩
    . rw[G,show(n:Int)+1=(s.b:Int)+((s.aX.length+1 - s.b:Nat):Int) by lia]
    rw[Vf];have t:(Oq s).length<=13:=by unfold Oq;rw[ac4];lia
    refine⟨_,rfl,_,rfl,_,.inr rfl,rfl,TM _,?_⟩;rw[if_neg ac3,V3];by_cases c:i∈s.ag
    . obtain⟨j,V,U⟩:=ak0 c;have L:s.ag[j]?=some i:=by rw[aa6 V,U]
      have nd:=r.k.nd;refine⟨true,by rw[ab8 c],cm ?_⟩;refine⟨_,rfl,_,rfl,_,rfl,⟨_,rfl⟩,_,rfl,_,nI i,j,nI i,rfl,rfl,rfl,TM _,by rw[aa9,L];rfl,aj8 (i:Int),fun k u S y=>?_,?_⟩
      . rw[aa9] at y;obtain⟨x,o,rfl⟩:=ai3.mp y;show((x:Int)==(i:Int))=false;rw[ah6];intro z;have z:x=i:=by lia
        obtain⟨v,ek⟩:=ab0.mp o;have:=ar7.mp X.up k j v V S;lia
      . have R:=Ib X.up (fun x o=>(r.k.g.cg x o).1) L;refine⟨_,_,nI (cH s.ag i), .inr rfl,rfl,bw (by
         show([Dt.int 0]++s.ag.map nI)[j]?=_;have: [Dt.int 0]++s.ag.map nI=(0::s.ag).map nI:=rfl;rw[this,aa9,R];rfl),by show 1<=sizeLine;decide,_,rfl,_,_,rfl,rfl,?_,?_⟩
        . show 1+((List.range' s.b (s.aX.length+1 - s.b)).map nI).length<=sizeLine;rw[aa4];unfold Oq at t;lia
        . rw[L6 Q c] at q;exact q
    . refine⟨false,by rw[ad1 c],aW ?_⟩;refine⟨_,rfl,_,rfl,_, .inr rfl,?_⟩;refine⟨_,rfl,_,rfl,?_,Yi i,id,fun d O=>?_,?_⟩
      . rw[aa4];unfold Oq at t;lia
      . obtain⟨x,o,rfl⟩:=ab6.mp O;exact⟨⟨_,rfl,rfl⟩,_,rfl,_,rfl,_,rfl,_,rfl,rfl,fun _=>⟨_,rfl,rfl⟩⟩
      . rw[List.map_id,IT];refine⟨_,_,rfl,rfl,?_,?_⟩
        . show(Dt.int 0::s.ag.map nI).length+_<=sizeLine;rw[ad3,aa4,aa4];have:=ao1 (fun x=>decide (x≠i)) (List.range' s.b (s.aX.length+1 - s.b));unfold Oq at t;lia
        . rw[HU Q c] at q;unfold lsN at q;rw[ac5] at q;exact q
theorem xo(F:dj K "allowed" "allowed" iC f fd)(T:Txt mg)(z:cj P w K mg base "allowed_of" 1 ["stand","word"] (a0 Yf)):aK P w K mg base bD 2 f fd ["stand"] (a0 Dw):=by
 refine iT F AM (fun o y h=>?_) (fun B A I s H E u=>⟨_,(aw (aC (Ov.ev (bB (N:= ["word","stand"]) (nt:=1) (js:= [0]) ⟨rfl,by decide+kernel,by decide,rfl,by decide+kernel,(by show∀x∈(_:List (Str × NameKind)),x.2=NameKind.free->(ab iC).names.lookup x.1=some .cell\/(ab iC).names.lookup x.1=some .free;decide+kernel)⟩ rfl (gH T.cg (aa aq (aa (cM (cv T.len (aa (cy (dv 0) aq) ae)) aq) ae))) (fun _ _ _ _ _=>au (i:=0) (show(["word","stand"]:List Str).Nodup by decide+kernel) rfl (by first | exact Or.inl rfl | exact Or.inr rfl)) bf aO (fun _ _ _ _ _=>cu) (fun _ _ _ _ _=>(aE z (u.mono (by decide)) (aa (dv 1) (aa (dv 0) ae)))))))),fun o y h=>?_⟩)
 . obtain⟨n,m,s,rfl,_⟩:=h;rfl
 . obtain⟨n,m,s,rfl,X,r,q⟩:=h;have J:=X.lv.k.g.l;have p:(s.aX.map oD).length=n:=by rw[aa4,J]
   refine⟨_,rfl,_,_,_,.inr rfl,rfl,bw (j:=2) rfl,_,.inr rfl,_,_,rfl,rfl,1,((s.aX.map oD).length:Int)+1,rfl,⟨by decide,by decide,by lia,by lia⟩,?_⟩;rw[p,show((n:Int)+1 - 1).toNat=n by lia,L8];refine⟨by rw[aa4,ac4];exact small (by lia),fun _=>true,fun d=>match d with | .int x=>lsN (bU s x.toNat) | d=>d,fun d t=>?_,?_⟩
   . obtain⟨x,v,rfl⟩:=ab6.mp t;rw[ad0] at v;refine⟨⟨_,rfl,rfl⟩,rfl,fun _=>⟨_,rfl,_,rfl,n,m,s,x,rfl,X,r,by lia,by lia,?_⟩⟩;show lsN (bU s x)=lsN (bU s ((x:Nat):Int).toNat);rw[af0]
   . rw[ae9.mpr fun _ _=>rfl,ad6];unfold rows at q;rw[J,ad6] at q;have:(List.range' 1 n).map ((fun d=>match d with | .int x=>lsN (bU s x.toNat) | d=>d) ∘ nI)=(List.range' 1 n).map (lsN ∘ bU s):=ad4 fun x _=>by
      show lsN (bU s ((x:Nat):Int).toNat)=_;rw[af0];rfl
     rw[this];exact q
end
end ay
namespace ay
open PySem PySem.Spec L2 LB LD PyProof.Rows jW
noncomputable def bA(R:List (List Nat))(w:Nat->Nat->Wo):Nat->Nat->Wo:=fun i o=>if o∈R.getD (i - 1) [] then w i o else none
def KJ:DN:=fun o Q=> ∃(n:Nat) (w:Nat->Nat->Wo) (R:List (List Nat)),o= [cE n w,.lst (R.map lsN)]/\R.length=n/\n<=12/\Q (cE n (bA R w))
noncomputable def kE(B:List Dt):Dt->Dt
 | .tup [.int i,d]=>if inD (.int i) B then d else .aN
 | d=>d
noncomputable def kF:Dt->Dt
 | .tup [.tup ds,.lst es]=> .tup ((aM 0 ds).map (kE es))
 | d=>d
theorem EJ{R:List (List Nat)}(h:R.getD (i - 1) []=r):kF (.tup [cF n w i,lsN r])=cF n (bA R w) i:=by
 show Dt.tup ((aM 0 ((List.range (n+1)).map fun o=>bh (w i o))).map (kE (r.map nI)))=Dt.tup ((List.range (n+1)).map fun o=>bh (bA R w i o));congr 1
 apply aj3;intro j;unfold aM;rw[aa9,ai8,aa9,aa9];by_cases d:j < n+1
 . rw[ai4 d];show some (if inD (.int ((j+0:Nat):Int)) (r.map nI)=true then bh (w i j) else .aN)=some (bh (if j∈R.getD (i - 1) [] then w i j else none));rw[h,show inD (.int ((j+0:Nat):Int)) (r.map nI)=decide (j∈r) from V3];by_cases c:j∈r
   . rw[if_pos c,if_pos (ab8 c)]
   . rw[if_neg c,if_neg (by rw[ad1 c];decide)];rfl
 . rw[ag1 (by rw[ae2];lia)];rfl
theorem MY{R:List (List Nat)}(l:R.length=n):(cD ((List.range' 1 n).map (cF n w)) (R.map lsN)).map kF=(List.range' 1 n).map (cF n (bA R w)):=by
 subst l;unfold cD;apply aj3;intro j;rw[aa9,ak4,aa9,aa9,aa9];by_cases d:j < R.length
 . rw[ah2 d,aa6 d];show some (kF (.tup [cF R.length w (1+1*j),lsN R[j]]))=some (cF R.length (bA R w) (1+1*j));rw[EJ (R:=R)];rw[ac6,show 1+1*j - 1=j by lia,aa6 d];rfl
 . rw[ag1 (l:=List.range' 1 R.length) (by rw[ac4];lia)];rfl
theorem Hq{R:List (List Nat)}(h:d∈cD ((List.range' 1 n).map (cF n w)) (R.map lsN)): ∃i r,d= .tup [cF n w i,lsN r]:=by
 unfold cD at h;rw[aq6] at h;obtain⟨j,V⟩:=List.getElem?_of_mem h;rw[ak4] at V;split at V
 . cases V;exact⟨_,_,rfl⟩
 . cases V
section
variable{P:Program}{w:World}{K:PySem.W.Frag}{mg:Str->Option Value}{base:Heap}
theorem A7(F:dj K "kept_to" "kept_to" kh f fd)(T:Txt mg):aK P w K mg base bD 1 f fd ["w","lists"] (a0 KJ):=by
 refine iT F Dk (fun p B h=>?_) (fun m A I s H E D=>⟨_,(aw (aC (gL T.tup (aa (Ov.ev (bB (N:= ["row","ons"]) (nt:=2) (js:= []) ⟨rfl,by decide+kernel,by decide,rfl,by decide+kernel,(by show∀x∈(_:List (Str × NameKind)),x.2=NameKind.free->(ab kh).names.lookup x.1=some .cell\/(ab kh).names.lookup x.1=some .free;decide+kernel)⟩ rfl (qo (aa (dv 0) (aa (dv 1) ae)) fun z=>lD (by rfl) T.zip z) (fun _ _ _ _ _=>bP rfl (az (au (i:=0) (show(["row","ons"]:List Str).Nodup by decide+kernel) rfl (by first | exact Or.inl rfl | exact Or.inr rfl)) (az (au (i:=1) (show(["row","ons"]:List Str).Nodup by decide+kernel) rfl (by first | exact Or.inl rfl | exact Or.inr rfl)) bo))) aZ aR (fun _ _ _ _ _=>cu) (fun _ _ _ _ _=>(gL T.tup (aa (Ov.ev (bB (N:= ["on","worth","ons"]) (nt:=2) (js:= [1]) ⟨rfl,by decide+kernel,by decide,rfl,by decide+kernel,(by repeat (first | exact rG | refine mS (by first | exact Or.inl rfl | exact Or.inr rfl) ?_ | refine mT (fun z=>nomatch z) ?_))⟩ rfl (sN T.Ju (aa (dv 0) ae)) (fun _ _ _ _ _=>bP rfl (az (au (i:=0) (show(["on","worth","ons"]:List Str).Nodup by decide+kernel) rfl (by first | exact Or.inl rfl | exact Or.inr rfl)) (az (au (i:=1) (show(["on","worth","ons"]:List Str).Nodup by decide+kernel) rfl (by first | exact Or.inl rfl | exact Or.inr rfl)) bo))) aZ aR (fun _ _ _ _ _=>cu) (fun _ _ _ _ _=>(cS (wH (dv 0) (dv 2)) (dv 1) fG)))) ae))))) ae)))),fun p B h=>?_⟩)
 . obtain⟨n,w,R,rfl,_⟩:=h;rfl
 . obtain⟨n,w,R,rfl,l,v,q⟩:=h;refine⟨_,rfl,_,rfl,true,false,_,_,rfl,?_⟩;have u:(cD ((List.range' 1 n).map (cF n w)) (R.map lsN)).length<=60:=by
    unfold cD;rw[al0,aa4,aa4,ac4];lia
   refine⟨ad9 u (by decide),fun _=>true,kF,fun d t=>?_,?_⟩
   . obtain⟨i,r,rfl⟩:=Hq t;have C:(aM 0 ((List.range (n+1)).map fun o=>bh (w i o))).length=n+1:=by unfold aM;rw[aj6,aa4,ae2]
     refine⟨_,_,rfl,⟨_,rfl,rfl⟩,⟨_,rfl,rfl⟩,rfl,fun _=>?_⟩;refine⟨_,rfl,_,rfl,by rw[C];exact ad9 (show n+1<=61 by lia) (by decide),fun _=>true,kE (r.map nI),fun d t=>?_,?_⟩
     . obtain⟨j,e,G,rfl⟩:=kM t;refine⟨_,_,rfl,⟨_,rfl,rfl⟩,⟨_,rfl,rfl⟩,rfl,fun _=>?_⟩;have M:kE (r.map nI) (.tup [.int ((j+0:Nat):Int),e])=if inD (.int ((j+0:Nat):Int)) (r.map nI)=true then e else .aN:=rfl
       refine⟨_,rfl,_,rfl,_,.inl rfl,rfl,?_,_,rfl,?_⟩
       . exact af6.mpr fun x k=>by obtain⟨y,_,rfl⟩:=ab6.mp k;rfl
       . rw[M];by_cases c:inD (.int ((j+0:Nat):Int)) (r.map nI)=true
         . rw[if_pos c];exact eK c ⟨_,rfl,rfl⟩
         . rw[if_neg c];exact dh c rfl
     . rw[ae9.mpr fun _ _=>rfl];exact⟨_,.inl rfl,rfl⟩
   . rw[ae9.mpr fun _ _=>rfl,MY l];exact⟨_,.inl rfl,q⟩
end
theorem u9{R:List (List Nat)}: ∀(h:List Nat) (k:Nat),k+h.length<=R.length->eP (bA R w) (k+1) h=if fits h (R.drop k)=true then eP w (k+1) h else none
 | [],k,_=>by rw[if_pos (by unfold fits;rfl)];rfl
 | x::h,k,l=>by
  have n:k+1+h.length<=R.length:=by rw[ad3] at l;lia
  have B:k < R.length:=by lia
  have e:R.drop k=R[k]::R.drop (k+1):=(List.drop_eq_getElem_cons B)
  have y:=u9 (w:=w) h (k+1) n;rw[eP,eP,y,e];show ad (if x∈R.getD (k+1 - 1) [] then w (k+1) x else none) _=if (decide (x∈R[k]) && fits h (R.drop (k+1)))=true then _ else _
  rw[show R.getD (k+1 - 1) []=R[k] by rw[ac6,show k+1 - 1=k by lia,aa6 B];rfl];by_cases c:x∈R[k]
  . rw[if_pos c,ab8 c,Bool.true_and];by_cases d:fits h (R.drop (k+1))=true
    . rw[if_pos d,if_pos d]
    . rw[if_neg d,if_neg d];cases w (k+1) x <;> rfl
  . rw[if_neg c,ad1 c,Bool.false_and,if_neg (show¬(false=true) by decide)];rfl
theorem iU: ∀{h:List Nat} {R:List (List Nat)},h.length=R.length->(fits h R=true↔ ∀i,i < h.length->h.getD i 0∈R.getD i [])
 | [],R,_=>⟨fun _ i z=>absurd z (Nat.not_lt_zero _),fun _=>by unfold fits;rfl⟩
 | x::h,[],l=>by cases l
 | x::h,r::R,l=>by
  have y:=iU (h:=h) (R:=R) (by simpa using l);show(decide (x∈r) && fits h R)=true↔_;rw[ae3,y,ah3];constructor
  . rintro⟨f,g⟩ i I
    cases i with
    | zero=>exact f
    | succ i=>exact g i (by simpa using I)
  . intro z;exact⟨z 0 (by simp),fun i I=>z (i+1) (by simpa using I)⟩
theorem gb(r:Rc n m s):(rows s).length=n:=by unfold rows;rw[aa4,ac4];exact r.lv.k.g.l
theorem fE(r:Rc n m s)(h:i < n):(rows s).getD i []=bU s (i+1):=by
 unfold rows;rw[ac6,aa9,r.lv.k.g.l,ah2 h,show 1+1*i=i+1 by lia];rfl
theorem fg(r:Rc n m s)(w:Nat->Nat->Wo){g:List Nat}(H:g.length=n):g0 (bA (rows s) w) g=if fits g (rows s)=true then g0 w g else none:=by
 have:=u9 (w:=w) (R:=rows s) g 0 (by rw[gb r,H];lia);rw[an1] at this;exact this
theorem BA{d:Nat}(h:l≠ []):l.getLastD d∈l:=by
 rw[ak2,am9 h];exact List.getLast_mem h
theorem gf(h: ¬b < i):cH (p++ [b]) i=cH p i:=by
 unfold cH;rw[<-al6,ai2,show [b].filter (fun x=>decide (x < i))= [] from by rw[List.filter_cons_of_neg (by rw[ah3];exact h)];rfl,ag3]
theorem rX(t:1<=i):cH p i∈0::p/\cH p i < i:=by
 have D:((0::p).filter fun x=>decide (x < i))≠ []:=by
  intro z;have:=an5.mp z 0 ab4;exact this (ab8 t)
 have:=af8.mp (BA (d:=0) D);exact⟨this.1,ae1 this.2⟩
theorem uM(Q:q≠ [])(S: ∀x∈q,x < p):cH (q++ [p]) p=q.getLastD 1:=by
 rw[gf (ag6 _)];unfold cH;have O:0 < p:=by
  cases q with
  | nil=>exact absurd rfl Q
  | cons a t=>exact an9 (ag0 _) (S a ab4)
 rw[ae9.mpr fun x h=>ab8 ((ab9.mp h).elim (fun z=>by rw[z];exact O) (S x))];obtain⟨a,t,rfl⟩:=List.exists_cons_of_ne_nil Q;rfl
theorem lN(h:b<=n+1):x∈List.range' b (n+1 - b)↔b<=x/\x<=n:=by
 rw[ad0];constructor
 . rintro⟨f,g⟩;exact⟨f,by lia⟩
 . rintro⟨f,g⟩;exact⟨f,by lia⟩
theorem Dy(r:Rc n m s)(o:lL s w=true)(E:1<=i)(hi:i<=n): ∀x∈bU (fA s w) i,x∈bU s i:=by
 have k:=r.lv.k;have v:=k.g.l;have W:=k.bl;have R:=k.un i E hi;have B:=r.up;have f: ∀{k:Nat},k < s.ag.length-> ∃q p,s.ag=q++ [p]:=fun{k} z=>⟨s.ag.dropLast,s.ag.getLast (by intro y;rw[y] at z;simp at z),(ag5 _).symm⟩
 have D:s.aX.getD (i - 1) none=none->i∈s.ag\/s.b<=i:=fun z=>R.mp (by
  rw[ac6,aa6 (by lia)] at z;rw[aa6 (by lia)];exact af7 some z)
 have P: ∀{q:List Nat} {p t:Nat},s.ag=q++ [p]->s.mG t=⟨q,s.b,s.aX.set (p - 1) (some t)⟩:=fun{q p t} e=>by
  unfold St.mG;rw[e,aq9,show(q++ [p]).getLastD 1=p by simp]
 have X: ∀{q:List Nat} {p t:Nat},s.ag=q++ [p]->t∈bU s p-> ∀x∈bU (s.mG t) i,x∈bU s i:=fun{q p t} A J x h=>by
  rw[P A] at h;have C:=k.g.cg p (by rw[A];exact ac0 _ ab4);rw[A] at B;have S: ∀y∈q,y < p:=fun y d=>(ai0.mp B).2.2 y d p ab4;by_cases c:i=p
  . subst c;unfold bU at h;rw[show(⟨q,s.b,s.aX.set (i - 1) (some t)⟩:St).aX.getD (i - 1) none=some t by
     show(s.aX.set (i - 1) (some t)).getD (i - 1) none=some t;rw[ac6,ac7 (by lia)];rfl] at h
    rw[ab1.mp h];exact J
  . unfold bU at h ⊢;rw[show(⟨q,s.b,s.aX.set (p - 1) (some t)⟩:St).aX.getD (i - 1) none=s.aX.getD (i - 1) none by
     show(s.aX.set (p - 1) (some t)).getD (i - 1) none=_;rw[ac6,ab7 (by lia),<-ac6]] at h
    cases e:s.aX.getD (i - 1) none with
    | some y=>rw[e] at h;exact h
    | none=>
     rw[e] at h;have N:(s.aX.set (p - 1) (some t)).length=s.aX.length:=ae5;dsimp only at h ⊢;rw[N] at h;by_cases L:i∈q
     . rw[if_pos L] at h;rw[if_pos (by rw[A];exact ae6 _ L),A,gf (by have:=S i L;lia)];exact h
     . rw[if_neg L] at h;rw[if_neg (by rw[A];intro z;exact(ad8.mp z).elim L fun y=>c (ab1.mp y))];rcases ad8.mp h with z | z
       . refine ae6 _ ?_;rw[A];exact(ab9.mp z).elim (fun y=>by rw[y];exact ab4) fun y=>ab5 _ (ae6 _ y)
       . exact ac0 _ z
 have u: ∀{q:List Nat} {p:Nat},s.ag=q++ [p]->bU s p=cH s.ag p::List.range' s.b (n+1 - s.b):=fun{q p} A=>by
  have O:p∈s.ag:=by rw[A];exact ac0 _ ab4
  have C:=k.g.cg p O;have e:s.aX.getD (p - 1) none=none:=by
   rw[ac6,(k.un p C.1 C.2).mpr (.inl O)];rfl
  unfold bU;rw[e];dsimp only;rw[if_pos O,v]
 rcases df o with ⟨rfl,c,e⟩ | ⟨rfl,c,e⟩ | ⟨rfl,c,e⟩ <;> rw[e]
 . have c:s.b<=s.aX.length:=ae1 c;rw[v] at c;intro x h;unfold bU at h ⊢;have j:s.read.aX=s.aX:=rfl;have A:s.read.ag=s.ag++ [s.b]:=rfl;have I:s.read.b=s.b+1:=rfl;rw[j] at h;cases e:s.aX.getD (i - 1) none with
   | some y=>rw[e] at h;exact h
   | none=>
    rw[e] at h;dsimp only at h ⊢;rw[A,I,v] at h;rw[v];have Y:=D e;have a: ∀{y},y∈List.range' (s.b+1) (n+1 - (s.b+1))->y∈List.range' s.b (n+1 - s.b):=fun{y} z=>by
     rw[lN (by lia)] at z ⊢;exact⟨by lia,z.2⟩
    by_cases M:i∈s.ag
    . have Q:=k.lt i M;rw[if_pos (ae6 _ M),gf (by lia)] at h;rw[if_pos M];exact(ab9.mp h).elim (fun z=>by rw[z];exact ab4) fun z=>ab5 _ (a z)
    . rw[if_neg M];by_cases Q:i=s.b
      . rw[if_pos (by rw[Q];exact ac0 _ ab4),gf (by lia)] at h;rcases ab9.mp h with z | z
        . rw[z];exact ae6 _ (rX E).1
        . refine ac0 _ (af8.mpr ⟨a z,ab8 ?_⟩);rw[lN (by lia)] at z;lia
      . rw[if_neg (fun z=>(ad8.mp z).elim M fun y=>Q (ab1.mp y))] at h;rcases ad8.mp h with z | z
        . rcases ab9.mp z with z | z
          . rw[z];exact ae6 _ ab4
          . rcases ad8.mp z with z | z
            . exact ae6 _ (ab5 _ z)
            . rw[ab1.mp z];exact ac0 _ (af8.mpr ⟨(lN (by lia)).mpr ⟨ab3 _,c⟩,ab8 fun y=>Q y.symm⟩)
        . obtain⟨T,U⟩:=af8.mp z;exact ac0 _ (af8.mpr ⟨a T,U⟩)
 . unfold aI at c;rw[ae3] at c;have V:s.b<=s.aX.length:=ae1 c.1;rw[v] at V;have F:s.ag≠ []:=fun z=>by rw[z] at c;simp at c
   obtain⟨q,p,A⟩:=f (k:=0) (al1.mpr F);refine X A ?_;rw[u A];exact ab5 _ ((lN (by lia)).mpr ⟨ab3 _,V⟩)
 . have c:1 < s.ag.length:=ae1 c;obtain⟨q,p,A⟩:=f c;have H:q≠ []:=fun z=>by rw[A,z] at c;simp at c
   have G:s.ag.dropLast.getLastD 1=q.getLastD 1:=by rw[A,aq9]
   unfold St.under;rw[G];refine X A ?_;rw[u A,A,uM H fun y d=>by rw[A] at B;exact(ai0.mp B).2.2 y d p ab4];exact ab4
end ay
namespace ay
open PySem PySem.Spec L2 LB LD PyProof.Rows
theorem EG{l:List Dt}(h:0 < l.length):jh l (-1)=some (l[l.length - 1]'(by lia)):=by
 unfold jh zw;rw[if_neg (by decide),if_pos (by lia)];show l[_]?=_;rw[show(-1+(l.length:Int)).toNat=l.length - 1 by lia];exact aa6 _
theorem ox{l:List Dt}:jh (l++ [x]) (-1)=some x:=by
 rw[EG (by rw[ac1];show 0 < l.length+1;lia)];congr 1
 have:(l++ [x]).length - 1=l.length:=by rw[ac1];rfl
 simp [this]
inductive Hm(n:Nat):List Str->St->Prop
 | nil:Hm n [] (first n)
 | snoc {ws:List Str} {s:St} {w:Str}:Hm n ws s->lL s w=true->Hm n (ws++ [w]) (fA s w)
theorem Hm.rc(h:Hm n ws s):Rc n ws.length s:=by
 induction h with
 | nil=>exact .zero
 | snoc _ o ih=>rw[ac1];exact .step ih o
end ay
namespace ay
open PySem PySem.Spec L2 LB LD PyProof.Rows jW
theorem zZ(n:Nat)(w:Nat->Nat->Wo): ∃r,jX n w r:=by
 cases e:ev (wr n w) (Cz n) with
 | none=>exact⟨_,qR e⟩
 | some t=>obtain⟨v,g,B,_⟩:=qQ e;exact⟨_,B⟩
noncomputable def bestOf(n:Nat)(w:Nat->Nat->Wo):Option Rs:=Classical.choose (zZ n w)
theorem jc(n:Nat)(w:Nat->Nat->Wo):jX n w (bestOf n w):=Classical.choose_spec (zZ n w)
theorem Ca(h: ∀g∈cN n,g0 w' g=g0 w g)(b:jX n w r):jX n w' r:=by
 cases b with
 | no z=>exact .no fun g m=>by rw[h g m];exact z g m
 | yes v g m e b=>exact .yes v g m (by rw[h g m];exact e) fun i a u Q=>b i a u (by rw[<-h i a];exact Q)
noncomputable def bE(n:Nat)(w:Nat->Nat->Wo)(s:St):Wo:=(bestOf n (bA (rows s) w)).map (·.1)
inductive VB(n:Nat)(w:Nat->Nat->Wo)(s:St):Wo->Prop
 | no (h: ∀g∈cN n,g0 (bA (rows s) w) g=none):VB n w s none
 | yes (v:Int) (g:List Nat) (m:g∈cN n) (e:g0 (bA (rows s) w) g=some v) (b: ∀g∈cN n,∀u,g0 (bA (rows s) w) g=some u->u<=v):VB n w s (some v)
theorem lu(n:Nat)(w:Nat->Nat->Wo)(s:St):VB n w s (bE n w s):=by
 have B:=jc n (bA (rows s) w);unfold bE;generalize bestOf n (bA (rows s) w)=r at B ⊢;cases B with
 | no h=>exact .no h
 | yes v g m e b=>exact .yes v g m e fun i a u Q=>by rcases b i a u Q with z | z <;> lia
theorem nz{n m:Nat}{w:Nat->Nat->Wo}{s:St}{st:Str}(r:Rc n m s)(o:lL s st=true){b:Int}(h:bE n w (fA s st)=some b): ∃a,bE n w s=some a/\b<=a:=by
 have B:=lu n w (fA s st);rw[h] at B;cases B with
 | yes _ g mg e _=>
  have H:=aL mg;have C:=r.step o;rw[fg C w H] at e;split at e
  . rename_i c;rw[iU (by rw[H,gb C])] at c;have X:fits g (rows s)=true:=(iU (by rw[H,gb r])).mpr fun i I=>by
     have:=c i I;rw[H] at I;rw[fE C I] at this;rw[fE r I];exact Dy r o (by lia) (by lia) _ this
    have Q:g0 (bA (rows s) w) g=some b:=by rw[fg r w H,if_pos X];exact e
    have A:=lu n w s;generalize bE n w s=a at A ⊢;cases A with
    | no z=>rw[z g mg] at Q;cases Q
    | yes a g2 m2 e2 b2=>exact⟨a,rfl,b2 g mg b Q⟩
  . cases e
theorem yT(r:Rc n m s)(e:dy s=true)(hi:i < n):bU s (i+1)= [(jO s).getD i 0]:=by
 obtain⟨I,p,A,P,u⟩:=xU r e;have t:=r.lv.k.g.l;have q:=r.lv.k.un (i+1) (by lia) (by lia);rw[A,I,show i+1 - 1=i by lia] at q;have O:(jO s).getD i 0=((s.aX.set (p - 1) (some 0))[i]?.map (·.getD 0)).getD 0:=by
  unfold jO;rw[A,ac6,aa9];rfl
 unfold bU;rw[show i+1 - 1=i by lia,ac6];cases h:s.aX[i]? with
 | none=>rw[List.getElem?_eq_none_iff] at h;lia
 | some x=>
  cases x with
  | none=>
   have:i+1=p:=(q.mp h).elim ab1.mp fun z=>by lia
   subst this;rw[al4];dsimp only;rw[A,if_pos ab4,I,t,an6,O,show i+1 - 1=i by lia,ac7 (by lia)];show [cH [i+1] (i+1)]= [0]
   unfold cH;simp
  | some y=>
   rw[al4];dsimp only;have D:i≠p - 1:=fun z=>by
    have:=q.mpr (.inl (ab1.mpr (by lia)));rw[h] at this;cases this
   rw[O,ab7 (by lia),h];rfl
theorem HA(r:Rc n m s)(e:dy s=true):bE n w s=g0 w (jO s):=by
 have Y:=vA r e;have N:=aL Y;have y: ∀g∈cN n,g0 (bA (rows s) w) g=if g=jO s then g0 w g else none:=fun g A=>by
  have H:=aL A;rw[fg r w H];have:fits g (rows s)=true↔g=jO s:=by
   rw[iU (by rw[H,gb r])];constructor
   . intro z;refine List.ext_getElem (by rw[H,N]) fun i f j=>?_;have:=z i f;rw[H] at f;rw[fE r f,yT r e f] at this;have:=ab1.mp this;rwa [ac6,ac6,aa6 (by lia),aa6 j] at this
   . rintro rfl i I
     rw[N] at I;rw[fE r I,yT r e I];exact ab1.mpr rfl
  by_cases c:g=jO s
  . rw[if_pos c,if_pos (this.mpr c)]
  . rw[if_neg c,if_neg fun z=>c (this.mp z)]
 have V:=lu n w s;generalize bE n w s=v at V ⊢;cases V with
 | no h=>have:=h _ Y;rw[y _ Y,if_pos rfl] at this;exact this.symm
 | yes v g A eg b=>
  rw[y g A] at eg;split at eg
  . rename_i c;rw[<-c];exact eg.symm
  . cases eg
theorem pW: ∀(h:List Nat) (k:Nat),(∀j x,h[j]?=some x->w (k+j) x=w' (k+j) x)->eP w k h=eP w' k h
 | [],k,_=>rfl
 | x::h,k,e=>by
  have A:eP w (k+1) h=eP w' (k+1) h:=pW h (k+1) fun j y z=>by
   have q:=e (j+1) y z;rw[show k+(j+1)=k+1+j by lia] at q;exact q
  rw[eP,eP,show w k x=w' k x from e 0 x rfl,A]
theorem AN(hi:i < n):bU (first n) (i+1)=0::(List.range' 1 n).filter fun x=>decide (x≠i+1):=by
 unfold bU;rw[show i+1 - 1=i by lia,show(first n).aX.getD i none=none by
  show(List.replicate n (none:Option Nat)).getD i none=none;rw[ac6,ad2,if_pos hi];rfl]
 show(if i+1∈([]:List Nat) then _ else _)=_;rw[if_neg aa8];show [0]++(List.range' 1 ((List.replicate n (none:Option Nat)).length+1 - 1)).filter _=_;rw[ah5];rfl
theorem xC(f: ∀i,w i i=none)(A:g∈cN n):g0 (bA (rows (first n)) w) g=g0 w g:=by
 refine pW g 1 fun j x h=>?_;have H:=aL A;have V:j < n:=by rw[<-H];exact(ab0.mp h).1
 have M:x<=n:=dJ A x (ac8 h);unfold bA;rw[show 1+j - 1=j by lia,fE .zero V,AN V];by_cases c:x=j+1
 . subst c;rw[show 1+j=j+1 by lia,f (j+1)];split <;> rfl
 . rw[if_pos];by_cases o:x=0
   . rw[o];exact ab4
   . exact ab5 _ (af8.mpr ⟨ad0.mpr ⟨by lia,by lia⟩,ab8 c⟩)
theorem Ap(f: ∀i,w i i=none)(b:jX n w r):bE n w (first n)=r.map (·.1):=by
 unfold bE;rw[l6 (jc n _) (Ca (fun g A=>xC f A) b)]
noncomputable def kC:Wo->Wo->Wo
 | some a,some b=>some (a - b)
 | _,_=>none
noncomputable def eC(n:Nat)(w:Nat->Nat->Wo)(s:St)(st:Str):Wo:=kC (bE n w s) (bE n w (fA s st))
noncomputable def cC(n:Nat)(w:Nat->Nat->Wo):St->List Str->List Wo
 | _,[]=> []
 | s,st::ws=>eC n w s st::cC n w (fA s st) ws
noncomputable def Ao:St->List Str->List St
 | s,[]=> [s]
 | s,st::ws=>s::Ao (fA s st) ws
noncomputable def vk:St->Nat->List Str->Option Nat
 | _,_,[]=>none
 | s,i,st::ws=>if lL s st=true then vk (fA s st) (i+1) ws else some i
theorem vM: ∀(ws:List Str) (s:St),List.zipWith kC ((Ao s ws).map (bE n w)) ((Ao s ws).map (bE n w)).tail=cC n w s ws
 | [],s=>rfl
 | st::ws,s=>by
  have x:=vM (n:=n) (w:=w) ws (fA s st);cases ws with
  | nil=>rfl
  | cons t ws=>
   rw[cC,<-x];rfl
theorem vN: ∀(ws:List Str) (s:St) (m i:Nat),Rc n m s->vk s i ws=none-> ∀e,bE n w (ws.foldl fA s)=some e-> ∃(a:Int) (cs:List Int),bE n w s=some a/\cC n w s ws=cs.map some/\cs.sum=a - e
 | [],s,m,i,_,_,e,h=>⟨e,[],h,rfl,by show(0:Int)=e - e;lia⟩
 | st::ws,s,m,i,r,g,e,h=>by
  unfold vk at g;split at g
  . rename_i o;obtain⟨b,cs,I,N,B⟩:=vN (n:=n) (w:=w) ws _ _ _ (r.step o) g e h;obtain⟨a,M,O⟩:=nz r o I;refine⟨a,(a - b)::cs,M,?_,?_⟩
    . rw[cC,N];unfold eC;rw[M,I];rfl
    . rw[List.sum_cons,B];lia
  . cases g
theorem gP: ∀(ws:List Str) (s:St) (st:Str),cC n w s (ws++ [st])=cC n w s ws++ [eC n w (ws.foldl fA s) st]
 | [],s,st=>rfl
 | t::ws,s,st=>by
  show _::cC n w (fA s t) (ws++ [st])=_::cC n w (fA s t) ws++_;rw[gP ws];rfl
theorem vj: ∀(ws:List Str) (s:St) (i:Nat) (st:Str),vk s i ws=none->lL (ws.foldl fA s) st=true->vk s i (ws++ [st])=none
 | [],s,i,st,_,o=>by show(if lL s st=true then none else some i)=none;rw[if_pos (show lL s st=true from o)]
 | t::ws,s,i,st,g,o=>by
  unfold vk at g;split at g
  . rename_i P;show(if lL s t=true then vk (fA s t) (i+1) (ws++ [st]) else some i)=none;rw[if_pos P];exact vj ws _ _ st g o
  . cases g
theorem Hm.go{n:Nat}{F:List Str}(h:Hm n F s):vk (first n) 0 F=none/\F.foldl fA (first n)=s:=by
 induction h with
 | nil=>exact⟨rfl,rfl⟩
 | snoc _ o ih=>
  obtain⟨f,g⟩:=ih;refine⟨vj _ _ _ _ f (by rw[g];exact o),?_⟩;rw[List.foldl_append,g];rfl
end ay
namespace jW
noncomputable def iv(a b:Nat):Nat × Nat:=(min a b,max a b)
def Xs(p q:Nat × Nat):Prop:=p.1 < q.1/\q.1 < p.2/\p.2 < q.2
noncomputable def oB(f:Nat)(x:List Nat):List (Nat × Nat):=List.zipWith iv (List.range' f x.length) x
theorem zx(f:Nat)(x y:List Nat):oB f (x++y)=oB f x++oB (f+x.length) y:=by
 unfold oB;rw[ac1,<-ah9,List.zipWith_append (by rw[ac4])]
theorem EK(f o:Nat)(y:List Nat):oB f (o::y)=iv f o::oB (f+1) y:=by
 unfold oB;rw[ad3,ao8,an4]
def Bl(f m k:Nat)(p:Nat × Nat):Prop:=p.1<=p.2/\((f<=p.1/\p.2 < f+m)\/(k < f/\p.1=k/\f<=p.2/\p.2 < f+m)\/(f+m<=k/\p.2=k/\f<=p.1/\p.1 < f+m))
def NX(L:List (Nat × Nat)):Prop:= ∀p∈L,∀q∈L,¬Xs p q
theorem xq(f:NX L)(g:NX M)(T: ∀p∈L,∀q∈M,¬Xs p q/\ ¬Xs q p):NX (L++M):=fun p r q Q=>by
 rcases ad8.mp r with a | a <;> rcases ad8.mp Q with b | b
 . exact f p a q b
 . exact(T p a q b).1
 . exact(T q b p a).2
 . exact g p a q b
theorem Eu: ∀(m:Nat),(∀f l x,x∈Fo f m l->(l < f\/f+m<=l)->NX (oB f x)/\ ∀p∈oB f x,Bl f m l p)/\ ∀f l x,x∈Tr f m l->(l < f\/f+m<=l)->NX (oB f x)/\ ∀p∈oB f x,Bl f m l p:=fun m=>by
 induction m using Nat.strongRecOn with
 | _ m ih=>
  have A: ∀f l x,x∈Tr f m l->(l < f\/f+m<=l)->NX (oB f x)/\ ∀p∈oB f x,Bl f m l p:=fun f l x h j=>by
   obtain⟨k,a,b,R,i,B,rfl⟩:=dG.mp h;have D:=(fP k).1 _ _ _ i;obtain⟨o,T⟩:=(ih k (by lia)).1 _ _ _ i (.inr (ab3 _));obtain⟨g,u⟩:=(ih (m - (k+1)) (by lia)).1 _ _ _ B (.inl (by lia));rw[zx,EK,D];have V: ∀p∈oB f a,p.1<=p.2/\f<=p.1/\p.2<=f+k:=fun p s=>by have:=T p s;unfold Bl at this;lia
   have Z: ∀p∈oB (f+k+1) b,p.1<=p.2/\f+k<=p.1/\p.2 < f+m:=fun p s=>by have:=u p s;unfold Bl at this;lia
   have W:(iv (f+k) l).1<=(iv (f+k) l).2/\((l < f/\(iv (f+k) l).1=l/\(iv (f+k) l).2=f+k)\/(f+m<=l/\(iv (f+k) l).1=f+k/\(iv (f+k) l).2=l)):=by
    unfold iv;dsimp only;lia
   refine⟨xq o (xq (L:= [iv (f+k) l]) (M:=oB (f+k+1) b) (fun p s q Q=>?_) g fun p s q Q=>?_) fun p s q Q=>?_,fun p s=>?_⟩
   . cases ab1.mp s;cases ab1.mp Q;unfold Xs;lia
   . cases ab1.mp s;have:=Z q Q;unfold Xs;lia
   . have:=V p s;rcases ad8.mp (show q∈ [iv (f+k) l]++oB (f+k+1) b from Q) with z | z
     . cases ab1.mp z;unfold Xs;lia
     . have:=Z q z;unfold Xs;lia
   . rcases ad8.mp s with z | z
     . have:=V p z;exact⟨by lia,.inl ⟨by lia,by lia⟩⟩
     . rcases ab9.mp z with z | z
       . rw[z];refine⟨W.1,?_⟩;rcases W.2 with y | y
         . exact .inr (.inl ⟨y.1,y.2.1,by lia,by lia⟩)
         . exact .inr (.inr ⟨y.1,y.2.2,by lia,by lia⟩)
       . have:=Z p z;exact⟨by lia,.inl ⟨by lia,by lia⟩⟩
  refine⟨fun f l x h j=>?_,A⟩;by_cases c:m=0
  . subst c;rw[cO.mp h];exact⟨fun p s=>absurd s aa8,fun p s=>absurd s aa8⟩
  . obtain⟨e,t,r,E,v,C,rfl⟩:=(dZ (by lia)).mp h;have S:=(fP (e+1)).2 _ _ _ v;obtain⟨o,T⟩:NX (oB f t)/\ ∀p∈oB f t,Bl f (e+1) l p:=by
     by_cases d:e+1=m
     . rw[d] at v ⊢;exact A _ _ _ v j
     . exact(ih (e+1) (by lia)).2 _ _ _ v (by lia)
    obtain⟨g,u⟩:=(ih (m - (e+1)) (by lia)).1 _ _ _ C (by lia);rw[zx,S];refine⟨xq o g fun p s q Q=>?_,fun p s=>?_⟩
    . have n:=T p s;have w:=u q Q;unfold Bl at n w;unfold Xs;lia
    . rcases ad8.mp s with z | z
      . have:=T p z;unfold Bl at this ⊢;lia
      . have:=u p z;unfold Bl at this ⊢;lia
theorem p5(h:g∈cN n):NX (oB 1 g):=((Eu n).2 1 0 g (kA.mp h) (.inl (by decide))).1
noncomputable def Th(g:List Nat)(v:Nat):Nat:=g.getD (v - 1) 0
noncomputable def oE(g:List Nat):Nat->Nat->Nat
 | 0,v=>v
 | k+1,v=>oE g k (Th g v)
theorem sJ(g:List Nat): ∀(j k v:Nat),oE g (j+k) v=oE g k (oE g j v)
 | 0,k,v=>by rw[Nat.zero_add];rfl
 | j+1,k,v=>by rw[Nat.add_right_comm];exact sJ g j k (Th g v)
def CA(g:List Nat)(f:Nat)(x:List Nat):Prop:= ∀i e,x[i]?=some e->g[f - 1+i]?=some e
theorem CA.left(h:CA g f (x++y)):CA g f x:=fun i e I=>h i e (by rw[ae4 (ab0.mp I).1];exact I)
theorem CA.right(b:1<=f)(h:CA g f (x++y)):CA g (f+x.length) y:=fun i e I=>by
 have:=h (x.length+i) e (by rw[af2 (by lia),show x.length+i - x.length=i by lia];exact I);rw[show f+x.length - 1+i=f - 1+(x.length+i) by lia];exact this
theorem Js(g:List Nat): ∀(m:Nat),(∀f l x,1<=f->x∈Fo f m l->CA g f x-> ∀v,f<=v->v < f+m-> ∃k,1<=k/\k<=m/\oE g k v=l/\ ∀j,j < k->f<=oE g j v/\oE g j v < f+m)/\
  ∀f l x,1<=f->x∈Tr f m l->CA g f x-> ∀v,f<=v->v < f+m-> ∃k,1<=k/\k<=m/\oE g k v=l/\ ∀j,j < k->f<=oE g j v/\oE g j v < f+m:=fun m=>by
 induction m using Nat.strongRecOn with
 | _ m ih=>
  have C: ∀f l x,1<=f->x∈Tr f m l->CA g f x-> ∀v,f<=v->v < f+m-> ∃k,1<=k/\k<=m/\oE g k v=l/\ ∀j,j < k->f<=oE g j v/\oE g j v < f+m:=fun f l x h p A v o J=>by
   obtain⟨k,a,b,R,D,G,rfl⟩:=dG.mp p;have E:=(fP k).1 _ _ _ D;have s:Th g (f+k)=l:=by
    have:=A k l (by rw[af2 (by lia),E,an6];rfl);unfold Th;rw[List.getD,show f+k - 1=f - 1+k by lia,this];rfl
   have L:=A.left;have M:CA g (f+k+1) b:=by
    have B:=(show CA g f (a++l::b) from A).right h;rw[E] at B;have F:CA g (f+k) ([l]++b):=B;exact F.right (by lia)
   rcases as9 v (f+k) with c | c | c
   . obtain⟨j,n,y,w,u⟩:=(ih k (by lia)).1 f (f+k) a h D L v o c;refine⟨j+1,by lia,by lia,?_,fun i I=>?_⟩
     . rw[sJ,w];exact s
     . by_cases d:i < j
       . have:=u i d;lia
       . rw[show i=j by lia,w];lia
   . subst c;refine⟨1,ab3 _,by lia,s,fun i I=>?_⟩;have:i=0:=by lia
     subst this;exact⟨o,J⟩
   . obtain⟨j,n,y,w,u⟩:=(ih (m - (k+1)) (by lia)).1 (f+k+1) (f+k) b (by lia) G M v (by lia) (by lia);refine⟨j+1,by lia,by lia,?_,fun i I=>?_⟩
     . rw[sJ,w];exact s
     . by_cases d:i < j
       . have:=u i d;lia
       . rw[show i=j by lia,w];lia
  refine⟨fun f l x h p A v o J=>?_,C⟩;have c:m≠0:=by lia
  obtain⟨e,t,r,N,q,H,rfl⟩:=(dZ (by lia)).mp p;have S:=(fP (e+1)).2 _ _ _ q;by_cases d:v < f+(e+1)
  . obtain ⟨j, n, y, w, u⟩ : ∃ k, 1 <= k /\ k <= e + 1 /\ oE g k v = l /\ ∀ j, j < k -> f <= oE g j v /\ oE g j v < f + (e + 1) := by
      by_cases z:e+1=m
      . rw[z] at q d ⊢;exact C f l t h q A.left v o d
      . exact(ih (e+1) (by lia)).2 f l t h q A.left v o d
    exact⟨j,n,by lia,w,fun i I=>by have:=u i I;lia⟩
  . have X:=A.right h;rw[S] at X;obtain⟨j,n,y,w,u⟩:=(ih (m - (e+1)) (by lia)).1 (f+e+1) l r (by lia) H X v (by lia) (by lia);exact⟨j,n,by lia,w,fun i I=>by have:=u i I;lia⟩
theorem CS(h:g∈cN n)(m:1<=v)(J:v<=n): ∃k,k<=n/\oE g k v=0/\ ∀j,j < k->1<=oE g j v/\oE g j v<=n:=by
 obtain⟨k,T,l,E,w⟩:=(Js g n).2 1 0 g (ab3 _) (kA.mp h) (fun i e I=>by rw[show 1 - 1+i=i by lia];exact I) v m (by lia);exact⟨k,l,E,fun j V=>by have:=w j V;lia⟩
theorem zk(h:x∈Fo f m on)(b:1<=f)(I:1<=on):x.count 0=0:=List.count_eq_zero.mpr fun z=>by
 have:=(QZ m).1 _ _ _ h 0 z;lia
theorem uP(h:g∈cN n):g.count 0=1:=by
 obtain⟨k,a,b,R,d,c,rfl⟩:=dG.mp (kA.mp h);rw[List.count_append,List.count_cons_self,zk d (by decide) (by lia),zk c (by lia) (by lia)]
end jW
namespace ay.h
open PySem PySem.Spec L2 LB LD MH Cg PyProof.Rows jW
theorem sS(g:Hg hs): ∃f F,Tree hs.length (hI hs) f F:=by
 obtain⟨C,s⟩:=g.rk;obtain⟨t,y,m⟩:=g.one;have I:=(ab0.mp y).1;have o: ∀n,∃B,∀w,w<=n->C w<=B:=fun n=>by
  induction n with
  | zero=>exact⟨C 0,fun w h=>by rw[show w=0 by lia];exact ab3 _⟩
  | succ n ih=>
   obtain⟨B,q⟩:=ih;refine⟨max B (C (n+1)),fun w h=>?_⟩;by_cases e:w=n+1
   . subst e;lia
   . have:=q w (by lia);lia
 obtain⟨B,q⟩:=o hs.length;have u: ∀w,1<=w->w<=hs.length->(up hs w=0↔w=t+1):=fun w r G=>by
  have:=g9 (hs:=hs) r G;constructor
  . intro z;rw[z] at this;have:=m _ this;lia
  . intro z;subst z;rw[as0,y] at this;exact(Option.some.inj this).symm
 refine⟨fun w=>B - C w.toNat,B,⟨fun w r G=>?_,fun w _ _=>Nat.sub_le _ _,fun v w k d r G A D=>?_,⟨((t+1:Nat):Int),by lia,by lia,?_⟩⟩⟩
 . have x:w=((w.toNat:Nat):Int):=by lia
   rw[x,a9];by_cases z:up hs w.toNat=0
   . left;rw[z];rfl
   . right;have i:=s w.toNat (by lia) (by lia) z;have j:=q w.toNat (by lia);have T:=g.Po (w:=w.toNat) (by lia) (by lia);refine⟨by lia,by lia,?_⟩;rw[af0,af0];lia
 . have p:v=((v.toNat:Nat):Int):=by lia
   have x:w=((w.toNat:Nat):Int):=by lia
   rw[p,a9] at A;rw[x,a9] at D;have a:=(u v.toNat (by lia) (by lia)).mp (by lia);have b:=(u w.toNat (by lia) (by lia)).mp (by lia);lia
 . rw[a9,(u (t+1) (by lia) (by lia)).mpr rfl];rfl
theorem D5: ∀{l:List Nat},l.count 0=1-> ∃t:Nat,l[t]?=some 0/\ ∀j:Nat,l[j]?=some 0->j=t
 | [],h=>by cases h
 | a::l,h=>by
  by_cases c:a=0
  . subst c;rw[List.count_cons_self] at h;have z:0∉l:=List.count_eq_zero.mp (by lia);refine⟨0,rfl,fun j V=>?_⟩;cases j with
    | zero=>rfl
    | succ j=>exact absurd (ac8 (by simpa using V)) z
  . rw[List.count_cons_of_ne c] at h;obtain⟨t,f,g⟩:=D5 h;refine⟨t+1,by simpa using f,fun j V=>?_⟩;cases j with
    | zero=>exact absurd (Option.some.inj V) c
    | succ j=>rw[g j (by simpa using V)]
def Dp(g:List Nat)(v k:Nat):Prop:=oE g k v=0/\ ∀j,j < k->oE g j v≠0
theorem Jw(h:Dp g v k)(h':Dp g v k'):k=k':=by
 rcases as9 k k' with z | z | z
 . exact absurd h.1 (h'.2 k z)
 . exact z
 . exact absurd h'.1 (h.2 k' z)
open Classical in
noncomputable def Vh(g:List Nat)(v:Nat):Nat:=if h: ∃k,Dp g v k then h.choose else 0
theorem Kv(h:Dp g v k):Vh g v=k:=by
 unfold Vh;rw[dif_pos ⟨k,h⟩];exact Jw (Exists.choose_spec (⟨k,h⟩: ∃k,Dp g v k)) h
theorem wB(r:1<=n)(m:g∈cN n):Hg g:=by
 have l:=aL m;refine⟨by lia,fun x i=>by rw[l];exact dJ m x i,⟨Vh g,fun w q p e=>?_⟩,D5 (uP m)⟩;have U:up g w<=n:=dJ m _ (ac8 (g9 q p));obtain⟨k,T,h,E⟩:=CS m (v:=up g w) (by lia) U;have O:Dp g (up g w) k:=⟨h,fun j V=>by have:=E j V;lia⟩
 have o:Dp g w (k+1):=⟨h,fun j V=>by
  cases j with
  | zero=>show w≠0;lia
  | succ j=>exact O.2 j (by lia)⟩
 rw[Kv O,Kv o];exact aq5 k
theorem sI{g:List Nat}(j:1<=v)(J:v<=g.length):iv v (up g v)∈oB 1 g:=by
 unfold oB;refine ac8 (i:=v - 1) ?_;rw[ak4,ah2 (by lia),g9 j J];show some (iv (1+1*(v - 1)) (up g v))=_;rw[show 1+1*(v - 1)=v by lia]
theorem wA(m:g∈cN n):Plain g.length (hI g):=fun v w i J q l=>by
 have r:=p5 m _ (sI (g:=g) (v:=v.toNat) (by lia) (by lia)) _ (sI (g:=g) (v:=w.toNat) (by lia) (by lia));unfold Xs iv at r;unfold hI;rintro⟨N,o,L⟩
 dsimp only at r;refine r ⟨?_,?_,?_⟩ <;> lia
theorem zX: ∀(k:Nat) (q:List Nat),q.length=k->q.Pairwise (· < ·)->(∀x∈q,1<=x)->(∀x∈q,up g x=cH q x\/b<=up g x)->Ch (hI g) b (q.map fun x:Nat=>(x:Int)).reverse
 | 0,q,l,_,_,_=>by rw[List.length_eq_zero_iff.mp l];trivial
 | k+1,q,l,X3,p1,h=>by
  have D:q≠ []:=fun z=>by rw[z] at l;cases l
  obtain⟨V,p,rfl⟩: ∃V p,q=V++ [p]:=⟨q.dropLast,q.getLast D,(ag5 _).symm⟩
  have S: ∀x∈V,x < p:=fun x i=>(ai0.mp X3).2.2 x i p ab4;have y:=zX (g:=g) (b:=b) k V (by rw[ac1] at l;simpa using l) (ai0.mp X3).1 (fun x i=>p1 x (ae6 _ i)) fun x i=>by
   have:=h x (ae6 _ i);rwa [gf (by have:=S x i;lia)] at this
  have r:=h p (ac0 _ ab4);rw[ac5,an0];by_cases c:V= []
  . subst c;have:cH ([]++ [p]) p=0:=by
     have:=p1 p (ac0 _ ab4);unfold cH;simp [show 0 < p by lia]
    rw[this] at r;show hI g p=0\/(b:Int)<=hI g p;unfold hI;rw[af0];lia
  . rw[uM c S] at r;obtain⟨Z,t,rfl⟩: ∃Z t,V=Z++ [t]:=⟨V.dropLast,V.getLast c,(ag5 _).symm⟩
    rw[ac5,an0] at y ⊢;rw[show(Z++ [t]).getLastD 1=t by simp] at r;refine⟨?_,y⟩;show hI g p=(t:Int)\/hI g p=0\/(b:Int)<=hI g p;unfold hI;rw[af0];lia
theorem nS(r:Rc n m s)(h:w∈s.ag):bU s w=cH s.ag w::List.range' s.b (n+1 - s.b):=by
 have t:=r.lv.k.g.l;have v:=r.lv.k.g.cg w h;have e:s.aX.getD (w - 1) none=none:=by rw[ac6,(r.lv.k.un w v.1 v.2).mpr (.inl h)];rfl
 unfold bU;rw[e];dsimp only;rw[if_pos h,t]
theorem yS(r:Rc n m s)(q:1<=w)(h:s.b<=w)(G:w<=n):bU s w=(0::s.ag)++(List.range' s.b (n+1 - s.b)).filter fun x=>decide (x≠w):=by
 have t:=r.lv.k.g.l;have e:s.aX.getD (w - 1) none=none:=by rw[ac6,(r.lv.k.un w q G).mpr (.inr h)];rfl
 have f:w∉s.ag:=fun z=>by have:=r.lv.k.lt w z;lia
 unfold bU;rw[e];dsimp only;rw[if_neg f,t]
theorem uH(r:Rc n m s)(q:1<=w)(G:w<=n)(h:w < s.b)(f:w∉s.ag): ∃x,s.aX.getD (w - 1) none=some x/\bU s w= [x]/\1<=x:=by
 have t:=r.lv.k.g.l;have i:w - 1 < s.aX.length:=by lia
 cases e:s.aX[w - 1]? with
 | none=>rw[List.getElem?_eq_none_iff] at e;lia
 | some o=>
  cases o with
  | none=>exact((r.lv.k.un w q G).mp e).elim (fun z=>absurd z f) fun z=>by lia
  | some x=>
   have Q:s.aX.getD (w - 1) none=some x:=by rw[ac6,e];rfl
   refine⟨x,Q,?_,r.lv.p _ _ e⟩;unfold bU;rw[Q]
theorem sX(r:Rc n m s)(A:g∈cN n):fits g (rows s)=true↔ ∀w,1<=w->w<=n->up g w∈bU s w:=by
 have H:=aL A;rw[iU (by rw[H,gb r])];constructor
 . intro h w q G;have:=h (w - 1) (by lia);rw[fE r (by lia),show w - 1+1=w by lia] at this;exact this
 . intro h i I;rw[fE r (by lia)];exact h (i+1) (by lia) (by lia)
theorem Jr(r:Rc n m s)(A:g∈cN n)(u:fits g (rows s)=true):ay.h.Good g s:=by
 have H:=aL A;have k:=r.lv.k;have u:=(sX r A).mp u;refine⟨by rw[k.g.l,H],⟨by have:=k.g.b;lia,by rw[H];have:=k.bl;lia,?_,fun x j=>?_,?_,fun w q F f=>?_,fun w q F f c G I e=>?_⟩,fun w q J=>?_⟩
 . unfold rp;rw[List.pairwise_reverse,List.pairwise_map];exact r.up.imp fun h=>ao7.mpr h
 . unfold rp at j;rw[List.mem_reverse,ab6] at j;obtain⟨y,a,rfl⟩:=j;have:=k.g.cg y a;have:=k.lt y a;lia
 . refine zX s.ag.length s.ag rfl r.up (fun x j=>(k.g.cg x j).1) fun x j=>?_;have B:=k.g.cg x j;have:=u x B.1 B.2;rw[nS r j] at this;rcases ab9.mp this with z | z
   . exact .inl z
   . exact .inr (ad0.mp z).1
 . have v:w=((w.toNat:Nat):Int):=by lia
   rw[v] at f ⊢;rw[dE] at f;obtain⟨x,_,e,L⟩:=uH r (w:=w.toNat) (by lia) (by have:=k.bl;lia) (by lia) f;have:=u w.toNat (by lia) (by have:=k.bl;lia);rw[e] at this;have:=ab1.mp this;unfold hI;rw[af0];lia
 . have v:w=((w.toNat:Nat):Int):=by lia
   have N:c=((c.toNat:Nat):Int):=by lia
   rw[v,dE] at f;have E:up g c.toNat=w.toNat:=by unfold hI at e;lia
   have o:=u c.toNat (by lia) (by lia);rw[E] at o;rw[N,dE];constructor
   . refine Decidable.byContradiction fun z=>?_;rw[yS r (by lia) (by lia) (by lia)] at o;rcases ad8.mp o with y | y
     . rcases ab9.mp y with y | y
       . lia
       . exact f y
     . have:=(ad0.mp (af8.mp y).1).1;lia
   . intro t;rw[nS r t] at o;rcases ab9.mp o with y | y
     . have R:=(rX (p:=s.ag) (i:=c.toNat) (by lia)).1;rw[<-y] at R;rcases ab9.mp R with z | z
       . lia
       . exact f z
     . have:=(ad0.mp y).1;lia
 . by_cases c:w < s.b/\w∉s.ag
   . rw[if_pos c];obtain⟨x,C,D,_⟩:=uH r q (by lia) c.1 c.2;have:=u w q (by lia);rw[D] at this;rw[C,ab1.mp this]
   . rw[if_neg c,ac6,(k.un w q (by lia)).mpr ?_]
     . rfl
     . by_cases d:w∈s.ag
       . exact .inl d
       . exact .inr (Nat.le_of_not_lt fun z=>c ⟨z,d⟩)
theorem fits_of(R:1<=n)(r:Rc n m s)(C:g∈cN n)(G:ay.h.Good g s):fits g (rows s)=true:=by
 have lg:=aL C;have k:=r.lv.k;have I:=G.inv;have S:=wB R C;have P:=wA C;obtain⟨f,F,T⟩:=sS S;have E: ∀w,1<=w->w<=n->up g w<=n:=fun w v H=>dJ C _ (ac8 (g9 v (by lia)));refine(sX r C).mpr fun w v H=>?_;have J:=E w v H;by_cases b:w < s.b
 . by_cases B:w∈s.ag
   . rw[nS r B];rcases I.ch.mem (dE.mpr B) with z | z | ⟨u,t,q,e,z⟩
     . -- the root:it is the bottom of the pile
       have z:up g w=0:=by rw[a9] at z;lia
       rw[z];obtain⟨W,pl⟩:=rX (p:=s.ag) (i:=w) v;rcases ab9.mp W with y | y
       . rw[y];exact ab4
       . exfalso;have U:s.ag≠ []:=fun y=>by rw[y] at B;cases B
         obtain⟨X,t0,A⟩:=List.exists_cons_of_ne_nil U;have N:=r.up;rw[A] at N;have Y: ∀x∈s.ag,X<=x:=fun x j=>by
          rw[A] at j;rcases ab9.mp j with e | e
          . lia
          . have:=(af5.mp N).1 x e;lia
         have D:X∈s.ag:=by rw[A];exact ab4
         have q0l:X < w:=by have:=Y _ y;lia
         have q0r:=k.g.cg X D;have q0b:=k.lt X D;rcases I.ch.mem (dE.mpr D) with a | a | ⟨u,t,q,e,a⟩
         . have:=T.one X w (by lia) (by lia) (by lia) (by lia) a (by rw[a9];lia);lia
         . have:=P w X (by lia) (by lia) (by lia) (by lia);have L:hI g w=0:=by rw[a9];lia
           rw[L] at this;exact this ⟨by lia,by lia,by lia⟩
         . have O:t∈rp s:=by rw[e];simp
           have Q:=I.inc;rw[e] at Q;have lt:t < (X:Int):=(af5.mp (ai0.mp Q).2.1).1 t ab4;have tr:=I.cg t O;have Z:t=((t.toNat:Nat):Int):=by lia
           rw[Z,dE] at O;have:=Y _ O;lia
     . have z:s.b<=up g w:=by rw[a9] at z;lia
       exact ab5 _ ((lN k.bl).mpr ⟨z,J⟩)
     . have O:t∈rp s:=by rw[e];simp
       have tr:=I.cg t O;have Z:t=((t.toNat:Nat):Int):=by lia
       have z:up g w=t.toNat:=by rw[a9] at z;lia
       rw[z];have A:s.ag=(q.map Int.toNat).reverse++ [t.toNat]++ [w]++(u.map Int.toNat).reverse:=by
        have:(rp s).reverse.map Int.toNat=s.ag:=by
         unfold rp;rw[List.reverse_reverse,ad6];exact List.map_id'' (fun x=>by simp) _
        rw[<-this,e];simp
       have N:=r.up;rw[A] at N;have l:=ai0.mp N;have o:=ai0.mp l.1;have:cH s.ag w=t.toNat:=by
        rw[A];unfold cH;have h3:=ai0.mp o.1;have c:((u.map Int.toNat).reverse.filter fun x=>decide (x < w))= []:=an5.mpr fun x j=>by
         have:=l.2.2 w (ac0 _ ab4) x j;intro y;have:=ae1 y;lia
        rw[<-al6,<-al6,<-al6,ai2,ai2,ai2,c];have d:=o.2.2 t.toNat (ac0 _ ab4) w ab4;rw[ag3];rw[show [w].filter (fun x=>decide (x < w))= [] by simp,show [t.toNat].filter (fun x=>decide (x < w))= [t.toNat] by simp [d],ag3];simp
       rw[this];exact ab4
   . have:=G.aX w v (by lia);rw[if_pos ⟨b,B⟩] at this;unfold bU;rw[this];exact ab4
 . rw[yS r v (by lia) H];by_cases M:up g w=0
   . rw[M];exact ae6 _ ab4
   . by_cases cb:up g w < s.b
     . refine ae6 _ (ab5 _ (Decidable.byContradiction fun V=>?_));have:=I.gI (up g w) (by lia) (by lia) (by rw[dE];exact V) w (by lia) (by lia) (a9);lia
     . refine ac0 _ (af8.mpr ⟨(lN k.bl).mpr ⟨by lia,J⟩,ab8 fun e=>?_⟩);rcases T.cg w (by lia) (by lia) with a | ⟨_,_,a⟩
       . rw[a9] at a;lia
       . have:hI g w=w:=by rw[a9];lia
         rw[this] at a;exact ag6 _ a
theorem yI(o:1<=n)(r:Rc n m s)(A:g∈cN n)(G:ay.h.Good g s)(D:dy s=false):lL s (toward g s)=true/\fA s (toward g s)=go g s/\ay.h.Good g (go g s):=by
 have H:=aL A;have t:=r.lv.k.g.l;obtain⟨f,F,T⟩:=sS (wB o A);have v:s.b<=g.length\/s.ag.length≠1:=by
  unfold dy at D;rw[Bool.not_eq_false',Bool.or_eq_true,ah3,ah3,t] at D;rwa [H]
 obtain⟨i,_,Y⟩:=G.step T (wA A) v;refine⟨?_,?_,i⟩
 . rcases Y with ⟨a,c,_⟩ | ⟨a,c,d,_⟩ | ⟨a,c,_⟩ <;> rw[a] <;> unfold lL
   . rw[show aV s=true from ab8 (by lia)];rfl
   . have : aI s = true := by
       unfold aI;rw[show aV s=true from ab8 (by lia)];cases e:s.ag with
       | nil=>exact absurd e c
       | cons x y=>rfl
     rw[this];simp
   . rw[show aJ s=true from ab8 (by lia)];simp
 . rcases Y with ⟨a,c,e⟩ | ⟨a,c,d,e⟩ | ⟨a,c,e⟩ <;> rw[a,e] <;> unfold fA
   . exact if_pos rfl
   . rw[if_neg (by decide),if_pos rfl]
   . rw[if_neg (by decide),if_neg (by decide)]
theorem j5(r:Rc n m s)(A:g∈cN n)(u:fits g (rows s)=true)(e:g0 w g=some a): ∃v,bE n w s=some v/\a<=v:=by
 have H:g0 (bA (rows s) w) g=some a:=by rw[fg r w (aL A),if_pos u];exact e
 have V:=lu n w s;generalize bE n w s=x at V ⊢;cases V with
 | no h=>rw[h g A] at H;cases H
 | yes v g2 m2 e2 b=>exact⟨v,rfl,b g A a H⟩
theorem qc(q:1<=n)(r:Rc n m s)(D:dy s=false)(h:bE n w s=some a): ∃Y,lL s Y=true/\eC n w s Y=some 0:=by
 have V:=lu n w s;rw[h] at V;cases V with
 | yes _ g mg e b=>
  rw[fg r w (aL mg)] at e;split at e
  . rename_i u;obtain⟨o,B,c⟩:=yI q r mg (Jr r mg u) D;have P:=r.step o;have x:fits g (rows (fA s (toward g s)))=true:=fits_of q P mg (by rw[B];exact c);obtain⟨v,p,N⟩:=j5 P mg x e;obtain⟨J,M,y⟩:=nz r o p;rw[h] at M;cases M;refine⟨toward g s,o,?_⟩;unfold eC;rw[h,p];show some (a - v)=some 0;rw[show a - v=0 by lia]
  . cases e
theorem ny:words h (k+1)=words h k++ [toward h (at_ h k)]:=by
 unfold words;rw[List.range_succ,ac5];rfl
theorem Cb(q:1<=n)(f: ∀i,w i i=none)(b:jX n w (some (a,g))): ∀k,k<=2*n - 1->Hm n (words g k) (at_ g k)/\ay.h.Good g (at_ g k)/\cC n w (first n) (words g k)=List.replicate k (some 0):=by
 cases b with
 | yes _ _ mg e b=>
  have H:=aL mg;have Q: ∀{m s},Rc n m s->ay.h.Good g s->bE n w s=some a:=fun{m s} r G=>by
   obtain⟨v,t,N⟩:=j5 r mg (fits_of q r mg G) e;have V:=lu n w s;rw[t] at V ⊢;cases V with
   | yes _ g2 m2 e2 b2=>
    rw[fg r w (aL m2)] at e2;split at e2
    . have:=b g2 m2 v e2;congr 1
      lia
    . cases e2
  intro k;induction k with
  | zero=>exact fun _=>⟨by unfold words;rw[at_,H];exact .nil,by rw[at_];exact Good.start,rfl⟩
  | succ k ih=>
   intro R;obtain⟨p,G,c⟩:=ih (by lia);have r:=p.rc;have Y:(words g k).length=k:=by unfold words;rw[aa4,ae2]
   have D:dy (at_ g k)=false:=by
    have:=gj r.lv q;rw[this,Y];exact ad1 (by lia)
   obtain⟨o,B,d⟩:=yI q r mg G D;have M:at_ g (k+1)=fA (at_ g k) (toward g (at_ g k)):=by rw[B];rfl
   refine⟨by rw[ny,M];exact p.snoc o,by rw[M,B];exact d,?_⟩;rw[ny,gP,c,p.go.2,List.replicate_succ'];congr 1
   unfold eC;rw[Q r G,Q (r.step o) (by rw[B];exact d)];show [some (a - a)]= [some 0]
   rw[Int.sub_self]
end ay.h
namespace ay
open PySem PySem.Spec L2 LB LD PyProof.Rows jW
def XC:DN:=fun o Q=> ∃(n m:Nat) (w:Nat->Nat->Wo) (s:St),o= [cE n w,s.dt]/\Rc n m s/\1<=n/\n<=12/\Sm w/\Q (AY (bestOf n (bA (rows s) w)))
def OR:DN:=fun o Q=> ∃(n m:Nat) (w:Nat->Nat->Wo) (s:St),o= [cE n w,s.dt]/\Rc n m s/\1<=n/\n<=12/\Sm w/\Q (bh (bE n w s))
def VQ:DN:=fun o Q=> ∃(n:Nat) (w:Nat->Nat->Wo) (h:List Nat),o= [cE n w,gn h]/\h.length=n/\(∀x∈h,x<=n)/\n<=60/\Q (bh (g0 w h))
theorem yL(s:Sm w):Sm (bA R w):=fun i o v e=>by
 unfold bA at e;split at e
 . exact s i o v e
 . cases e
section
variable{P:Program}{w:World}{K:PySem.W.Frag}{mg:Str->Option Value}{base:Heap}
theorem so(F:dj K "best_still" "best_still" jD f fd)(T:Txt mg)(u:cj P w K mg base "best_plain" 4 ["w"] (a0 vT))(t:cj P w K mg base "kept_to" 1 ["w","lists"] (a0 KJ))(v:cj P w K mg base "allowed" 2 ["stand"] (a0 Dw)):aK P w K mg base bD 5 f fd ["w","stand"] (a0 XC):=by
 refine iT F uE (fun p y h=>?_) (fun j A I s H E o=>⟨_,(aw (aC (aE u (o.mono (by decide)) (aa (aE t (o.mono (by decide)) (aa (dv 0) (aa (aE v (o.mono (by decide)) (aa (dv 1) ae)) ae))) ae)))),fun p y h=>?_⟩)
 . obtain⟨n,m,w,s,rfl,_⟩:=h;rfl
 . obtain⟨n,m,w,s,rfl,r,x,D,i,q⟩:=h;have C:(rows s).length=n:=by unfold rows;rw[aa4,ac4];exact r.lv.k.g.l
   refine⟨_,rfl,_,rfl,n,m,s,rfl,r,by lia,n,w,rows s,rfl,C,by lia,n,bA (rows s) w,rfl,x,by lia,yL i,fun z B=>?_⟩;rw[l6 B (jc n _)];exact q
theorem Ed(F:dj K "still" "still" wZ f fd)(T:Txt mg)(z:cj P w K mg base "best_still" 5 ["w","stand"] (a0 XC)):aK P w K mg base bD 6 f fd ["w","stand"] (a0 OR):=by
 refine iT F yN (fun o y h=>?_) (fun k A I s H E p=>⟨_,(aj (bY 2 yN.nd (aE z (p.mono (by decide)) (aa (dv 0) (aa (dv 1) ae))))
 (aw (aC (cS (gU (dv 2)) fG (cy (dv 2) aq))))),fun o y h=>?_⟩)
 . obtain⟨n,m,w,s,rfl,_⟩:=h;rfl
 . obtain⟨n,m,w,s,rfl,r,t,x,g,q⟩:=h;refine⟨_,rfl,_,rfl,n,m,w,s,rfl,r,t,x,g,⟨_,rfl,rfl⟩,?_⟩;unfold bE at q;generalize bestOf n (bA (rows s) w)=b at q ⊢;cases b with
   | none=>exact⟨_,rfl,true,rfl,cm q⟩
   | some b=>exact⟨_,rfl,false,rfl,aW ⟨_,rfl,_,_,_,.inr rfl,rfl,bw (j:=0) rfl,q⟩⟩
theorem A6(F:dj K "_law_worth" "_law_worth" kg f fd)(T:Txt mg):aK P w K mg base bD 1 f fd ["_law_w","_law_h"] (a0 VQ):=by
 refine iT F uD (fun o y h=>?_) (fun m A I s H E p=>⟨_,(aj (rP 2 uD.nd (N:= ["_law_row","_law_on"]) (nt:=2) (js:= []) ⟨rfl,by decide+kernel,by decide,rfl,by decide+kernel,(by show∀x∈(_:List (Str × NameKind)),x.2=NameKind.free->(ab kg).names.lookup x.1=some .cell\/(ab kg).names.lookup x.1=some .free;decide+kernel)⟩ rfl (qo (aa (dv 0) (aa (dv 1) ae)) fun z=>lD (by rfl) T.zip z) (fun _ _ _ _ _=>bP rfl (az (au (i:=0) (show(["_law_row","_law_on"]:List Str).Nodup by decide+kernel) rfl (by first | exact Or.inl rfl | exact Or.inr rfl)) (az (au (i:=1) (show(["_law_row","_law_on"]:List Str).Nodup by decide+kernel) rfl (by first | exact Or.inl rfl | exact Or.inr rfl)) bo))) aZ aR (fun _ _ _ _ _=>cu) (fun _ _ _ _ _=>(cy (dv 0) (dv 1))))
 (aw (ir 2 (aC (cS (wH fG (dv 2)) fG (FW rfl T.sum (aa (dv 2) ae))))))),fun o y h=>?_⟩)
 . obtain⟨n,w,h,rfl,_⟩:=h;rfl
 . obtain⟨n,w,h,rfl,l,k,G,q⟩:=h;subst l;refine⟨_,rfl,_,rfl,true,true,_,_,rfl,?_⟩;have t:(cD ((List.range' 1 h.length).map (cF h.length w)) (h.map xI)).length<=60:=by
    unfold cD;rw[al0,aa4,aa4,ac4];lia
   refine⟨ad9 t (by decide),fun _=>true,NK,fun d r=>?_,?_⟩
   . obtain⟨j,x,B,rfl⟩:=wu r;refine⟨_,_,rfl,⟨_,rfl,rfl⟩,⟨_,rfl,rfl⟩,rfl,fun _=>?_⟩;exact⟨_,rfl,_,rfl,_,_,_,.inr rfl,rfl,nU (k x B),by show bh (w j x)=(jh _ _).getD _;rw[nU (k x B)];rfl⟩
   . rw[ae9.mpr fun _ _=>rfl,qY k];have v:=rA (w:=w) (h:=h) (i:=1);rw[show g0 w h=eP w 1 h from rfl,<-v] at q;generalize List.zipWith w (List.range' 1 h.length) h=L at q ⊢;refine⟨⟨_,rfl,rfl⟩,_,rfl,_,rfl,_, .inl rfl,rfl,yA L,_,rfl,?_⟩;show if inD .aN (L.map bh)=true then _ else _
     rw[Kh];by_cases c:none∈L
     . rw[nE c] at q;exact eK (ab8 c) q
     . obtain⟨D,u,C⟩:=nF L c;rw[C] at q;refine dh (by rw[ad1 c];decide) ⟨_,rfl,D,?_,q⟩;rw[u,yz]
end
def zr:DN:=fun n Q=> ∃a b:Wo,n= [bh a,bh b]/\Q (bh (kC a b))
def tq:DN:=fun o Q=> ∃(n m:Nat) (w:Nat->Nat->Wo) (s:St) (st:Str),o= [cE n w,s.dt,.str st]/\Rc n m s/\1<=n/\n<=12/\Sm w/\lL s st=true/\Q (bh (eC n w s st))
section
variable{P:Program}{w:World}{K:PySem.W.Frag}{mg:Str->Option Value}{base:Heap}
theorem ID(F:dj K "lost" "lost" Dq f fd)(T:Txt mg):aK P w K mg base bD 1 f fd ["before","after"] (a0 zr):=by
 refine iT F LX (fun n y h=>?_) (fun j A I s H E m=>⟨_,(aj (c7 (PW.pt (w_or (gU (dv 0)) (mi (gU (dv 1)))))
 (aw (aC fG))
 bF)
 (aw (aC (di (dv 0) (dv 1))))),fun n y h=>?_⟩)
 . obtain⟨a,b,rfl,_⟩:=h;rfl
 . obtain⟨a,b,rfl,q⟩:=h;cases a with
   | none=>exact⟨_,rfl,true,rfl,cm (cm q)⟩
   | some a=>
    cases b with
    | none=>exact⟨_,rfl,false,rfl,aW ⟨_,rfl,true,rfl,cm q⟩⟩
    | some b=>exact⟨_,rfl,false,rfl,aW ⟨_,rfl,false,rfl,aW ⟨_,rfl,_,rfl,_,_,rfl,rfl,q⟩⟩⟩
theorem A8(F:dj K "cost" "cost" Ds f fd)(T:Txt mg)(u:cj P w K mg base "steps_from" 1 ["stand"] (a0 xu))(Q:cj P w K mg base "still" 6 ["w","stand"] (a0 OR))(D:cj P w K mg base "behind" 1 ["stand","word"] (a0 dN))(b:cj P w K mg base "lost" 1 ["before","after"] (a0 zr)):aK P w K mg base bD 7 f fd ["w","stand","step"] (a0 tq):=by
 refine iT F LY (fun v z h=>?_) (fun j A I s H E o=>⟨_,(aj (c7 (rB (dv 2) (aE u (o.mono (by decide)) (aa (dv 1) ae)))
 (aw rN)
 bF)
 (aw (aC (aE b (o.mono (by decide)) (aa (aE Q (o.mono (by decide)) (aa (dv 0) (aa (dv 1) ae))) (aa (aE Q (o.mono (by decide)) (aa (dv 0) (aa (aE D (o.mono (by decide)) (aa (dv 1) (aa (dv 2) ae))) ae))) ae)))))),fun v z h=>?_⟩)
 . obtain⟨n,m,w,s,Y,rfl,_⟩:=h;rfl
 . obtain⟨n,m,w,s,Y,rfl,r,p,B,i,c,q⟩:=h;have t:jm s:=r.lv.k.g.BF (by lia) (by have:=r.le p;lia);refine⟨_,rfl,_,rfl,s,rfl,t,_, .inl rfl,rfl,om,_,rfl,?_⟩;show if (!inD (.str Y) (eh s))=true then _ else _
   rw[sM,c];refine aW ⟨_,rfl,_,rfl,n,m,w,s,rfl,r,p,B,i,_,rfl,_,rfl,_,rfl,?_⟩;show dN [s.dt,.str Y] fun d=>OR [cE n w,d] fun x=>zr [bh (bE n w s),x] fun y=>z y;refine ia t c ?_;exact⟨n,m+1,w,fA s Y,rfl,.step r c,p,B,i,_,_,rfl,q⟩
end
theorem WY(x:Wo):eq2 (bh x) (.int 0)=some (decide (x=some 0)):=by
 cases x with
 | none=>rfl
 | some v=>
  show some (decide (v=0))=_;congr 1
  exact al2.mpr ⟨fun h=>by rw[h],fun h=>Option.some.inj h⟩
noncomputable def dw(n:Nat)(w:Nat->Nat->Wo)(s:St):List Str:=(sC s).filter fun Y=>decide (eC n w s Y=some 0)
def C9:DN:=fun o Q=> ∃(n m:Nat) (w:Nat->Nat->Wo) (s:St),o= [cE n w,s.dt]/\Rc n m s/\1<=n/\n<=12/\Sm w/\Q (.lst ((dw n w s).map .str))
noncomputable def sP(n:Nat)(w:Nat->Nat->Wo)(s:St):Dt->Bool
 | .str st=>decide (eC n w s st=some 0)
 | _=>false
section
variable{P:Program}{w:World}{K:PySem.W.Frag}{mg:Str->Option Value}{base:Heap}
theorem IB(F:dj K "sure_steps" "sure_steps" eW f fd)(T:Txt mg)(u:cj P w K mg base "steps_from" 1 ["stand"] (a0 xu))(e:cj P w K mg base "cost" 7 ["w","stand","step"] (a0 tq)):aK P w K mg base bD 8 f fd ["w","stand"] (a0 C9):=by
 refine iT F uB (fun v y h=>?_) (fun l A I s H E o=>⟨_,(aw (aC (Ov.ev (bB (N:= ["step","w","stand"]) (nt:=1) (js:= [0,1]) ⟨rfl,by decide+kernel,by decide,rfl,by decide+kernel,(by show∀x∈(_:List (Str × NameKind)),x.2=NameKind.free->(ab eW).names.lookup x.1=some .cell\/(ab eW).names.lookup x.1=some .free;decide+kernel)⟩ rfl (dH (aE u (o.mono (by decide)) (aa (dv 1) ae))) (fun _ _ _ _ _=>au (i:=0) (show(["step","w","stand"]:List Str).Nodup by decide+kernel) rfl (by first | exact Or.inl rfl | exact Or.inr rfl)) bf aO (fun _ _ _ _ _=>oP (wI (aE e (o.mono (by decide)) (aa (dv 1) (aa (dv 2) (aa (dv 0) ae)))) aq)) (fun _ _ _ _ _=>(dv 0)))))),fun v y h=>?_⟩)
 . obtain⟨n,m,w,s,rfl,_⟩:=h;rfl
 . obtain⟨n,m,w,s,rfl,r,p,D,j,q⟩:=h;have B:jm s:=r.lv.k.g.BF (by lia) (by have:=r.le p;lia);refine⟨_,rfl,s,rfl,B,_,rfl,?_⟩;have z:((eh s).filter (sP n w s)).map id=(dw n w s).map .str:=by
    rw[List.map_id,oj,ar5];rfl
   refine⟨ad9 sy (by decide),sP n w s,id,fun d t=>?_,?_⟩
   . rw[oj] at t;obtain⟨Y,C,rfl⟩:=ab6.mp t;have c:=kB.mp C;exact⟨⟨_,rfl,rfl⟩,_,rfl,_,rfl,_,rfl,n,m,w,s,Y,rfl,r,p,D,j,c,_,WY _,_,rfl,rfl,fun _=>⟨_,rfl,rfl⟩⟩
   . rw[z];exact q
end
def GF:DN:=fun o Q=> ∃(n:Nat) (ws:List Str),o= [nI n,.lst (ws.map .str)]/\1<=n/\n<=12/\ws.length<=100/\vk (first n) 0 ws=none/\Q (.lst ((Ao (first n) ws).map St.dt))
def wU:DN:=fun o Q=> ∃(n:Nat) (w:Nat->Nat->Wo) (ws:List Str),o= [cE n w,.lst (ws.map .str)]/\1<=n/\n<=12/\Sm w/\ws.length<=100/\vk (first n) 0 ws=none/\Q (.lst ((cC n w (first n) ws).map bh))
def AlI(n:Nat)(F:List Str)(i:Nat)(j:List Sl):Prop:= ∃(s:St) (acc:List St) (s3 s4:Sl),j= [.im (nI n),.im (.lst (F.map .str)),.ow ((acc++ [s]).map St.dt),s3,s4]/\s3.bz=false/\s4.bz=false/\Rc n i s/\acc.length=i/\acc++Ao s (F.drop i)=Ao (first n) F/\vk s i (F.drop i)=vk (first n) 0 F
open Classical in
noncomputable def vF(n:Nat)(w:Nat->Nat->Wo)(d:Dt):Dt:=if h: ∃s:St,d=s.dt then bh (bE n w h.choose) else .aN
theorem MK(h:oD a=oD b):a=b:=by
 cases a with
 | none=>cases b with
  | none=>rfl
  | some y=>cases h
 | some x=>cases b with
  | none=>cases h
  | some y=>
   injection h with h
   rw[Int.ofNat.inj h]
theorem NM{s t:St}(h:s.dt=t.dt):s=t:=by
 obtain⟨p,b,o⟩:=s;obtain⟨F,g,M⟩:=t;injection h with h
 injection h with h1 h
 injection h with h2 h
 injection h with h3 _
 injection h1 with h1
 injection h2 with h2
 injection h3 with h3
 have u:p=F:=(List.map_inj_right fun x y e=>by injection e with e;exact Int.ofNat.inj e).mp h1;have z:b=g:=Int.ofNat.inj h2;have W:o=M:=(List.map_inj_right fun x y e=>MK e).mp h3;rw[u,z,W]
theorem Kk(s:St):vF n w s.dt=bh (bE n w s):=by
 have h: ∃t:St,s.dt=t.dt:=⟨s,rfl⟩
 unfold vF;rw[dif_pos h,<-NM h.choose_spec]
noncomputable def LF:Dt->Wo
 | .int i=>some i
 | _=>none
theorem rh(x:Wo):LF (bh x)=x:=by cases x <;> rfl
noncomputable def lF:Dt->Dt
 | .tup [a,b]=>bh (kC (LF a) (LF b))
 | d=>d
theorem wz: ∀(ws:List Str) (s:St),(Ao s ws).length=ws.length+1
 | [],s=>rfl
 | st::ws,s=>by show(Ao (fA s st) ws).length+1=_;rw[wz ws];rfl
theorem Ki: ∀(ws:List Str) (s:St) (m i:Nat),Rc n m s->vk s i ws=none-> ∀t∈Ao s ws,∃k,Rc n k t
 | [],s,m,i,r,_,t,h=>by rw[ab1.mp h];exact⟨m,r⟩
 | st::ws,s,m,i,r,g,t,h=>by
  unfold vk at g;split at g
  . rename_i o;rcases ab9.mp h with z | z
    . rw[z];exact⟨m,r⟩
    . exact Ki ws _ _ _ (r.step o) g t z
  . cases g
theorem CI{A B:List Wo}:(cD (A.map bh) (B.map bh)).map lF=(List.zipWith kC A B).map bh:=by
 unfold cD;rw[aq6,List.map_zipWith,List.map_zipWith];congr 1
 funext a b
 show bh (kC (LF (bh a)) (LF (bh b)))=_;rw[rh,rh]
theorem BS{ds:List Dt}(h:a<=ds.length):LD.cutD ds (some (a:Int)) none=ds.drop a:=by
 unfold LD.cutD;rw[HT.ki,HT.fX,Nat.min_eq_left h,ap6 (by rw[an3];exact ab3 _)]
theorem JT{ds:List Dt}(g:b<=ds.length):LD.cutD ds none (some (b:Int))=ds.take b:=by
 unfold LD.cutD;rw[HT.fX,HT.ki,an1,Nat.sub_zero,Nat.min_eq_left g]
section
variable{P:Program}{w:World}{K:PySem.W.Frag}{mg:Str->Option Value}{base:Heap}
theorem En(F:dj K "stands_along" "stands_along" gA f fd)(T:Txt mg)(C:cj P w K mg base "first_stand" 1 ["n"] (a0 oO))(t:cj P w K mg base "steps_from" 1 ["stand"] (a0 xu))(D:cj P w K mg base "behind" 1 ["stand","word"] (a0 dN)):aK P w K mg base bD 3 f fd ["n","steps"] (a0 GF):=by
 refine iT F fM (fun v y h=>?_) (fun a A L s H E m=>⟨_,(aj (fN 2 fM.nd (jo (aa (aE C (m.mono (by decide)) (aa (dv 0) ae)) ae)))
 (aj (gW rfl (EO T.Ju (aa (dv 1) ae)) (lV 3 4 rfl fM.nd)
 (aj (c7 (rB (dv 4) (aE t (m.mono (by decide)) (aa (zM 2 (pv 2) (kO aq)) ae)))
 (aw rN)
 bF)
 (aw (dB (cK 2 (pv 2) (aa (aE D (m.mono (by decide)) (aa (zM 2 (pv 2) (kO aq)) (aa (dv 4) ae))) ae))))) ah4)
 (aw (ir 2 (aC (dv 2)))))),fun v y h=>?_⟩)
 . obtain⟨n,G,rfl,_⟩:=h;rfl
 . obtain⟨n,G,rfl,M,z,b,B,q⟩:=h;refine⟨_,rfl,n,rfl,M,by lia,by show 1<=sizeLine;decide,⟨_,rfl,rfl⟩,?_⟩;refine⟨_,rfl,_,rfl,?_⟩;refine cQ (AlI n G) ⟨first n,[], .no, .no,rfl,rfl,rfl, .zero,rfl,by rw[an1];rfl,by rw[an1]⟩ (fun i d V J R X S Z=>?_) (fun V R=>?_)
   . obtain⟨s,I,O,U,rfl,o,Y,g,j,u,e⟩:=R;rw[ac5];have p:i < G.length:=by
      have:=(ab0.mp J).1;unfold aM at this;rw[aj6,aa4] at this;exact this
     have x:d= .tup [nI i,.str G[i]]:=by
      unfold aM at J;rw[ai8,aa9,aa6 p] at J;injection J with J
      exact J.symm
     subst x;rw[List.drop_eq_getElem_cons p] at e u;have r:jm s:=g.lv.k.g.BF z (by lia);refine⟨_,_,rfl,⟨_,rfl,o⟩,⟨_,rfl,Y⟩,_,rfl,⟨_,rfl⟩,_,rfl,_,_,_,rfl,rfl,ox,s,rfl,r,_,.inl rfl,rfl,om,_,rfl,?_⟩;show if (!inD (.str G[i]) (eh s))=true then _ else _
     rw[sM];cases c:lL s G[i] with
     | false=>
      have Q:vk s i (G[i]::G.drop (i+1))=some i:=by unfold vk;rw[c];rfl
      rw[e,B] at Q;cases Q
     | true=>
      refine aW ⟨⟨_,rfl⟩,⟨_,rfl⟩,_,rfl,_,_,_,rfl,rfl,ox,_,rfl,?_⟩;show dN [s.dt,.str G[i]] fun d=>Gh 2 (fun _ l=>X.nx l) [d] [.im (nI n),.im (.lst (G.map .str)),.ow (I.map St.dt++ [s.dt]),.im (nI i),.im (.str G[i])];refine ia r c ?_;refine⟨_,_,rfl,rfl,?_,S _ ⟨fA s G[i],I++ [s],.im (nI i),.im (.str G[i]),?_,rfl,rfl,g.step c,by rw[ac1,j];rfl,?_,?_⟩⟩
      . rw[ac1,aa4,j];exact ae0 (show i+1 < 200 by lia) (by decide)
      . rw[ac5,ac5];rfl
      . rw[<-u,ag8];rfl
      . rw[<-e];conv=>rhs;unfold vk
        rw[if_pos c]
   . obtain⟨s,I,O,U,rfl,o,Y,g,j,u,e⟩:=R;have N:(aM 0 (G.map Dt.str)).length=G.length:=by unfold aM;rw[aj6,aa4]
     rw[N,List.drop_length] at e u;rw[show I++ [s]=Ao (first n) G from u];exact⟨_,rfl,_,rfl,q⟩
theorem Ee(F:dj K "slips" "slips" nP f fd)(T:Txt mg)(D:cj P w K mg base "stands_along" 3 ["n","steps"] (a0 GF))(Q:cj P w K mg base "still" 6 ["w","stand"] (a0 OR))(e:cj P w K mg base "lost" 1 ["before","after"] (a0 zr)):
  aK P w K mg base bD 7 f fd ["w","steps"] (a0 wU):=by
 refine iT F yO (fun v y h=>?_) (fun l A I s H E o=>⟨_,(aj (rP 2 yO.nd (N:= ["stand","w"]) (nt:=1) (js:= [0]) ⟨rfl,by decide+kernel,by decide,rfl,by decide+kernel,(by repeat (first | exact rG | refine mS (by first | exact Or.inl rfl | exact Or.inr rfl) ?_ | refine mT (fun z=>nomatch z) ?_))⟩ rfl (dH (aE D (o.mono (by decide)) (aa (cv T.len (aa (dv 0) ae)) (aa (dv 1) ae)))) (fun _ _ _ _ _=>au (i:=0) (show(["stand","w"]:List Str).Nodup by decide+kernel) rfl (by first | exact Or.inl rfl | exact Or.inr rfl)) bf aO (fun _ _ _ _ _=>cu) (fun _ _ _ _ _=>(aE Q (o.mono (by decide)) (aa (dv 1) (aa (dv 0) ae)))))
 (aw (ir 2 (aC (Ov.ev (bB (N:= ["before","after"]) (nt:=2) (js:= []) ⟨rfl,by decide+kernel,by decide,rfl,by decide+kernel,(by show∀x∈(_:List (Str × NameKind)),x.2=NameKind.free->(ab nP).names.lookup x.1=some .cell\/(ab nP).names.lookup x.1=some .free;decide+kernel)⟩ rfl (qo (aa (dv 2) (aa (K7 (dv 2) (n6 aq) n8) ae)) fun z=>lD (by rfl) T.zip z) (fun _ _ _ _ _=>bP rfl (az (au (i:=0) (show(["before","after"]:List Str).Nodup by decide+kernel) rfl (by first | exact Or.inl rfl | exact Or.inr rfl)) (az (au (i:=1) (show(["before","after"]:List Str).Nodup by decide+kernel) rfl (by first | exact Or.inl rfl | exact Or.inr rfl)) bo))) aZ aR (fun _ _ _ _ _=>cu) (fun _ _ _ _ _=>(aE e (o.mono (by decide)) (aa (dv 0) (aa (dv 1) ae)))))))))),fun v y h=>?_⟩)
 . obtain⟨n,w,G,rfl,_⟩:=h;rfl
 . obtain⟨n,w,G,rfl,p,u,k,Y,g,q⟩:=h;have J:(List.map (cF n w) (List.range' 1 n)).length=n:=by rw[aa4,ac4]
   refine⟨_,rfl,_,.inr rfl,_,rfl,n,G,by rw[J],p,u,Y,g,_,rfl,?_,fun _=>true,vF n w,fun d t=>?_,⟨_,rfl,rfl⟩,?_⟩
   . rw[aa4,wz];exact ad9 (show G.length+1<=101 by lia) (by decide)
   . obtain⟨s,C,rfl⟩:=ab6.mp t;obtain⟨m,r⟩:=Ki G _ _ _ .zero g s C;refine⟨⟨_,rfl,rfl⟩,rfl,fun _=>⟨_,rfl,_,rfl,n,m,w,s,rfl,r,p,u,k,(Kk s).symm⟩⟩
   . have B : ((List.map St.dt (Ao (first n) G)).filter fun _ => true).map (vF n w) = ((Ao (first n) G).map (bE n w)).map bh := by
       rw[ae9.mpr fun _ _=>rfl,ad6,ad6];exact ad4 fun s _=>Kk s
     rw[B];generalize eA:(Ao (first n) G).map (bE n w)=A;have O:A.length=G.length+1:=by rw[<-eA,aa4,wz]
     have L:LD.cutD (A.map bh) (some 1) none=A.tail.map bh:=by
      rw[show(some 1:Option Int)=some ((1:Nat):Int) from rfl,BS (by rw[aa4];lia),List.drop_one,List.map_tail]
     have c:=vM (n:=n) (w:=w) G (first n);rw[eA] at c;refine⟨_,rfl,_,rfl,_,rfl,_,rfl,_,rfl,?_⟩;rw[L];have M:(cD (A.map bh) (A.tail.map bh)).length<=101:=by
      unfold cD;rw[al0,aa4];lia
     refine⟨false,false,_,_,rfl,ad9 M (by decide),fun _=>true,lF,fun d t=>?_,?_⟩
     . unfold cD at t;rw[aq6] at t;obtain⟨j,V⟩:=List.getElem?_of_mem t;rw[ak4] at V;split at V
       . cases V;rename_i a b _ _;refine⟨_,_,rfl,⟨_,rfl,rfl⟩,⟨_,rfl,rfl⟩,rfl,fun _=>⟨_,rfl,_,rfl,a,b,rfl,?_⟩⟩;show bh (kC a b)=bh (kC (LF (bh a)) (LF (bh b)));rw[rh,rh]
       . cases V
     . rw[ae9.mpr fun _ _=>rfl,CI,c];exact q
end
end ay
namespace LD
open PySem PySem.Spec L2 LB PyProof.Rows LW
theorem dM{M:dX}(Q:List Sl->Prop)(h: ∀W:dX,(∀j,Q j->W.nx j)->(∀d j,M.rt d j->W.rt d j)->T W δ)(fin: ∀j,Q j->R M j):R7 T R M δ:=h _ fin fun _ _ z=>z
end LD
namespace ay
open PySem PySem.Spec L2 LB LD PyProof.Rows
noncomputable def lx(hs:List Nat)(w:Nat):Nat:=hs.getD (w - 1) 0
theorem ra{hs:List Nat}(f:1<=w)(g:w<=hs.length):hs[w - 1]?=some (lx hs w):=by
 unfold lx List.getD;rw[aa6 (by lia)];rfl
theorem W0(hs:List Nat):aM 1 (hs.map nI)=(List.range' 1 hs.length).map fun x=> .tup [nI x,nI (lx hs x)]:=by
 refine aj3 fun i=>?_;unfold aM;rw[ai8,aa9,aa9];by_cases I:i < hs.length
 . have:=ra (hs:=hs) (w:=i+1) (by lia) (by lia);rw[as0] at this;rw[this,ah2 (by lia)];show some _=some _;rw[show 1+1*i=i+1 by lia]
 . rw[ag1 (by lia),ag1 (by rw[ac4];lia)];rfl
noncomputable def UO(hs:List Nat)(x:Nat):Nat × Nat:=(min x (lx hs x),max x (lx hs x))
noncomputable def kP(p q:Nat × Nat):Bool:=decide (p.1 < q.1) && (decide (q.1 < p.2) && decide (p.2 < q.2))
noncomputable def eS(hs:List Nat):List (Nat × Nat):=(List.range' 1 hs.length).map (UO hs)
noncomputable def Qo(hs:List Nat):Bool:=(eS hs).all fun p=>((eS hs).filter (kP p)).isEmpty
def iI:DN:=fun n Q=> ∃A:List Nat,n= [nD A]/\A.length<=12/\Q (.bl (Qo A))
noncomputable def aU:Dt->Nat × Nat
 | .tup [.int a,.int b]=>(a.toNat,b.toNat)
 | _=>(0,0)
theorem bK:aU (dq p)=p:=by
 show(((p.1:Nat):Int).toNat,((p.2:Nat):Int).toNat)=p;rw[af0,af0]
theorem m6{α v:Type}{f:α->v}{L:List α}:(L.map f).isEmpty=L.isEmpty:=by cases L <;> rfl
theorem AA:(eS hs).length=hs.length:=by unfold eS;rw[aa4,ac4]
section
variable{P:Program}{w:World}{K:PySem.W.Frag}{mg:Str->Option Value}{base:Heap}
def Oy(hs:List Nat)(i:Nat)(j:List Sl):Prop:= ∃v t,j= [.im (nD hs),.im (.lst ((eS hs).map dq)),v,t]/\v.bz=false/\t.bz=false/\ ∀p∈(eS hs).take i,(eS hs).filter (kP p)= []
theorem uQ(F:dj K "_law_is_plain" "_law_is_plain" dD f fd)(T:Txt mg):aK P w K mg base bD 1 f fd ["_law_h"] (a0 iI):=by
 refine iT F jA (fun n D h=>?_) (fun bq A I s H E m=>⟨_,(aj (rP 1 jA.nd (N:= ["_law_word","_law_on"]) (nt:=2) (js:= []) ⟨rfl,by decide+kernel,by decide,rfl,by decide+kernel,(by show∀x∈(_:List (Str × NameKind)),x.2=NameKind.free->(ab dD).names.lookup x.1=some .cell\/(ab dD).names.lookup x.1=some .free;decide+kernel)⟩ rfl (Jc T.Ju (aa (dv 0) (aa aq ae))) (fun _ _ _ _ _=>bP rfl (az (au (i:=0) (show(["_law_word","_law_on"]:List Str).Nodup by decide+kernel) rfl (by first | exact Or.inl rfl | exact Or.inr rfl)) (az (au (i:=1) (show(["_law_word","_law_on"]:List Str).Nodup by decide+kernel) rfl (by first | exact Or.inl rfl | exact Or.inr rfl)) bo))) aZ aR (fun _ _ _ _ _=>cu) (fun _ _ _ _ _=>(bL (aa (FY rfl T.min (aa (dv 0) (aa (dv 1) ae))) (aa (FZ rfl T.max (aa (dv 0) (aa (dv 1) ae))) ae)))))
 (aj (ir 1 (gW rfl (dH (dv 1)) (lV 2 3 rfl jA.nd)
 (aw (c7 (C3 m.nC (Ov.ev (bB (N:= ["_law_c","_law_d","_law_a","_law_b"]) (nt:=2) (js:= [2,3]) ⟨rfl,by decide+kernel,by decide,rfl,by decide+kernel,(by show∀x∈(_:List (Str × NameKind)),x.2=NameKind.free->(ab dD).names.lookup x.1=some .cell\/(ab dD).names.lookup x.1=some .free;decide+kernel)⟩ rfl (dH (dv 1)) (fun _ _ _ _ _=>bP rfl (az (au (i:=0) (show(["_law_c","_law_d","_law_a","_law_b"]:List Str).Nodup by decide+kernel) rfl (by first | exact Or.inl rfl | exact Or.inr rfl)) (az (au (i:=1) (show(["_law_c","_law_d","_law_a","_law_b"]:List Str).Nodup by decide+kernel) rfl (by first | exact Or.inl rfl | exact Or.inr rfl)) bo))) aZ aR (fun _ _ _ _ _=>oP (Px (dv 2) (dv 0) (dv 3) (dv 1))) (fun _ _ _ _ _=>(dv 0)))))
 (aw (aC jg))
 bF)) ah4))
 (aw (aC jg)))),fun n D h=>?_⟩)
 . obtain⟨B,rfl,_⟩:=h;rfl
 . obtain⟨B,rfl,Hi,q⟩:=h;have S:(aM 1 (B.map nI)).length=B.length:=by rw[W0,aa4,ac4]
   refine⟨_,rfl,_,rfl,by rw[S];exact small (by lia),fun _=>true,fun d=>dq (min (aU d).1 (aU d).2,max (aU d).1 (aU d).2),fun d t=>?_,?_⟩
   . rw[W0] at t;obtain⟨x,_,rfl⟩:=ab6.mp t;refine⟨_,_,rfl,⟨_,rfl,rfl⟩,⟨_,rfl,rfl⟩,rfl,fun _=>⟨_,rfl,_,rfl,_,_,rfl,_,rfl,_,rfl,_,_,rfl,by show 2<=sizeLine;decide,?_⟩⟩;show Dt.tup [.int (min (x:Int) (lx B x:Int)),.int (max (x:Int) (lx B x:Int))]=dq (min (aU (dq (x,lx B x))).1 (aU (dq (x,lx B x))).2,max (aU (dq (x,lx B x))).1 (aU (dq (x,lx B x))).2);rw[bK,show min (x:Int) (lx B x:Int)=((min x (lx B x):Nat):Int) by grind,show max (x:Int) (lx B x:Int)=((max x (lx B x):Nat):Int) by grind];rfl
   have Q:(List.map (fun x=>Dt.tup [nI x,nI (lx B x)]) (List.range' 1 B.length)).map (fun d=>dq (min (aU d).1 (aU d).2,max (aU d).1 (aU d).2))=(eS B).map dq:=by
    unfold eS;rw[ad6,ad6];refine ad4 fun x _=>?_;show dq (min (aU (dq (x,lx B x))).1 (aU (dq (x,lx B x))).2,max (aU (dq (x,lx B x))).1 (aU (dq (x,lx B x))).2)=_;rw[bK];rfl
   rw[ae9.mpr (fun _ _=>rfl),W0,Q];refine⟨⟨_,rfl,rfl⟩,⟨_,rfl,?_⟩⟩;refine⟨_,rfl,_,rfl,cQ (Oy B) ⟨_,_,rfl,rfl,rfl,fun p u=>absurd u aa8⟩ (fun i d o J R a V l=>?_) (fun o R=>?_)⟩
   . obtain⟨Y,Z,rfl,v,g,y⟩:=R;rw[aa9] at J;obtain⟨p,C,rfl⟩:=ai3.mp J;refine⟨_,_,rfl,⟨_,rfl,v⟩,⟨_,rfl,g⟩,?_⟩;refine⟨_,rfl,_,rfl,by rw[aa4,AA];exact small (by lia),fun e=>kP p (aU e),fun e=>nI (aU e).1,fun d t=>?_,?_⟩
     . obtain⟨r,sO,rfl⟩:=ab6.mp t;refine⟨_,_,rfl,⟨_,rfl,rfl⟩,⟨_,rfl,rfl⟩,⟨_,rfl,_,rfl,_,_,rfl,rfl,?_⟩⟩;have X:(fun e=>kP p (aU e)) (dq r)=kP p r:=by show kP p (aU (dq r))=_;rw[bK]
       have M:(fun e=>nI (aU e).1) (dq r)=nI r.1:=by show nI (aU (dq r)).1=_;rw[bK]
       rw[X,M];by_cases j:p.1 < r.1
       . refine eK (by grind) ⟨_,rfl,_,rfl,?_⟩;by_cases k:r.1 < p.2
         . refine eK (by grind) ⟨_,rfl,_,rfl,_,rfl,?_,fun _=>⟨_,rfl,rfl⟩⟩;unfold kP;rw[ab8 j,ab8 k];exact al2.mpr (by grind)
         . refine dh (by grind) ⟨_,rfl,?_,fun _=>⟨_,rfl,rfl⟩⟩;unfold kP;rw[ad1 k];simp
       . refine dh (by grind) ⟨_,rfl,?_,fun _=>⟨_,rfl,rfl⟩⟩;unfold kP;rw[ad1 j];simp
     . refine⟨_,rfl,?_⟩;rw[m6];have O:(((eS B).map dq).filter fun e=>kP p (aU e))=((eS B).filter (kP p)).map dq:=by
        rw[ar5];congr 1
       rw[O,m6];have U:p∈eS B:=ac8 C;by_cases c:(eS B).filter (kP p)= []
       . rw[c];refine⟨_,rfl,aW ?_⟩;refine V _ ⟨_,_,rfl,rfl,rfl,fun G b=>?_⟩;rw[List.take_succ,C] at b;rcases ad8.mp b with z | z
         . exact y G z
         . have:G=p:=by simpa using z
           rw[this];exact c
       . have L:(!((eS B).filter (kP p)).isEmpty)=true:=by simpa [aq8] using c
         rw[if_pos rfl,L];refine⟨_,rfl,cm ?_⟩;have:Qo B=false:=by
          rw[aq0];intro z;have:=af6.mp z p U;exact c (aq8.mp this)
         rw[this] at q;exact l _ _ q
   . obtain⟨Y,Z,rfl,v,g,y⟩:=R;have:Qo B=true:=by
      refine af6.mpr fun p u=>?_;rw[aq8];refine y p ?_;rw[aa4,al5];exact u
     rw[this] at q;exact q
end
noncomputable def Cy(hs:List Nat):Nat->Nat->Bool
 | 0,_=>true
 | k+1,x=>if lx hs x=0 then false else Cy hs k (lx hs x)
noncomputable def Ji(hs:List Nat):Bool:=decide (hs.count 0=1) && (List.range' 1 hs.length).all fun v=>!Cy hs (hs.length+1) v
def zy:DN:=fun n Q=> ∃A:List Nat,n= [nD A]/\A.length<=12/\(∀x∈A,x<=A.length)/\Q (.bl (Ji A))
theorem BV(g:List Nat):(g.map nI).countP (fun e=>zE e (.int 0))=g.count 0:=by
 rw[List.countP_map,List.count];refine List.countP_congr fun x _=>?_;show((x:Int)==0)=true↔(x==0)=true;rw[ai7,ai7];lia
inductive HgI(hs:List Nat)(i:Nat)(δ:List Sl):Prop
 | mk (s1 s2 s3:Sl) (e:δ= [.im (nD hs),s1,s2,s3]) (b1:s1.bz=false) (b2:s2.bz=false) (b3:s3.bz=false) (no: ∀v∈(List.range' 1 hs.length).take i,Cy hs (hs.length+1) v=false)
inductive HwI(hs:List Nat)(v m:Nat)(δ:List Sl):Prop
 | mk (x s:Nat) (e:δ= [.im (nD hs),.im (nI v),.im (nI x),.im (nI s)]) (h:s+m=hs.length+1) (x1:1<=x) (x2:x<=hs.length) (c:Cy hs m x=Cy hs (hs.length+1) v)
section
variable{P:Program}{w:World}{K:PySem.W.Frag}{mg:Str->Option Value}{base:Heap}
theorem sj(F:dj K "_law_is_hanging" "_law_is_hanging" iy f fd)(T:Txt mg):aK P w K mg base bD 1 f fd ["_law_h"] (a0 zy):=by
 refine iT F eF (fun Y V h=>?_) (fun bq A I s H E hr=>⟨_,(aj (c7 (uu (JE (dv 0) (aa aq ae)) aq)
 (aw (aC jg))
 bF)
 (aj (gW rfl (gH T.cg (aa aq (aa (cM (cv T.len (aa (dv 0) ae)) aq) ae))) (iP 1 eF.nd)
 (aj (nN 2 3 rfl eF.nd (mK (dv 1) (mK aq qt)))
 (aj (yR (PW.pt (w_and (uu (cy (dv 0) (di (dv 2) aq)) aq) (jz (Pz (dv 3) (cv T.len (aa (dv 0) ae))))))
 (aw (nN 2 3 rfl eF.nd (mK (cy (dv 0) (di (dv 2) aq)) (mK (cM (dv 3) aq) qt)))) ah4)
 (aw (c7 (LP (dv 3) (cv T.len (aa (dv 0) ae)))
 (aw (aC jg))
 bF)))) ah4)
 (aw (aC jg)))),fun Y V h=>?_⟩)
 . obtain⟨B,rfl,_⟩:=h;rfl
 . obtain⟨B,rfl,Hi,g,q⟩:=h;have C:(B.map nI).length=B.length:=aa4 _;refine⟨_,rfl,⟨_,rfl⟩,_,_,rfl,rfl,rfl,af6.mpr fun d hd=>by obtain⟨x,_,rfl⟩:=ab6.mp hd;rfl,_,rfl,_,rfl,?_⟩;rw[BV];by_cases L:B.count 0=1
   case neg=>
    refine eK (by rw[ad1 (by lia)];rfl) ?_;have:Ji B=false:=by unfold Ji;rw[ad1 L];rfl
    rw[this] at q;exact q
   refine dh (by rw[ab8 (by lia)];exact ac3) ?_;refine⟨_,rfl,_,.inr rfl,_,_,rfl,rfl,1,((B.map nI).length:Int)+1,rfl,⟨by decide,by decide,by lia,by lia⟩,?_⟩;rw[C,show((B.length:Int)+1 - 1).toNat=B.length by lia,L8];refine cQ (HgI B) ⟨.no,.no,.no,rfl,rfl,rfl,rfl,fun v e=>absurd e aa8⟩ (fun i d t N S X pA Q=>?_) (fun t S=>?_)
   . obtain⟨s1,s2,s3,rfl,U,J,l,D⟩:=S;rw[aa9] at N;obtain⟨v,j,rfl⟩:=ai3.mp N;have e:=ac8 j;rw[ad0] at e;refine⟨⟨_,rfl,U⟩,_,rfl,_,_,rfl,⟨_,rfl,J⟩,⟨_,rfl,l⟩,?_⟩;refine pY (HwI B v) ⟨B.length+1,v,0,rfl,Nat.zero_add _,by lia,by lia,rfl⟩ fun m t b Δ2 O _=>?_;obtain⟨x,s,rfl,sm,n,p,c⟩:=b;have M:jh (B.map nI) ((x:Int) - 1)=some (nI (lx B x)):=Ac n (by rw[aa9,ra n p];rfl);have r: ∀{Δ3:dX},(m=0->Δ3.rt (.bl false) [.im (nD B), .im (nI v), .im (nI x), .im (nI s)])->(m≠0->Δ3.nx [.im (nD B), .im (nI v), .im (nI x), .im (nI s)])->if decide ((s:Int) > (B.length:Nat))=true then Δ3.rt (.bl false) [.im (nD B), .im (nI v), .im (nI x), .im (nI s)] else Δ3.nx [.im (nD B), .im (nI v), .im (nI x), .im (nI s)]:=fun Z a=>by
      by_cases z:m=0
      . rw[if_pos (ab8 (by lia))];exact Z z
      . rw[if_neg (by rw[ad1 (by lia)];exact ac3)];exact a z
     have R:m=0->X.rt (.bl false) [.im (nD B),.im (nI v),.im (nI x),.im (nI s)]:=fun z=>by
      subst z;have:Ji B=false:=by
       unfold Ji;rw[Bool.and_eq_false_iff];refine .inr (List.all_eq_false.mpr ⟨v,ad0.mpr e,?_⟩);rw[<-c];exact ac3
      rw[this] at q;exact Q _ _ q
     refine⟨_,rfl,_,rfl,_,_,rfl,rfl,_,_,_,.inr rfl,rfl,M,_,rfl,_,rfl,?_⟩;have fin:(m≠0->Cy B m x=false)->(m≠0->X.nx [.im (nD B),.im (nI v),.im (nI x),.im (nI s)]):=fun z z0=>pA _ ⟨_,_,_,rfl,rfl,rfl,rfl,fun u o=>by
      rw[List.take_succ,j] at o;rcases ad8.mp o with y | y
      . exact D u y
      . have:u=v:=by simpa using y
        rw[this,<-c];exact z z0⟩
     by_cases G:lx B x=0
     . rw[G];refine aW (aW ?_);refine⟨_,rfl,_,rfl,_, .inr rfl,_,_,rfl,rfl,_,rfl,?_⟩;rw[C];refine r R (fin fun z=>?_);obtain⟨k,rfl⟩: ∃k,m=k+1:=⟨m - 1,by lia⟩
       unfold Cy;rw[if_pos G]
     . refine eK (by rw[ad1 (by show¬((lx B x:Nat):Int)=0;lia)];rfl) ⟨_,rfl,_,rfl,_, .inr rfl,_,_,rfl,rfl,_,rfl,?_⟩;rw[C];by_cases z:m=0
       . refine dh (by rw[ad1 (by lia)];exact ac3) ?_;refine⟨_,rfl,_,rfl,_,.inr rfl,_,_,rfl,rfl,_,rfl,?_⟩;rw[C];exact r R fun y=>absurd z y
       . refine eK (ab8 (by lia)) ?_;refine⟨_,rfl,_,rfl,_,_,rfl,rfl,_,_,_, .inr rfl,rfl,M,_,rfl,_,_,rfl,rfl,_,_,rfl,⟨_,rfl,rfl⟩,⟨_,rfl,rfl⟩,?_⟩;refine O (m - 1) _ (by lia) ⟨lx B x,s+1,rfl,by lia,by lia,g _ (ac8 (ra n p)),?_⟩;obtain⟨k,rfl⟩: ∃k,m=k+1:=⟨m - 1,by lia⟩
         rw[<-c];show Cy B k _=Cy B (k+1) x;rw[Cy,if_neg G]
   . obtain⟨s1,s2,s3,rfl,U,J,l,D⟩:=S;have:Ji B=true:=by
      unfold Ji;rw[ab8 L,Bool.true_and];refine af6.mpr fun v e=>?_;rw[D v (by rw[aa4,al5];exact e)];rfl
     rw[this] at q;exact q
end
end ay
namespace ay
open PySem PySem.Spec L2 LB LD MH PyProof.Rows jW
theorem ux(m:bC k A)(h:j<=50:=by decide):A.units+(j+1) < cLine:=by have:=m.un;lia
theorem Hw(m:g∈cN n):Qo g=true:=by
 have s:=p5 m;have d: ∀p∈eS g,p∈oB 1 g:=fun p r=>by
  obtain⟨x,i,rfl⟩:=ab6.mp r;have:=ad0.mp i;exact ay.h.sI (g:=g) (v:=x) (by lia) (by lia)
 unfold Qo;refine af6.mpr fun p r=>?_;rw[aq8,an5];intro q Q c;unfold kP at c;rw[ae3,ae3,ah3,ah3,ah3] at c;exact s p (d p r) q (d q Q) c
theorem Gi: ∀(k K x:Nat),oE g (k+1) x=0->(∀j,j < k+1->oE g j x≠0)->k+1<=K->Cy g K x=false
 | k,0,x,_,_,h=>by lia
 | k,K+1,x,h0,hj,h=>by
  unfold Cy;by_cases c:lx g x=0
  . rw[if_pos c]
  . rw[if_neg c];cases k with
    | zero=>exact absurd h0 c
    | succ k=>exact Gi k K _ h0 (fun j w=>hj (j+1) (by lia)) (by lia)
theorem Hx(m:g∈cN n):Ji g=true:=by
 have l:=aL m;unfold Ji;rw[ae3,ah3];refine⟨uP m,af6.mpr fun v c=>?_⟩;have:=ad0.mp c;obtain⟨k,T,h,E⟩:=CS m (v:=v) (by lia) (by lia);cases k with
 | zero=>have:v=0:=h;lia
 | succ k=>
  rw[Gi k (g.length+1) v h (fun j V=>by have:=E j V;lia) (by lia)];rfl
theorem AE(h:bE n w s=none):dw n w s= []:=by
 unfold dw;refine an5.mpr fun Y _ c=>?_;have:=ae1 c;unfold eC at this;rw[h] at this;cases this
theorem vw: ∀{k:Nat} {d e:Dt},GH k d e->d=e->vz k d e=true:=fun{k d e} h=>by
 induction h with
 | flat f1 f2=>
  intro z;subst z;rw[vy f1 f2];rename_i d;cases d <;> first | (cases f1;done) | rfl | exact ab8 rfl | exact aj8 _ | simp [zE,eq2]
 | @tup k ds es h ih=>
  intro z;injection z with z
  subst z;show((List.range (min ds.length ds.length)).all (fun j=>vz k (ds.getD j .aN) (ds.getD j .aN)) && ds.length==ds.length)=true;rw[ae3,af6];refine⟨fun j V=>?_,aj8 _⟩;have V:=af9.mp V;have w:j < ds.length:=by lia
  rw[ac6,aa6 w];exact ih j _ _ (aa6 w) (aa6 w) rfl
 | @lst k ds es h ih=>
  intro z;injection z with z
  subst z;show((List.range (min ds.length ds.length)).all (fun j=>vz k (ds.getD j .aN) (ds.getD j .aN)) && ds.length==ds.length)=true;rw[ae3,af6];refine⟨fun j V=>?_,aj8 _⟩;have V:=af9.mp V;have w:j < ds.length:=by lia
  rw[ac6,aa6 w];exact ih j _ _ (aa6 w) (aa6 w) rfl
theorem Dg:GH 1 (gn g) (gn g):= .tup fun j d e f h=>by
 rw[aa9] at f h;obtain⟨x,_,rfl⟩:=ai3.mp f;obtain⟨y,_,rfl⟩:=ai3.mp h;exact .flat rfl rfl
theorem uz:GH 2 (AY (some (v,g))) (AY (some (v,g))):= .tup fun j d e f h=>by
 match j with
 | 0=>cases f;cases h;exact .flat rfl rfl
 | 1=>cases f;cases h;exact Dg
 | j+2=>cases f
def BrI(n:Nat)(w:Nat->Nat->Wo)(s:St)(v:Int)(g:List Nat)(i:Nat)(j:List Sl):Prop:= ∃X D:Sl,j= [.im (cE n w),.im s.dt,.im (AY (some (v,g))),.im (.int v),.im (gn g),.ow ((List.range' 1 i).map (cF n (bA (rows s) w))),X,D]/\X.bz=false/\D.bz=false
theorem Ak{R:List (List Nat)}(h:(cD ((List.range' 1 n).map (cF n w)) (R.map lsN))[i]?=some d): ∃r,R.getD i []=r/\i < n/\i < R.length/\d= .tup [cF n w (i+1),lsN r]:=by
 unfold cD at h;rw[aq6,ak4] at h;split at h
 . rename_i a b e c;cases h;have j:=(ab0.mp e)
   have t:=(ab0.mp c)
   obtain⟨j,M⟩:=j;rw[ac4] at j;refine⟨b,by rw[ac6,c];rfl,j,t.1,?_⟩;rw[<-M,List.getElem_range',show 1+1*i=i+1 by lia]
 . cases h
def GA:DN:=fun o Q=> ∃(n m:Nat) (w:Nat->Nat->Wo) (s:St),o= [cE n w,s.dt]/\Rc n m s/\1<=n/\n<=12/\Sm w/\Q (.bl true)
section
variable{P:Program}{w:World}{K:PySem.W.Frag}{mg:Str->Option Value}{base:Heap}
theorem El(F:dj K "_law_best_right" "_law_best_right" dR f fd)(T:Txt mg)(jU:cj P w K mg base "best_still" 5 ["w","stand"] (a0 XC))(Q:cj P w K mg base "still" 6 ["w","stand"] (a0 OR))(jT:cj P w K mg base "sure_steps" 8 ["w","stand"] (a0 C9))(L:cj P w K mg base "allowed" 2 ["stand"] (a0 Dw))(cW:cj P w K mg base "best_plain" 4 ["w"] (a0 vT))(tP:cj P w K mg base "_law_worth" 1 ["_law_w","_law_h"] (a0 VQ))(vY:cj P w K mg base "_law_is_hanging" 1 ["_law_h"] (a0 zy))(Cf:cj P w K mg base "_law_is_plain" 1 ["_law_h"] (a0 iI)):aK P w K mg base bD 9 f fd ["_law_w","_law_stand"] (a0 GA):=by
 refine iT F cZ (fun ds Qd h=>?_) (fun bq A J s H E p=>⟨_,(aj (bY 2 cZ.nd (aE jU (p.mono (by decide)) (aa (dv 0) (aa (dv 1) ae))))
 (aj (c7 (gU (dv 2))
 (aw (aC (zO (zN (aE Q (p.mono (by decide)) (aa (dv 0) (aa (dv 1) ae)))) (vJ (F0 p.nC (aE jT (p.mono (by decide)) (aa (dv 0) (aa (dv 1) ae))))))))
 bF)
 (aj (mm (dv 2) (lV 3 4 rfl cZ.nd))
 (aj (fN 5 cZ.nd (jo ae))
 (aj (gW rfl (qo (aa (dv 0) (aa (aE L (p.mono (by decide)) (aa (dv 1) ae)) ae)) fun z=>lD (by rfl) T.zip z) (lV 6 7 rfl cZ.nd)
 (aw (dB (cK 5 (pv 5) (aa (gL T.tup (aa (Ov.ev (bB (N:= ["_law_on","_law_one","_law_some"]) (nt:=2) (js:= [7]) ⟨rfl,by decide+kernel,by decide,rfl,by decide+kernel,(by repeat (first | exact rG | refine mS (by first | exact Or.inl rfl | exact Or.inr rfl) ?_ | refine mT (fun z=>nomatch z) ?_))⟩ rfl (sN T.Ju (aa (dv 6) ae)) (fun _ _ _ _ _=>bP rfl (az (au (i:=0) (show(["_law_on","_law_one","_law_some"]:List Str).Nodup by decide+kernel) rfl (by first | exact Or.inl rfl | exact Or.inr rfl)) (az (au (i:=1) (show(["_law_on","_law_one","_law_some"]:List Str).Nodup by decide+kernel) rfl (by first | exact Or.inl rfl | exact Or.inr rfl)) bo))) aZ aR (fun _ _ _ _ _=>cu) (fun _ _ _ _ _=>(cS (wH (dv 0) (dv 2)) (dv 1) fG)))) ae)) ae)))) ah4)
 (aj (c7 (Kn 1 (ux p) (dv 2) (aE cW (p.mono (by decide)) (aa (xX 5 T.tup (pv 5)) ae)))
 (aw (aC jg))
 bF)
 (aj (c7 (PW.pt (w_or (uu (aE Q (p.mono (by decide)) (aa (dv 0) (aa (dv 1) ae))) (dv 3)) (w_or (uu (aE tP (p.mono (by decide)) (aa (dv 0) (aa (dv 4) ae))) (dv 3)) (w_or (nH (iW (aE vY (p.mono (by decide)) (aa (dv 4) ae)))) (mi (nH (iW (aE Cf (p.mono (by decide)) (aa (dv 4) ae)))))))))
 (aw (aC jg))
 bF)
 (aw (aC (Lb rfl T.all (aa (Ov.ev (bB (N:= ["_law_on","_law_row"]) (nt:=2) (js:= []) ⟨rfl,by decide+kernel,by decide,rfl,by decide+kernel,(by show∀x∈(_:List (Str × NameKind)),x.2=NameKind.free->(ab dR).names.lookup x.1=some .cell\/(ab dR).names.lookup x.1=some .free;decide+kernel)⟩ rfl (qo (aa (dv 4) (aa (aE L (p.mono (by decide)) (aa (dv 1) ae)) ae)) fun z=>lD (by rfl) T.zip z) (fun _ _ _ _ _=>bP rfl (az (au (i:=0) (show(["_law_on","_law_row"]:List Str).Nodup by decide+kernel) rfl (by first | exact Or.inl rfl | exact Or.inr rfl)) (az (au (i:=1) (show(["_law_on","_law_row"]:List Str).Nodup by decide+kernel) rfl (by first | exact Or.inl rfl | exact Or.inr rfl)) bo))) aZ aR (fun _ _ _ _ _=>cu) (fun _ _ _ _ _=>(Xb (dv 0) (dv 1))))) ae))))))))))),fun ds Qd h=>?_⟩)
 . obtain⟨n,m,w,s,rfl,_⟩:=h;rfl
 . obtain⟨n,m,w,s,rfl,r,u,t,k,q⟩:=h;refine⟨_,rfl,_,rfl,n,m,w,s,rfl,r,u,t,k,⟨_,rfl,rfl⟩,?_⟩;have B:=jc n (bA (rows s) w);have S:bE n w s=(bestOf n (bA (rows s) w)).map (·.1):=rfl;have G:jX n (bA (rows s) w) (bestOf n (bA (rows s) w)):=B;generalize bestOf n (bA (rows s) w)=b at B S G ⊢;cases B with
   | no h=>
    refine⟨_,rfl,true,rfl,cm ?_⟩;refine⟨_,rfl,_,rfl,n,m,w,s,rfl,r,u,t,k,?_⟩;rw[S];refine⟨true,rfl,cm ⟨_,rfl,_,rfl,n,m,w,s,rfl,r,u,t,k,?_⟩⟩;rw[AE S];exact⟨_,rfl,q⟩
   | yes v g mg e bst=>
    have rl:=gb r;refine⟨_,rfl,false,rfl,aW ?_⟩;refine⟨_,rfl,_,_,rfl,⟨_,rfl,rfl⟩,⟨_,rfl,rfl⟩,?_⟩;refine⟨by show 0<=sizeLine;decide,⟨_,rfl,rfl⟩,?_⟩;refine⟨_,rfl,_,rfl,n,m,s,rfl,r,t,true,false,_,_,rfl,?_⟩;have zl:(cD ((List.range' 1 n).map (cF n w)) ((rows s).map lsN)).length=n:=by
     unfold cD;rw[al0,aa4,aa4,ac4,rl,Nat.min_self]
    refine cQ (BrI n w s v g) ⟨.no,.no,rfl,rfl,rfl⟩ (fun i d δ hi U Δ' pA _=>?_) (fun δ U=>?_)
    . obtain⟨s6,s7,rfl,C,O⟩:=U;obtain⟨rw_,er,il,_,rfl⟩:=Ak hi;refine⟨_,_,rfl,⟨_,rfl,C⟩,⟨_,rfl,O⟩,⟨_,rfl⟩,?_⟩;have el:(aM 0 ((List.range (n+1)).map fun o=>bh (w (i+1) o))).length=n+1:=by unfold aM;rw[aj6,aa4,ae2]
      refine⟨_,rfl,_,rfl,by rw[el];exact ad9 (show n+1<=61 by lia) (by decide),fun _=>true,kE (rw_.map nI),fun d y=>?_,?_⟩
      . obtain⟨j,e,he,rfl⟩:=kM y;refine⟨_,_,rfl,⟨_,rfl,rfl⟩,⟨_,rfl,rfl⟩,rfl,fun _=>?_⟩;have M:kE (rw_.map nI) (.tup [.int ((j+0:Nat):Int),e])=if inD (.int ((j+0:Nat):Int)) (rw_.map nI)=true then e else .aN:=rfl
        refine⟨_,rfl,_,rfl,_,.inl rfl,rfl,TM rw_,_,rfl,?_⟩;rw[M];by_cases c:inD (.int ((j+0:Nat):Int)) (rw_.map nI)=true
        . rw[if_pos c];exact eK c ⟨_,rfl,rfl⟩
        . rw[if_neg c];exact dh c rfl
      . rw[ae9.mpr fun _ _=>rfl];refine⟨_, .inl rfl,_,_,rfl,rfl,?_,pA _ ⟨.im (cF n w (i+1)), .im (lsN rw_),?_,rfl,rfl⟩⟩
        . rw[aa4,ac4];exact ae0 (show i < 100 by lia) (by decide)
        . have kr:=EJ (n:=n) (w:=w) (i:=i+1) (R:=rows s) (r:=rw_) (by rw[show i+1 - 1=i by lia];exact er);rw[List.range'_1_concat,ac5,show 1+i=i+1 by lia,List.map_singleton,<-kr];rfl
    . obtain⟨s6,s7,rfl,C,O⟩:=U;rw[zl];have I:=aL mg;have l:=dJ mg;have X:fits g (rows s)=true/\g0 w g=some v:=by
       rw[fg r w I] at e;split at e
       . rename_i c;exact⟨c,e⟩
       . cases e
      have D:=(ay.h.sX r mg).mp X.1;refine⟨_,rfl,_,rfl,n,bA (rows s) w,rfl,u,t,yL k,fun r' B'=>?_⟩;rw[l6 B' G];refine⟨rfl,uz,_,rfl,?_⟩;rw[show(if true=true then !vz (1+1) (AY (some (v,g))) (AY (some (v,g))) else vz (1+1) (AY (some (v,g))) (AY (some (v,g))))=false by
       show(!vz 2 (AY (some (v,g))) (AY (some (v,g))))=false;rw[vw uz rfl];rfl]
      refine aW ?_;refine⟨_,rfl,_,rfl,n,m,w,s,rfl,r,u,t,k,?_⟩;rw[S];have Z:eq2 (.int v) (.int v)=some true:=(show some (decide _)=some true from af7 some (ab8 rfl))
      refine⟨_,rfl,true,Z,_,rfl,aW ?_⟩;refine⟨_,rfl,_,rfl,n,w,g,rfl,I,l,by lia,?_⟩;rw[X.2];refine⟨_,rfl,true,Z,_,rfl,aW ?_⟩;refine⟨_,rfl,g,rfl,by lia,by rw[I];exact l,?_⟩;rw[Hx mg];refine⟨_,rfl,aW ?_⟩;refine⟨_,rfl,g,rfl,by lia,?_⟩;rw[Hw mg];refine⟨_,rfl,aW ?_⟩;have ZZ:(cD (g.map xI) ((rows s).map lsN)).length=n:=by
       unfold cD;rw[al0,aa4,aa4,rl,I,Nat.min_self]
      refine⟨_,rfl,_,rfl,n,m,s,rfl,r,t,true,false,_,_,rfl,by rw[ZZ];exact ad9 t (by decide),fun _=>true,fun _=> .bl true,fun d y=>?_,?_⟩
      . obtain⟨j,V⟩:=List.getElem?_of_mem y;unfold cD at V;rw[aq6,ak4] at V;split at V
        . rename_i a b Y hb;cases V;obtain⟨ja,M⟩:=ab0.mp Y;have hw:=D (j+1) (by lia) (by lia);have e1:up g (j+1)=a:=by unfold MH.up;rw[show j+1 - 1=j by lia,ac6,Y];rfl
          have e2:bU s (j+1)=b:=by rw[<-fE r (by lia),ac6,hb];rfl
          rw[e1,e2] at hw;refine⟨_,_,rfl,⟨_,rfl,rfl⟩,⟨_,rfl,rfl⟩,rfl,fun _=>⟨_,rfl,_,rfl,_,.inl rfl,rfl,TM b,?_⟩⟩;show Dt.bl (inD (nI a) (b.map nI))= .bl true;rw[V3,ab8 hw]
        . cases V
      . rw[ae9.mpr fun _ _=>rfl,List.map_const'];refine⟨List.replicate (cD (g.map xI) ((rows s).map lsN)).length true,by rw[List.map_replicate],?_⟩;rw[show(List.replicate (cD (g.map xI) ((rows s).map lsN)).length true).all id=true from af6.mpr fun x hx=>(List.mem_replicate.mp hx).2];exact q
end
end ay
namespace ay.r
open PySem PySem.Spec L2 LB LD PyProof.Rows
noncomputable def oG(i j:Nat):Stmt:=match top i with
 | .ClassDef _ _ _ b _ _ _ _ _ _ _=>b.getD j (.Pass ⟨0,0,0,0⟩)
 | _=> .Pass ⟨0,0,0,0⟩
noncomputable abbrev gE:Stmt:=oG 9 0
noncomputable abbrev gB:Stmt:=oG 9 1
noncomputable abbrev ke:Stmt:=oG 9 2
noncomputable abbrev eG:Stmt:=oG 9 3
noncomputable abbrev gF:Stmt:=oG 9 4
noncomputable abbrev eX:Stmt:=oG 9 5
noncomputable abbrev c8:Stmt:=oG 9 6
theorem HN:av ["self","n"] ["self","n"] (ab gE):=⟨rfl,rfl,rfl,by decide+kernel,rfl,by decide+kernel,by decide+kernel⟩
theorem HM:av ["self","word"] ["self","word"] (ab gB):=⟨rfl,rfl,rfl,by decide+kernel,rfl,by decide+kernel,by decide+kernel⟩
theorem LV:av ["self"] ["self"] (ab ke):=⟨rfl,rfl,rfl,by decide+kernel,rfl,by decide+kernel,by decide+kernel⟩
theorem Dj:av ["self"] ["self"] (ab eG):=⟨rfl,rfl,rfl,by decide+kernel,rfl,by decide+kernel,by decide+kernel⟩
theorem yP:av ["self","pile","ahead","ons"] ["self"] (ab gF):=⟨rfl,rfl,rfl,by decide+kernel,rfl,by decide+kernel,by decide+kernel⟩
theorem HP:av ["self"] ["self"] (ab eX):=⟨rfl,rfl,rfl,by decide+kernel,rfl,by decide+kernel,by decide+kernel⟩
theorem Di:av ["self"] ["self"] (ab c8):=⟨rfl,rfl,rfl,by decide+kernel,rfl,by decide+kernel,by decide+kernel⟩
structure Lj(K:PySem.W.Frag)(C:Addr):Prop where
 cl:Cm K C
 n1:gS K C "now"
 n2:gS K C "past"
noncomputable def pD(p:Str × St):Dt:= .tup [.str p.1,p.2.dt]
noncomputable def vo(s:St)(l:List (Str × St)):List (Str × Dt):= [("now",s.dt),("past",.lst (l.map pD))]
noncomputable abbrev AO (C:Addr) (s:St) (l:List (Str × St)):Sl:= .ob (S9 C (vo s l))
noncomputable def isDone(s:St):Bool:=decide (s.b=s.aX.length+1) && decide (s.ag.length=1)
noncomputable def zD:Option Nat->Dt
 | none=>nI 0
 | some k=>nI k
noncomputable def gn(s:St):Dt:=if isDone s=true then .tup (s.aX.map zD) else .aN
def MO(C:Addr):T3:=fun H Q=> ∃s l,H= [AO C s l]/\jm s/\Q (eh s)
def wO(C:Addr):DS:=fun H Q=> ∃s l,H= [AO C s l]/\Q s.dt
def zG(C:Addr):DS:=fun H Q=> ∃s l,H= [AO C s l]/\Q (.bl (isDone s))
def Fb(C:Addr):DS:=fun H Q=> ∃s l,H= [AO C s l]/\s.aX.length<=100/\Q (gn s)
def wL(C:Addr):T3:=fun H Q=> ∃s l,H= [AO C s l]/\l.length<=100/\Q (l.map fun p=> .str p.1)
theorem sA(h:d∈eh s):Co d:=by
 unfold eh at h;rcases ad8.mp h with h | h
 . rcases ad8.mp h with h | h
   . split at h
     . rw[ab1.mp h];exact .str _
     . exact absurd h aa8
   . split at h
     . rw[ab1.mp h];exact .str _
     . exact absurd h aa8
 . split at h
   . rw[ab1.mp h];exact .str _
   . exact absurd h aa8
theorem WW{x y:Nat}(h:z=(x:Int)):eq2 (.int z) (nI y)=some (decide (x=y)):=by rw[h];exact FD
theorem WX{x y:Nat}(h:z=(y:Int)):eq2 (nI x) (.int z)=some (decide (x=y)):=by rw[h];exact FD
noncomputable def WS:Dt->Dt
 | .tup (d::_)=>d
 | d=>d
noncomputable def X4:Dt->Dt
 | .aN=>nI 0
 | d=>d
theorem LA: ∀{l:List (Option Nat)},(l.map oD).map X4=l.map zD
 | []=>rfl
 | none::l=>af7 (nI 0:: ·) (LA (l:=l))
 | some k::l=>af7 (nI k:: ·) (LA (l:=l))
theorem lX{s:St}:CC s.dt:= .tup fun d r=>by
 rcases ab9.mp r with rfl | r
 . exact .tup fun d r=>by obtain⟨_,_,rfl⟩:=ab6.mp r;exact .int _
 rcases ab9.mp r with rfl | r
 . exact .int _
 . cases ab1.mp r;exact .tup fun d r=>by
    obtain⟨x,_,rfl⟩:=ab6.mp r;cases x with
    | none=>exact .aN
    | some k=>exact .int _
section
variable{P:Program}{w:World}{K:PySem.W.Frag}{mg:Str->Option Value}{base:Heap}{C:Addr}
theorem IC(F:dj K "may" q ke f fd)(R:Lj K C)(p:cj P w K mg base "steps_from" 1 ["stand"] (a0 xu)):aK P w K mg base bD 2 f fd ["self"] (rD (MO C)):=by
 refine RF rfl F LV (fun J y h=>?_) (fun j A I s H E m=>⟨_,QD p (m.mono (by decide)) (aa (lZ 0 (pv 0)) ae),fun J y h=>?_⟩)
 . obtain⟨s,l,rfl,_⟩:=h;rfl
 . obtain⟨s,l,rfl,t,q⟩:=h;refine⟨C,vo s l,s.dt,rfl,rfl,R.cl,R.n1,?_⟩;exact⟨fun d r=>by rw[ab1.mp r];exact lX,s,rfl,t,_,rfl,fun d r=>sA r,q⟩
theorem A4(F:dj K "stand" q eG f fd)(R:Lj K C):aK P w K mg base bD 1 f fd ["self"] (spS (wO C)):=by
 refine RG F Dj (fun J y h=>?_) (fun j A I s H E m=>⟨_,aw (aC (lZ 0 (pv 0))),fun J y h=>?_⟩)
 . obtain⟨s,l,rfl,_⟩:=h;rfl
 . obtain⟨s,l,rfl,q⟩:=h;exact⟨C,vo s l,s.dt,rfl,rfl,R.cl,R.n1,q⟩
theorem Eh(F:dj K "is_done" q gF f fd)(T:Txt mg)(R:Lj K C):aK P w K mg base bD 1 f fd ["self"] (spS (zG C)):=by
 refine RG F yP (fun J z h=>?_) (fun j A I s H E m=>⟨_,(aj (mm (lZ 0 (pv 0)) (oN 1 2 3 rfl yP.nd)) (aw (aC (zO (xY (dv 2) (cM (cv T.len (aa (dv 3) ae)) aq)) (vJ (xY (cv T.len (aa (dv 1) ae)) aq)))))),fun J z h=>?_⟩)
 . obtain⟨s,l,rfl,_⟩:=h;rfl
 . obtain⟨s,l,rfl,q⟩:=h;refine⟨C,vo s l,s.dt,rfl,rfl,R.cl,R.n1,_,_,_,rfl,⟨_,rfl,rfl⟩,⟨_,rfl,rfl⟩,⟨_,rfl,rfl⟩,?_⟩;refine⟨_,rfl,_,rfl,_, .inr rfl,_,_,rfl,rfl,_,WX (y:=s.aX.length+1) (by rw[aa4];rfl),_,rfl,?_⟩;unfold isDone at q;by_cases c:s.b=s.aX.length+1
   . rw[ab8 c] at q ⊢;refine cm ⟨_,rfl,_,.inr rfl,_,WW (y:=1) (by rw[aa4]),?_⟩;rw[Bool.true_and] at q;exact q
   . rw[ad1 c] at q ⊢;exact aW q
theorem A2(F:dj K "steps" q c8 f fd)(R:Lj K C):aK P w K mg base bD 1 f fd ["self"] (rD (wL C)):=by
 refine RF rfl F Di (fun J y h=>?_) (fun j A I s H E m=>⟨_,(bB (N:= ["word","before"]) (nt:=2) (js:= []) ⟨rfl,by decide+kernel,by decide,rfl,by decide+kernel,(by show∀x∈(_:List (Str × NameKind)),x.2=NameKind.free->(ab c8).names.lookup x.1=some .cell\/(ab c8).names.lookup x.1=some .free;decide+kernel)⟩ rfl (dH (lZ 0 (pv 0))) (fun _ _ _ _ _=>bP rfl (az (au (i:=0) (show(["word","before"]:List Str).Nodup by decide+kernel) rfl (by first | exact Or.inl rfl | exact Or.inr rfl)) (az (au (i:=1) (show(["word","before"]:List Str).Nodup by decide+kernel) rfl (by first | exact Or.inl rfl | exact Or.inr rfl)) bo))) aZ aR (fun _ _ _ _ _=>cu) (fun _ _ _ _ _=>dv 0)),fun J y h=>?_⟩)
 . obtain⟨s,l,rfl,_⟩:=h;rfl
 . obtain⟨s,l,rfl,S,q⟩:=h;refine⟨C,vo s l, .lst (l.map pD),rfl,rfl,R.cl,R.n2,_,rfl,?_⟩;refine⟨by rw[aa4];exact ad9 S (by decide),fun _=>true,WS,fun d r=>?_,?_⟩
   . obtain⟨p,_,rfl⟩:=ab6.mp r;exact⟨_,_,rfl,⟨_,rfl,rfl⟩,⟨_,rfl,rfl⟩,rfl,fun _=>⟨_,rfl,rfl⟩⟩
   . rw[ae9.mpr (fun _ _=>rfl),ad6];exact q
theorem Eg(F:dj K "hanging" q eX f fd)(T:Txt mg)(R:Lj K C)(B:i5 P w K mg base bD C "is_done" 1 ["self"] (spS (zG C))):aK P w K mg base bD 2 f fd ["self"] (spS (Fb C)):=by
 refine RG F HP (fun J y h=>?_) (fun j A I s H E m=>⟨_,(aj (c7 (nH (iW (RZ 0 B (m.mono (by decide)) (pv 0)))) (aw (aC fG)) bF)
  (aw (aC (gL T.tup (aa (Ov.ev (bB (N:= ["on"]) (nt:=1) (js:= []) ⟨rfl,by decide+kernel,by decide,rfl,by decide+kernel,(by show∀x∈(_:List (Str × NameKind)),x.2=NameKind.free->(ab eX).names.lookup x.1=some .cell\/(ab eX).names.lookup x.1=some .free;decide+kernel)⟩ rfl (Q0 (cy (lZ 0 (pv 0)) aq)) (fun _ _ _ _ _=>au (i:=0) (show(["on"]:List Str).Nodup by decide+kernel) rfl (by first | exact Or.inl rfl | exact Or.inr rfl)) bf aO (fun _ _ _ _ _=>cu) (fun _ _ _ _ _=>cS (gU (dv 0)) aq (dv 0)))) ae))))),fun J y h=>?_⟩)
 . obtain⟨s,l,rfl,_⟩:=h;rfl
 . obtain⟨s,l,rfl,D,q⟩:=h;refine⟨vo s l,rfl,rfl,s,l,rfl,_,rfl,?_⟩;unfold gn at q;cases c:isDone s with
   | false=>
    rw[c,if_neg ac3] at q;exact cm q
   | true=>
    rw[c,if_pos rfl] at q;refine aW ⟨C,vo s l,s.dt,rfl,rfl,R.cl,R.n1,_,_,_,.inr rfl,rfl,rfl,_,rfl,by rw[aa4];exact ad9 D (by decide),fun _=>true,X4,fun d r=>?_,?_⟩
    . obtain⟨x,_,rfl⟩:=ab6.mp r;refine⟨⟨_,rfl,rfl⟩,rfl,fun _=>⟨_,rfl,_,rfl,?_⟩⟩;cases x with
      | none=>exact cm rfl
      | some k=>exact aW ⟨_,rfl,rfl⟩
    . rw[ae9.mpr (fun _ _=>rfl),LA];exact⟨_,.inl rfl,q⟩
end
theorem Mn{X:Cx}{st:Stmt}:PS X st (fun _ _ _=>False):=fun _ _ _ _ _ _ h=>h.elim
structure l7(C:Addr)(M:Addr->Prop)(H:Hp)(x dx p:Addr)(vn:V)(xs:List V)(s:St)(l:List (Str × St)):Prop where
 hx:H x=some (.ins C dx [("now",vn),("past",.ref p)])
 hd:H dx=some (.own x)
 hp:H p=some (.lst xs)
 rn:Rep M H vn s.dt
 rp:aA M H xs (l.map pD)
theorem l7.px{C:Addr}{M:Addr->Prop}{H:Hp}{x D p:Addr}(o:l7 C M H x D p vn xs s l):p≠x:=fun z=>by have:=o.hp;rw[z,o.hx] at this;cases this
theorem l7.dp{C:Addr}{M:Addr->Prop}{H:Hp}{x D p:Addr}(o:l7 C M H x D p vn xs s l):D≠p:=fun z=>by have:=o.hd;rw[z,o.hp] at this;cases this
theorem l7.dx{C:Addr}{M:Addr->Prop}{H:Hp}{x D p:Addr}(o:l7 C M H x D p vn xs s l):D≠x:=fun z=>by have:=o.hd;rw[z,o.hx] at this;cases this
def Mb(M:Addr->Prop)(x p:Addr):Addr->Prop:=fun a=>M a/\a≠x/\a≠p
theorem l7.wa{C:Addr}{M:Addr->Prop}{H:Hp}{x D p:Addr}(o:l7 C M H x D p vn xs s l):nu (Mb M x p) H (some (.ref x)) (AO C s l) []:=by
 have X: ∀a u,H a=some u-> ¬M a->H a=some u/\ ¬Mb M x p a:=fun a u e n=>⟨e,fun z=>n z.1⟩
 exact⟨_,rfl,rfl,x,D,_,rfl,o.hx,fun z=>z.2.1 rfl,rfl,.cons (o.rn.mono X) (.one (Rep.nG o.hp (fun z=>z.2.2 rfl) (o.rp.mono X)))⟩
theorem EB(Y:gZ M H):gZ (Mb M x p) H:=fun a h=>Y a h.1
def j8(C:Addr):Sp:=fun t H Q _=> ∃(M:Addr->Prop) (x dx:Addr) (n:Nat),t= [.ref x,.int (n:Int)]/\gZ M H/\H x=some (.ins C dx [])/\H dx=some (.own x)/\1<=n/\n<=1000/\
 ∀(H':Hp) (p:Addr) (vn:V),(∀b o,H b=some o->b≠x->H' b=some o)->H' x=some (.ins C dx [("now",vn),("past",.ref p)])->H p=none->H' p=some (.lst [])->Rep (fun a=>M a\/a=x\/a=dx\/a=p) H' vn (first n).dt->Q .aN H'
def j7(C:Addr):Sp:=fun t H Q _=> ∃(M:Addr->Prop) (x dx p:Addr) (vn:V) (xs:List V) (s:St) (l:List (Str × St)) (w:Str),t= [.ref x,.str w]/\gZ M H/\M x/\M p/\l7 C M H x dx p vn xs s l/\jm s/\lL s w=true/\l.length<=100/\
 ∀(H':Hp) (UJ:V) (Lx:List V),(∀b o,H b=some o->b≠x->b≠p->H' b=some o)->l7 C M H' x dx p UJ Lx (fA s w) (l++ [(w,s)])->Q .aN H'
section
variable{P:Program}{w:World}{K:PySem.W.Frag}{mg:Str->Option Value}{base:Heap}{C:Addr}
theorem Ef(F:dj K "__init__" q gE f fd)(R:Lj K C)(T:cj P w K mg base "first_stand" 1 ["n"] (a0 oO)):aK P w K mg base bD 2 f fd ["self","n"] (j8 C):=by
 refine F.ok HN (fun U H Q E h=>?_) (fun Z A I s H U Q E m h=>⟨_,bt (xa (pv 0) (jH T (m.mono (by decide)) rfl (a8 (pv 1) bQ)) rfl) (eI (xa (pv 0) (jG bQ) rfl)),?_⟩)
 . obtain⟨M,x,D,n,rfl,_⟩:=h;rfl
 . obtain⟨M,x,D,n,rfl,Y,i,S,v,N,L⟩:=h;have G:gZ (fun a=>M a\/a=x\/a=D) H:=fun a h=>h.elim (Y a) fun z=>z.elim (fun z=>by rw[z];exact⟨_,i,fun X y=>by cases y⟩) fun z=>by rw[z];exact⟨_,S,fun X y=>by cases y⟩
   refine⟨_,rfl,?_⟩;show a0 oO [V.int (n:Int)] H _ E0;refine⟨fun a=>M a\/a=x\/a=D,[nI n],fun d=>d=(first n).dt,G,.one (.int _),⟨n,rfl,v,N,rfl⟩,fun d k j u J O=>?_⟩;subst u;refine⟨_,rfl,x,C,D,_,rfl,J _ _ i,R.cl,R.n1,by decide,?_⟩;refine⟨by show 0<=sizeLine;decide,fun p r=>?_⟩;have l:p≠x:=fun z=>by rw[z,af] at r;cases r
   have t:k p=none:=by rw[ah l] at r;exact r
   have B:H p=none:=by
    cases e:H p with
    | none=>rfl
    | some o=>rw[J _ _ e] at t;cases t
   refine⟨_,rfl,x,C,D,[("now",j)],rfl,by rw[ah (Ne.symm l),af];rfl,R.cl,R.n2,by show 1 < 1000;decide,?_⟩;refine L _ p j (fun b o e n=>?_) af B (by rw[ah l,af]) ?_
   . rw[ah n,ah (fun z=>by rw[z,B] at e;cases e),ah n];exact J _ _ e
   . refine O.mono fun a o e n=>⟨?_,fun z=>?_⟩
     . have g:a≠x:=fun z=>n (.inr (.inl z));rw[ah g,ah (fun z=>by rw[z,t] at e;cases e),ah g];exact e
     . rcases z with z | z | z | z
       . exact n (.inl z)
       . exact n (.inr (.inl z))
       . exact n (.inr (.inr z))
       . rw[z,t] at e;cases e
theorem A3(F:dj K "step" q gB f fd)(T:Txt mg)(R:Lj K C)(bu:cj P w K mg base "steps_from" 1 ["stand"] (a0 xu))(bT:cj P w K mg base "behind" 1 ["stand","word"] (a0 dN)):
  aK P w K mg base bD 2 f fd ["self","word"] (j7 C):=by
 refine F.ok HM (fun vs H Q E h=>?_) (fun bq A N s H vs Q E O h=>⟨_,bt (yZ (rB (dv 1) (aE bu (O.mono (by decide)) (aa (lZ 0 (pv 0)) ae))) (eI Mn) mW)
  (bt (y4 (ze as6 PySem.F.slot_list_append PySem.F.type_list_append i7 (rY (pv 0) rfl) (a8 (DQ (a8 (pv 1) (a8 (rY (pv 0) rfl) bQ))) bQ) rfl rfl rfl rfl rfl))
  (eI (xa (pv 0) (jH bT (O.mono (by decide)) rfl (a8 (rY (pv 0) rfl) (a8 (pv 1) bQ))) rfl))),?_⟩)
 . obtain⟨M,x,D,p,g,i,s,l,w,rfl,_⟩:=h;rfl
 . obtain⟨M,x,D,p,g,i,s,l,w,rfl,Y,mx,mp,o,B,c,EH,kk⟩:=h;have I:aB [] (Mb M x p) [[],[]] H [some (.ref x),some (.str w)] [AO C s l, .im (.str w)]:=jN (n:=0) (vs:= [.ref x, .str w]) (ss:= [AO C s l, .im (.str w)]) (EB Y) (.cons o.wa rfl (.cons (s:= .im (.str w)) ⟨rfl,_,rfl, .str _⟩ rfl .nil)) fun W hW=>absurd hW aa8;refine⟨[],Mb M x p,[[],[]],[AO C s l, .im (.str w)],fun b δ=>b=false,I,?_,fun b δ' k hb E1 c1=>?_⟩
   . refine⟨_,rfl,C,vo s l,s.dt,rfl,rfl,R.cl,R.n1,s,rfl,B,_,.inl rfl,rfl,om,_,rfl,?_⟩;show(!inD (.str w) (eh s))=false;rw[sM,c];rfl
   subst hb;have J:aD H k:=fun b u e=>c1 b u e (by simp);refine aW ?_;refine⟨_,rfl,x,C,D,_,_,rfl,J _ _ o.hx,R.cl,R.n2,rfl,.inl ⟨rfl,_,cc.of (J _ _ o.hp)⟩,?_⟩;refine⟨_,rfl,_,rfl,x,C,D,_,_,rfl,J _ _ o.hx,R.cl,R.n1,rfl,by show 2<=sizeLine;decide,fun t U=>?_⟩;have m:H t=none:=by
    cases e:H t with
    | none=>rfl
    | some u=>rw[J _ _ e] at U;cases U
   have X: ∀{b u},H b=some u->b≠t:=fun e z=>by rw[z,m] at e;cases e
   have tp:t≠p:=Ne.symm (X o.hp);have tx:t≠x:=Ne.symm (X o.hx);refine⟨p,i,_,rfl,rfl,by rw[ah (X o.hp)];exact J _ _ o.hp,?_,?_⟩
   . rw[o.rp.1,aa4];exact an9 EH (by decide)
   generalize WK:upd (upd k t (.tup [.str w,g])) p (.lst (i++ [.ref t]))=H3;have G: ∀b u,H b=some u->b≠p->H3 b=some u:=fun b u e n=>by rw[<-WK,ah n,ah (X e)];exact J _ _ e
   have j:H3 x=some (.ins C D [("now",g),("past",.ref p)]):=G _ _ o.hx (Ne.symm o.px);have v:Rep M H3 g s.dt:=o.rn.mono fun a u e n=>⟨G a u e fun z=>n (z▸mp),n⟩
   have YE:H3 t=some (.tup [.str w,g]):=by rw[<-WK,ah tp,af]
   have r:H3 p=some (.lst (i++ [.ref t])):=by rw[<-WK,af]
   have L:gZ M H3:=fun a h=>by
    obtain⟨u,e,n⟩:=Y a h;by_cases z:a=p
    . rw[z];exact⟨_,r,fun i y=>by cases y⟩
    . exact⟨u,G _ _ e z,n⟩
   refine⟨_,rfl,x,C,D,_,_,rfl,j,R.cl,R.n1,rfl,_,rfl,?_⟩;show a0 dN [g,V.str w] H3 _ E0;refine⟨M,[s.dt,.str w],fun d=>d=(fA s w).dt,L,.cons v (.one (.str _)),ia B c rfl,fun d H4 v4 hd S r4=>?_⟩;subst hd;refine⟨_,rfl,x,C,D,_,rfl,S _ _ j,R.cl,R.n1,by show 2 < 1000;decide,?_⟩;refine kk _ v4 (i++ [.ref t]) (fun b u e n1 n2=>by rw[ah n1];exact S _ _ (G _ _ e n2)) ⟨af,?_,?_,?_,?_⟩
   . rw[ah o.dx];exact S _ _ (G _ _ o.hd o.dp)
   . rw[ah o.px];exact S _ _ r
   . exact r4.mono fun a u e n=>⟨by rw[ah (show a≠x from fun z=>n (by rw[z];exact mx))];exact e,n⟩
   . have Z: ∀a u,H3 a=some u-> ¬M a->upd H4 x (.ins C D (iD "now" v4 [("now",g),("past", .ref p)])) a=some u/\ ¬M a:=fun a u e n=>⟨by rw[ah (show a≠x from fun z=>n (by rw[z];exact mx))];exact S _ _ e,n⟩
     rw[ac5];refine((o.rp.mono fun a u e n=>⟨G a u e fun z=>n (z▸mp),n⟩).mono Z).append (.one ?_);exact(Rep.hU YE (Y.fresh m) (.cons (.str _) (.one v))).mono Z
end
theorem EA(Y:gZ M H)(s:aD H H'):gZ M H':=fun a h=>let ⟨o,e,n⟩:=Y a h;⟨o,s _ _ e,n⟩
theorem Bb(s:aD H H')(h:H' a=none):H a=none:=by
 cases e:H a with
 | none=>rfl
 | some o=>rw[s _ _ e] at h;cases h
noncomputable def ORd(C:Addr)(s:St)(l:List (Str × St)):TY where
 rel:=fun M H v E=> ∃x D p d e,E= [x,D,p]/\v= .ref x/\l7 C M H x D p d e s l
 st:=fun z q k=>by
  obtain⟨x,D,p,d,e,rfl,n,o⟩:=z;exact⟨x,D,p,d,e,rfl,n,q x (by simp) _ o.hx,q D (by simp) _ o.hd,q p (by simp) _ o.hp,o.rn.mono k,o.rp.mono k⟩
noncomputable abbrev v9 (C:Addr) (s:St) (l:List (Str × St)):Sl:= .ob (ORd C s l)
section
variable{X:Cx}{C:Addr}{y f:Str}{yp p pos apos:Pos}{e e0:Expr}{es:List Expr}{k:Nat}{ps:List Str}{S:DS}{t:fJ}{te:bJ}
theorem rZ{i:Nat}(E:aB W M α H σ δ)(h:δ[i]?=some (v9 C s l)): ∃x D p d g,σ[i]?=some (some (.ref x))/\α[i]?=some [x,D,p]/\l7 C M H x D p d g s l:=by
 obtain⟨o,F,J,w,v,rfl,x,D,p,d,g,rfl,rfl,O⟩:=E.sl i _ h;exact⟨x,D,p,d,g,J,w,O⟩
inductive F5(C:Addr)(i:Nat)(Q:Dt->List Sl->Prop)(ds:List Dt)(δ':List Sl):Prop
 | mk (s:St) (l:List (Str × St)) (w:Str) (h1:ds= [.str w]) (h2:δ'[i]?=some (v9 C s l)) (h3:jm s) (h4:lL s w=true) (h5:l.length<=100) (h6:Q .aN (δ'.set i (v9 C (fA s w) (l++ [(w,s)]))))
def NY(C:Addr)(i:Nat)(t:fJ):bJ:=fun m Q=>(∃s l,m[i]?=some (v9 C s l))/\t m fun n j=>F5 C i Q n j
theorem JC (i : Nat) (h : i5 X.prog X.w X.K X.mg X.base bD C "step" k ps (j7 C)) (hr : bC k X.A) (ho : PE X (.Name y yp) (fV i)) (d : Av X [e] t) (R : starEach [e] X.env = (false, eval e X.env) :: starEach [] X.env := by rfl) (du : (backTo pos (starEach [] X.env)).any (·.1) = false := by rfl) (ht : eval (.Call (.Attribute (.Name y yp) "step" apos) [e] [] pos) X.env = (do
   let c<-eval (.Name y yp) X.env
   standAt apos.atName
   let (f,first)<-holding [c] (getMethod c "step" pl)
   callWith pos f first (backTo pos (starEach [e] X.env)) (backToKw pos (keywordEach [] X.env))):=by rfl):Ev X (.Call (.Attribute (.Name y yp) "step" apos) [e] [] pos) (NY C i t):=by
 obtain⟨f,fd,hc,hm,hb,F⟩:=h;refine PE.imp (Ih ho hc hm F hr hb .nil n4 d R du ht) fun σ H Q cx=>?_;obtain⟨W,M,α,δ,Qd,E,⟨⟨s0,l0,h0⟩,q⟩,k⟩:=cx;obtain⟨x,dx,p,vn,g,J,s2,O⟩:=rZ E h0;refine⟨_,J,x,dx,_,rfl,O.hx,rfl,W,M,α,δ,_,E,q,fun ds δ' D vs zz N c1 r1=>?_⟩;obtain⟨s,l,w,rfl,r,fi,ok,T,q1⟩:=zz;obtain⟨v,ys,rfl,rv,rn⟩:=r1.aG;cases rn.cG;cases rv.ofStr;obtain⟨x',U,G,UJ,L,P,Z,m⟩:=rZ N r;rw[J] at P;cases P;show j7 C ([V.ref x,V.str w]++ []) D Q E0;have mx:M x:=N.mu x (bj Z (by simp));have mp:M G:=N.mu G (bj Z (by simp));have md:M U:=N.mu U (bj Z (by simp));refine⟨M,x,U,G,UJ,L,s,l,w,rfl,N.al,mx,mp,m,fi,ok,T,fun H2 I o B Y=>?_⟩;obtain⟨j,c2⟩:=N.mod (s':=v9 C (fA s w) (l++ [(w,s)])) r J Z rfl ⟨_,rfl,x,U,G,I,o,rfl,rfl,Y⟩ (fun b u e n=>B b u e (fun z=>n (by rw[z];simp)) (fun z=>n (by rw[z];simp))) (fun a d=>by
  simp only [ab9,aa8,or_false] at d;rcases d with rfl | rfl | rfl
  . exact⟨_,Y.hx,fun g z=>by cases z⟩
  . exact⟨_,Y.hd,fun g z=>by cases z⟩
  . exact⟨_,Y.hp,fun g z=>by cases z⟩)
 exact k _ _ _ _ q1 j (c1.tr c2) .aN
def hMk(C:Addr)(t:fJ)(d:G7):G7:=fun i Q=>t i fun o B=> ∃n:Nat,o= [nI n]/\1<=n/\n<=1000/\d B fun H O=>Q (v9 C (first n) []::H) O
theorem nu.RC{M N:Addr->Prop}(h:LD.nu M H o s as)(g:aD H H2)(j: ∀a,N a->H a=none):LD.nu (fun b=>M b\/N b) H2 o s as:=by
 have k: ∀a u,H a=some u-> ¬M a->H2 a=some u/\ ¬(M a\/N a):=fun a u e n=>⟨g _ _ e,fun z=>z.elim n fun y=>by rw[j a y] at e;cases e⟩
 cases s with
 | no=>exact h
 | im d=>exact⟨h.1,let ⟨v,e,r⟩:=h.2;⟨v,e,r.mono k⟩⟩
 | ow ds=>obtain⟨a,l,w,x,W,r⟩:=h;exact⟨a,l,w,x,g _ _ W,r.mono k⟩
 | bx t=>obtain⟨d,c,w,x,r⟩:=h;exact⟨d,c,w,x,r.same g⟩
 | dk ks ds=>obtain⟨a,A,w,x,W,i,r⟩:=h;exact⟨a,A,w,x,g _ _ W,i,r.mono k⟩
 | ob R=>obtain⟨v,e,r⟩:=h;exact⟨v,e,R.st r (fun a _ o q=>g _ _ q) k⟩
 | fn f=>exact h
theorem Rh{W:List Wd}{M N:Addr->Prop}(E:aB W M α H σ δ)(i:aD H H2)(g: ∀a,N a->H a=none/\ ∃u,H2 a=some u/\ ∀m,u≠ .tup m):
  aB W (fun b=>M b\/N b) α H2 σ δ/\ ∀a,N a->a∉α.flatten/\ ¬M a/\ ∀U∈W,(U.A0 a\/U.H0 a=none)/\ ¬U.M0 a:=by
 have A: ∀a,N a-> ¬M a:=fun a h=>E.fresh (g a h).1;have l: ∀U∈W,∀a,N a->U.H0 a=none:=fun U V a d=>by
  cases e:U.H0 a with
  | none=>rfl
  | some o=>exact absurd (g a d).1 ((E.w U V).ex a (by rw[e];intro z;cases z))
 refine⟨⟨E.ls,E.la,fun j s Y=>let ⟨o,as,h1,h2,h3⟩:=E.sl j s Y;⟨o,as,h1,h2,nu.RC h3 i fun a z=>(g a z).1⟩,E.nd,fun a h=> .inl (E.mu a h),fun a d=>?_,fun U V=>?_⟩,fun a d=>⟨fun z=>A a d (E.mu a z),A a d,fun U V=>⟨.inr (l U V a d),fun z=>A a d ((E.w U V).m0 a z)⟩⟩⟩
 . rcases d with d | d
   . obtain⟨o,e,n⟩:=E.al a d;exact⟨o,i _ _ e,n⟩
   . exact(g a d).2
 . have k:=E.w U V;exact⟨fun b o e n=>i _ _ (k.bs b o e n),fun b n y=>k.ex b n (LW.aD.none i y),k.fr,fun a h=> .inl (k.m0 a h),fun a h=>h.elim (k.m1 a) fun z=> .inr (l U V a z),k.bx,k.fz⟩
theorem WG{fI:Addr}(T:Mk X.K C fI)(F:aK X.prog X.w X.K X.mg X.base bD k fI fd ["self","n"] (j8 C))(hr:bC (k+1) X.A)(hm:X.mg nm=some (.ref C))(c:Binds X.K fd ["self","n"] [])(ha:Av X [e] t)(Rb:Hv X es th)(hg:Gl X nm:=by rfl)(mJ:(nm==("__debug__":Str))=false:=by decide)(he:starEach [e] X.env=(false,eval e X.env)::starEach [] X.env:=by rfl)(du:(backTo pos (starEach [] X.env)).any (·.1)=false:=by rfl)(hs:starEach (.Call (.Name nm p) [e] [] pos::es) X.env=(false,eval (.Call (.Name nm p) [e] [] pos) X.env)::starEach es X.env:=by rfl):Hv X (.Call (.Name nm p) [e] [] pos::es) (hMk C t th):=
 PA.imp (a8 (Ij T F hr hg hm c .nil n4 ha mJ he du) Rb hs) fun σ H Q cx=>(by
  obtain⟨W,M,s,δ,Qd,E,q,k⟩:=cx;refine⟨W,M,s,δ,_,E,q,fun ds δ1 l vs zz P c1 r1=>?_⟩;obtain⟨n,rfl,n1,n2,q1⟩:=zz;obtain⟨v,ys,rfl,rv,d⟩:=r1.aG;cases d.cG;cases rv.ofInt;intro x D i TF L;show j8 C (V.ref x::([V.int (n:Int)]++ [])) _ _ E0;have j:aD l (upd (upd l D (.own x)) x (.ins C D [])):=fun b u e=>by
   rw[ah (fun z=>by rw[z,i] at e;cases e),ah (fun z=>by rw[z,TF] at e;cases e)];exact e
  refine⟨M,x,D,n,rfl,EA P.al j,af,by rw[ah L,af],n1,n2,fun I p vn B YC G OZ d=>⟨rfl,?_⟩⟩;have J:I D=some (.own x):=B D _ (by rw[ah L,af]) L;have px:p≠x:=fun z=>by rw[z,af] at G;cases G
  have pd:p≠D:=fun z=>by rw[z,ah L,af] at G;cases G
  have Je:l p=none:=Bb j G;have m:aD l I:=fun b u e=>B b u (j _ _ e) fun z=>by rw[z,i] at e;cases e
  have hn: ∀a,(a=x\/a=D\/a=p)->l a=none/\ ∃u,I a=some u/\ ∀g,u≠ .tup g:=fun a h=>by
   rcases h with rfl | rfl | rfl
   . exact⟨i,_,YC,fun g z=>by cases z⟩
   . exact⟨TF,_,J,fun g z=>by cases z⟩
   . exact⟨Je,_,OZ,fun g z=>by cases z⟩
  obtain⟨E3,Z⟩:=Rh (N:=fun a=>a=x\/a=D\/a=p) P m hn;refine⟨W,_,s,δ1,_,E3,q1,fun ss δ2 R vs' M' bs q2 E2 U m1 m2 hh c=>?_⟩;have O: ∀a,a∈ [x,D,p]↔(a=x\/a=D\/a=p):=fun a=>by simp
  have kp: ∀b u,I b=some u-> ¬(M b\/(b=x\/b=D\/b=p))->R b=some u/\ ¬M' b:=fun b u e n=>⟨U _ _ e fun z=>n (.inl (P.mu b z)),fun z=>(m2 b z).elim n fun y=>by rw[e] at y;cases y⟩
  have r: ∀a,(a=x\/a=D\/a=p)-> ∀u,I a=some u->R a=some u:=fun a h u e=>U _ _ e (Z a h).1;have O3:l7 C M' R x D p vn [] (first n) []:=⟨r x (.inl rfl) _ YC,r D (.inr (.inl rfl)) _ J,r p (.inr (.inr rfl)) _ OZ,d.mono kp,.nil⟩
  refine k _ _ _ _ _ _ q2 E2 ((c1.tr (dz.of m)).tr U) (fun a z=>m1 a (.inl z)) (fun a z=>?_) (Ci.cons (as:= [x,D,p]) ⟨rfl,_,rfl,x,D,p,vn,[],rfl,rfl,O3⟩ (fun a h=>?_) ?_ (fun a h=>?_) hh) (fun a h=>?_)
  . cases e:H a with
    | none=>exact .inr rfl
    | some o=>
     by_cases hf:a∈s.flatten
     . exact .inl (E.mu a hf)
     . have Y:=c1 _ _ e hf;rcases m2 a z with (y | y) | y
       . exact .inl y
       . rw[(hn a y).1] at Y;cases Y
       . rw[m _ _ Y] at y;cases y
  . have h:=(O a).mp h;obtain⟨h1,_,h3⟩:=Z a h;exact⟨m1 a (.inr h),h1,h3⟩
  . simp only [ak1,ab9,aa8,or_false,not_or,not_false_eq_true,aj4,and_true];exact⟨⟨Ne.symm L,Ne.symm px⟩,Ne.symm pd⟩
  . exact fun z=>c a z (.inr ((O a).mp h))
  . rcases ad8.mp h with y | y
    . exact(Z a ((O a).mp y)).2.1
    . exact fun z=>c a y (.inl z))
end
section
variable{X:Cx}{C:Addr}{y m:Str}{yp pos apos:Pos}{k:Nat}{ps:List Str}
inductive N2(S:DS)(C:Addr)(i:Nat)(δ:List Sl)(Q:Dt->List Sl->Prop):Prop
 | mk (s:St) (l:List (Str × St)) (h1:δ[i]?=some (v9 C s l)) (h2:S [AO C s l] fun r=>CC r/\Q r δ)
theorem zL (i : Nat) (h : i5 X.prog X.w X.K X.mg X.base bD C m k ps (spS S)) (G : bC k X.A) (B : PE X (.Name y yp) (fV i)) (t : (m == ("now" : Str)) = false := by decide) (u : (m == ("past" : Str)) = false := by decide) (I : eval (.Call (.Attribute (.Name y yp) m apos) [] [] pos) X.env = (do
   let Y<-eval (.Name y yp) X.env
   standAt apos.atName
   let (f,first)<-holding [Y] (getMethod Y m pl)
   callWith pos f first (backTo pos (starEach [] X.env)) (backToKw pos (keywordEach [] X.env))):=by rfl):Ev X (.Call (.Attribute (.Name y yp) m apos) [] [] pos) (fun j Q=>N2 S C i j Q):=by
 obtain⟨f,Z,v,z,c,F⟩:=h;refine PE.imp (nY B v z F G c .nil n4 I) fun b H Q U=>?_;obtain⟨W,M,a,j,P,E,⟨s,l,n,q⟩,k⟩:=U;obtain⟨x,D,p,d,e,L,R,O⟩:=rZ E n;refine⟨_,L,x,D,_,rfl,O.hx,by rw[ae7,t,ae7,u];rfl,?_⟩;show spS S ([V.ref x]++ []) H Q E0;exact⟨Mb M x p,[AO C s l],_,EB E.al,.cons O.wa rfl .nil,q,fun r N T o g J=>k _ _ _ _ o.2 (E.same g) (dz.of g) (J.Hj o.1 (E.same g).al)⟩
inductive MJ(S:T3)(C:Addr)(i:Nat)(δ:List Sl)(Q:List Dt->List Sl->Prop):Prop
 | mk (s:St) (l:List (Str × St)) (h1:δ[i]?=some (v9 C s l)) (h2:S [AO C s l] fun r=>(∀d∈r,Co d)/\Q r δ)
theorem KH (i : Nat) (h : i5 X.prog X.w X.K X.mg X.base bD C m k ps (rD S)) (B : bC k X.A) (v : PE X (.Name y yp) (fV i)) (g : (m == ("now" : Str)) = false := by decide) (t : (m == ("past" : Str)) = false := by decide) (G : eval (.Call (.Attribute (.Name y yp) m apos) [] [] pos) X.env = (do
   let Y<-eval (.Name y yp) X.env
   standAt apos.atName
   let (f,first)<-holding [Y] (getMethod Y m pl)
   callWith pos f first (backTo pos (starEach [] X.env)) (backToKw pos (keywordEach [] X.env))):=by rfl):Ov X (.Call (.Attribute (.Name y yp) m apos) [] [] pos) (fun n Q=>MJ S C i n Q):=by
 obtain⟨f,Z,u,z,c,F⟩:=h;refine PE.imp (nY v u z F B c .nil n4 G) fun b H Q U=>?_;obtain⟨W,M,T,n,N,E,⟨s,l,r,q⟩,k⟩:=U;obtain⟨x,D,p,d,e,J,R,O⟩:=rZ E r;refine⟨_,J,x,D,_,rfl,O.hx,by rw[ae7,g,ae7,t];rfl,?_⟩;show rD S ([V.ref x]++ []) H Q E0;exact⟨Mb M x p,[AO C s l],_,EB E.al,.cons O.wa rfl .nil,q,fun P L e a o j g I=>k _ _ _ _ _ o.2 (E.same j) (dz.of j) (I.Hl o.1) g⟩
end
end ay.r
namespace ay
open PySem PySem.Spec L2 LB LD PyProof.Rows jW
noncomputable def Ku(r:List Wo):Dt:= .tup (r.map bh)
def ZP(n:Nat)(r:List Wo):Prop:=r.length=n+1/\ ∀v,some v∈r->v.natAbs<=2000000000
def Pb(n:Nat)(T:List (List Wo)):Prop:= ∀j r,T[j]?=some r->ZP n r/\r[j+1]?=some none
def Ae(n:Nat)(w:Nat->Nat->Wo):Prop:=(∀i o v,w i o=some v->v.natAbs<=2000000000)/\ ∀i,w i i=none
def C2:DB:=fun t o Q=> ∃n:Nat,o= [xI n]/\1<=n/\n<=12/\t+700<=1000000/\ ∀(w:Nat->Nat->Wo) (t':Int),t'<=t+700->Ae n w->Q (cE n w) t'
noncomputable def AB(T:List (List Wo))(i o:Nat):Wo:=match i with
 | 0=>none
 | k+1=>(((T[k]?).getD [])[o]?).join
theorem LO{T:List (List Wo)}(l:T.length=n)(h:Pb n T): .tup (T.map Ku)=cE n (AB T):=by
 unfold cE;congr 1
 refine aj3 fun j=>?_;rw[aa9,aa9];by_cases c:j < n
 . have X:j < T.length:=by lia
   rw[ah2 c,aa6 X];show some (Ku T[j])=some (cF n (AB T) (1+1*j));congr 1
   unfold Ku cF;congr 1
   have m:=(h j _ (aa6 X)).1;refine aj3 fun o=>?_;rw[aa9,aa9];by_cases d:o < n+1
   . have a:o < T[j].length:=by rw[m.1];exact d
     rw[ai4 d,aa6 a];show some (bh (T[j])[o])=some (bh (AB T (1+1*j) o));rw[show 1+1*j=j+1 by lia];show _=some (bh (((T[j]?).getD [])[o]?).join);rw[aa6 X];show _=some (bh ((T[j])[o]?).join);rw[aa6 a];rfl
   . rw[ag1 (by rw[m.1];lia),ag1 (by rw[ae2];lia)];rfl
 . rw[ag1 (by lia),ag1 (by rw[ac4];lia)];rfl
theorem yF(h:AB T i o=some v): ∃k r,i=k+1/\T[k]?=some r/\r[o]?=some (some v):=by
 cases i with
 | zero=>cases h
 | succ k=>
  have h:(((T[k]?).getD [])[o]?).join=some v:=h;cases e:T[k]? with
  | none=>rw[e] at h;cases h
  | some r=>
   rw[e] at h;exact⟨k,r,rfl,e,by
    cases y:r[o]? with
    | none=>rw[show(some r).getD []=r from rfl,y] at h;cases h
    | some x=>rw[show(some r).getD []=r from rfl,y] at h;exact af7 some h⟩
theorem HF(h:Pb n T):Ae n (AB T):=by
 refine⟨fun i o v e=>?_,fun i=>?_⟩
 . obtain⟨k,r,rfl,u,x⟩:=yF e;exact(h k r u).1.2 v (ac8 x)
 . cases e:AB T i i with
   | none=>rfl
   | some v=>
    obtain⟨k,r,rfl,u,x⟩:=yF e;rw[(h k r u).2] at x;cases x
theorem Pb.snoc(h:Pb n T)(o:ZP n r)(E:r[T.length+1]?=some none):Pb n (T++ [r]):=fun j C e=>by
 by_cases c:j < T.length
 . rw[ae4 c] at e;exact h j C e
 . rw[af2 (by lia)] at e;have:j - T.length=0:=by
    cases z:j - T.length with
    | zero=>rfl
    | succ m=>rw[z] at e;simp at e
   rw[this] at e;cases e;have:j=T.length:=by lia
   subst this;exact⟨o,E⟩
theorem getNat{r:Int}{m:Nat}(h:0<=r)(g:r < (m:Int)): ∃k:Nat,r=(k:Int)/\k < m:=⟨r.toNat,by lia,by lia⟩
theorem Vg:((List.range m).map fun k=>Dt.int (0+(k:Nat)))=(List.range m).map xI:=by
 refine ad4 fun k _=>?_;show Dt.int _=Dt.int _;congr 1
 lia
def TbO(n y b:Nat)(t:Int)(i:Nat)(j:List Sl):Prop:= ∃(T:List (List Wo)) (t':Int) (s5 s6 s7 s8:Sl),j= [.bx t',.im (xI n),.im (xI y),.im (xI b),.ow (T.map Ku),s5,s6,s7,s8]/\s5.bz=false/\s6.bz=false/\s7.bz=false/\s8.bz=false/\T.length=i/\Pb n T/\t'<=t+2+52*i
def TbI(n y b:Nat)(T:List (List Wo))(U:Nat)(t:Int)(k:Nat)(i:List Sl):Prop:= ∃(r:List Wo) (t':Int) (s7 s8:Sl),i= [.bx t',.im (xI n),.im (xI y),.im (xI b),.ow (T.map Ku),.im (xI U),.ow (r.map bh),s7,s8]/\s7.bz=false/\s8.bz=false/\r.length=k/\(∀v,some v∈r->v.natAbs<=2000000000)/\(U < k->r[U]?=some none)/\t'<=t+4*k
section
variable{P:Program}{w:World}{K:PySem.W.Frag}{mg:Str->Option Value}{base:Heap}
theorem D9(F:dj K "_law_table" "_law_table" rR f fd)(T:Txt mg)(C:cj P w K mg base "_law_take" 1 ["_law_state","_law_many"] (Cp ur)):aK P w K mg base bD 2 f fd ["_law_state","_law_many"] (Cp C2):=by
 refine Y1 F eV (fun t ds Qd h=>?_) (fun bq A outer s H E o=>⟨_,(aj (nN 2 3 rfl eV.nd (mK (gu 0 C (o.mono (by decide)) (pv 0) (aa aq ae)) (mK (cy (gX (aa aq (aa aq (aa aq (aa aq ae))))) (gu 0 C (o.mono (by decide)) (pv 0) (aa aq ae))) qt)))
 (aj (fN 4 eV.nd (jo ae))
 (aj (gW rfl (gH T.cg (aa aq (aa (cM (dv 1) aq) ae))) (iP 5 eV.nd)
 (aj (fN 6 eV.nd (jo ae))
 (aj (gW rfl (oH T.cg (aa (cM (dv 1) aq) ae)) (iP 7 eV.nd)
 (aj (fN 8 eV.nd (jo (aa (gu 0 C (o.mono (by decide)) (pv 0) (aa aq ae)) (aa (di (gu 0 C (o.mono (by decide)) (pv 0) (aa aq ae)) aq) (aa (di (gu 0 C (o.mono (by decide)) (pv 0) (aa (cM (qD aq (K8 aq aq)) aq) ae)) (K8 aq aq)) (aa aq ae))))))
 (aw (dB (cK 6 (pv 6) (aa (cS (PW.pt (w_or (wI (dv 7) (dv 5)) (mi (wI (gu 0 C (o.mono (by decide)) (pv 0) (aa (dv 3) ae)) aq)))) fG (zM 8 (pv 8) (dv 2))) ae))))) ah4)
 (aw (dB (cK 4 (pv 4) (aa (xX 6 T.tup (pv 6)) ae)))))) ah4)
 (aw (aC (xX 4 T.tup (pv 4))))))),fun t ds Qd h=>?_⟩)
 . obtain⟨n,rfl,_⟩:=h;rfl
 . obtain⟨n,rfl,n1,fB,ht,q⟩:=h;refine⟨⟨_,rfl⟩,_,rfl,_,rfl,by lia,by decide,by decide,fun y y0 y1=>?_⟩;obtain⟨y,rfl,hy⟩:=getNat (m:=4) y0 y1;refine⟨by show 4<=sizeLine;decide,⟨_,rfl⟩,_,rfl,_,rfl,by lia,by decide,by decide,fun r h0 h1=>?_⟩;obtain⟨z,rfl,hz⟩:=getNat (m:=4) h0 h1;obtain⟨b,em,b1,b9⟩: ∃m:Nat,[Dt.int 9,Dt.int 9,Dt.int 4,Dt.int 2][z]?=some (xI m)/\1<=m/\m<=9:=by
    match z,hz with
    | 0,_=>exact⟨9,rfl,by decide,by decide⟩
    | 1,_=>exact⟨9,rfl,by decide,by decide⟩
    | 2,_=>exact⟨4,rfl,by decide,by decide⟩
    | 3,_=>exact⟨2,rfl,by decide,by decide⟩
   refine⟨_,_,xI b,.inl rfl,rfl,bw em,_,_,rfl,⟨_,rfl,rfl⟩,⟨_,rfl,rfl⟩,?_⟩;dsimp only;refine⟨by show 0<=sizeLine;decide,⟨_,rfl,rfl⟩,?_⟩;refine⟨_,rfl,_,_,rfl,rfl,1,(n:Int)+1,rfl,⟨by decide,by decide,by lia,by lia⟩,?_⟩;rw[show((n:Int)+1 - 1).toNat=n by lia,P4];refine cQ (TbO n y b t) ⟨[],_,.no,.no,.no,.no,rfl,rfl,rfl,rfl,rfl,rfl,fun j r o=>by simp at o,by lia⟩ (fun i d J hi R Δ' pA EV=>?_) (fun J R=>?_)
   . obtain⟨L,V,s5,s6,M,O,rfl,b5,b6,N,B,I,Z,Ra⟩:=R;rw[aa9] at hi;obtain⟨wd,V9,rfl⟩:=ai3.mp hi;have il:i < n:=by have:=(ab0.mp V9).1;simpa using this
     have ew:wd=i+1:=by
      rw[ah2 il] at V9;have:=Option.some.inj V9;lia
     subst ew;refine⟨⟨_,rfl,b5⟩,?_⟩;refine⟨by show 0<=sizeLine;decide,⟨_,rfl,b6⟩,?_⟩;refine⟨_,rfl,_,_,rfl,rfl,_,rfl,by lia,by lia,?_⟩;rw[show((n:Int)+1).toNat=n+1 by lia,Vg];refine cQ (TbI n y b L (i+1) V) ⟨[],_,M,O,rfl,N,B,rfl,fun v hv=>absurd hv aa8,fun z=>absurd z (Nat.not_lt_zero _),by lia⟩ (fun j d J hj R Δ2 Ct sO=>?_) (fun J R=>?_)
     . obtain⟨r,u,M,O,rfl,N,B,D,rb,X,Q9⟩:=R;rw[aa9] at hj;obtain⟨p,a,rfl⟩:=ai3.mp hj;have jl:j < n+1:=by have:=(ab0.mp a).1;rw[ae2] at this;exact this
       have eo:p=j:=by
        rw[ai4 jl] at a;exact(Option.some.inj a).symm
       subst eo;refine⟨⟨_,rfl,N⟩,?_⟩;dsimp only;refine dM (fun J=> ∃(Q S U l:Int),Q.natAbs<=2000000000/\S.natAbs<=2000000000/\U.natAbs<=2000000000/\l<=u+3/\J= [.bx l,.im (xI n),.im (xI y),.im (xI b),.ow (L.map Ku),.im (xI (i+1)),.ow (r.map bh),.im (xI p),.ow [.int Q,.int S,.int U,.int 0]]) (fun Δ3 hn3 _=>?_) ?_
       . refine⟨⟨_,rfl⟩,_,rfl,_,rfl,by lia,by decide,by decide,fun r1 a1 a2=>⟨⟨_,rfl⟩,_,rfl,_,rfl,by lia,by decide,by decide,fun r2 c1 c2=>⟨_,_,rfl,rfl,?_⟩⟩⟩;have c9:Cn 10 9:=by unfold Cn;decide
         refine⟨⟨_,rfl⟩,_,_,rfl,rfl,c9,_,_,rfl,rfl,(by unfold yw;decide),_,_,rfl,rfl,_,rfl,_,rfl,by lia,by decide,by decide,fun r3 d1 d2=>⟨_,_,rfl,rfl,c9,_,_,rfl,rfl,by show 4<=sizeLine;decide,⟨_,rfl,B⟩,hn3 _ ⟨r1,r2 - 9,r3 - 10^9,u+3,by lia,by lia,?_,at5 _,?_⟩⟩⟩
         . have e:(2*10^Int.toNat 9+1:Int)=2000000001:=by decide
           rw[e] at d2;have e2:(10^9:Int)=1000000000:=by decide
           rw[e2];lia
         . rw[show u+1+1+1=u+3 by lia];rfl
       rintro J ⟨Q,S,U,l,l1,l2,l3,l4,rfl⟩
       have k: ∀(x:Wo) (Y:Int),Y<=l+1->(∀v,x=some v->v.natAbs<=2000000000)->(p=i+1->x=none)->Δ2.nx [.bx Y, .im (xI n), .im (xI y), .im (xI b), .ow (L.map Ku), .im (xI (i+1)), .ow (r.map bh++ [bh x]), .im (xI p), .ow [.int Q, .int S, .int U, .int 0]]:=fun x Y h4 hx hn=>Ct _ ⟨r++ [x],Y,_,_,by rw[ac5];rfl,rfl,rfl,by rw[ac1,D];rfl,fun v hv=>(ad8.mp hv).elim (rb v) fun z=>hx v (ab1.mp z).symm,fun z=>by
         by_cases c:i+1 < p
         . rw[ae4 (by rw[D];exact c)];exact X c
         . have e:p=i+1:=by lia
           rw[af2 (by lia),D,e,an6,hn e];rfl,by lia⟩
       have G:(r.map bh).length < sizeLine:=by rw[aa4];exact ae0 (show r.length < 100 by lia) (by decide)
       refine⟨⟨_,rfl⟩,_,rfl,_,rfl,_,FD,_,rfl,?_⟩;by_cases c:p=i+1
       . exact eK (ab8 c) (cm ⟨_,_,rfl,rfl,G,k none l (by lia) (fun _ z=>nomatch z) fun _=>rfl⟩)
       . refine dh (fun z=>c (ae1 z)) ⟨⟨_,rfl⟩,_,rfl,_,rfl,_,rfl,by lia,by lia,by lia,fun v v0 v1=>⟨_,rfl,_,rfl,?_⟩⟩;by_cases g:v=0
         . exact eK (ab8 g) ⟨_,_,rfl,rfl,G,k none (l+1) (by lia) (fun _ z=>nomatch z) fun _=>rfl⟩
         . refine dh (fun z=>g (ae1 z)) ⟨⟨_,rfl⟩,_,rfl,?_⟩;match y,hy with
           | 0,_=>exact⟨_,_,_,rfl,rfl,bw (j:=0) rfl,_,_,rfl,rfl,G,k (some Q) (l+1) (by lia) (fun _ z=>by cases z;exact l1) fun z=>absurd z c⟩
           | 1,_=>exact⟨_,_,_,rfl,rfl,bw (j:=1) rfl,_,_,rfl,rfl,G,k (some S) (l+1) (by lia) (fun _ z=>by cases z;exact l2) fun z=>absurd z c⟩
           | 2,_=>exact⟨_,_,_,rfl,rfl,bw (j:=2) rfl,_,_,rfl,rfl,G,k (some U) (l+1) (by lia) (fun _ z=>by cases z;exact l3) fun z=>absurd z c⟩
           | 3,_=>exact⟨_,_,_,rfl,rfl,bw (j:=3) rfl,_,_,rfl,rfl,G,k (some 0) (l+1) (by lia) (fun _ z=>by cases z;decide) fun z=>absurd z c⟩
     . obtain⟨r,u,M,O,rfl,N,B,D,rb,X,Q9⟩:=R;rw[aa4,ae2] at X Q9 D;refine⟨⟨_,rfl⟩,_,rfl,_,_,rfl,rfl,?_,pA _ ⟨L++ [r],u, .im (xI (i+1)), .ow (r.map bh),M,O,?_,rfl,rfl,N,B,by rw[ac1,I];rfl,Z.snoc ⟨D,rb⟩ (by rw[I];exact X (by lia)),by lia⟩⟩
       . rw[aa4,I];exact ae0 (show i < 100 by lia) (by decide)
       . rw[ac5];rfl
   . obtain⟨L,V,s5,s6,M,O,rfl,b5,b6,N,B,I,Z,Ra⟩:=R;rw[aa4,ac4] at I Ra;refine⟨_,rfl,_,rfl,?_⟩;show Qd (.tup (L.map Ku)) V;rw[LO I Z];exact q _ V (by lia) (HF Z)
end
end ay
namespace ay.r
open PySem PySem.Spec L2 LB LD PyProof.Rows jW
noncomputable def j6(L:List Wo):Wo:=L.foldl (fun a c=>match a,c with
 | some x,some y=>some (x+y)
 | _,_=>none) (some 0)
theorem uk(L:List Wo)(c:Wo):j6 (L++ [c])=match j6 L,c with
 | some x,some y=>some (x+y)
 | _,_=>none:=by
 unfold j6;rw[List.foldl_append];rfl
theorem uj: ∀(cs:List Int) (a:Int),(cs.map some).foldl (fun(a c:Wo)=>match a,c with
 | some x,some y=>some (x+y)
 | _,_=>none) (some a)=some (a+cs.sum)
 | [],a=>by show some a=some (a+0);rw[Int.add_zero]
 | c::cs,a=>by
  show(cs.map some).foldl _ (some (a+c))=_;rw[uj cs (a+c),List.sum_cons,Int.add_assoc]
noncomputable def tZ(l:List (Str × St)):List Str:=l.map (·.1)
theorem tY:tZ (l++ [(w,s)])=tZ l++ [w]:=by unfold tZ;rw[ac5];rfl
theorem vG(r:Rc n m s):isDone s=dy s:=by
 have q:=r.lv.k.bl;have t:=r.lv.k.g.l;unfold isDone dy;rw[t,am0,ae3,ah3,ah3,at4,ar0,aj7,aj7,Decidable.not_not];constructor
 . rintro⟨a,b⟩;exact⟨by lia,b⟩
 . rintro⟨a,b⟩;exact⟨by lia,b⟩
theorem E8(r:Rc n m s)(e:dy s=true):gn s=ay.gn (jO s):=by
 obtain⟨I,p,z,O,q⟩:=xU r e;have u:=r.lv.k.g.l;have t:=r.lv.k.un p O q;unfold gn;rw[vG r,e,if_pos rfl];show Dt.tup _=Dt.tup ((jO s).map xI);congr 1
 unfold jO;rw[z,ad6];refine aj3 fun j=>?_;rw[aa9,aa9];show _=(s.aX.set (p - 1) (some 0))[j]?.map _;by_cases c:j=p - 1
 . subst c;rw[ac7 (by lia),t.mpr (.inl (by rw[z];exact ab4))];rfl
 . rw[ab7 (by lia)];cases s.aX[j]? with
   | none=>rfl
   | some x=>cases x <;> rfl
theorem CZ{n:Nat}{w:Nat->Nat->Wo}{F:List Str}(p:Hm n F s)(h:bE n w s=none)(D:F≠ []):j6 (cC n w (first n) F)=none:=by
 cases p with
 | nil=>exact absurd rfl D
 | snoc p o=>
  rename_i F s Y;rw[gP,p.go.2,uk];unfold eC;rw[h];cases bE n w s <;> cases j6 (cC n w (first n) F) <;> rfl
theorem Fs:CC (ay.gn g):= .tup fun d r=>by obtain⟨x,_,rfl⟩:=ab6.mp r;exact .int _
inductive GoI(C:Addr)(n:Nat)(w:Nat->Nat->Wo)(sf t:Int)(k:Nat)(δ:List Sl):Prop
 | mk (s:St) (l:List (Str × St)) (t':Int) (s6 s7 s8 s9 kn Cq OU:Sl) (e:δ= [.bx t',.im (cE n w),.im (.int sf),v9 C s l,.im (bh (j6 (cC n w (first n) (tZ l)))),.im (.int (l.length:Int)),s6,s7,s8,s9,kn,Cq,OU,.no,.no]) (p:Hm n (tZ l) s) (ht:t'<=t+(l.length:Int)) (hk:k=2*n - 1 - l.length) (b6:s6.bz=false) (b7:s7.bz=false) (b8:s8.bz=false) (b9:s9.bz=false) (Lg:kn.bz=false) (ZN:Cq.bz=false) (ZM:OU.bz=false)
def Fg:DB:=fun t o Q=> ∃(n:Nat) (w:Nat->Nat->Wo) (sf:Int),o= [cE n w,.int sf]/\1<=n/\n<=12/\Ae n w/\t+30<=900000/\ ∀E,E<=t+30->Q (.bl true) E
section
variable{P:Program}{w:World}{K:PySem.W.Frag}{mg:Str->Option Value}{base:Heap}{C fI:Addr}{Y3:FuncData}
theorem IF(F:dj K "_law_gone" "_law_gone" w4 f fd)(T:Txt mg)(XJ:Mk K C fI)(SU:aK P w K mg base bD 2 fI Y3 ["self","n"] (j8 C))(gR:mg "Reader"=some (.ref C))(bR:Binds K Y3 ["self","n"] [])(GS:i5 P w K mg base bD C "step" 2 ["self","word"] (j7 C))(Ag:i5 P w K mg base bD C "is_done" 1 ["self"] (spS (zG C)))(tQ:i5 P w K mg base bD C "stand" 1 ["self"] (spS (wO C)))(GU:i5 P w K mg base bD C "hanging" 2 ["self"] (spS (Fb C)))(OE:i5 P w K mg base bD C "may" 2 ["self"] (rD (MO C)))(yo:i5 P w K mg base bD C "steps" 1 ["self"] (rD (wL C)))(dI:cj P w K mg base "_law_take" 1 ["_law_state","_law_many"] (Cp ur))(fS:cj P w K mg base "still" 6 ["w","stand"] (a0 OR))(jT:cj P w K mg base "sure_steps" 8 ["w","stand"] (a0 C9))(vZ:cj P w K mg base "_law_best_right" 9 ["_law_w","_law_stand"] (a0 GA))(jd:cj P w K mg base "cost" 7 ["w","stand","step"] (a0 tq))(tP:cj P w K mg base "_law_worth" 1 ["_law_w","_law_h"] (a0 VQ))(cW:cj P w K mg base "best_plain" 4 ["w"] (a0 vT))(l9:cj P w K mg base "slips" 7 ["w","steps"] (a0 wU)):aK P w K mg base bD 10 f fd ["_law_state","_law_w","_law_sure_from"] (Cp Fg):=by
 refine Y1 F cY (fun t ds Qd h=>?_) (fun bq A outer s H E u=>⟨_,(aj (L0 3 4 5 rfl cY.nd (WG XJ SU (u.mono (by decide)) gR bR (aa (cv T.len (aa (dv 1) ae)) ae) (mK aq (mK aq qt))))
 (aj (yR (nH (iW (zL 3 Ag (u.mono (by decide)) (pv 3))))
 (aj (bY 6 cY.nd (zL 3 tQ (u.mono (by decide)) (pv 3)))
 (aj (nN 7 8 rfl cY.nd (mK (aE fS (u.mono (by decide)) (aa (dv 1) (aa (dv 6) ae))) (mK (aE jT (u.mono (by decide)) (aa (dv 1) (aa (dv 6) ae))) qt)))
 (aj (bY 9 cY.nd (cS (PW.pt (w_or (Py (dv 5) (dv 2)) (mi (gU (dv 7))))) (Ov.ev (KH 3 OE (u.mono (by decide)) (pv 3))) (dv 8)))
 (aj (c7 (PW.pt (w_or (nH (iW (aE vZ (u.mono (by decide)) (aa (dv 1) (aa (dv 6) ae))))) (w_or (uv u.nC (dv 9)) (mi (PW.pt (w_and (hZ (dv 7)) (jz (uv u.nC (dv 8)))))))))
 (aw (aC jg))
 bF)
 (aj (bY 10 cY.nd (cy (dv 9) (gu 0 dI (u.mono (by decide)) (pv 0) (aa (cv T.len (aa (dv 9) ae)) ae))))
 (aj (bY 11 cY.nd (aE jd (u.mono (by decide)) (aa (dv 1) (aa (dv 6) (aa (dv 10) ae)))))
 (aj (dB (JC 3 GS (u.mono (by decide)) (pv 3) (aa (dv 10) ae)))
 (aj (bY 12 cY.nd (aE fS (u.mono (by decide)) (aa (dv 1) (aa (zL 3 tQ (u.mono (by decide)) (pv 3)) ae))))
 (aj (c7 (PW.pt (w_and (gU (dv 7)) (jz (PW.pt (w_or (hZ (dv 12)) (mi (hZ (dv 11))))))))
 (aw (aC jg))
 bF)
 (aj (c7 (PW.pt (w_and (hZ (dv 12)) (jz (PW.pt (w_or (gU (dv 11)) (w_or (Py (dv 11) aq) (mi (uu (dv 12) (di (dv 7) (dv 11))))))))))
 (aw (aC jg))
 bF)
 (aj (c7 (PW.pt (w_and (UP (dv 5) (dv 2)) (w_and (hZ (dv 7)) (jz (uu (dv 11) aq)))))
 (aw (aC jg))
 bF)
 (aj (bY 4 cY.nd (cS (PW.pt (w_or (gU (dv 4)) (mi (gU (dv 11))))) fG (cM (dv 4) (dv 11))))
 (aw (bY 5 cY.nd (cM (dv 5) aq))))))))))))))) ah4)
 (aj (nN 13 14 rfl cY.nd (mK (aE tP (u.mono (by decide)) (aa (dv 1) (aa (zL 3 GU (u.mono (by decide)) (pv 3)) ae))) (mK (aE cW (u.mono (by decide)) (aa (dv 1) ae)) qt)))
 (aj (c7 (uu (zN (dv 13)) (zN (dv 4)))
 (aw (aC jg))
 bF)
 (aw (aC (Xa (zN (dv 13)) (vJ (zO (xY (dv 13) (di (cy (dv 14) aq) (dv 4))) (vJ (xY (FW rfl T.sum (aa (aE l9 (u.mono (by decide)) (aa (dv 1) (aa (Ov.ev (KH 3 yo (u.mono (by decide)) (pv 3))) ae))) ae)) (dv 4)))))))))))),fun t ds Qd h=>?_⟩)
 . obtain⟨n,w,O,rfl,_⟩:=h;rfl
 . obtain⟨n,w,O,rfl,G,R,tb,ht,q⟩:=h;have U:Sm w:=fun i o v e=>by have:=tb.1 i o v e;lia
   have tl:(List.map (cF n w) (List.range' 1 n)).length=n:=by rw[aa4,ac4]
   refine⟨_,rfl,_,.inr rfl,n,by rw[tl],G,by lia,_,_,_,rfl,⟨_,rfl,rfl⟩,⟨_,rfl,rfl⟩,⟨_,rfl,rfl⟩,?_⟩;refine pY (GoI C n w O t) ⟨2*n - 1,first n,[],t,.no,.no,.no,.no,.no,.no,.no,rfl,.nil,by show t<=t+((0:Nat):Int);lia,rfl,rfl,rfl,rfl,rfl,rfl,rfl,rfl⟩ (fun k V hP Δ2 Ct sO=>?_);obtain⟨s,l,N,s6,s7,s8,s9,kn,Cq,OU,rfl,p,Ra,hk,b6,b7,b8,b9,Lg,ZN,ZM⟩:=hP;have r:=p.rc;have le:=r.le G;have wl:(tZ l).length=l.length:=aa4 _;rw[wl] at le r;have fi:jm s:=r.lv.k.g.BF R (by lia);refine⟨s,l,rfl,s,l,rfl,?_⟩;rw[vG r];refine⟨.bl _,_,rfl,?_⟩;cases S:dy s with
   | true=>
    refine aW ?_;have hh:=E8 r S;have me:=vA r S;have ml:l.length=2*n - 1:=by
     have:=gj r.lv G;rw[S] at this;exact ae1 this.symm
    have ve:=HA (w:=w) r S;have hl:s.aX.length<=100:=by rw[r.lv.k.g.l];lia
    refine⟨_,rfl,s,l,rfl,s,l,rfl,hl,by rw[hh];exact Fs,n,w,jO s,by rw[hh],aL me,dJ me,by lia,?_⟩;refine⟨_,rfl,n,w,rfl,G,R,U,fun rr B=>⟨_,_,rfl,⟨_,rfl,rfl⟩,⟨_,rfl,rfl⟩,?_⟩⟩;dsimp only;cases e:g0 w (jO s) with
    | none=>
     rw[e] at ve;have tn:=CZ p ve (fun z=>by have:=af7 List.length z;rw[wl,ml] at this;simp at this;lia);rw[tn];exact⟨_,rfl,_,rfl,true,rfl,_,rfl,aW ⟨_,rfl,true,rfl,cm ⟨_,rfl,q _ (by lia)⟩⟩⟩
    | some v=>
     obtain⟨a,cs,ea,ec,es⟩:=vN (tZ l) _ _ _ .zero p.go.1 v (by rw[p.go.2,ve];exact e);have vr:=Ap tb.2 B;rw[ea] at vr;have ts:j6 (cC n w (first n) (tZ l))=some (0+cs.sum):=by rw[ec];exact uj cs 0
     have X: ∀{x y:Int},x=y->eq2 (.int x) (.int y)=some true:=fun z=>(show some (decide _)=some true from af7 some (ab8 z))
     cases rr with
     | none=>cases vr
     | some pr=>
      obtain⟨a',h'⟩:=pr;have va:a=a':=Option.some.inj vr;subst va;rw[ts];refine⟨_,rfl,_,rfl,true,rfl,_,rfl,aW ⟨_,rfl,false,rfl,aW ?_⟩⟩;refine⟨_,rfl,_,rfl,_,_,_,.inr rfl,rfl,bw (j:=0) rfl,_,rfl,_,_,rfl,rfl,true,X (by lia),true,rfl,cm ?_⟩;refine⟨_,rfl,s,l,rfl,s,l,rfl,by lia,fun d hd=>(by obtain⟨x,_,rfl⟩:=ab6.mp hd;exact .str _),n,w,tZ l,by unfold tZ;rw[ad6];rfl,G,R,U,by lia,p.go.1,?_⟩;refine⟨cs,by rw[ec,ad6];rfl,_,rfl,true,X (by lia),_,rfl,q _ (by lia)⟩
   | false=>
    have le2:l.length+1<=2*n - 1:=by
     have:=gj r.lv G;rw[S] at this;have:=ar8 this.symm;lia
    refine cm ⟨s,l,rfl,s,l,rfl,lX,⟨_,rfl,b6⟩,?_⟩;refine⟨_,rfl,_,rfl,n,_,w,s,rfl,r,G,R,U,_,rfl,_,rfl,n,_,w,s,rfl,r,G,R,U,_,_,rfl,⟨_,rfl,b7⟩,⟨_,rfl,b8⟩,?_⟩;dsimp only;refine dM (fun m=> ∃L:List Str,m= [.bx N,.im (cE n w),.im (.int O),v9 C s l,.im (bh (j6 (cC n w (first n) (tZ l)))),.im (.int (l.length:Int)),.im s.dt,.im (bh (bE n w s)),.im (.lst ((dw n w s).map .str)),.im (.lst (L.map .str)),kn,Cq,OU,.no,.no]/\(∀Y∈L,lL s Y=true)/\L≠ []/\L.length<=3/\(((l.length:Int) < O\/bE n w s=none)\/ ∀Y∈L,eC n w s Y=some 0)) (fun I J _=>?_) ?_
    . have may:(((l.length:Int) < O)\/bE n w s=none)->I.nx [.bx N, .im (cE n w), .im (.int O),v9 C s l, .im (bh (j6 (cC n w (first n) (tZ l)))), .im (.int (l.length:Int)), .im s.dt, .im (bh (bE n w s)), .im (.lst ((dw n w s).map .str)), .im (.lst (eh s)),kn,Cq,OU, .no, .no]:=fun z=>J _ ⟨sC s,by rw[oj],fun Y h=>zq h,fun y=>Gq G r S (by rw[oj,y];rfl),by have:=sy (s:=s);rwa [oj,aa4] at this, .inl z⟩;refine⟨_,rfl,_,rfl,_,_,rfl,rfl,_,rfl,?_⟩;by_cases c:(l.length:Int) < O
      . refine eK (ab8 c) (cm ?_);exact⟨s,l,rfl,s,l,rfl,fi,fun d h=>sA h,⟨_,rfl,b9⟩,may (.inl c)⟩
      . refine dh (by rw[ad1 c];decide) ?_;cases Q:bE n w s with
        | none=>
         refine⟨_,rfl,_,rfl,cm ?_⟩;have:=may (.inr Q);rw[Q] at this;exact⟨s,l,rfl,s,l,rfl,fi,fun d h=>sA h,⟨_,rfl,b9⟩,this⟩
        | some a=>
         refine⟨_,rfl,_,rfl,aW ?_⟩;refine⟨_,rfl,⟨_,rfl,b9⟩,J _ ⟨dw n w s,by rw[Q];rfl,fun Y h=>kB.mp (af8.mp h).1,fun y=>?_,?_,.inr fun Y h=>ae1 (af8.mp h).2⟩⟩
         . obtain⟨Y,o,e⟩:=ay.h.qc G r S Q;have:Y∈dw n w s:=af8.mpr ⟨kB.mpr o,ab8 e⟩;rw[y] at this;cases this
         . refine ad9 (ao1 _ _) ?_;have:=sy (s:=s);rwa [oj,aa4] at this
    rintro V ⟨L,rfl,bc,tS,hl3,Tu⟩
    have emp:(L.map Dt.str).isEmpty=false:=by cases L with | nil=>exact absurd rfl tS | cons a b=>rfl
    refine dM (fun m=>m= [.bx N,.im (cE n w),.im (.int O),v9 C s l,.im (bh (j6 (cC n w (first n) (tZ l)))),.im (.int (l.length:Int)),.im s.dt,.im (bh (bE n w s)),.im (.lst ((dw n w s).map .str)),.im (.lst (L.map .str)),kn,Cq,OU,.no,.no]) (fun I J _=>?_) ?_
    . have D:=J _ rfl;refine⟨_,rfl,_,rfl,n,_,w,s,rfl,r,G,R,U,_,rfl,aW ⟨_,rfl,_,rfl,_,rfl,dh (by show¬((L.map Dt.str).isEmpty=true);rw[emp];decide) ?_⟩⟩;cases Q:bE n w s with
      | none=>
       rw[Q] at D;exact⟨_,rfl,_,rfl,aW (aW D)⟩
      | some a=>
       rw[Q] at D;obtain⟨Y,o,e⟩:=ay.h.qc G r S Q;have:Y∈dw n w s:=af8.mpr ⟨kB.mpr o,ab8 e⟩;have W3:((dw n w s).map Dt.str).isEmpty=false:=by cases h:dw n w s with | nil=>rw[h] at this;cases this | cons a b=>rfl
       refine⟨_,rfl,_,rfl,cm ⟨_,rfl,_,rfl,_,rfl,dh (by show¬(((dw n w s).map Dt.str).isEmpty=true);rw[W3];decide) D⟩⟩
    rintro V rfl
    have l0:0 < L.length:=al1.mpr tS;refine⟨_,rfl,⟨_,rfl⟩,_,rfl,_,.inl rfl,_,rfl,_,rfl,by lia,by rw[aa4];lia,by rw[aa4];lia,fun y y0 y1=>?_⟩;rw[aa4] at y1;obtain⟨y,rfl⟩: ∃z:Nat,y=(z:Int):=⟨y.toNat,by lia⟩
    have yl:y < L.length:=by lia
    have U4:L[y]∈L:=List.getElem_mem yl;generalize es:L[y]=Y at U4;have o:=bc Y U4;refine⟨_,_,.str Y,.inl rfl,rfl,bw (by rw[aa9,aa6 yl,es];rfl),⟨_,rfl,Lg⟩,?_⟩;have r2:=r.step o;have le3:=r2.le G;refine⟨_,rfl,_,rfl,_,rfl,n,_,w,s,Y,rfl,r,G,R,U,o,⟨_,rfl,ZN⟩,?_⟩;refine⟨⟨s,l,rfl⟩,_,rfl,s,l,Y,rfl,rfl,fi,o,by lia,?_⟩;refine⟨_,rfl,fA s Y,l++ [(Y,s)],rfl,_,_,rfl,lX,n,_,w,fA s Y,rfl,r2,G,R,U,⟨_,rfl,ZM⟩,?_⟩;dsimp only;have Z: ∀b,bE n w (fA s Y)=some b-> ∃a,bE n w s=some a/\b<=a:=fun b h=>nz r o h;have M:eC n w s Y=kC (bE n w s) (bE n w (fA s Y)):=rfl;have Vn:((l.length:Int) < O\/bE n w s=none)\/eC n w s Y=some 0:=Tu.imp id fun z=>z Y U4;have LI:j6 (cC n w (first n) (tZ (l++ [(Y,s)])))=match j6 (cC n w (first n) (tZ l)),eC n w s Y with
     | some x,some y=>some (x+y)
     | _,_=>none:=by
     rw[tY,gP,p.go.2,uk]
    clear Tu;generalize eC n w s Y=pr at M Vn LI ⊢;generalize bE n w s=a at M Vn Z ⊢;generalize bE n w (fA s Y)=b at M Z ⊢;generalize j6 (cC n w (first n) (tZ l))=Ti at LI ⊢;have X: ∀{x y:Int},x=y->eq2 (.int x) (.int y)=some true:=fun z=>(show some (decide _)=some true from af7 some (ab8 z))
    refine dM (fun m=>m= [.bx (N+1),.im (cE n w),.im (.int O),v9 C (fA s Y) (l++ [(Y,s)]),.im (bh Ti),.im (.int (l.length:Int)),.im s.dt,.im (bh a),.im (.lst ((dw n w s).map .str)),.im (.lst (L.map .str)),.im (.str Y),.im (bh pr),.im (bh b),.no,.no]) (fun I J _=>?_) ?_
    . have D:=J _ rfl;cases a with
      | none=>
       cases b with
       | some b=>obtain⟨_,h,_⟩:=Z b rfl;cases h
       | none=>
        cases (show pr=none from M);exact⟨_,rfl,_,rfl,cm ⟨_,rfl,_,rfl,aW ⟨_,rfl,_,rfl,aW D⟩⟩⟩
      | some a=>exact⟨_,rfl,_,rfl,aW (aW D)⟩
    rintro V rfl
    refine dM (fun m=>m= [.bx (N+1),.im (cE n w),.im (.int O),v9 C (fA s Y) (l++ [(Y,s)]),.im (bh Ti),.im (.int (l.length:Int)),.im s.dt,.im (bh a),.im (.lst ((dw n w s).map .str)),.im (.lst (L.map .str)),.im (.str Y),.im (bh pr),.im (bh b),.no,.no]) (fun I J _=>?_) ?_
    . have D:=J _ rfl;cases b with
      | none=>exact⟨_,rfl,_,rfl,aW (aW D)⟩
      | some b=>
       obtain⟨a',h,hb⟩:=Z b rfl;subst h;cases (show pr=some (a' - b) from M);exact⟨_,rfl,_,rfl,cm ⟨_,rfl,_,rfl,aW ⟨_,rfl,_,_,rfl,rfl,_,rfl,dh (by rw[ad1 (by lia)];decide) ⟨_,rfl,_,rfl,_,rfl,_,_,rfl,rfl,true,X (by lia),_,rfl,aW D⟩⟩⟩⟩
    rintro V rfl
    refine dM (fun m=>m= [.bx (N+1),.im (cE n w),.im (.int O),v9 C (fA s Y) (l++ [(Y,s)]),.im (bh Ti),.im (.int (l.length:Int)),.im s.dt,.im (bh a),.im (.lst ((dw n w s).map .str)),.im (.lst (L.map .str)),.im (.str Y),.im (bh pr),.im (bh b),.no,.no]) (fun I J _=>?_) ?_
    . have D:=J _ rfl;refine⟨_,rfl,_,rfl,_,_,rfl,rfl,_,rfl,?_⟩;by_cases c:(l.length:Int)>=O
      . refine eK (ab8 c) ?_;cases a with
        | none=>exact⟨_,rfl,_,rfl,aW (aW D)⟩
        | some a=>
         have:pr=some 0:=Vn.elim (fun z=>z.elim (fun y=>by lia) fun y=>nomatch y) id;cases this;exact⟨_,rfl,_,rfl,cm ⟨_,rfl,true,X rfl,_,rfl,aW D⟩⟩
      . exact dh (by rw[ad1 c];decide) (aW D)
    rintro V rfl
    refine dM (fun m=>m= [.bx (N+1),.im (cE n w),.im (.int O),v9 C (fA s Y) (l++ [(Y,s)]),.im (bh (j6 (cC n w (first n) (tZ (l++ [(Y,s)]))))),.im (.int (l.length:Int)),.im s.dt,.im (bh a),.im (.lst ((dw n w s).map .str)),.im (.lst (L.map .str)),.im (.str Y),.im (bh pr),.im (bh b),.no,.no]) (fun I J _=>?_) ?_
    . have D:=J _ rfl;rw[LI] at D;cases Ti with
      | none=>exact⟨_,rfl,_,rfl,cm (cm ⟨⟨_,rfl,rfl⟩,D⟩)⟩
      | some x=>
       cases pr with
       | none=>exact⟨_,rfl,_,rfl,aW ⟨_,rfl,_,rfl,cm ⟨⟨_,rfl,rfl⟩,D⟩⟩⟩
       | some y=>exact⟨_,rfl,_,rfl,aW ⟨_,rfl,_,rfl,aW ⟨_,rfl,_,rfl,_,_,rfl,rfl,⟨_,rfl,rfl⟩,D⟩⟩⟩
    rintro V rfl
    refine⟨_,rfl,_,_,rfl,rfl,⟨_,rfl,rfl⟩,Ct (2*n - 1 - (l.length+1)) _ (by lia) ⟨fA s Y,l++ [(Y,s)],N+1,.im s.dt,.im (bh a),.im (.lst ((dw n w s).map .str)),.im (.lst (L.map .str)),.im (.str Y),.im (bh pr),.im (bh b),?_,?_,?_,?_,rfl,rfl,rfl,rfl,rfl,rfl,rfl⟩⟩
    . rw[show((l++ [(Y,s)]).length:Int)=(l.length:Int)+1 by rw[ac1];rfl];rfl
    . rw[tY];exact p.snoc o
    . rw[ac1];show N+1<=t+((l.length+1:Nat):Int);lia
    . rw[ac1];rfl
end
inductive XT(i:Nat)(δ:List Sl):Prop
 | mk (t:Int) (s2 s3 s4 s5 s6:Sl) (e:δ= [.no,.bx t,s2,s3,s4,s5,s6]) (ht:t<=900*(i:Int)) (b2:s2.bz=false) (b3:s3.bz=false) (b4:s4.bz=false) (b5:s5.bz=false) (b6:s6.bz=false)
inductive SfI(d2 d3 d4:Dt)(t:Int)(s6:Sl)(i:Nat)(δ:List Sl):Prop
 | mk (t':Int) (s5:Sl) (e:δ= [.no,.bx t',.im d2,.im d3,.im d4,s5,s6]) (ht:t'<=t+30*(i:Int)) (b5:s5.bz=false)
section
variable{P:Program}{w:World}{K:PySem.W.Frag}{mg:Str->Option Value}{base:Heap}
theorem MG(F:dj K "law" "law" L3 f fd)(T:Txt mg)(NB:cj P w K mg base "_law_begin" 1 ["_law_script"] (rE K))(I:cj P w K mg base "_law_take" 1 ["_law_state","_law_many"] (Cp ur))(J5:cj P w K mg base "_law_table" 2 ["_law_state","_law_many"] (Cp C2))(OD:cj P w K mg base "_law_gone" 10 ["_law_state","_law_w","_law_sure_from"] (Cp Fg))(cW:cj P w K mg base "best_plain" 4 ["w"] (a0 vT))(l9:cj P w K mg base "slips" 7 ["w","steps"] (a0 wU))(o9:cj P w K mg base "steps_of" 5 ["h"] (a0 ay.h.Dc)):
  aK P w K mg base bD 11 f fd ["_law_script"] (uy K):=by
 refine QP F nL (by decide) (fun bq A Q s H E m=>⟨_,_,_,rfl,dY (i:=1) nL.nd rfl (Or.inl rfl) (jH NB (m.mono (by decide)) rfl (a8 (pv 0) bQ)),(aj (gW rfl (oH T.cg (aa aq ae)) (iP 2 nL.nd)
 (aj (bY 3 nL.nd (zO (xY (dv 2) aq) (vJ (xY (gu 1 I (m.mono (by decide)) (pv 1) (aa aq ae)) aq))))
 (aj (bY 4 nL.nd (gu 1 J5 (m.mono (by decide)) (pv 1) (aa (cS (iW (dv 3)) (cM aq (gu 1 I (m.mono (by decide)) (pv 1) (aa aq ae))) (cM aq (gu 1 I (m.mono (by decide)) (pv 1) (aa aq ae)))) ae)))
 (aj (gW rfl (dH (K7 (gX (aa aq (aa (gu 1 I (m.mono (by decide)) (pv 1) (aa aq ae)) (aa aq ae)))) n8 (n6 (cS (LP (cv T.len (aa (dv 4) ae)) aq) aq aq)))) (iP 5 nL.nd)
 (aw (c7 (nH (iW (gu 1 OD (m.mono (by decide)) (pv 1) (aa (dv 4) (aa (dv 5) ae)))))
 (aw (aC jg))
 bF)) ah4)
 (aj (bY 6 nL.nd (aE cW (m.mono (by decide)) (aa (dv 4) ae)))
 (aw (c7 (PW.pt (w_and (hZ (dv 6)) (jz (Kn 0 (ux m) (aE l9 (m.mono (by decide)) (aa (dv 4) (aa (aE o9 (m.mono (by decide)) (aa (cy (dv 6) aq) ae)) ae))) (NR (gX (aa aq ae)) (di (qD aq (cv T.len (aa (dv 4) ae))) aq))))))
 (aw (aC jg))
 bF)))))) ah4)
 (aw (aC jg))),?_⟩)
 refine⟨_,rfl,by decide,by decide,cQ XT ⟨0,.no,.no,.no,.no,.no,rfl,by decide,rfl,rfl,rfl,rfl,rfl⟩ (fun i d x M R Δ' pA _=>?_) (fun x R=>?_)⟩
 . obtain⟨Y,s2,s3,s4,p,X,rfl,ht,b2,b3,b4,D,b6⟩:=R;have il:i < 2:=by have:=(ab0.mp M).1;simpa using this
   have ed:d= .int (0+(i:Nat)):=by
    rw[aa9,ai4 (by simpa using il)] at M;exact(Option.some.inj M).symm
   subst ed;refine⟨⟨_,rfl,b2⟩,?_⟩;dsimp only;refine dM (fun k=> ∃(g:Bool) (U:Int),U<=Y+1/\k= [.no,.bx U,.im (.int (0+(i:Nat))),.im (.bl g),s4,p,X]) (fun l G _=>?_) ?_
   . refine⟨_,rfl,_,rfl,_,rfl,?_⟩;by_cases c:(0+(i:Nat):Int)=0
     . refine eK (ab8 c) ⟨⟨_,rfl⟩,_,rfl,_,rfl,by lia,by decide,by decide,fun r r0 r1=>⟨_,rfl,⟨_,rfl,b3⟩,G _ ⟨_,Y+1,by lia,rfl⟩⟩⟩
     . exact dh (by rw[ad1 c];decide) ⟨⟨_,rfl,b3⟩,G _ ⟨false,Y,by lia,rfl⟩⟩
   rintro x ⟨g,U,ht1,rfl⟩
   refine dM (fun k=> ∃(n:Nat) (w:Nat->Nat->Wo) (q:Int),2<=n/\n<=11/\Ae n w/\q<=Y+702/\k= [.no,.bx q,.im (.int (0+(i:Nat))),.im (.bl g),.im (cE n w),p,X]) (fun l G _=>?_) ?_
   . refine⟨⟨_,rfl⟩,_,rfl,_,rfl,?_⟩;cases g with
     | true=>
      refine cm ⟨⟨_,rfl⟩,_,rfl,_,rfl,by lia,by decide,by decide,fun r r0 r1=>?_⟩;obtain⟨r,rfl,sO⟩: ∃z:Nat,r=(z:Int)/\z < 2:=⟨r.toNat,by lia,by lia⟩
      refine⟨_,_,rfl,rfl,_,rfl,10+r,?_,by lia,by lia,by lia,fun w q YF u=>⟨⟨_,rfl,b4⟩,G _ ⟨10+r,w,q,by lia,by lia,u,by lia,rfl⟩⟩⟩;rw[show(xI (10+r):Dt)= .int (10+(r:Int)) by show Dt.int _=Dt.int _;congr 1]
     | false=>
      refine aW ⟨⟨_,rfl⟩,_,rfl,_,rfl,by lia,by decide,by decide,fun r r0 r1=>?_⟩;obtain⟨r,rfl,sO⟩: ∃z:Nat,r=(z:Int)/\z < 8:=⟨r.toNat,by lia,by lia⟩
      refine⟨_,_,rfl,rfl,_,rfl,2+r,?_,by lia,by lia,by lia,fun w q YF u=>⟨⟨_,rfl,b4⟩,G _ ⟨2+r,w,q,by lia,by lia,u,by lia,rfl⟩⟩⟩;rw[show(xI (2+r):Dt)= .int (2+(r:Int)) by show Dt.int _=Dt.int _;congr 1]
   rintro x ⟨n,w,q,n2,n11,u,YF,rfl⟩
   have tl:(List.map (cF n w) (List.range' 1 n)).length=n:=by rw[aa4,ac4]
   refine dM (fun k=> ∃(y:Int) (p:Sl),y<=q+91/\p.bz=false/\k= [.no,.bx y,.im (.int (0+(i:Nat))),.im (.bl g),.im (cE n w),p,X]) (fun l G YH=>?_) ?_
   . refine⟨⟨_,rfl⟩,_,rfl,_,rfl,by lia,by decide,by decide,fun v v0 v1=>?_⟩;refine⟨by show 3<=sizeLine;decide,_,rfl,_, .inr rfl,_,_,rfl,rfl,_,rfl,?_⟩;have C: ∀b:Nat,b<=3->LD.cutD [Dt.int 0, .int v, .int 99] none (some (b:Int))= [Dt.int 0, .int v, .int 99].take b:=fun b L=>JT L;have V2: ∀(b i:Nat) (d:Dt),([Dt.int 0, .int v, .int 99].take b)[i]?=some d-> ∃z:Int,d= .int z:=fun b i d h=>by
      rcases ab9.mp (List.mem_of_mem_take (ac8 h)) with z | z
      . exact⟨_,z⟩
      . rcases ab9.mp z with z | z
        . exact⟨_,z⟩
        . exact⟨_,ab1.mp z⟩
     have t: ∀b:Nat,b<=3->F9 (fun ao V=> ∃P:Nat->List Sl->Prop,P 0 V/\(∀(i:Nat) (d:Dt) (O:List Sl),ao[i]?=some d->P i O->xW 5 d O fun Z=>Sj (Sh (dT (Sn Fg 1 (vK (JF 4) (vK (JF 5) JO))))) (Sb (dC (.bl false))) Ld {nx:=P (i+1),rt:=l.rt,bk:=l.nx,ct:=P (i+1)} Z)/\ ∀O:List Sl,P ao.length O->l.nx O) (.lst (LD.cutD [.int 0,.int v,.int 99] none (some (b:Int)))) [.no,.bx (q+1),.im (.int (0+(i:Nat))),.im (.bl g),.im (cE n w),p,X]:=fun b L=>⟨_,rfl,by
      rw[C b L];have lb:([Dt.int 0,.int v,.int 99].take b).length<=3:=by rw[ak5];exact Nat.min_le_right _ _
      refine cQ (SfI (.int (0+(i:Nat))) (.bl g) (cE n w) (q+1) X) ⟨q+1,p,rfl,by lia,D⟩ (fun j d x hj R Δ2 Ct _=>?_) (fun x R=>?_)
      . obtain⟨t',X9,rfl,Ra,J⟩:=R;have jl:=(ab0.mp hj).1;obtain⟨z,rfl⟩:=V2 b j d hj;exact⟨⟨_,rfl,J⟩,⟨_,rfl⟩,_,rfl,_,rfl,_,rfl,n,w,z,rfl,by lia,by lia,u,by lia,fun t4 ht4=>⟨_,rfl,aW (Ct _ ⟨t4,.im (.int z),rfl,by lia,rfl⟩)⟩⟩
      . obtain⟨t',X9,rfl,Ra,J⟩:=R;exact G _ ⟨t',X9,by lia,J,rfl⟩⟩
     by_cases c:((List.map (cF n w) (List.range' 1 n)).length:Int) > 7
     . refine eK (ab8 c) ⟨_,rfl,_,rfl,?_⟩;exact t 1 (by decide)
     . refine dh (by rw[ad1 c];decide) ⟨_,rfl,_,rfl,?_⟩;exact t 3 (by decide)
   rintro x ⟨y,p,YE,D,rfl⟩
   refine⟨_,rfl,n,w,rfl,by lia,by lia,(fun i o v e=>by have:=u.1 i o v e;lia),fun rr B=>⟨⟨_,rfl,b6⟩,?_⟩⟩;cases rr with
   | none=>exact⟨_,rfl,_,rfl,aW (aW (pA _ ⟨y,.im (.int (0+(i:Nat))),.im (.bl g),.im (cE n w),p,.im (AY none),rfl,by lia,rfl,rfl,rfl,D,rfl⟩))⟩
   | some pr=>
    obtain⟨a,h⟩:=pr;have N:h∈cN n:=by cases B;assumption
    have lh:=aL N;obtain⟨S,_,cl⟩:=ay.h.Cb (by lia) u.2 B (2*n - 1) (ab3 _);have wl:(ay.h.words h (2*n - 1)).length=2*n - 1:=by unfold ay.h.words;rw[aa4,ae2]
    have hg:ay.h.yr h:=⟨by lia,by lia,ay.h.sS (ay.h.wB (by lia) N)⟩
    refine⟨_,rfl,_,rfl,cm ?_⟩;refine⟨_,rfl,_,rfl,_,_,_,.inr rfl,rfl,bw (j:=1) rfl,h,rfl,hg,ay.h.wA N,n,w,ay.h.words h (2*n - 1),by rw[lh],by lia,by lia,(fun i o v e=>by have:=u.1 i o v e;lia),by lia,S.go.1,?_⟩;rw[cl,List.map_replicate];refine⟨by show 1<=sizeLine;decide,_,rfl,_,.inr rfl,_,_,rfl,rfl,.inl ⟨by decide,by decide⟩,_,_,rfl,rfl,[.int 0],2*(n:Int) - 1,rfl,by(try dsimp only);rw[tl],by lia,by lia,?_,?_⟩
    . exact ad9 (show 1*(2*(n:Int) - 1).toNat<=100 by lia) (by decide)
    rw[KZ,show(2*(n:Int) - 1).toNat=2*n - 1 by lia];have sh:GH 1 (.lst (List.replicate (2*n - 1) (Dt.int 0))) (.lst (List.replicate (2*n - 1) (Dt.int 0))):= .lst fun j d e h1 h2=>by
     have m1:=List.eq_of_mem_replicate (ac8 h1);have m2:=List.eq_of_mem_replicate (ac8 h2);subst m1;subst m2;exact .flat rfl rfl
    refine⟨rfl,sh,_,rfl,?_⟩;show if (!vz 1 (.lst (List.replicate (2*n - 1) (Dt.int 0))) (.lst (List.replicate (2*n - 1) (Dt.int 0))))=true then _ else _
    rw[vw sh rfl];exact aW (pA _ ⟨y,.im (.int (0+(i:Nat))),.im (.bl g),.im (cE n w),p,.im (AY (some (a,h))),rfl,by lia,rfl,rfl,rfl,D,rfl⟩)
 . obtain⟨Y,s2,s3,s4,p,X,rfl,_⟩:=R;exact rfl
end
end ay.r
section
namespace ay
open PySem L2 LB LD PyProof.Rows
structure aQ(K:PySem.W.Frag)(x:Str)(st:Stmt)(ps:List Str)(f:Addr)(fd:FuncData):Prop where
 a:PySem.W.nsIn K mainGlobals x=some (some (.ref f))
 F:dj K x x st f fd
 b:Binds K fd ps []
theorem aH{K:PySem.W.Frag}{x:Str}{st:Stmt}{ps:List Str}{f:Addr}{C:Value}{G X:Option Addr}{d:Array (Option Value)}{I e n m ct:Value}(a:PySem.W.nsIn K mainGlobals x=some (some (.ref f)))(l:K.lookup f=some ⟨C,G, .func (PySem.W.fnOf x x (bg st) (aS st) (ab st) .none I e n X m ct),d⟩)(c:PySem.W.codeIn K m x=true)(k:PySem.W.keepIn K (.ref f)=true)
  (h: ∀N:List Value,N.length=ps.length->bindArgs (PySem.W.fnOf x x (bg st) (aS st) (ab st) .none I e n X m ct) ⟨N,[]⟩=pure (ps.zip N)):aQ K x st ps f (PySem.W.fnOf x x (bg st) (aS st) (ab st) .none I e n X m ct):=⟨a,iQ l c k,.all h⟩
section
variable{P:Program}{w:World}{K:PySem.W.Frag}{mg:Str->Option Value}{base h:Heap}{x:Str}{st:Stmt}{ps:List Str}{f:Addr}{fd:FuncData}
theorem aQ.has(D:aQ K x st ps f fd)(X:K.In h)(G:h.Ns mainGlobals mg)(o:aK P w K mg base bD k f fd ps sp):cj P w K mg base x k ps sp:=⟨f,fd,at7 X G D.a,D.F.kp,D.b,o⟩
end
theorem all_mk{l:PySem.W.OpenLaw}{w:World}{K:PySem.W.Frag}{h:Heap}{A:Str->Option Value}{fa f1 f2 f3 f4 f5 f6 f7 f8 f9 f10 f11 f12 f13 f14 f15 f16 f17 f18 f19 f20 f21 f22 f23 f24 f25 f26 f27 f28 f29 f30 f31 f32 f33 f34 f35 f36 f37 f38 f39 f40 f41 f42:Addr}{e1 e2 e3 e4 e5 e6 e7 e8 e9 e10 W7 e12 e13 e14 e15 e16 e17 e18 e19 e20 e21 e22 e23 e24 e25 e26 e27 e28 e29 e30 e31 e32 e33 e34 e35 e36 e37 e38 e39 e40 e41 Y5:FuncData}(X:K.In h)(G:h.Ns mainGlobals A)(hfa:A "law"=some (.ref fa))
  (d1:aQ K "first_stand" iz ["n"] f1 e1)
  (d2:aQ K "steps_from" jC ["stand"] f2 e2)
  (d3:aQ K "behind" rT ["stand","word"] f3 e3)
  (J:aQ K "together" lC ["worths"] f4 e4)
  (Z:aQ K "greatest" fY ["worths"] f5 e5)
  (d6:aQ K "worth_of" iu ["w","h"] f6 e6)
  (d7:aQ K "ranked" kd ["w"] f7 e7)
  (d8:aQ K "units" wY ["base","many"] f8 e8)
  (d9:aQ K "figures" nR ["number","base","many"] f9 e9)
  (ZG:aQ K "best_plain" jE ["w"] f10 e10)
  (ZF:aQ K "fill" iA ["w","joined","chosen"] f11 W7)
  (ZE:aQ K "by_width" iB ["n"] f12 e12)
  (ZD:aQ K "over_all" ix ["w","joined","chosen"] f13 e13)
  (ZC:aQ K "hung_on" kj ["h","word"] f14 e14)
  (ZA:aQ K "tie" L1 ["word","on"] f15 e15)
  (Zz:aQ K "cross" w8 ["first","second"] f16 e16)
  (Zy:aQ K "ties" uF ["h"] f17 e17)
  (Zx:aQ K "crossings" eY ["h"] f18 e18)
  (Zw:aQ K "is_plain" nQ ["h"] f19 e19)
  (Zv:aQ K "steps_of" nO ["h"] f20 e20)
  (Zu:aQ K "towards" iw ["h","stand"] f21 e21)
  (Zt:aQ K "keeps" w6 ["h","stand","word"] f22 e22)
  (Zs:aQ K "is_gathered" dS ["h","stand"] f23 e23)
  (Zr:aQ K "stands_along" gA ["n","steps"] f24 e24)
  (Zq:aQ K "allowed" iC ["stand"] f25 e25)
  (Zp:aQ K "allowed_of" eZ ["stand","word"] f26 e26)
  (Zo:aQ K "kept_to" kh ["w","lists"] f27 e27)
  (Zn:aQ K "best_still" jD ["w","stand"] f28 e28)
  (Zm:aQ K "still" wZ ["w","stand"] f29 e29)
  (Zl:aQ K "cost" Ds ["w","stand","step"] f30 e30)
  (Zk:aQ K "lost" Dq ["before","after"] f31 e31)
  (Zj:aQ K "slips" nP ["w","steps"] f32 e32)
  (Zi:aQ K "sure_steps" eW ["w","stand"] f33 e33)
  (Zh:aQ K "_law_begin" rS ["_law_script"] f34 e34)
  (Zg:aQ K "_law_take" rQ ["_law_state","_law_many"] f35 e35)
  (Zf:aQ K "_law_table" rR ["_law_state","_law_many"] f36 e36)
  (Ze:aQ K "_law_worth" kg ["_law_w","_law_h"] f37 e37)
  (Zd:aQ K "_law_is_hanging" iy ["_law_h"] f38 e38)
  (Zc:aQ K "_law_is_plain" dD ["_law_h"] f39 e39)
  (Zb:aQ K "_law_best_right" dR ["_law_w","_law_stand"] f40 e40)
  (Za:aQ K "_law_gone" w4 ["_law_state","_law_w","_law_sure_from"] f41 e41)
  (Xz:aQ K "law" L3 ["_law_script"] f42 Y5)
  {R:Addr} (uR:PySem.W.nsIn K mainGlobals "Reader"=some (some (.ref R)))  {C:Addr} {Vv SM:Option Addr} {Vb:Array (Option Value)} {VD QX RY Qn Oj SA:Value} {g:Addr} {Vu SK:Option Addr} {Va:Array (Option Value)} {VC QW RX Qm Oi Sz:Value} {n:Addr} {Vt SJ:Option Addr} {U9:Array (Option Value)} {VA QV RW Ql Oh Sy:Value} {i:Addr} {Vs SI:Option Addr} {U8:Array (Option Value)} {Vz QU RV Qk Og Sx:Value} {j:Addr} {Vr SH:Option Addr} {U7:Array (Option Value)} {Vy QT RU Qj Of Sw:Value} {k:Addr} {Vq SG:Option Addr} {U6:Array (Option Value)} {Vx QS RT Qi Oe Sv:Value} {m:Addr} {Vp SF:Option Addr} {U5:Array (Option Value)} {Vw QR RS Qh Od Su:Value} (r1:PySem.W.plainGet K R Str.empty=true) (r2:PySem.W.hasDictIn K R=true) (r3:PySem.W.plainOver K R=true) (r4:PySem.W.findIn K (.ref R) "__setattr__"=some (some (.builtin "object.__setattr__"))) (r5:PySem.W.findIn K (.ref R) "now"=some none) (r6:PySem.W.findIn K (.ref R) "past"=some none) (r7:PySem.W.makesIn K R=true) (r8:PySem.W.keepIn K (.ref R)=true) (ZO:PySem.W.findIn K (.ref R) "__init__"=some (some (.ref C))) (lm1:K.lookup C=some ⟨VD,Vv,.func (PySem.W.fnOf "__init__" "Reader.__init__" (bg ay.r.gE) (aS ay.r.gE) (ab ay.r.gE) .none QX RY Qn SM Oj SA),Vb⟩) (cm1:PySem.W.codeIn K Oj "Reader.__init__"=true) (Yu:PySem.W.keepIn K (.ref C)=true) (Yy:PySem.W.isFn K (.ref C)=true) (am2:PySem.W.findIn K (.ref R) "step"=some (some (.ref g))) (lm2:K.lookup g=some ⟨VC,Vu,.func (PySem.W.fnOf "step" "Reader.step" (bg ay.r.gB) (aS ay.r.gB) (ab ay.r.gB) .none QW RX Qm SK Oi Sz),Va⟩) (cm2:PySem.W.codeIn K Oi "Reader.step"=true) (Yt:PySem.W.keepIn K (.ref g)=true) (im2:PySem.W.isFn K (.ref g)=true) (am3:PySem.W.findIn K (.ref R) "may"=some (some (.ref n))) (lm3:K.lookup n=some ⟨VA,Vt,.func (PySem.W.fnOf "may" "Reader.may" (bg ay.r.ke) (aS ay.r.ke) (ab ay.r.ke) .none QV RW Ql SJ Oh Sy),U9⟩) (cm3:PySem.W.codeIn K Oh "Reader.may"=true) (Ys:PySem.W.keepIn K (.ref n)=true) (im3:PySem.W.isFn K (.ref n)=true) (am4:PySem.W.findIn K (.ref R) "stand"=some (some (.ref i))) (lm4:K.lookup i=some ⟨Vz,Vs,.func (PySem.W.fnOf "stand" "Reader.stand" (bg ay.r.eG) (aS ay.r.eG) (ab ay.r.eG) .none QU RV Qk SI Og Sx),U8⟩) (cm4:PySem.W.codeIn K Og "Reader.stand"=true) (Yr:PySem.W.keepIn K (.ref i)=true) (im4:PySem.W.isFn K (.ref i)=true) (am5:PySem.W.findIn K (.ref R) "is_done"=some (some (.ref j))) (lm5:K.lookup j=some ⟨Vy,Vr,.func (PySem.W.fnOf "is_done" "Reader.is_done" (bg ay.r.gF) (aS ay.r.gF) (ab ay.r.gF) .none QT RU Qj SH Of Sw),U7⟩) (cm5:PySem.W.codeIn K Of "Reader.is_done"=true) (Yq:PySem.W.keepIn K (.ref j)=true) (im5:PySem.W.isFn K (.ref j)=true) (am6:PySem.W.findIn K (.ref R) "hanging"=some (some (.ref k))) (lm6:K.lookup k=some ⟨Vx,Vq,.func (PySem.W.fnOf "hanging" "Reader.hanging" (bg ay.r.eX) (aS ay.r.eX) (ab ay.r.eX) .none QS RT Qi SG Oe Sv),U6⟩) (cm6:PySem.W.codeIn K Oe "Reader.hanging"=true) (Yp:PySem.W.keepIn K (.ref k)=true) (im6:PySem.W.isFn K (.ref k)=true) (am7:PySem.W.findIn K (.ref R) "steps"=some (some (.ref m))) (lm7:K.lookup m=some ⟨Vw,Vp,.func (PySem.W.fnOf "steps" "Reader.steps" (bg ay.r.c8) (aS ay.r.c8) (ab ay.r.c8) .none QR RS Qh SF Od Su),U5⟩) (cm7:PySem.W.codeIn K Od "Reader.steps"=true) (Yo:PySem.W.keepIn K (.ref m)=true) (im7:PySem.W.isFn K (.ref m)=true)
  (z1:PySem.W.nsIn K mainGlobals "len"=some none) (z2:PySem.W.nsIn K mainGlobals "enumerate"=some none) (z3:PySem.W.nsIn K mainGlobals "tuple"=some none) (z4:PySem.W.nsIn K mainGlobals "range"=some none) (z5:PySem.W.nsIn K mainGlobals "list"=some none) (z6:PySem.W.nsIn K mainGlobals "divmod"=some none) (z7:PySem.W.nsIn K mainGlobals "all"=some none) (z8:PySem.W.nsIn K mainGlobals "sum"=some none) (z9:PySem.W.nsIn K mainGlobals "zip"=some none) (Z3:PySem.W.nsIn K mainGlobals "sorted"=some none) (Z2:PySem.W.nsIn K mainGlobals "max"=some none) (Z1:PySem.W.nsIn K mainGlobals "min"=some none) (Z0:PySem.W.nsIn K mainGlobals "dict"=some none):
  ∃fd:FuncData,(∀(s:Shared) (v:Value),BindsTo s fd ⟨[v],[]⟩ [("_law_script",v)])/\ ∀L:Heap,K.In L->L.Ns mainGlobals A->aK l.prog w K A L bD 11 fa fd ["_law_script"] (uy K):=by
 have e:=hfa.symm.trans (at7 X G Xz.a);cases e;have T:Txt A:=⟨ag9 X G z1,ag9 X G z2,ag9 X G z3,ag9 X G z4,ag9 X G z5,ag9 X G z6,ag9 X G z7,ag9 X G z8,ag9 X G z9,ag9 X G Z3,ag9 X G Z2,ag9 X G Z1,ag9 X G Z0⟩
 refine⟨Y5,?_,fun L XB GB=>?_⟩
 . obtain⟨oc,od,kV,doc,pm,an,bq,ct,Mz,rfl,lk,Bw⟩:=Xz.F.ex;exact fun s v=> .of_eq rfl
 have gR:=at7 X G uR;have B:Cm K R:=⟨r1,r2,r3,r4⟩
 have D:ay.r.Lj K R:=⟨B,r5,r6⟩
 have f:=iQ (st:=ay.r.gE) lm1 cm1 Yu;have bM1:Binds K (PySem.W.fnOf "__init__" "Reader.__init__" (bg ay.r.gE) (aS ay.r.gE) (ab ay.r.gE) .none QX RY Qn SM Oj SA) ["self","n"] []:= .all fun N x=>match N,x with | [_,_],_=>rfl
 have MM1:Meth K R "__init__" C:=⟨ZO,Yy,Yu⟩
 have p:=iQ (st:=ay.r.gB) lm2 cm2 Yt;have bM2:Binds K (PySem.W.fnOf "step" "Reader.step" (bg ay.r.gB) (aS ay.r.gB) (ab ay.r.gB) .none QW RX Qm SK Oi Sz) ["self","word"] []:= .all fun N x=>match N,x with | [_,_],_=>rfl
 have I:Meth K R "step" g:=⟨am2,im2,Yt⟩
 have q:=iQ (st:=ay.r.ke) lm3 cm3 Ys;have bM3:Binds K (PySem.W.fnOf "may" "Reader.may" (bg ay.r.ke) (aS ay.r.ke) (ab ay.r.ke) .none QV RW Ql SJ Oh Sy) ["self"] []:= .all fun N x=>match N,x with | [_],_=>rfl
 have M:Meth K R "may" n:=⟨am3,im3,Ys⟩
 have t:=iQ (st:=ay.r.eG) lm4 cm4 Yr;have bM4:Binds K (PySem.W.fnOf "stand" "Reader.stand" (bg ay.r.eG) (aS ay.r.eG) (ab ay.r.eG) .none QU RV Qk SI Og Sx) ["self"] []:= .all fun N x=>match N,x with | [_],_=>rfl
 have O:Meth K R "stand" i:=⟨am4,im4,Yr⟩
 have u:=iQ (st:=ay.r.gF) lm5 cm5 Yq;have bM5:Binds K (PySem.W.fnOf "is_done" "Reader.is_done" (bg ay.r.gF) (aS ay.r.gF) (ab ay.r.gF) .none QT RU Qj SH Of Sw) ["self"] []:= .all fun N x=>match N,x with | [_],_=>rfl
 have Q:Meth K R "is_done" j:=⟨am5,im5,Yq⟩
 have y:=iQ (st:=ay.r.eX) lm6 cm6 Yp;have bM6:Binds K (PySem.W.fnOf "hanging" "Reader.hanging" (bg ay.r.eX) (aS ay.r.eX) (ab ay.r.eX) .none QS RT Qi SG Oe Sv) ["self"] []:= .all fun N x=>match N,x with | [_],_=>rfl
 have S:Meth K R "hanging" k:=⟨am6,im6,Yp⟩
 have z:=iQ (st:=ay.r.c8) lm7 cm7 Yo;have bM7:Binds K (PySem.W.fnOf "steps" "Reader.steps" (bg ay.r.c8) (aS ay.r.c8) (ab ay.r.c8) .none QR RS Qh SF Od Su) ["self"] []:= .all fun N x=>match N,x with | [_],_=>rfl
 have U:Meth K R "steps" m:=⟨am7,im7,Yo⟩
 have XO:=J.has X G (P:=l.prog) (w:=w) (base:=L) (mn J.F T);have hJ:v8 l.prog w K A L f4 1 ["worths"] (a0 Yx):=⟨_,J.F.kp,J.b,(mn J.F T).imp (yK QY)⟩
 have hC:v8 l.prog w K A L f5 1 ["worths"] (a0 ZH):=⟨_,Z.F.kp,Z.b,(uS Z.F T).imp (yK zX)⟩
 have Y:=ZE.has X G (P:=l.prog) (w:=w) (base:=L) (xm ZE.F T);have GP:=ZF.has X G (P:=l.prog) (w:=w) (base:=L) (II CO hJ hC ZF.F T Y);have SX:=ZD.has X G (P:=l.prog) (w:=w) (base:=L) (xi CO hJ hC ZD.F T GP);have yg:=d8.has X G (P:=l.prog) (w:=w) (base:=L) (D7 d8.F T);have tO:=d7.has X G (P:=l.prog) (w:=w) (base:=L) (A5 d7.F T yg);have XR:=d9.has X G (P:=l.prog) (w:=w) (base:=L) (xk d9.F T);have o8:=d6.has X G (P:=l.prog) (w:=w) (base:=L) (xg d6.F T XO);have c:=ZG.has X G (P:=l.prog) (w:=w) (base:=L) (IJ (at7 X G J.a) (at7 X G Z.a) ZG.F T SX tO XR o8);have NOf:=Zp.has X G (P:=l.prog) (w:=w) (base:=L) (Qz Zp.F T);have fq:=Zq.has X G (P:=l.prog) (w:=w) (base:=L) (xo Zq.F T NOf);have SY:=Zo.has X G (P:=l.prog) (w:=w) (base:=L) (A7 Zo.F T);have ZQ:=Zn.has X G (P:=l.prog) (w:=w) (base:=L) (so Zn.F T c SY fq);have d:=Zm.has X G (P:=l.prog) (w:=w) (base:=L) (Ed Zm.F T ZQ);have pe:=d1.has X G (P:=l.prog) (w:=w) (base:=L) (Ej d1.F T);have o:=d2.has X G (P:=l.prog) (w:=w) (base:=L) (IH d2.F T);have E:=d3.has X G (P:=l.prog) (w:=w) (base:=L) (A9 d3.F T);have qS:=Zk.has X G (P:=l.prog) (w:=w) (base:=L) (ID Zk.F T);have jd:=Zl.has X G (P:=l.prog) (w:=w) (base:=L) (A8 Zl.F T o d E qS);have Ll:=Zi.has X G (P:=l.prog) (w:=w) (base:=L) (IB Zi.F T o jd);have yk:=Zr.has X G (P:=l.prog) (w:=w) (base:=L) (En Zr.F T pe o E);have l9:=Zj.has X G (P:=l.prog) (w:=w) (base:=L) (Ee Zj.F T yk d qS);have S0:=ZC.has X G (P:=l.prog) (w:=w) (base:=L) (ay.h.IE ZC.F T);have S3:=Zs.has X G (P:=l.prog) (w:=w) (base:=L) (ay.h.IG Zs.F T S0);have yh:=Zt.has X G (P:=l.prog) (w:=w) (base:=L) (ay.h.Ei Zt.F T E);have XN:=Zu.has X G (P:=l.prog) (w:=w) (base:=L) (ay.h.A1 Zu.F T o yh S3);have OB:=ZA.has X G (P:=l.prog) (w:=w) (base:=L) (ay.h.MF ZA.F T);have yj:=Zz.has X G (P:=l.prog) (w:=w) (base:=L) (ay.h.Ek Zz.F T);have GK:=Zy.has X G (P:=l.prog) (w:=w) (base:=L) (ay.h.Iz Zy.F T OB);have XS:=Zx.has X G (P:=l.prog) (w:=w) (base:=L) (ay.h.sk Zx.F T GK yj);have XQ:=Zw.has X G (P:=l.prog) (w:=w) (base:=L) (ay.h.xj Zw.F T XS);have o9:=Zv.has X G (P:=l.prog) (w:=w) (base:=L) (ay.h.xh Zv.F T XQ pe XN E);have RI:aK l.prog w K A L bD 2 C _ ["self","n"] (ay.r.j8 R):=ay.r.Ef f D pe;have XJ:Mk K R C:=⟨r7,ZO,Yy,r8⟩
 have GS:i5 l.prog w K A L bD R "step" 2 ["self","word"] (ay.r.j7 R):=⟨g,_,B,I,bM2,ay.r.A3 p T D o E⟩
 have OE:i5 l.prog w K A L bD R "may" 2 ["self"] (rD (ay.r.MO R)):=⟨n,_,B,M,bM3,ay.r.IC q D o⟩
 have tQ:i5 l.prog w K A L bD R "stand" 1 ["self"] (LD.spS (ay.r.wO R)):=⟨i,_,B,O,bM4,ay.r.A4 t D⟩
 have Ag:i5 l.prog w K A L bD R "is_done" 1 ["self"] (LD.spS (ay.r.zG R)):=⟨j,_,B,Q,bM5,ay.r.Eh u T D⟩
 have GU:i5 l.prog w K A L bD R "hanging" 2 ["self"] (LD.spS (ay.r.Fb R)):=⟨k,_,B,S,bM6,ay.r.Eg y T D Ag⟩
 have yo:i5 l.prog w K A L bD R "steps" 1 ["self"] (rD (ay.r.wL R)):=⟨m,_,B,U,bM7,ay.r.A2 z D⟩
 have NB:=Zh.has X G (P:=l.prog) (w:=w) (base:=L) (Em Zh.F T);have H:=Zg.has X G (P:=l.prog) (w:=w) (base:=L) (D8 Zg.F T);have OC:=Zf.has X G (P:=l.prog) (w:=w) (base:=L) (D9 Zf.F T H);have GI:=Ze.has X G (P:=l.prog) (w:=w) (base:=L) (A6 Ze.F T);have NHg:=Zd.has X G (P:=l.prog) (w:=w) (base:=L) (sj Zd.F T);have NPl:=Zc.has X G (P:=l.prog) (w:=w) (base:=L) (uQ Zc.F T);have V:=Zb.has X G (P:=l.prog) (w:=w) (base:=L) (El Zb.F T ZQ d Ll fq c GI NHg NPl);have S2:=Za.has X G (P:=l.prog) (w:=w) (base:=L) (ay.r.IF Za.F T XJ RI gR bM1 GS Ag tQ GU OE yo H d Ll V jd GI c l9);exact ay.r.MG Xz.F T NB H OC S2 c l9 o9
theorem walk{l:PySem.W.OpenLaw}{q:Program}{t:List Str}{I:(Str->Option Value)->Heap->Prop}{H:World->Heap->Prop}{d:DefRec}{K:Params->PySem.W.Frag}(g:l.most=some 63)(E:d.params.defaults= [])
  (J: ∀(w:World) (h:Heap),H w h->(K w.params).In h)
  (F: ∀(w:World) (mg:Str->Option Value) (fa:Addr) (h:Heap),(K w.params).In h->h.Ns mainGlobals mg->mg d.name=some (.ref fa)->
   ∃V:FuncData,(∀(s:Shared) (u:Value),BindsTo s V ⟨[u],[]⟩ [("_law_script",u)])/\ ∀L:Heap,(K w.params).In L->L.Ns mainGlobals mg->aK l.prog w (K w.params) mg L bD 11 fa V ["_law_script"] (uy (K w.params))):
  PySem.W.WalkO q t I H l.row.toRowW d [] (fun f v=>PySem.call f v):=
 L2.Hy (n:=63) (k:=11) (x:="_law_script") (CX:=fun _=>bD) (sp:=fun w=>uy (K w.params)) g (by decide) E ⟨rfl,by decide,by decide,rfl⟩ J F (fun _ _ a D y _ e=>⟨a,D,rfl,e,y,fun _=>rfl⟩) fun _ _ _ _ _ z=>z
end ay
open PySem PySem.W PyProof.Rows
local macro_rules
|`(tactic|o_law)=>`(tactic|refine holds_law ay.q'w fun said=>?_)
local macro_rules
|`(tactic|o_head $H)=>`(tactic|refine holds_open (q:=ay.q'v) (loose:=[]) (Xt:=fun s=>xlAt ay.q'v [] s && recOk (RowW.records (OpenRow.toRowW (OpenLaw.row PySem.Challenge.rw_hungwords_k86_whole_slips_from_first_to))) s) (XP:=XL ay.q'v []) (Yf:=Hook.obs $H) (Ya:=Hook.val $H) (YP:=Hook.says $H) (N:=5114) (ay.q'l (Yf:=Hook.obs $H) (Ya:=Hook.val $H) ay.q's ay.q't) (Hook.of $H) (Hook.keeps $H) (fun s e=>xl_of s (Bool.and_eq_true_iff.mp e).1) XL.keeps (by rfl) (by rfl) (by rfl) (fun s e=>recFacts_of (Bool.and_eq_true_iff.mp e).2) (by rfl) (by first | assumption | decide+kernel) (by decide+kernel) ⟨rfl,rfl,rfl,rfl,rfl,by decide+kernel⟩ ?hw ?hc)
set_option maxRecDepth 100000 in
set_option maxHeartbeats 0 in
theorem PySem.Challenge.cw_hungwords_k86_whole_slips_from_first_to_holds : PySem.Challenge.rw_hungwords_k86_whole_slips_from_first_to.Holds := by
 w_on;o_law;o_head (ay.q'H);(case hw=>w_witness2)
 k_fill
 delta ay.q'H
 refine ay.walk (l:=PySem.Challenge.rw_hungwords_k86_whole_slips_from_first_to) rfl rfl (fun w h Y=>PySem.W.kIn_of Y) ?F
 case F=>
  intro w A f h v G H;refine' ay.all_mk v G H (ay.aH ?_ ?_ ?_ ?_ ?_) (ay.aH ?_ ?_ ?_ ?_ ?_) (ay.aH ?_ ?_ ?_ ?_ ?_) (ay.aH ?_ ?_ ?_ ?_ ?_) (ay.aH ?_ ?_ ?_ ?_ ?_) (ay.aH ?_ ?_ ?_ ?_ ?_) (ay.aH ?_ ?_ ?_ ?_ ?_) (ay.aH ?_ ?_ ?_ ?_ ?_) (ay.aH ?_ ?_ ?_ ?_ ?_) (ay.aH ?_ ?_ ?_ ?_ ?_) (ay.aH ?_ ?_ ?_ ?_ ?_) (ay.aH ?_ ?_ ?_ ?_ ?_) (ay.aH ?_ ?_ ?_ ?_ ?_) (ay.aH ?_ ?_ ?_ ?_ ?_) (ay.aH ?_ ?_ ?_ ?_ ?_) (ay.aH ?_ ?_ ?_ ?_ ?_) (ay.aH ?_ ?_ ?_ ?_ ?_) (ay.aH ?_ ?_ ?_ ?_ ?_) (ay.aH ?_ ?_ ?_ ?_ ?_) (ay.aH ?_ ?_ ?_ ?_ ?_) (ay.aH ?_ ?_ ?_ ?_ ?_) (ay.aH ?_ ?_ ?_ ?_ ?_) (ay.aH ?_ ?_ ?_ ?_ ?_) (ay.aH ?_ ?_ ?_ ?_ ?_) (ay.aH ?_ ?_ ?_ ?_ ?_) (ay.aH ?_ ?_ ?_ ?_ ?_) (ay.aH ?_ ?_ ?_ ?_ ?_) (ay.aH ?_ ?_ ?_ ?_ ?_) (ay.aH ?_ ?_ ?_ ?_ ?_) (ay.aH ?_ ?_ ?_ ?_ ?_) (ay.aH ?_ ?_ ?_ ?_ ?_) (ay.aH ?_ ?_ ?_ ?_ ?_) (ay.aH ?_ ?_ ?_ ?_ ?_) (ay.aH ?_ ?_ ?_ ?_ ?_) (ay.aH ?_ ?_ ?_ ?_ ?_) (ay.aH ?_ ?_ ?_ ?_ ?_) (ay.aH ?_ ?_ ?_ ?_ ?_) (ay.aH ?_ ?_ ?_ ?_ ?_) (ay.aH ?_ ?_ ?_ ?_ ?_) (ay.aH ?_ ?_ ?_ ?_ ?_) (ay.aH ?_ ?_ ?_ ?_ ?_) (ay.aH ?_ ?_ ?_ ?_ ?_) ?_ ?_ ?_ ?_ ?_ ?_ ?_ ?_ ?_ ?_ ?_ ?_ ?_ ?_ ?_ ?_ ?_ ?_ ?_ ?_ ?_ ?_ ?_ ?_ ?_ ?_ ?_ ?_ ?_ ?_ ?_ ?_ ?_ ?_ ?_ ?_ ?_ ?_ ?_ ?_ ?_ ?_ ?_ ?_ ?_ ?_ ?_ ?_ ?_ ?_ ?_ ?_ ?_ ?_ ?_ ?_ ?_;all_goals try (first | k_is | exact rfl | kernel_rfl | (intro N x;first | (obtain⟨a,rfl⟩:=List.length_eq_one_iff.mp x;rfl) | (match N,x with | [_,_],_=>rfl) | (match N,x with | [_,_,_],_=>rfl) | (match N,x with | [_,_,_,_],_=>rfl)))
end
