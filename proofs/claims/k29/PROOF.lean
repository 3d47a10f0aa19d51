import PyProof.Rows.All
import KE.KIsAll
import KE.KTryMore
import PyProof.ExcArgsOwn
import PyProof.StationsW
import PyProof.Rows.Catch
import Wide.All
import OpenK.AllK
import Wide.FinOn
import Lean
import PyProof.EqAt
import PyProof.EqKinds
import PyProof.TupleCall
import PyProof.Rows.TopTwo
import PyProof.NsDelKeeps
import KE.KSortTup
import PyProof.ListRange
import PyProof.NeKinds
import PyProof.ZipIter
import PyProof.FactsAll.tuple_2
import PyProof.FactsAll.tuple_3
import PyProof.Rows.SortShell
import PyProof.Rows.SortWalk
import PyProof.Rows.MinMaxN
import KE.KRevIter
import PyProof.AttrMissHeap
import PyProof.ListNew
import PyProof.FactsAll.dict_1
import KE.KRevSl
import PyProof.Rows.IntBool
import PyProof.TupleOfSeq
import KE.KIntText
import PyProof.StrWalks
import PyProof.StrCalls2
import PyProof.StrBlock2
import PyProof.FString5
import PyProof.StrLawsTight
import PyProof.StrLawsChain
import PyProof.ExcClass3
import PyProof.ExcInit
import PyProof.Ns1
import PyProof.SetKind
import PyProof.Rows.SetFrom
import PyProof.CollectIter
import PyProof.Rows.SortStr
import PyProof.PureStr
import PyProof.ListMulRoad
import PySem.Challenge.RW_hungwords_k29_steps_taken_back
set_option compiler.extract_closed false
set_option Elab.async false
set_option linter.all false
set_option maxRecDepth 100000
set_option maxHeartbeats 8000000
theorem au1 (h : True := by first | exact .inl rfl | exact .inr rfl | assumption) : True := h
theorem au2 (h : True := by decide) : True := h
theorem au3 (h : True := by first | exact nobehind _ (by decide) (by decide) | rfl) : True := h
theorem au4 (h : True := by intro _; rfl) : True := h
theorem au5 (h : True := by rfl) : True := h
theorem au6 (h : True := by first | exact Or.inl rfl | exact Or.inr (Or.inl rfl) | exact Or.inr (Or.inr rfl)) : True := h
theorem au7 (h : True := by exact fun _ _ => rfl) : True := h
theorem au8 (h : True := by first | exact Or.inl rfl | exact Or.inr rfl) : True := h
section
namespace LX
open PySem PySem.W PySem.Spec PySem.Calls PyProof.Rows
section
variable {prog : Program} {w : World} {A : Around} {E : Value → Shared → Prop} {h : Heap} {g : Array GenState} {d : Drawn} {t : Nat} {os : OsState} {K : Frag} {x D : Addr} {ox : Obj}
theorem ty_of {M : Model} (hx : h.get? x = some ox) (hc : ox.cls = .ref D) : Looks M h (typeOf (.ref x)) (.ref D) := by rw [← hc]; exact (Looks.ld hx).andThen .now
theorem exc_get {R : Result → Shared → Prop} (X : K.In h) (hx : h.get? x = some ox) (hc : ox.cls = .ref D) (hm : mroIn K D (.type "object") = some true) (hq : R (.ok (.ret (.ref D))) ⟨h, g, d, t, os⟩) :
  codeAny (model prog w) A (.call (.builtin "getset_descriptor.__get__") ⟨[.builtin "object.__class__", .ref x, .ref D], []⟩) R ⟨h, g, d, t, os⟩ := by
 have hT5 : (⟨h, g, d, t, os⟩ : Shared).TypeIs (.builtin "object.__class__") "getset_descriptor" := F.typeOf_object_class
 have L1 : ∀ {A : Around} {E : Value → Shared → Prop} {Q : Bool → Shared → Prop}, Q true ⟨h, g, d, t, os⟩ → wpAny (model prog w) A (isSubtype (.ref D) (.type "object")) Q E ⟨h, g, d, t, os⟩ := fun q => (looks_mroIn (M := model prog w) X hm).at q
 refine codeAny_call_builtin F.slot_gs_get.plain F.entry_gs_get (F.slot_gs_get.check _ _ _ _ _ _ _ _ hT5 (F.args_gs_get _ _ _) ?_)
 repeat (any_goals (first | assumption | (with_reducible refine wpAny_loadPart_at hx ?_; rw [hc]) | refine L1 ?_ | wp_step))
 refine ⟨Code.quiet_builtin _ (by decide +kernel), codeAny_builtin F.entry_object_class ?_⟩
 repeat (any_goals (first | assumption | (with_reducible refine wpAny_loadPart_at hx ?_; rw [hc]) | wp_step))
theorem exc_entry {tk : Tok} {Q : Fin → Shared → Prop} (X : K.In h) (hx : h.get? x = some ox) (hc : ox.cls = .ref D) (hcl : findIn K (.ref D) "__class__" = some (some (.builtin "object.__class__"))) (hm : mroIn K D (.type "object") = some true)
  (hq : Q (.done (.ret (.ref D))) ⟨h, g, d, t, os⟩) : wpAny (model prog w) A (Builtin.«object.__getattribute__» ⟨[.ref x, .str "__class__" tk], []⟩) Q E ⟨h, g, d, t, os⟩ := by
 have hT5 : (⟨h, g, d, t, os⟩ : Shared).TypeIs (.builtin "object.__class__") "getset_descriptor" := F.typeOf_object_class
 have f5 := F.typeOf_object_class
 have f6 := F.slot_gs_get.lookup
 have f7 := F.slot_gs_set.lookup
 have L1 : ∀ {A : Around} {E : Value → Shared → Prop} {Q : Option Value → Shared → Prop}, Q (some (.builtin "object.__class__")) ⟨h, g, d, t, os⟩ → wpAny (model prog w) A (typeLookup (.ref D) "__class__") Q E ⟨h, g, d, t, os⟩ := fun q => (looks_findIn (M := model prog w) X hcl).at q
 repeat (any_goals (first | assumption | (with_reducible refine wpAny_loadPart_at hx ?_; rw [hc]) | with_reducible refine L1 ?_ | wp_step))
 refine exc_get X hx hc hm ?_
 repeat (any_goals (first | assumption | wp_step))
theorem exc_check {M : Model} {nameV : Value} {Q : Unit → Shared → Prop} (X : K.In h) (hx : h.get? x = some ox) (hc : ox.cls = .ref D) (hmB : mroIn K D (.type "BaseException") = some true) (hq : Q () ⟨h, g, d, t, os⟩) :
  wpAny M A (checkBuiltinCall "BaseException.__getattribute__" ⟨[.ref x, nameV], []⟩) Q E ⟨h, g, d, t, os⟩ := by
 have hk : builtinKind "BaseException.__getattribute__" = some .slot := by decide +kernel
 have hsplit : splitId "BaseException.__getattribute__" = some ("BaseException", "__getattribute__") := by decide +kernel
 have ha := F.args_bexc_ga (.ref x) nameV
 have L0 := ty_of (M := M) hx hc
 have L1 := looks_mroIn (M := M) X hmB
 have LI : Looks M h (isInstance (.ref x) (.type "BaseException")) true := L0.andThen L1
 simp only [checkBuiltinCall, hk, hsplit]
 refine wpAny_bind (LI.at ?_)
 repeat (first | assumption | wp_step)
theorem exc_call {tk : Tok} {R : Result → Shared → Prop} (X : K.In h) (hx : h.get? x = some ox) (hc : ox.cls = .ref D) (hcl : findIn K (.ref D) "__class__" = some (some (.builtin "object.__class__"))) (hm : mroIn K D (.type "object") = some true) (hmB : mroIn K D (.type "BaseException") = some true)
  (hga : Slot "BaseException" "__getattribute__" "BaseException.__getattribute__") (hq : R (.ok (.ret (.ref D))) ⟨h, g, d, t, os⟩) :
  codeAny (model prog w) A (.call (.builtin "BaseException.__getattribute__") ⟨[.ref x, .str "__class__" tk], []⟩) R ⟨h, g, d, t, os⟩ :=
 codeAny_call_builtin hga.plain F.entry_bexc_ga (exc_check X hx hc hmB (exc_entry X hx hc hcl hm hq))
theorem exc_by {tk : Tok} {fill expr : Bool} {Q : Value → Shared → Prop} (X : K.In h) (hx : h.get? x = some ox) (hc : ox.cls = .ref D) (hcl : findIn K (.ref D) "__class__" = some (some (.builtin "object.__class__"))) (hm : mroIn K D (.type "object") = some true) (hmB : mroIn K D (.type "BaseException") = some true)
  (hga : Slot "BaseException" "__getattribute__" "BaseException.__getattribute__") (hf : findIn K (.ref D) "__getattribute__" = some (some (.builtin "BaseException.__getattribute__"))) (hf2 : findIn K (.ref D) "__getattr__" = some none) (hq : Q (.ref D) ⟨h, g, d, t, os⟩) :
  wpAny (model prog w) A (getAttrBy (.ref x) (.str "__class__" tk) fill expr) Q E ⟨h, g, d, t, os⟩ := by
 have f3 := hga.bind (.ref x)
 have hx0 : (expr && onTheHeap (Value.builtin "BaseException.__getattribute__")) = false := by cases expr <;> rfl
 have hx2 : (Value.builtin "BaseException.__getattribute__" == Value.builtin "object.__getattribute__") = false := by decide +kernel
 have hx1 : (onTheHeap (Value.ref D) && Value.builtin "BaseException.__getattribute__" == Value.builtin "object.__getattribute__") = false := by rw [hx2]; rfl
 have L1 : ∀ {A : Around} {E : Value → Shared → Prop} {Q : Option Value → Shared → Prop}, Q (some (.builtin "BaseException.__getattribute__")) ⟨h, g, d, t, os⟩ → wpAny (model prog w) A (typeLookup (.ref D) "__getattribute__") Q E ⟨h, g, d, t, os⟩ := fun q => (looks_findIn (M := model prog w) X hf).at q
 have L2 : ∀ {A : Around} {E : Value → Shared → Prop} {Q : Option Value → Shared → Prop}, Q none ⟨h, g, d, t, os⟩ → wpAny (model prog w) A (typeLookup (.ref D) "__getattr__") Q E ⟨h, g, d, t, os⟩ := fun q => (looks_findIn (M := model prog w) X hf2).at q
 repeat (any_goals (first | assumption | (with_reducible refine wpAny_loadPart_at hx ?_; rw [hc]) | with_reducible refine L1 ?_ | with_reducible refine L2 ?_ | wp_step))
 refine exc_call X hx hc hcl hm hmB hga ?_
 repeat (any_goals (first | assumption | wp_step))
theorem exc_class {Q : Option Value → Shared → Prop} (X : K.In h) (hx : h.get? x = some ox) (hc : ox.cls = .ref D) (hcl : findIn K (.ref D) "__class__" = some (some (.builtin "object.__class__"))) (hm : mroIn K D (.type "object") = some true) (hmB : mroIn K D (.type "BaseException") = some true)
  (hga : Slot "BaseException" "__getattribute__" "BaseException.__getattribute__") (hf : findIn K (.ref D) "__getattribute__" = some (some (.builtin "BaseException.__getattribute__"))) (hf2 : findIn K (.ref D) "__getattr__" = some none) (hq : Q (some (.ref D)) ⟨h, g, d, t + 1, os⟩) :
  wpAny (model prog w) A (getAttr? (.ref x) "__class__") Q E ⟨h, g, d, t, os⟩ := by
 unfold getAttr? getAttrBy?
 repeat (any_goals (first | assumption | with_reducible apply exc_by X hx hc hcl hm hmB hga hf hf2 | wp_step))
def excAt (x D : Addr) (h : Heap) : Prop := ∃ ox, h.get? x = some ox ∧ ox.cls = .ref D
structure ExcK (K : Frag) (D : Addr) : Prop where
 cl : findIn K (.ref D) "__class__" = some (some (.builtin "object.__class__"))
 ob : mroIn K D (.type "object") = some true
 be : mroIn K D (.type "BaseException") = some true
 ga : findIn K (.ref D) "__getattribute__" = some (some (.builtin "BaseException.__getattribute__"))
 gx : findIn K (.ref D) "__getattr__" = some none
 is : (clsIn K D).isSome = true
theorem kitx_exc (Y : ExcK K D) (hga : Slot "BaseException" "__getattribute__" "BaseException.__getattribute__") : KitX K (.ref x) (.ref D) (excAt x D) where
 ty := fun _ _ _ zz1 => (by obtain ⟨ox, hx, hc⟩ := zz1; exact (ty_of hx hc))
 it := fun _ _ X _ => by
  have hcD := Y.is
  unfold clsIn at hcD
  split at hcD
  · rename_i c' d' cd' sl' ho
    intro A' Q' E' s' k q
    unfold isType loadHead
    exact wpAny_bind (wpAny_loadPart (k _ _ (X _ _ ho)) (wpAny_pure q))
  · cases hcD
 ne := fun h tp dd its n sl X htp => by
  have hcD := Y.is
  refine Bool.eq_false_iff.mpr fun q => ?_
  have e : D = tp := Value.ref.inj (beq_iff_eq.mp q)
  subst e
  unfold clsIn at hcD
  split at hcD
  · rename_i c' d' cd' sl' ho
    have z := (X _ _ ho).symm.trans htp
    cases z
  · cases hcD
 ca := fun {_ _ _ _ _ s} X zz2 k => (by obtain ⟨ox, hx, hc⟩ := zz2; exact (by obtain ⟨h, g, d, t, os⟩ := s; exact exc_class X hx hc Y.cl Y.ob Y.be hga Y.ga Y.gx k))
end
end LX
end
section
namespace LXi
open PySem PySem.Spec PyProof.Rows
def TrX (h base : Heap) (e : Addr) (cls a0 : Value) (dc : Option Addr) (fl : Value) : Prop :=
 ∃ oe vs T oT ts, h.get? e = some oe ∧ oe.cls = cls ∧ oe.dict = dc ∧ vs[0]? = some a0 ∧ oe.data = .fields vs ∧ vs[1]? = some (.ref T) ∧ base.get? T = none ∧ T ≠ e ∧ h.get? T = some oT ∧ oT.data = .fields ts ∧ ts[3]? = some fl
structure StX (base : Heap) (l : List Env) (e : Addr) (cls a0 : Value) (dc : Option Addr) (fl : Value) (h h' : Heap) : Prop where
 st : base.StaysIn h'
 ff : h'.FunFrames base l
 tr : TrX h' base e cls a0 dc fl
 sl : h.UpToSlots h'
section
variable {M : Model} {A : Around} {E : Value → Shared → Prop} {s : Shared} {base : Heap} {env : Env} {outer l : List Env} {L e : Addr} {oe : Obj} {vs : Array Value} {head cls a0 fl : Value} {dc : Option Addr} {Q : Unit → Shared → Prop}
theorem dict_map (f : Array Value → Array Value) (o : Obj) : (Obj.mapFields f o).dict = o.dict := by
 unfold Obj.mapFields
 split <;> rfl
theorem entryX {hadNext : Bool} (hfr : A.frames = some (env :: outer)) (hl : s.heap.FunFrames base (env :: outer)) (hf : env.frame = some L)
  (he : s.heap.get? e = some oe) (hkb : base.StaysIn s.heap) (hen : base.get? e = none) (hd : oe.data = .fields vs) (hsz : 1 < vs.size) (h0 : vs[0]? = some a0)
  (h : ∀ h', StX base (env :: outer) e oe.cls a0 oe.dict (rawInt L) s.heap h' → Q () { s with heap := h' }) :
  wpAny M A (do let a ← frameOf env; let pl ← entryPlaceOf L hadNext; let b ← EntryCells.newEntry head a .none (rawInt L) .none pl; setField (.ref e) 1 b) Q E s := by
 have hene : e ∉ (env :: outer).filterMap (·.frame) := fun hm => by
  obtain ⟨_, o, ho, hnf⟩ := hl.mem hm
  rw [he] at ho; injection ho with ho; subst ho; exact hnf vs hd
 refine wpAny_bind (wpAny_frameOf_fun hfr hl hf fun h₁ hs₁ => ?_)
 refine wpAny_bind (wpAny_entryPlaceOf fun pl hpl => ?_)
 unfold EntryCells.newEntry newFields
 refine wpAny_bind (wpAny_newObj_type ?_ (hpl.sizeOk5 _ _ _ _ _))
 have he₁ : h₁.get? e = some oe := (hs₁.2.1 e hene).trans he
 have kb₁ : base.StaysIn h₁ := fun b o hbo => (hs₁.2.1 b fun hm => by rw [(hl.mem hm).1] at hbo; cases hbo).trans (hkb b o hbo)
 generalize hob : ({ cls := .type "traceback", dict := none, data := .fields ([head, .ref L, .none, rawInt L, .none] ++ (if pl.isEmpty then List.replicate 6 Value.none else pl)).toArray } : Obj) = ob
 have hdo : ob.data = .fields ([head, .ref L, .none, rawInt L, .none] ++ (if pl.isEmpty then List.replicate 6 Value.none else pl)).toArray := by rw [← hob]
 have he₂ := Heap.get?_push_of_some (h := h₁) ob he₁
 refine wpAny_setField he₂ hd hsz (h _ ?_)
 have hTe : h₁.objs.size ≠ e := Nat.ne_of_gt (Heap.lt_size he₁)
 have hd₃ := Obj.data_mapFields hd (·.setIfInBounds 1 (Value.ref h₁.objs.size))
 have he₃ := Heap.get?_update_self (Obj.mapFields (·.setIfInBounds 1 (Value.ref h₁.objs.size))) he₂ (Obj.isFreed_of_fields hd₃)
 have hT₃ := (Heap.get?_update_other (h₁.push ob) (Obj.mapFields (·.setIfInBounds 1 (Value.ref h₁.objs.size))) (Ne.symm hTe)).trans (Heap.get?_push_size h₁ (by rw [← hob]; rfl))
 have keep : ∀ b o, b ≠ e → h₁.get? b = some o → ((h₁.push ob).update e (Obj.mapFields (·.setIfInBounds 1 (Value.ref h₁.objs.size)))).get? b = some o := fun b o hbe hb => by
  rw [Heap.get?_update_other _ _ (Ne.symm hbe)]
  exact Heap.get?_push_of_some _ hb
 have noRecord : ∀ b o, s.heap.get? b = some o → (∀ vs, o.data ≠ .fields vs) → b ≠ e := fun b o hb hnf q => by
  rw [q, he] at hb; injection hb with hb; subst hb; exact hnf vs hd
 refine ⟨fun b o hbo => keep b o (fun q => by rw [q, hen] at hbo; cases hbo) (kb₁ b o hbo), hl.of_keeps fun b o hb hnf => ?_, ?_, fun b o hb hnf => ?_⟩
 · obtain ⟨sl, hs⟩ := hs₁.2.2 b o hb
   exact ⟨_, keep b _ (noRecord b o hb hnf) hs, rfl⟩
 · exact ⟨_, _, h₁.objs.size, ob, _, he₃, Obj.cls_mapFields _ _, dict_map _ _, by rw [Array.getElem?_setIfInBounds_ne (by decide)]; exact h0, hd₃, by simp [hsz], kb₁.fresh, hTe, hT₃, hdo, by simp⟩
 · obtain ⟨sl, hs⟩ := hs₁.2.2 b o hb
   exact ⟨sl, keep b _ (noRecord b o hb hnf) hs⟩
theorem flightX (hkb : base.StaysIn s.heap) (hl : s.heap.FunFrames base l) (ht : TrX s.heap base e cls a0 dc fl)
  (h : ∀ h', StX base l e cls a0 dc .none s.heap h' → Q () { s with heap := h' }) : wpAny M A (setFlight (.ref e) none) Q E s := by
 obtain ⟨oe, vs, T, oT, ts, he, hcls, hdc, h0, hd, h1, hnT, hTe, hT, hdT, h3⟩ := ht
 have hsz3 : 3 < ts.size := (Array.getElem?_eq_some_iff.mp h3).1
 have other : ∀ b, b ≠ T → (s.heap.update T (Obj.mapFields (·.setIfInBounds 3 ((none : Option Addr).elim Value.none fun f => rawInt f)))).get? b = s.heap.get? b := fun b hb => Heap.get?_update_other _ _ (Ne.symm hb)
 have noRecord : ∀ b o, s.heap.get? b = some o → (∀ vs, o.data ≠ .fields vs) → b ≠ T := fun b o hb hnf q => by
  rw [q, hT] at hb; injection hb with hb; subst hb; exact hnf ts hdT
 unfold setFlight
 refine wpAny_bind (wpAny_field he hd h1 ?_)
 rw [if_pos (show (Value.ref T != Value.none) = true from by simp)]
 refine wpAny_setField hT hdT hsz3 (h _ ⟨fun b o hbo => (other b fun q => by rw [q, hnT] at hbo; cases hbo).trans (hkb b o hbo), hl.of_keeps fun b o hb hnf => ⟨o, (other b (noRecord b o hb hnf)).trans hb, rfl⟩, ?_, fun b o hb hnf => ⟨o.slots, (other b (noRecord b o hb hnf)).trans hb⟩⟩)
 exact ⟨oe, vs, T, _, _, (other e (Ne.symm hTe)).trans he, hcls, hdc, h0, hd, h1, hnT, hTe, Heap.get?_update_self _ hT (Obj.isFreed_of_fields (Obj.data_mapFields hdT _)), Obj.data_mapFields hdT _, by simp [hsz3]⟩
theorem noteX (hfr : A.frames = some (env :: outer)) (hl : s.heap.FunFrames base (env :: outer)) (hf : env.frame = some L) (ht : TrX s.heap base e cls a0 dc .none) (hkb : base.StaysIn s.heap) (hen : base.get? e = none)
  (h : ∀ h', StX base (env :: outer) e cls a0 dc (rawInt L) s.heap h' → Q () { s with heap := h' }) : wpAny M A (noteFrame (.ref e) env) Q E s := by
 obtain ⟨oe, vs, T, oT, ts, he, hcls, hdc, h0, hd, h1, hnT, hTe, hT, hdT, h3⟩ := ht
 subst hcls hdc
 unfold noteFrame
 simp only [hf]
 refine wpAny_bind (wpAny_field he hd h1 ?_)
 rw [if_pos (show (Value.ref T != Value.none) = true from by simp)]
 refine wpAny_bind (wpAny_field hT hdT h3 ?_)
 rw [if_neg (show ¬ ((Value.none == rawInt L) = true) from by simp [rawInt])]
 refine wpAny_bind (wpAny_setField hT hdT (Array.getElem?_eq_some_iff.mp h3).1 ?_)
 have other : ∀ b, b ≠ T → (s.heap.update T (Obj.mapFields (·.setIfInBounds 3 Value.none))).get? b = s.heap.get? b := fun b hb => Heap.get?_update_other _ _ (Ne.symm hb)
 have noRecord : ∀ b o, s.heap.get? b = some o → (∀ vs, o.data ≠ .fields vs) → b ≠ T := fun b o hb hnf q => by
  rw [q, hT] at hb; injection hb with hb; subst hb; exact hnf ts hdT
 refine entryX hfr (hl.of_keeps fun b o hb hnf => ⟨o, (other b (noRecord b o hb hnf)).trans hb, rfl⟩) hf ((other e (Ne.symm hTe)).trans he)
  (fun b o hbo => (other b fun q => by rw [q, hnT] at hbo; cases hbo).trans (hkb b o hbo)) hen hd (Array.getElem?_eq_some_iff.mp h1).1 h0
  fun h' x => h h' ⟨x.st, x.ff, x.tr, fun b o hb hnf => x.sl b o ((other b (noRecord b o hb hnf)).trans hb) hnf⟩
theorem note1X (hfr : A.frames = some (env :: outer)) (hl : s.heap.FunFrames base (env :: outer)) (hf : env.frame = some L)
  (he : s.heap.get? e = some oe) (hkb : base.StaysIn s.heap) (hen : base.get? e = none) (hd : oe.data = .fields vs) (h1 : vs[1]? = some .none) (h0 : vs[0]? = some a0)
  (h : ∀ h', StX base (env :: outer) e oe.cls a0 oe.dict (rawInt L) s.heap h' → Q () { s with heap := h' }) : wpAny M A (noteFrame (.ref e) env) Q E s := by
 unfold noteFrame
 simp only [hf]
 refine wpAny_bind (wpAny_field he hd h1 ?_)
 rw [if_neg (by decide)]
 exact entryX hfr hl hf he hkb hen hd (Array.getElem?_eq_some_iff.mp h1).1 h0 h
structure FlyX (base : Heap) (l : List Env) (e : Addr) (cls a0 : Value) (dc : Option Addr) (fl : Value) (h : Heap) : Prop where
 st : base.StaysIn h
 nw : base.get? e = none
 ff : h.FunFrames base l
 tr : TrX h base e cls a0 dc fl
theorem StX.fly {h h' : Heap} (x : StX base l e cls a0 dc fl h h') (n : base.get? e = none) : FlyX base l e cls a0 dc fl h' := ⟨x.st, n, x.ff, x.tr⟩
theorem FlyX.up {h : Heap} (x : FlyX base (env :: outer) e cls a0 dc fl h) : FlyX base outer e cls a0 dc fl h := ⟨x.st, x.nw, x.ff.2.2, x.tr⟩
theorem leave1X (hfr : A.frames = some (env :: outer)) (hf : env.frame = some L) (hl : s.heap.FunFrames base (env :: outer)) (he : s.heap.get? e = some oe) (hkb : base.StaysIn s.heap) (hen : base.get? e = none) (hd : oe.data = .fields vs) (h1 : vs[1]? = some .none) (h0 : vs[0]? = some a0)
  (hQ : ∀ h', FlyX base outer e oe.cls a0 oe.dict .none h' → s.heap.UpToSlots h' → Q () { s with heap := h' }) : wpAny M A (leaving env (.ref e)) Q E s := by
 unfold leaving
 refine wpAny_bind (note1X hfr hl hf he hkb hen hd h1 h0 fun h1 x1 => ?_)
 exact flightX x1.st x1.ff x1.tr fun h2 x2 => hQ h2 (x2.fly hen).up (x1.sl.trans x2.sl)
theorem lookX (hfr : A.frames = some (env :: outer)) (hf : env.frame = some L) (fx : FlyX base (env :: outer) e cls a0 dc .none s.heap)
  (hQ : ∀ h', FlyX base (env :: outer) e cls a0 dc (rawInt L) h' → s.heap.UpToSlots h' → Q () { s with heap := h' }) : wpAny M A (noteFrame (.ref e) env) Q E s :=
 noteX hfr fx.ff hf fx.tr fx.st fx.nw fun h1 x1 => hQ h1 (x1.fly fx.nw) x1.sl
theorem landX (fx : FlyX base l e cls a0 dc fl s.heap) (hQ : ∀ h', FlyX base l e cls a0 dc .none h' → s.heap.UpToSlots h' → Q () { s with heap := h' }) : wpAny M A (setFlight (.ref e) none) Q E s :=
 flightX fx.st fx.ff fx.tr fun h1 x1 => hQ h1 (x1.fly fx.nw) x1.sl
end
end LXi
end
section
namespace LX
open PySem PySem.W PySem.Spec PySem.Calls PyProof.Rows
section
variable {prog : Program} {w : World} {A : Around} {E : Value → Shared → Prop} {h : Heap} {g : Array GenState} {d : Drawn} {t : Nat} {os : OsState} {K : Frag} {x D dx : Addr} {ox : Obj} {mA : Str → Option Value} {name : Str} {v : Value} {cd : ClassData}
theorem place_entry {tk : Tok} {Q : Fin → Shared → Prop} (X : K.In h) (hx : h.get? x = some ox) (hc : ox.cls = .ref D) (hdx : ox.dict = some dx) (hn : h.Ns1 dx mA) (hv : mA name = some v) (hcl : findIn K (.ref D) name = some none) (hcd : clsIn K D = some cd) (hh : cd.hasDict = true) {fs : Array Value} (hd : ox.data = .fields fs)
  (hq : Q (.done (.ret v)) ⟨h, g, d, t, os⟩) : wpAny (model prog w) A (Builtin.«object.__getattribute__» ⟨[.ref x, .str name tk], []⟩) Q E ⟨h, g, d, t, os⟩ := by
 have L1 : ∀ {A : Around} {E : Value → Shared → Prop} {Q : Option Value → Shared → Prop}, Q none ⟨h, g, d, t, os⟩ → wpAny (model prog w) A (typeLookup (.ref D) name) Q E ⟨h, g, d, t, os⟩ := fun q => (looks_findIn (M := model prog w) X hcl).at q
 have L2 : ∀ {A : Around} {E : Value → Shared → Prop} {Q : ClassData → Shared → Prop}, Q cd ⟨h, g, d, t, os⟩ → wpAny (model prog w) A (classData D) Q E ⟨h, g, d, t, os⟩ := fun q => (looks_clsIn (M := model prog w) X hcd).at q
 repeat (any_goals (first | assumption | (with_reducible refine wpAny_loadPart_at hx ?_; rw [hc]) | with_reducible refine L1 ?_ | with_reducible refine L2 ?_ | wp_step))
 rw [hd]
 show wpAny _ _ (instanceDict x false) _ _ _
 unfold instanceDict
 refine wpAny_bind (wpAny_loadPart_at hx ?_)
 rw [hc, hdx]
 refine wpAny_bind (L2 ?_)
 rw [hh]
 rw [if_neg (by decide)]
 refine wpAny_pure ?_
 show wpAny _ _ (Builtin.ObjectAttr.inDict name (some dx)) _ _ _
 refine wpAny_nsGet hn.ns ?_
 rw [hv]
 repeat (any_goals (first | assumption | wp_step))
theorem place_call {tk : Tok} {R : Result → Shared → Prop} (X : K.In h) (hx : h.get? x = some ox) (hc : ox.cls = .ref D) (hdx : ox.dict = some dx) (hn : h.Ns1 dx mA) (hv : mA name = some v) (hcl : findIn K (.ref D) name = some none) (hcd : clsIn K D = some cd) (hh : cd.hasDict = true) {fs : Array Value} (hd : ox.data = .fields fs) (hmB : mroIn K D (.type "BaseException") = some true)
  (hga : Slot "BaseException" "__getattribute__" "BaseException.__getattribute__") (hq : R (.ok (.ret v)) ⟨h, g, d, t, os⟩) :
  codeAny (model prog w) A (.call (.builtin "BaseException.__getattribute__") ⟨[.ref x, .str name tk], []⟩) R ⟨h, g, d, t, os⟩ :=
 codeAny_call_builtin hga.plain F.entry_bexc_ga (exc_check X hx hc hmB (place_entry X hx hc hdx hn hv hcl hcd hh hd hq))
theorem place_by {tk : Tok} {fill expr : Bool} {Q : Value → Shared → Prop} (X : K.In h) (hx : h.get? x = some ox) (hc : ox.cls = .ref D) (hdx : ox.dict = some dx) (hn : h.Ns1 dx mA) (hv : mA name = some v) (hcl : findIn K (.ref D) name = some none) (hcd : clsIn K D = some cd) (hh : cd.hasDict = true) {fs : Array Value} (hd : ox.data = .fields fs) (hmB : mroIn K D (.type "BaseException") = some true)
  (hga : Slot "BaseException" "__getattribute__" "BaseException.__getattribute__") (hf : findIn K (.ref D) "__getattribute__" = some (some (.builtin "BaseException.__getattribute__"))) (hf2 : findIn K (.ref D) "__getattr__" = some none) (hvb : ∀ id, v ≠ .builtin id) (hq : Q v ⟨h, g, d, t, os⟩) :
  wpAny (model prog w) A (getAttrBy (.ref x) (.str name tk) fill expr) Q E ⟨h, g, d, t, os⟩ := by
 have f3 := hga.bind (.ref x)
 have hx0 : (expr && onTheHeap (Value.builtin "BaseException.__getattribute__")) = false := by cases expr <;> rfl
 have hx2 : (Value.builtin "BaseException.__getattribute__" == Value.builtin "object.__getattribute__") = false := by decide +kernel
 have hx1 : (onTheHeap (Value.ref D) && Value.builtin "BaseException.__getattribute__" == Value.builtin "object.__getattribute__") = false := by rw [hx2]; rfl
 have L1 : ∀ {A : Around} {E : Value → Shared → Prop} {Q : Option Value → Shared → Prop}, Q (some (.builtin "BaseException.__getattribute__")) ⟨h, g, d, t, os⟩ → wpAny (model prog w) A (typeLookup (.ref D) "__getattribute__") Q E ⟨h, g, d, t, os⟩ := fun q => (looks_findIn (M := model prog w) X hf).at q
 have L2 : ∀ {A : Around} {E : Value → Shared → Prop} {Q : Option Value → Shared → Prop}, Q none ⟨h, g, d, t, os⟩ → wpAny (model prog w) A (typeLookup (.ref D) "__getattr__") Q E ⟨h, g, d, t, os⟩ := fun q => (looks_findIn (M := model prog w) X hf2).at q
 repeat (any_goals (first | assumption | (with_reducible refine wpAny_loadPart_at hx ?_; rw [hc]) | with_reducible refine L1 ?_ | with_reducible refine L2 ?_ | wp_step))
 refine place_call X hx hc hdx hn hv hcl hcd hh hd hmB hga ?_
 repeat (any_goals (first | assumption | wp_step))
 split
 · rename_i id
   exact absurd rfl (hvb id)
 · exact wpAny_pure hq
theorem place_get {expr : Bool} {Q : Value → Shared → Prop} (X : K.In h) (hx : h.get? x = some ox) (hc : ox.cls = .ref D) (hdx : ox.dict = some dx) (hn : h.Ns1 dx mA) (hv : mA name = some v) (hcl : findIn K (.ref D) name = some none) (hcd : clsIn K D = some cd) (hh : cd.hasDict = true) {fs : Array Value} (hd : ox.data = .fields fs) (hmB : mroIn K D (.type "BaseException") = some true)
  (hga : Slot "BaseException" "__getattribute__" "BaseException.__getattribute__") (hf : findIn K (.ref D) "__getattribute__" = some (some (.builtin "BaseException.__getattribute__"))) (hf2 : findIn K (.ref D) "__getattr__" = some none) (hvb : ∀ id, v ≠ .builtin id) (hq : Q v ⟨h, g, d, t + 1, os⟩) :
  wpAny (model prog w) A (getAttr (.ref x) name expr) Q E ⟨h, g, d, t, os⟩ :=
 wpAny_bind (wpAny_mkText (place_by X hx hc hdx hn hv hcl hcd hh hd hmB hga hf hf2 hvb hq))
end
end LX
end
section
namespace L2
open PySem PySem.Spec PyProof.Rows
abbrev Key := Sum Int Str
noncomputable def keyIs : Key → Value → Bool
 | .inl k, v => Value.isInt k v
 | .inr x, v => Value.isStrOf x v
noncomputable def keyH (w : World) : Key → Int
 | .inl k => hashInt k
 | .inr x => hashStr w x
theorem keyIs_shape : ∀ {k : Key} {v : Value}, keyIs k v = true → (∃ i t, k = Sum.inl i ∧ v = Value.int i t) ∨ (∃ x t, k = Sum.inr x ∧ v = Value.str x t)
 | .inl i, v, h => by
  obtain ⟨t, e⟩ := Value.isInt_shape (k := i) (v := v) h
  exact .inl ⟨i, t, rfl, e⟩
 | .inr x, v, h => by
  obtain ⟨t, e⟩ := Value.isStrOf_shape (x := x) (v := v) h
  exact .inr ⟨x, t, rfl, e⟩
theorem keyIs_int (i : Int) (t : Tok) : keyIs (.inl i) (.int i t) = true := by simp [keyIs, Value.isInt]
theorem keyIs_str (x : Str) (t : Tok) : keyIs (.inr x) (.str x t) = true := by simp [keyIs, Value.isStrOf]
theorem key_ll (a b : Int) : decide ((Sum.inl a : Key) = Sum.inl b) = (a == b) := by
 by_cases e : a = b
 · subst e; simp
 · have h : ¬ (Sum.inl a : Key) = Sum.inl b := fun q => e (Sum.inl.inj q)
   rw [decide_eq_false h]
   exact (beq_eq_false_iff_ne.mpr e).symm
theorem key_rr (a b : Str) : decide ((Sum.inr a : Key) = Sum.inr b) = decide (a = b) := by
 by_cases e : a = b
 · subst e; simp
 · have h : ¬ (Sum.inr a : Key) = Sum.inr b := fun q => e (Sum.inr.inj q)
   rw [decide_eq_false h, decide_eq_false e]
theorem key_lr (a : Int) (b : Str) : decide ((Sum.inl a : Key) = Sum.inr b) = false := decide_eq_false (fun q => nomatch q)
theorem key_rl (a : Str) (b : Int) : decide ((Sum.inr a : Key) = Sum.inl b) = false := decide_eq_false (fun q => nomatch q)
noncomputable def mixKind (prog : Program) (w : World) : PySem.KeyKind prog w Key where
 is := keyIs
 hash := keyH w
 inj := fun v a b ha hb => by
  rcases keyIs_shape ha with ⟨i, t, rfl, rfl⟩ | ⟨x, t, rfl, rfl⟩
  · rcases keyIs_shape hb with ⟨j, u, rfl, e⟩ | ⟨y, u, rfl, e⟩
    · injection e with e1 _; rw [e1]
    · exact nomatch e
  · rcases keyIs_shape hb with ⟨j, u, rfl, e⟩ | ⟨y, u, rfl, e⟩
    · exact nomatch e
    · injection e with e1 _; rw [e1]
 byValue := fun k v h => by
  rcases keyIs_shape h with ⟨i, t, rfl, rfl⟩ | ⟨x, t, rfl, rfl⟩ <;> rfl
 pyHash := fun hv h => by
  rcases keyIs_shape hv with ⟨i, t, rfl, rfl⟩ | ⟨x, t, rfl, rfl⟩
  · exact wpAny_pyHash_int h
  · exact wpAny_pyHash_str h
 eqBool := fun hu hv h => by
  rcases keyIs_shape hu with ⟨i, t, rfl, rfl⟩ | ⟨x, t, rfl, rfl⟩
  · rcases keyIs_shape hv with ⟨j, u, rfl, rfl⟩ | ⟨y, u, rfl, rfl⟩
    · rw [key_ll] at h; exact wpAny_eqBool_int h
    · rw [key_lr] at h; exact SeqAt.EqAt.int_str i t y u _ _ _ _ h
  · rcases keyIs_shape hv with ⟨j, u, rfl, rfl⟩ | ⟨y, u, rfl, rfl⟩
    · rw [key_rl] at h; exact SeqAt.EqAt.str_int x t j u _ _ _ _ h
    · rw [key_rr] at h; exact wpAny_eqBool_str h
 «strs» := fun k x t v h => by
  rcases keyIs_shape h with ⟨i, u, rfl, e⟩ | ⟨y, u, rfl, e⟩
  · exact nomatch e
  · injection e with e1 _
    subst e1
    cases v <;> rfl
theorem mixKind_int (prog : Program) (w : World) (i : Int) (t : Tok) : (mixKind prog w).is (.inl i) (.int i t) = true := keyIs_int i t
theorem mixKind_str (prog : Program) (w : World) (x : Str) (t : Tok) : (mixKind prog w).is (.inr x) (.str x t) = true := keyIs_str x t
end L2
namespace L2
open PySem PySem.Spec PyProof.Rows
inductive V where
 | non | bl (b : Bool) | int (i : Int) | str (x : Str) | byt (b : Array UInt8) | flt (b : UInt64) | ref (a : Addr) | ty (n : String)
 deriving DecidableEq
def RelV : V → Value → Prop
 | .non, u => u = Value.none
 | .bl b, u => u = Value.bool b
 | .int i, u => ∃ t, u = Value.int i t
 | .str x, u => ∃ t, u = Value.str x t
 | .byt b, u => ∃ t, u = Value.bytes b t
 | .flt b, u => ∃ t, u = Value.float b t
 | .ref a, u => u = Value.ref a
 | .ty n, u => u = Value.type n
abbrev Vals : List V → List Value → Prop := Paired RelV
theorem Vals.length {xs : List V} {us : List Value} (r : Vals xs us) : xs.length = us.length := Paired.length r
theorem Vals.get : ∀ {xs : List V} {us : List Value} {i : Nat} {x : V}, Vals xs us → xs[i]? = some x → ∃ u, us[i]? = some u ∧ RelV x u
 | _, _, _, _, .nil, e => by simp at e
 | _, _, 0, _, .cons r _, e => by simp at e; subst e; exact ⟨_, rfl, r⟩
 | _, _, i + 1, x, .cons _ t, e => by
  obtain ⟨u, h1, h2⟩ := Vals.get (i := i) (x := x) t (by simpa using e)
  exact ⟨u, by simpa using h1, h2⟩
theorem Vals.set {x : V} {u : Value} (r : RelV x u) : ∀ {xs : List V} {us : List Value} (i : Nat), Vals xs us → Vals (xs.set i x) (us.set i u)
 | _, _, _, .nil => .nil
 | _, _, 0, .cons _ t => .cons r t
 | _, _, i + 1, .cons q t => .cons q (Vals.set r i t)
theorem Vals.append : ∀ {xs ys : List V} {us ws : List Value}, Vals xs us → Vals ys ws → Vals (xs ++ ys) (us ++ ws)
 | _, _, _, _, .nil, s => s
 | _, _, _, _, .cons r t, s => .cons r (Vals.append t s)
theorem Vals.take : ∀ {xs : List V} {us : List Value} (n : Nat), Vals xs us → Vals (xs.take n) (us.take n)
 | _, _, 0, _ => .nil
 | _, _, _ + 1, .nil => .nil
 | _, _, n + 1, .cons r t => .cons r (Vals.take n t)
theorem Vals.drop : ∀ {xs : List V} {us : List Value} (n : Nat), Vals xs us → Vals (xs.drop n) (us.drop n)
 | _, _, 0, r => r
 | _, _, _ + 1, .nil => .nil
 | _, _, n + 1, .cons _ t => Vals.drop n t
def RelO : Option V → Option Value → Prop
 | some v, some u => RelV v u
 | none, none => True
 | _, _ => False
def KV {κ : Type} : List (κ × V) → List (κ × Value) → Prop := Paired fun (p : κ × V) (q : κ × Value) => p.1 = q.1 ∧ RelV p.2 q.2
noncomputable def kV : Key → V
 | .inl i => .int i
 | .inr x => .str x
def IsTp (h : Heap) (a : Addr) (items : Array Value) : Prop := ∃ o, h.get? a = some o ∧ o.cls = .type "tuple" ∧ o.dict = none ∧ ∃ n, o.data = .seq items n
theorem IsTp.tup {h : Heap} {a : Addr} {items : Array Value} (x : IsTp h a items) : IsTup h a items := let ⟨o, e, c, _, d⟩ := x; ⟨o, e, c, d⟩
theorem IsTp.lt {h : Heap} {a : Addr} {items : Array Value} (x : IsTp h a items) : a < h.objs.size := let ⟨_, e, _⟩ := x; Heap.lt_size e
theorem IsTp.new (h : Heap) (items : Array Value) : IsTp (h.push { cls := .type "tuple", data := .seq items }) h.objs.size items := ⟨_, Heap.get?_push_size _ rfl, rfl, rfl, _, rfl⟩
inductive HO where
  | lst (xs : List V)
  | tup (xs : List V)
  | dK (kvs : List (Key × V)) | dT (kvs : List (List Key × V))
  | set (S : Int → Bool) (n : Nat)
  | ins (C dx : Addr) (fs : List (Str × V))
  | own (x : Addr)
  | xd (fs : List (Str × V))
  | met (f x : Addr)
  | rng (lo hi : Int)
  | frz (o : Obj) (u : HO)
  | tbl (ps : Array Value)
  | ext (φ : Heap → Prop)
abbrev Hp := Addr → Option HO
noncomputable def upd (H : Hp) (a : Addr) (o : HO) : Hp := fun b => if b = a then some o else H b
theorem upd_same {H : Hp} {a : Addr} {o : HO} : upd H a o a = some o := by unfold upd; rw [if_pos rfl]
theorem upd_ne {H : Hp} {a b : Addr} {o : HO} (h : b ≠ a) : upd H a o b = H b := by unfold upd; rw [if_neg h]
theorem ne_of {H : Hp} {a b : Addr} {o u : HO} (h : H a = some o) (h' : H b = some u) (d : o ≠ u) : a ≠ b := by
 intro e; subst e; rw [h] at h'; exact d (Option.some.inj h')
theorem ne_of_none {H : Hp} {a b : Addr} {o : HO} (h : H a = some o) (h' : H b = none) : a ≠ b := by
 intro e; subst e; rw [h] at h'; cases h'
section
variable (P : Program) (w : World)
def ObjOk (H : Hp) (h : Heap) (a : Addr) : HO → Prop
 | .lst xs => xs.length ≤ sizeLine ∧ ∃ (its : List Value) (n : Nat), Vals xs its ∧ h.get? a = some { cls := .type "list", data := .seq its.toArray n }
 | .tup xs => xs.length ≤ sizeLine ∧ ∃ its : List Value, Vals xs its ∧ IsTp h a its.toArray
 | .dK kvs => kvs.length ≤ sizeLine ∧ (a == sysModules) = false ∧ ∃ vs, KV kvs vs ∧ h.DictOf (mixKind P w) a vs
 | .dT kvs => kvs.length ≤ sizeLine ∧ (a == sysModules) = false ∧ ∃ xs : List (List Key × Addr × Value),
   Paired (fun (p : List Key × V) (q : List Key × Addr × Value) => p.1 = q.1 ∧ H q.2.1 = some (.tup (p.1.map kV)) ∧ RelV p.2 q.2.2) kvs xs ∧
   ∃ o es ep, h.get? a = some o ∧ o.ExactDict ∧ o.data = .dict es ep ∧ es.toList = xs.map (entryOfKey (tupleKind (mixKind P w))) ∧ (xs.map (·.1)).Nodup
 | .set S n => h.SetOf (intKind P w) a S n
 | .ins C dx fs => H dx = some (.own a) ∧ fs.length ≤ 1000 ∧ dx ≠ a ∧ h.get? a = some (PySem.W.instObj C dx) ∧
   ∃ mA, h.Ns1 dx mA ∧ (∀ f, RelO (fs.lookup f) (mA f)) ∧ PySem.Within mA (fs.map (·.1))
 | .own _ => ∃ o, h.get? a = some o
 | .xd fs => ∃ mA, h.Ns1 a mA ∧ ∀ f, RelO (fs.lookup f) (mA f)
 | .rng lo hi => ∃ t u v, h.get? a = some { cls := .type "range", data := .fields #[.int lo t, .int hi u, .int 1 v] }
 | .frz o u => h.get? a = some o ∧ ObjOk H h a u
 | .tbl ps => h.get? a = some { cls := .none, data := .fields ps }
 | .met f x => h.get? a = some (PySem.W.methodObj (.ref f) (.ref x))
 | .ext φ => φ h ∧ (∃ o, h.get? a = some o) ∧ ∀ h1 h2 : Heap, φ h1 → (∀ o, h1.get? a = some o → h2.get? a = some o) → φ h2
def HOk (H : Hp) (h : Heap) : Prop := ∀ a o, H a = some o → ObjOk P w H h a o
end
section
variable {P : Program} {w : World} {H H' : Hp} {h h' : Heap} {a : Addr} {o : HO}
theorem ObjOk.lt (x : ObjOk P w H h a o) : a < h.objs.size := by
 cases o with
 | lst xs => obtain ⟨_, _, _, _, e⟩ := x; exact Heap.lt_size e
 | tup xs => obtain ⟨_, _, _, p⟩ := x; exact p.lt
 | dK kvs => obtain ⟨_, _, _, _, o, _, _, e, _⟩ := x; exact Heap.lt_size e
 | dT kvs => obtain ⟨_, _, _, _, o, _, _, e, _⟩ := x; exact Heap.lt_size e
 | set S n => obtain ⟨o, _, _, _, e, _⟩ := x; exact Heap.lt_size e
 | ins C dx fs => obtain ⟨_, _, _, e, _⟩ := x; exact Heap.lt_size e
 | own y => obtain ⟨_, e⟩ := x; exact Heap.lt_size e
 | xd fs => obtain ⟨_, ⟨_, _, _, e, _⟩, _⟩ := x; exact Heap.lt_size e
 | rng lo hi => obtain ⟨_, _, _, e⟩ := x; exact Heap.lt_size e
 | frz ob u => obtain ⟨e, _⟩ := x; exact Heap.lt_size e
 | tbl ps => exact Heap.lt_size (show h.get? a = some _ from x)
 | met f y => exact Heap.lt_size (show h.get? a = some _ from x)
 | ext φ => obtain ⟨_, ⟨_, e⟩, _⟩ := x; exact Heap.lt_size e
theorem Paired.mapP {α β : Type} {F G : α → β → Prop} : ∀ {l₁ : List α} {l₂ : List β}, Paired F l₁ l₂ → (∀ a b, F a b → G a b) → Paired G l₁ l₂
 | _, _, .nil, _ => .nil
 | _, _, .cons r t, f => .cons (f _ _ r) (Paired.mapP t f)
theorem ObjOk.stay (x : ObjOk P w H h a o) (k : ∀ b u, (b = a ∨ H b = some (.own a)) → h.get? b = some u → h'.get? b = some u)
  (ho : ∀ b, H b = some (.own a) → H' b = some (.own a)) (ht : ∀ b xs, H b = some (.tup xs) → H' b = some (.tup xs)) : ObjOk P w H' h' a o := by
 induction o with
 | lst xs => obtain ⟨z, its, n, r, e⟩ := x; exact ⟨z, its, n, r, k _ _ (.inl rfl) e⟩
 | tup xs => obtain ⟨z, its, r, ob, e, c⟩ := x; exact ⟨z, its, r, ob, k _ _ (.inl rfl) e, c⟩
 | dK kvs => obtain ⟨z, y, vs, r, ob, es, ep, e, c⟩ := x; exact ⟨z, y, vs, r, ob, es, ep, k _ _ (.inl rfl) e, c⟩
 | dT kvs =>
  obtain ⟨z, y, xs, r, ob, es, ep, e, c⟩ := x
  exact ⟨z, y, xs, Paired.mapP r fun p q z => ⟨z.1, ht _ _ z.2.1, z.2.2⟩, ob, es, ep, k _ _ (.inl rfl) e, c⟩
 | set S n => obtain ⟨ob, es, ep, t, e, c⟩ := x; exact ⟨ob, es, ep, t, k _ _ (.inl rfl) e, c⟩
 | ins C dx fs =>
  obtain ⟨d, z, ne, e, mA, ⟨od, es, ep, e2, c⟩, r⟩ := x
  exact ⟨ho _ d, z, ne, k _ _ (.inl rfl) e, mA, ⟨od, es, ep, k _ _ (.inr d) e2, c⟩, r⟩
 | own y => obtain ⟨ob, e⟩ := x; exact ⟨ob, k _ _ (.inl rfl) e⟩
 | xd fs => obtain ⟨mA, ⟨od, es, ep, e, c⟩, r⟩ := x; exact ⟨mA, ⟨od, es, ep, k _ _ (.inl rfl) e, c⟩, r⟩
 | rng lo hi => obtain ⟨t, u, v, e⟩ := x; exact ⟨t, u, v, k _ _ (.inl rfl) e⟩
 | frz ob u ih => obtain ⟨e, q⟩ := x; exact ⟨k _ _ (.inl rfl) e, ih q⟩
 | tbl ps =>
  have e : h.get? a = some { cls := .none, data := .fields ps } := x
  show h'.get? a = some { cls := .none, data := .fields ps }
  exact k a _ (.inl rfl) e
 | met f y =>
  have e : h.get? a = some (PySem.W.methodObj (.ref f) (.ref y)) := x
  show h'.get? a = some (PySem.W.methodObj (.ref f) (.ref y))
  exact k a _ (.inl rfl) e
 | ext φ => obtain ⟨p, ⟨o, e⟩, st⟩ := x; exact ⟨st _ _ p fun o q => k _ _ (.inl rfl) q, ⟨o, k _ _ (.inl rfl) e⟩, st⟩
theorem HOk.lt (x : HOk P w H h) (e : H a = some o) : a < h.objs.size := (x a o e).lt
theorem HOk.fresh (x : HOk P w H h) (e : h.objs.size ≤ a) : H a = none := by
 cases q : H a with
 | none => rfl
 | some u => exact absurd (Nat.lt_of_lt_of_le (x.lt q) e) (Nat.lt_irrefl _)
theorem HOk.kept (x : HOk P w H h) (k : ∀ b u, h.get? b = some u → h'.get? b = some u) : HOk P w H h' := fun a o e =>
 (x a o e).stay (fun b u _ q => k b u q) (fun _ q => q) fun _ _ q => q
theorem HOk.laid (x : HOk P w H h) (k : ∀ b u, h.get? b = some u → h'.get? b = some u) (hp : h.objs.size ≤ a) (new : ObjOk P w (upd H a o) h' a o) : HOk P w (upd H a o) h' := fun b u e => by
 have hn := x.fresh hp
 by_cases hb : b = a
 · subst hb; rw [upd_same] at e; cases e; exact new
 · rw [upd_ne hb] at e
   exact (x b u e).stay (fun c v _ q => k c v q) (fun c q => by rw [upd_ne (ne_of_none q hn)]; exact q) fun c xs q => by rw [upd_ne (ne_of_none q hn)]; exact q
end
def Rd (H : Hp) (a : Addr) (u : HO) : Prop := H a = some u ∨ ∃ o, H a = some (.frz o u)
theorem Rd.ok {P : Program} {w : World} {H : Hp} {h : Heap} {a : Addr} {u : HO} (r : Rd H a u) (x : HOk P w H h) : ObjOk P w H h a u := by
 rcases r with r | ⟨o, r⟩
 · exact x a u r
 · obtain ⟨_, q⟩ := x a _ r
   exact q
def Mut : Option HO → Prop
 | some (.lst _) => True
 | some (.dK _) => True
 | some (.dT _) => True
 | some (.set _ _) => True
 | some (.ins _ _ _) => True
 | some (.ext _) => True
 | _ => False
section
variable {P : Program} {w : World} {H : Hp} {h h' : Heap} {x e : Addr} {o' : HO}
theorem HOk.write (ok : HOk P w H h) (mu : Mut (H x)) (he : e = x ∨ H e = some (.own x)) (k : ∀ b u, b ≠ e → h.get? b = some u → h'.get? b = some u) (heo : ∃ u, h'.get? e = some u)
  (new : ObjOk P w (upd H x o') h' x o') : HOk P w (upd H x o') h' := fun b u q => by
 have nown : ∀ c y, H c = some (.own y) → c ≠ x := fun c y r z => by subst z; rw [r] at mu; exact mu
 have ntup : ∀ c xs, H c = some (.tup xs) → c ≠ x := fun c xs r z => by subst z; rw [r] at mu; exact mu
 by_cases hb : b = x
 · subst hb; rw [upd_same] at q; cases q; exact new
 · rw [upd_ne hb] at q
   by_cases hbe : b = e
   · have q' : H b = some (.own x) := by
       rcases he with z | z
       · exact absurd (hbe.trans z) hb
       · rw [hbe]; exact z
     rw [q] at q'; cases q'
     obtain ⟨v, hv⟩ := heo
     exact ⟨v, by rw [hbe]; exact hv⟩
   · refine (ok b u q).stay (fun c v hc r => k c v ?_ r) (fun c r => by rw [upd_ne (nown c b r)]; exact r) fun c xs r => by rw [upd_ne (ntup c xs r)]; exact r
     rcases hc with rfl | hc
     · exact hbe
     · rintro rfl
       rcases he with z | z
       · exact nown c b hc z
       · rw [hc] at z; cases z; exact hb rfl
end
structure Un (fs ex : List Addr) (H H' : Hp) (h h' : Heap) : Prop where
 keep : ∀ b o, h.get? b = some o → H b = none → b ∉ fs → b ∉ ex → h'.get? b = some o
 slot : ∀ b o, h.get? b = some o → H b = none → b ∈ fs → b ∉ ex → ∃ sl, h'.get? b = some { o with slots := sl }
 free : ∀ b o, h.get? b = some o → H b = none → b ∉ ex → H' b = none
 there : ∀ b o, h.get? b = some o → b ∉ ex → ∃ o', h'.get? b = some o'
 tups : ∀ b xs, H b = some (.tup xs) → H' b = some (.tup xs)
 frzs : ∀ b o u, H b = some (.frz o u) → H' b = some (.frz o u)
 tbls : ∀ b ps, H b = some (.tbl ps) → ∃ more, H' b = some (.tbl (ps ++ more))
section
variable {fs fs' ex ex' : List Addr} {H H1 H2 : Hp} {h h1 h2 h' : Heap} {a x e : Addr} {o : HO}
theorem Un.any (u : Un fs ex H H1 h h1) {b : Addr} {ob : Obj} (q : h.get? b = some ob) (n : H b = none) (hx : b ∉ ex) : ∃ sl, h1.get? b = some { ob with slots := sl } := by
 by_cases hb : b ∈ fs
 · exact u.slot b ob q n hb hx
 · exact ⟨ob.slots, u.keep b ob q n hb hx⟩
theorem Un.kept (k : ∀ b u, h.get? b = some u → h'.get? b = some u) : Un fs ex H H h h' :=
 ⟨fun b ob q _ _ _ => k b ob q, fun b ob q _ _ _ => ⟨ob.slots, k b ob q⟩, fun _ _ _ n _ => n, fun b ob q _ => ⟨ob, k b ob q⟩, fun _ _ q => q, fun _ _ _ q => q, fun _ ps q => ⟨#[], by rw [q]; simp⟩⟩
theorem Un.refl : Un fs ex H H h h := Un.kept fun _ _ q => q
theorem Un.laid (k : ∀ b u, h.get? b = some u → h'.get? b = some u) (hp : h.objs.size ≤ a) (hn : H a = none) : Un fs ex H (upd H a o) h h' where
 keep := fun b u q _ _ _ => k b u q
 slot := fun b u q _ _ _ => ⟨u.slots, k b u q⟩
 free := fun b u q n _ => by rw [upd_ne (Nat.ne_of_lt (Nat.lt_of_lt_of_le (Heap.lt_size q) hp))]; exact n
 there := fun b u q _ => ⟨u, k b u q⟩
 tups := fun b xs q => by rw [upd_ne (ne_of_none q hn)]; exact q
 frzs := fun b u xs q => by rw [upd_ne (ne_of_none q hn)]; exact q
 tbls := fun b ps q => ⟨#[], by rw [upd_ne (ne_of_none q hn), q]; simp⟩
theorem Un.write (mu : Mut (H x)) (he : e = x ∨ H e = some (.own x)) (k : ∀ b u, b ≠ e → h.get? b = some u → h'.get? b = some u) (heo : ∃ u, h'.get? e = some u) : Un fs ex H (upd H x o) h h' := by
 have hx : ∀ b, H b = none → b ≠ x := fun b n z => by subst z; rw [n] at mu; exact mu
 have hb : ∀ b, H b = none → b ≠ e := fun b n z => by
  subst z
  rcases he with r | r
  · exact hx b n r
  · rw [n] at r; cases r
 have hm : ∀ b u, H b = some u → ¬ Mut (some u) → b ≠ x := fun b u q nm z => by subst z; rw [q] at mu; exact nm mu
 refine ⟨fun b u q n _ _ => k b u (hb b n) q, fun b u q n _ _ => ⟨u.slots, k b u (hb b n) q⟩, fun b u q n _ => by rw [upd_ne (hx b n)]; exact n, fun b u q _ => ?_,
  fun b xs q => by rw [upd_ne (hm b _ q fun z => z)]; exact q, fun b u xs q => by rw [upd_ne (hm b _ q fun z => z)]; exact q, fun b ps q => ⟨#[], by rw [upd_ne (hm b _ q fun z => z), q]; simp⟩⟩
 by_cases hbe : b = e
 · subst hbe; exact heo
 · exact ⟨u, k b u hbe q⟩
end
noncomputable def trk (h : Heap) (H : Hp) : List Addr := (List.range h.objs.size).filter fun a => (H a).isSome
noncomputable def hidT (h : Heap) (H : Hp) : Heap := PySem.W.hideAll h (trk h H)
theorem hidT_size (h : Heap) (H : Hp) : (hidT h H).objs.size = h.objs.size := PySem.W.hideAll_size _ _
theorem hidT_get {h : Heap} {H : Hp} {b : Addr} {o : Obj} (e : h.get? b = some o) (n : H b = none) : (hidT h H).get? b = some o :=
 PySem.W.hideAll_get _ e fun hm => by
  have q : (H b).isSome = true := (List.mem_filter.mp hm).2
  rw [n] at q; simp at q
theorem of_hidT {h : Heap} {H : Hp} {b : Addr} {o : Obj} (e : (hidT h H).get? b = some o) : h.get? b = some o ∧ H b = none := by
 have e' : h.get? b = some o := PySem.W.of_hideAll (trk h H) e
 refine ⟨e', ?_⟩
 cases q : H b with
 | none => rfl
 | some x =>
  have hm : b ∈ trk h H := List.mem_filter.mpr ⟨List.mem_range.mpr (Heap.lt_size e'), by simp [q]⟩
  have z : (hidT h H).get? b = none := PySem.W.hideAll_none (trk h H) hm
  rw [z] at e; cases e
end L2
namespace L2
open PySem PySem.Spec PyProof.Rows
structure Mod (K : PySem.W.Frag) (mg : Str → Option Value) (base : Heap) : Prop where
 kin : K.In base
 glob : base.Ns mainGlobals mg
 blt : ∃ mb, base.Ns builtinsNs mb ∧ ∀ x : Str, x ≠ "__name__" → mb x = bootBuiltins x
 nolimit : base.NoLimit
structure Cx where
 prog : Program
 w : World
 K : PySem.W.Frag
 mg : Str → Option Value
 base : Heap
 A : Around
 N : List Str
 s₀ : Shared
 H₀ : Hp
 env : Env
 outer : List Env
 stack : List Env
 ex : List Addr
 fn : Str → Bool
 calm : Bool
 pn : List (Addr × Obj)
 xe : Value → Shared → Prop
noncomputable def frs (l : List Env) : List Addr := l.filterMap (·.frame)
noncomputable abbrev Cx.fs (X : Cx) : List Addr := frs X.outer
def Vis (sc : Scope) (x : Str) : Prop := sc.names.lookup x = some .local ∨ sc.names.lookup x = some .cell ∨ sc.names.lookup x = some .free
def Loc (sc : Scope) (x : Str) : Prop := sc.names.lookup x = some .local ∨ sc.names.lookup x = some .cell
def Look (env : Env) (h : Heap) (m : Str → Option Value) (x : Str) (u : Value) : Prop :=
 (env.kindOf x = some .local ∧ m x = some u) ∨ ((env.kindOf x = some .cell ∨ env.kindOf x = some .free) ∧ ∃ c, env.cells.lookup x = some c ∧ h.IsCell c (some u))
structure Cx.Ok (X : Cx) : Prop where
 mod : Mod X.K X.mg X.base
 kind : X.env.scope.kind = .function
 glob : X.env.globals = mainGlobals
 blt : X.env.builtins = builtinsNs
 above : X.s₀.heap.objs.size ≤ X.env.locals
 inj : ∀ x y c, X.env.cells.lookup x = some c → X.env.cells.lookup y = some c → x = y
 has : ∀ x, (X.env.kindOf x = some .cell ∨ X.env.kindOf x = some .free) → ∃ c, X.env.cells.lookup x = some c
 cab : ∀ x c, X.fn x = true → X.env.cells.lookup x = some c → X.s₀.heap.objs.size ≤ c
 hd : X.calm = true → X.A.handled = none
 frames : X.A.frames = some X.stack
 stk : X.stack = X.outer ∨ (X.stack = X.env :: X.outer ∧ X.env.frame = some X.env.locals)
 exf : ∀ b ∈ X.ex, b ≠ X.env.locals ∧ ∀ x c, X.env.cells.lookup x = some c → c ≠ b
 bs : ∀ b o, X.base.get? b = some o → X.s₀.heap.get? b = some o ∧ X.H₀ b = none
 bsz : X.base.objs.size ≤ X.s₀.heap.objs.size
 noex : ∀ b o, X.base.get? b = some o → b ∉ X.ex
 exfs : ∀ b ∈ X.ex, b ∉ X.fs
 funs : X.s₀.heap.FunFrames X.base X.outer
 frf : ∀ b ∈ X.fs, X.H₀ b = none
structure Inv (X : Cx) (pins : List (Addr × Obj)) (σ : List (Option V)) (H : Hp) (s : Shared) : Prop where
 ok : X.Ok
 os : s.os = X.s₀.os
 bare : AllBare s.gens
 base : Un X.fs X.ex X.H₀ H X.s₀.heap s.heap
 loc : ∃ m, s.heap.Ns X.env.locals m ∧ ∀ (i : Nat) (x : Str) (v : V), X.N[i]? = some x → σ[i]? = some (some v) → Vis X.env.scope x → ∃ u, RelV v u ∧ Look X.env s.heap m x u
 cell : ∀ x c, X.env.cells.lookup x = some c → ∃ v, s.heap.IsCell c v
 free : H X.env.locals = none
 freeC : ∀ x c, X.env.cells.lookup x = some c → H c = none
 pin : ∀ p ∈ X.pn ++ pins, s.heap.get? p.1 = some p.2 ∧ H p.1 = none ∧ p.1 ≠ X.env.locals ∧ p.1 ∉ X.fs ∧ ∀ v, p.2.data ≠ .cell v
 hok : HOk X.prog X.w H s.heap
 len : σ.length = X.N.length
section
variable {X : Cx} {pins : List (Addr × Obj)} {σ : List (Option V)} {H H' : Hp} {s : Shared} {h' : Heap}
theorem Cx.Ok.nofr (ok : X.Ok) {b : Addr} {o : Obj} (e : X.base.get? b = some o) : b ∉ X.fs := fun hb => by
 have := (ok.funs.mem hb).1
 rw [e] at this; cases this
theorem Inv.bs (I : Inv X pins σ H s) : ∀ b o, X.base.get? b = some o → s.heap.get? b = some o ∧ H b = none := fun b o e =>
 ⟨I.base.keep b o (I.ok.bs b o e).1 (I.ok.bs b o e).2 (I.ok.nofr e) (I.ok.noex b o e), I.base.free b o (I.ok.bs b o e).1 (I.ok.bs b o e).2 (I.ok.noex b o e)⟩
theorem Inv.bk (I : Inv X pins σ H s) : ∀ b o, X.base.get? b = some o → s.heap.get? b = some o := fun b o e => (I.bs b o e).1
theorem Inv.mod (I : Inv X pins σ H s) : Mod X.K X.mg X.base := I.ok.mod
theorem Inv.kIn (I : Inv X pins σ H s) : X.K.In s.heap := I.ok.mod.kin.keeps I.bk
theorem Inv.lt (I : Inv X pins σ H s) : X.env.locals < s.heap.objs.size := let ⟨_, hn, _⟩ := I.loc; hn.lt
theorem Inv.sz (I : Inv X pins σ H s) : X.s₀.heap.objs.size ≤ s.heap.objs.size := Nat.le_trans I.ok.above (Nat.le_of_lt I.lt)
theorem Inv.nofs (I : Inv X pins σ H s) {a : Addr} (h : s.heap.objs.size ≤ a) : a ∉ X.fs := fun hb => by
 obtain ⟨_, o, ho, _⟩ := I.ok.funs.mem hb
 exact absurd (Nat.lt_of_lt_of_le (Heap.lt_size ho) (Nat.le_trans I.sz h)) (Nat.lt_irrefl _)
theorem Inv.cne (I : Inv X pins σ H s) : ∀ x c, X.env.cells.lookup x = some c → c ≠ X.env.locals := fun x c e z => by
 obtain ⟨v, o, ho, hd⟩ := I.cell x c e
 obtain ⟨m, ⟨o', es, ep, ho', hd', _⟩, _⟩ := I.loc
 rw [z, ho'] at ho; cases ho; rw [hd'] at hd; cases hd
theorem Inv.funs (I : Inv X pins σ H s) : s.heap.FunFrames X.base X.outer := by
 have all : ∀ (l : List Env), (∀ b ∈ frs l, b ∈ X.fs) → X.s₀.heap.FunFrames X.base l → s.heap.FunFrames X.base l := by
  intro l
  induction l with
  | nil => intro _ _; trivial
  | cons env r ih =>
   intro hs hl
   obtain ⟨hk, ⟨L, o, hf, hn, ho, hd⟩, hr⟩ := hl
   have hL : L ∈ X.fs := hs L (by unfold frs; rw [List.filterMap_cons, hf]; exact List.mem_cons_self)
   obtain ⟨sl, e⟩ := I.base.slot L o ho (I.ok.frf L hL) hL fun z => I.ok.exfs L z hL
   exact ⟨hk, ⟨L, _, hf, hn, e, hd⟩, ih (fun b hb => hs b (by unfold frs; rw [List.filterMap_cons, hf]; exact List.mem_cons_of_mem _ hb)) hr⟩
 exact all X.outer (fun _ hb => hb) I.ok.funs
theorem Inv.stack (I : Inv X pins σ H s) : s.heap.FunFrames X.base X.stack := by
 rcases I.ok.stk with e | ⟨e, hf⟩
 · rw [e]; exact I.funs
 · rw [e]
   obtain ⟨m, hn, _⟩ := I.loc
   refine .cons (by rw [I.ok.kind]; decide) hf hn ?_ I.funs
   exact Heap.get?_none_of_le (Nat.le_trans I.ok.bsz I.ok.above)
theorem Inv.stkSub (I : Inv X pins σ H s) : ∀ b ∈ frs X.stack, b ∈ X.env.locals :: X.fs := fun b hb => by
 rcases I.ok.stk with e | ⟨e, hf⟩
 · rw [e] at hb; exact List.mem_cons_of_mem _ hb
 · rw [e] at hb
   unfold frs at hb
   rw [List.filterMap_cons, hf] at hb
   exact hb
theorem Inv.stkFree (I : Inv X pins σ H s) : ∀ b ∈ frs X.stack, H b = none := fun b hb => by
 rcases List.mem_cons.mp (I.stkSub b hb) with e | hb
 · rw [e]; exact I.free
 · obtain ⟨_, o, ho, _⟩ := I.ok.funs.mem hb
   exact I.base.free b o ho (I.ok.frf b hb) fun z => I.ok.exfs b z hb
theorem Inv.step {g' : Array GenState} {t' : Nat} {d' : Drawn} {ch : List Addr} (I : Inv X pins σ H s)
  (hch : ∀ b ∈ ch, (b ∈ X.ex ∨ X.s₀.heap.objs.size ≤ b) ∧ b ≠ X.env.locals ∧ (∀ x c, X.env.cells.lookup x = some c → c ≠ b) ∧ ∀ p ∈ X.pn ++ pins, p.1 ≠ b)
  (keep : ∀ b o, b ≠ X.env.locals → b ∉ X.fs → b ∉ ch → s.heap.get? b = some o → H b = none → h'.get? b = some o)
  (slot : ∀ b o, b ≠ X.env.locals → b ∈ X.fs → b ∉ ch → s.heap.get? b = some o → H b = none → ∃ sl, h'.get? b = some { o with slots := sl }) (free : ∀ b o, b ∉ ch → s.heap.get? b = some o → H b = none → H' b = none)
  (there : ∀ b o, b ∉ ch → s.heap.get? b = some o → ∃ o', h'.get? b = some o')
  (tups : ∀ b xs, H b = some (.tup xs) → H' b = some (.tup xs)) (frzs : ∀ b o u, H b = some (.frz o u) → H' b = some (.frz o u)) (tbls : ∀ b ps, H b = some (.tbl ps) → ∃ more, H' b = some (.tbl (ps ++ more)))
  (ns : ∀ m, s.heap.Ns X.env.locals m → h'.Ns X.env.locals m) (hok : HOk X.prog X.w H' h') (hg : AllBare g') :
  Inv X pins σ H' { s with heap := h', gens := g', drawn := d', toks := t' } := by
 have neL : ∀ b o, X.s₀.heap.get? b = some o → b ≠ X.env.locals := fun b o e => Nat.ne_of_lt (Nat.lt_of_lt_of_le (Heap.lt_size e) I.ok.above)
 have neC : ∀ b o, X.s₀.heap.get? b = some o → b ∉ X.ex → b ∉ ch := fun b o e hx hb => by
  rcases (hch b hb).1 with z | z
  · exact hx z
  · exact absurd (Nat.lt_of_lt_of_le (Heap.lt_size e) z) (Nat.lt_irrefl _)
 have cellK : ∀ x c, X.env.cells.lookup x = some c → ∀ v, s.heap.IsCell c v → h'.IsCell c v := fun x c e v zz1 => (by obtain ⟨o, ho, hd⟩ := zz1; exact (by
  have nch : c ∉ ch := fun z => (hch c z).2.2.1 x c e rfl
  by_cases hc : c ∈ X.fs
  · obtain ⟨sl, q⟩ := slot c o (I.cne x c e) hc nch ho (I.freeC x c e)
    exact ⟨_, q, hd⟩
  · exact ⟨o, keep c o (I.cne x c e) hc nch ho (I.freeC x c e), hd⟩))
 refine ⟨I.ok, I.os, hg, ⟨fun b o e n hb hx => ?_, fun b o e n hb hx => ?_, fun b o e n hx => ?_, fun b o e hx => ?_, fun b xs e => tups b xs (I.base.tups b xs e), fun b o xs e => frzs b o xs (I.base.frzs b o xs e), fun b ps e => ?_⟩, ?_, fun x c e => ?_, ?_, fun x c e => ?_, fun p hp => ?_, hok, I.len⟩
 · exact keep b o (neL b o e) hb (neC b o e hx) (I.base.keep b o e n hb hx) (I.base.free b o e n hx)
 · obtain ⟨sl, e1⟩ := I.base.slot b o e n hb hx
   obtain ⟨sl', e2⟩ := slot b _ (neL b o e) hb (neC b o e hx) e1 (I.base.free b o e n hx)
   exact ⟨sl', e2⟩
 · obtain ⟨o', e1⟩ := I.base.there b o e hx
   exact free b o' (neC b o e hx) e1 (I.base.free b o e n hx)
 · obtain ⟨o', e1⟩ := I.base.there b o e hx
   exact there b o' (neC b o e hx) e1
 · obtain ⟨m1, e1⟩ := I.base.tbls b ps e
   obtain ⟨m2, e2⟩ := tbls b _ e1
   exact ⟨m1 ++ m2, by rw [e2, Array.append_assoc]⟩
 · obtain ⟨m, hn, hl⟩ := I.loc
   refine ⟨m, ns m hn, fun i x v e1 e2 e3 => ?_⟩
   obtain ⟨u, r, l⟩ := hl i x v e1 e2 e3
   refine ⟨u, r, ?_⟩
   rcases l with l | ⟨k, c, e, z⟩
   · exact .inl l
   · exact .inr ⟨k, c, e, cellK x c e _ z⟩
 · obtain ⟨v, z⟩ := I.cell x c e
   exact ⟨v, cellK x c e v z⟩
 · obtain ⟨m, ⟨o, _, _, ho, _⟩, _⟩ := I.loc
   exact free _ o (fun z => (hch _ z).2.1 rfl) ho I.free
 · obtain ⟨v, o, ho, hd⟩ := I.cell x c e
   exact free c o (fun z => (hch c z).2.2.1 x c e rfl) ho (I.freeC x c e)
 · obtain ⟨e, n, ne, nf, d⟩ := I.pin p hp
   have nch : p.1 ∉ ch := fun z => (hch p.1 z).2.2.2 p hp rfl
   exact ⟨keep p.1 p.2 ne nf nch e n, free p.1 p.2 nch e n, ne, nf, d⟩
theorem Inv.un {t' : Nat} (I : Inv X pins σ H s) (u : Un X.fs [] H H' s.heap h') (hok : HOk X.prog X.w H' h') : Inv X pins σ H' { s with heap := h', toks := t' } := by
 obtain ⟨m, ⟨o, es, ep, ho, r⟩, _⟩ := id I.loc
 obtain ⟨sl, hL⟩ := u.any ho I.free (by simp)
 exact I.step (g' := s.gens) (d' := s.drawn) (ch := []) (fun _ z => nomatch z) (fun b o _ hb _ e n => u.keep b o e n hb (by simp)) (fun b o _ hb _ e n => u.slot b o e n hb (by simp)) (fun b o _ e n => u.free b o e n (by simp)) (fun b o _ e => u.there b o e (by simp)) u.tups u.frzs u.tbls (fun m' hm => by
  obtain ⟨o', es', ep', ho', r'⟩ := hm
  rw [ho] at ho'; cases ho'
  exact ⟨_, es', ep', hL, r'⟩) hok I.bare
theorem Inv.call {g' : Array GenState} {t' : Nat} {d' : Drawn} {ch : List Addr} (I : Inv X pins σ H s) (u : Un (frs X.stack) ch H H' s.heap h') (hok : HOk X.prog X.w H' h') (hg : AllBare g')
  (hch : ∀ b ∈ ch, (b ∈ X.ex ∨ X.s₀.heap.objs.size ≤ b) ∧ b ≠ X.env.locals ∧ (∀ x c, X.env.cells.lookup x = some c → c ≠ b) ∧ ∀ p ∈ X.pn ++ pins, p.1 ≠ b) :
  Inv X pins σ H' { s with heap := h', gens := g', drawn := d', toks := t' } := by
 obtain ⟨m, ⟨o, es, ep, ho, r⟩, _⟩ := id I.loc
 obtain ⟨sl, hL⟩ := u.any ho I.free fun z => (hch _ z).2.1 rfl
 exact I.step (ch := ch) hch (fun b o hL hb hc e n => u.keep b o e n (fun z => (List.mem_cons.mp (I.stkSub b z)).elim hL hb) hc) (fun b o _ _ hc e n => u.any e n hc) (fun b o hc e n => u.free b o e n hc) (fun b o hc e => u.there b o e hc) u.tups u.frzs u.tbls (fun m' hm => by
  obtain ⟨o', es', ep', ho', r'⟩ := hm
  rw [ho] at ho'; cases ho'
  exact ⟨_, es', ep', hL, r'⟩) hok hg
theorem Inv.turned {t' : Nat} {it : Addr} (I : Inv X pins σ H s) (k : ∀ b o, b ≠ it → s.heap.get? b = some o → h'.get? b = some o) (hn : H it = none) (hL : it ≠ X.env.locals)
  (h1 : it ∈ X.ex ∨ X.s₀.heap.objs.size ≤ it) (h2 : ∀ x c, X.env.cells.lookup x = some c → c ≠ it) (h3 : ∀ p ∈ X.pn ++ pins, p.1 ≠ it) : Inv X pins σ H { s with heap := h', toks := t' } := by
 have nit : ∀ b u, H b = some u → b ≠ it := fun b u e z => by rw [z, hn] at e; cases e
 refine I.step (g' := s.gens) (d' := s.drawn) (ch := [it]) (fun b hb => ?_) (fun b o _ _ hc e _ => k b o (fun z => hc (by simp [z])) e) (fun b o _ _ hc e _ => ⟨o.slots, k b o (fun z => hc (by simp [z])) e⟩) (fun _ _ _ _ n => n)
  (fun b o hc e => ⟨o, k b o (fun z => hc (by simp [z])) e⟩) (fun _ _ e => e) (fun _ _ _ e => e) (fun b ps e => ⟨#[], by rw [e]; simp⟩) (fun m hm => ?_) (fun b u e => ?_) I.bare
 · have e : b = it := by simpa using hb
   subst e
   exact ⟨h1, hL, h2, h3⟩
 · obtain ⟨o, es, ep, ho, r⟩ := hm
   exact ⟨o, es, ep, k _ o (Ne.symm hL) ho, r⟩
 · refine (I.hok b u e).stay (fun c v hc q => k c v ?_ q) (fun _ q => q) fun _ _ q => q
   rcases hc with z | z
   · rw [z]; exact nit b u e
   · exact nit c _ z
theorem Inv.tok (I : Inv X pins σ H s) (t : Nat) : Inv X pins σ H { s with toks := t } := I.un (h' := s.heap) (t' := t) Un.refl I.hok
theorem Inv.kept {t' : Nat} (I : Inv X pins σ H s) (k : ∀ b u, s.heap.get? b = some u → h'.get? b = some u) : Inv X pins σ H { s with heap := h', toks := t' } := I.un (Un.kept k) (I.hok.kept k)
theorem Inv.laid {a : Addr} {o : HO} {t' : Nat} (I : Inv X pins σ H s) (k : ∀ b u, s.heap.get? b = some u → h'.get? b = some u) (hp : s.heap.objs.size ≤ a) (new : ObjOk X.prog X.w (upd H a o) h' a o) :
  Inv X pins σ (upd H a o) { s with heap := h', toks := t' } := I.un (Un.laid k hp (I.hok.fresh hp)) (I.hok.laid k hp new)
theorem Inv.write {x e : Addr} {o : HO} {t' : Nat} (I : Inv X pins σ H s) (mu : Mut (H x)) (he : e = x ∨ H e = some (.own x)) (k : ∀ b u, b ≠ e → s.heap.get? b = some u → h'.get? b = some u) (heo : ∃ u, h'.get? e = some u)
  (new : ObjOk X.prog X.w (upd H x o) h' x o) : Inv X pins σ (upd H x o) { s with heap := h', toks := t' } := I.un (Un.write mu he k heo) (I.hok.write mu he k heo new)
theorem Inv.weak {σ' : List (Option V)} (I : Inv X pins σ H s) (hl : σ'.length = σ.length) (w : ∀ (i : Nat) v, σ'[i]? = some (some v) → σ[i]? = some (some v)) : Inv X pins σ' H s :=
 ⟨I.ok, I.os, I.bare, I.base, let ⟨m, hn, hl'⟩ := I.loc; ⟨m, hn, fun i x v e1 e2 e3 => hl' i x v e1 (w i v e2) e3⟩, I.cell, I.free, I.freeC, I.pin, I.hok, hl.trans I.len⟩
theorem Inv.pins_of {pins' : List (Addr × Obj)} (I : Inv X pins σ H s) (h : ∀ p ∈ pins', s.heap.get? p.1 = some p.2 ∧ H p.1 = none ∧ p.1 ≠ X.env.locals ∧ p.1 ∉ X.fs ∧ ∀ v, p.2.data ≠ .cell v) : Inv X pins' σ H s :=
 ⟨I.ok, I.os, I.bare, I.base, I.loc, I.cell, I.free, I.freeC, fun p hp => (List.mem_append.mp hp).elim (fun z => I.pin p (List.mem_append_left _ z)) (h p), I.hok, I.len⟩
theorem nodup_ix {N : List Str} (hN : N.Nodup) {i j : Nat} {x : Str} (a : N[i]? = some x) (b : N[j]? = some x) : i = j := by
 obtain ⟨h1, e1⟩ := List.getElem?_eq_some_iff.mp a
 obtain ⟨h2, e2⟩ := List.getElem?_eq_some_iff.mp b
 exact (List.getElem_inj hN).mp (e1.trans e2.symm)
theorem store_ok2 {M : Model} {A : Around} {E : Value → Shared → Prop} {i : Nat} {x : Str} {v : V} {u : Value} {Q : Unit → Shared → Prop} (I : Inv X pins σ H s) (hN : X.N.Nodup) (hi : X.N[i]? = some x) (hx : Loc X.env.scope x) (r : RelV v u)
  (h : ∀ s', Inv X pins (σ.set i (some v)) H s' → (∃ a, Heap.SameBut a s.heap s'.heap ∧ (a = X.env.locals ∨ X.env.cells.lookup x = some a)) → Q () s') (hf : autoParam (X.fn x = true ∨ X.env.scope.names.lookup x = some .local) au1._auto_1) : wpAny M A (storeName X.env x u) Q E s := by
 obtain ⟨m, hn, hl⟩ := id I.loc
 have hcls : (X.env.scope.kind == .class || (X.env.scope.kind == .module && X.env.locals != X.env.globals)) = false := by rw [I.ok.kind]; rfl
 have hiσ : i < σ.length := by rw [I.len]; exact (List.getElem?_eq_some_iff.mp hi).1
 have cne := I.cne
 have tracked : ∀ {a : Addr} {h' : Heap}, (∃ o, s.heap.get? a = some o ∧ H a = none) → Heap.SameBut a s.heap h' → HOk X.prog X.w H h' := fun {a h'} ha hs b ob e => by
  obtain ⟨_, _, hfree⟩ := ha
  refine (I.hok b ob e).stay (fun c w' hc q => (hs.2 c ?_).trans q) (fun _ q => q) fun _ _ q => q
  rintro rfl
  rcases hc with rfl | hc
  · rw [hfree] at e; cases e
  · rw [hfree] at hc; cases hc
 rcases hx with hk | hk
 · refine wpAny_storeName_local hk hn (fun h' hn' hs => ?_) hcls
   obtain ⟨oL, _, _, hoL, _⟩ := id hn
   refine h _ ⟨I.ok, I.os, I.bare, ⟨fun b o e n hb hx => ?_, fun b o e n hb hx => ?_, I.base.free, fun b o e hx => ?_, I.base.tups, I.base.frzs, I.base.tbls⟩, ⟨_, hn', fun j y v' e1 e2 e3 => ?_⟩, fun y c e => ?_, I.free, I.freeC, fun p hp => ?_, tracked ⟨oL, hoL, I.free⟩ hs, by simpa using I.len⟩ ⟨_, hs, .inl rfl⟩
   · exact (hs.2 b (Nat.ne_of_lt (Nat.lt_of_lt_of_le (Heap.lt_size e) I.ok.above))).trans (I.base.keep b o e n hb hx)
   · obtain ⟨sl, e1⟩ := I.base.slot b o e n hb hx
     exact ⟨sl, (hs.2 b (Nat.ne_of_lt (Nat.lt_of_lt_of_le (Heap.lt_size e) I.ok.above))).trans e1⟩
   · obtain ⟨o', e1⟩ := I.base.there b o e hx
     exact ⟨o', (hs.2 b (Nat.ne_of_lt (Nat.lt_of_lt_of_le (Heap.lt_size e) I.ok.above))).trans e1⟩
   · by_cases hj : j = i
     · subst hj
       rw [hi] at e1; cases e1
       rw [List.getElem?_set_self hiσ] at e2
       cases e2
       exact ⟨u, r, .inl ⟨hk, by simp⟩⟩
     · rw [List.getElem?_set_ne (Ne.symm hj)] at e2
       obtain ⟨u', r', q⟩ := hl j y v' e1 e2 e3
       refine ⟨u', r', ?_⟩
       rcases q with ⟨k, e⟩ | ⟨k, c, e, z⟩
       · refine .inl ⟨k, ?_⟩
         have : y ≠ x := fun e => hj (nodup_ix hN e1 (e ▸ hi))
         simp [this, e]
       · exact .inr ⟨k, c, e, z.sameBut hs (cne y c e)⟩
   · obtain ⟨w', z⟩ := I.cell y c e
     exact ⟨w', z.sameBut hs (cne y c e)⟩
   · obtain ⟨e, n, ne, nf, d⟩ := I.pin p hp
     exact ⟨(hs.2 p.1 ne).trans e, n, ne, nf, d⟩
 · have hfn : X.fn x = true := by
     rcases hf with z | z
     · exact z
     · rw [z] at hk; cases hk
   obtain ⟨c, hc⟩ := I.ok.has x (.inl hk)
   obtain ⟨w', z⟩ := I.cell x c hc
   refine wpAny_storeName_cell I.ok.kind hk hc z (fun h' hc' hs => ?_)
   obtain ⟨oc, hoc, hocd⟩ := id z
   refine h { s with heap := h' } ⟨I.ok, I.os, I.bare, ⟨fun b o e n hb hx => ?_, fun b o e n hb hx => ?_, I.base.free, fun b o e hx => ?_, I.base.tups, I.base.frzs, I.base.tbls⟩, ⟨m, hn.sameBut hs (Ne.symm (cne x c hc)), fun j y v' e1 e2 e3 => ?_⟩, fun y c' e => ?_, I.free, I.freeC, fun p hp => ?_, tracked ⟨oc, hoc, I.freeC x c hc⟩ hs, by simpa using I.len⟩ ⟨c, hs, .inr hc⟩
   · exact (hs.2 b (Nat.ne_of_lt (Nat.lt_of_lt_of_le (Heap.lt_size e) (I.ok.cab x c hfn hc)))).trans (I.base.keep b o e n hb hx)
   · obtain ⟨sl, e1⟩ := I.base.slot b o e n hb hx
     exact ⟨sl, (hs.2 b (Nat.ne_of_lt (Nat.lt_of_lt_of_le (Heap.lt_size e) (I.ok.cab x c hfn hc)))).trans e1⟩
   · obtain ⟨o', e1⟩ := I.base.there b o e hx
     exact ⟨o', (hs.2 b (Nat.ne_of_lt (Nat.lt_of_lt_of_le (Heap.lt_size e) (I.ok.cab x c hfn hc)))).trans e1⟩
   · by_cases hj : j = i
     · subst hj
       rw [hi] at e1; cases e1
       rw [List.getElem?_set_self hiσ] at e2
       cases e2
       exact ⟨u, r, .inr ⟨.inl hk, c, hc, hc'⟩⟩
     · rw [List.getElem?_set_ne (Ne.symm hj)] at e2
       obtain ⟨u', r', q⟩ := hl j y v' e1 e2 e3
       refine ⟨u', r', ?_⟩
       rcases q with q | ⟨k, c', e, z'⟩
       · exact .inl q
       · refine .inr ⟨k, c', e, z'.sameBut hs ?_⟩
         rintro rfl
         exact hj (nodup_ix hN e1 (I.ok.inj _ _ _ e hc ▸ hi))
   · by_cases hcc : c' = c
     · subst hcc; exact ⟨_, hc'⟩
     · obtain ⟨w2, z2⟩ := I.cell y c' e
       exact ⟨w2, z2.sameBut hs hcc⟩
   · obtain ⟨e, n, ne, nf, d⟩ := I.pin p hp
     refine ⟨(hs.2 p.1 ?_).trans e, n, ne, nf, d⟩
     intro q
     rw [q, hoc] at e
     have q' : oc = p.2 := Option.some.inj e
     exact d w' (by rw [← q']; exact hocd)
theorem store_ok {M : Model} {A : Around} {E : Value → Shared → Prop} {i : Nat} {x : Str} {v : V} {u : Value} {Q : Unit → Shared → Prop} (I : Inv X pins σ H s) (hN : X.N.Nodup) (hi : X.N[i]? = some x) (hx : Loc X.env.scope x) (r : RelV v u)
  (h : ∀ s', Inv X pins (σ.set i (some v)) H s' → Q () s') (hf : autoParam (X.fn x = true ∨ X.env.scope.names.lookup x = some .local) au1._auto_1) : wpAny M A (storeName X.env x u) Q E s :=
 store_ok2 I hN hi hx r (fun s' I' _ => h s' I') hf
theorem Inv.call' {s' : Shared} {ch : List Addr} (I : Inv X pins σ H s) (ho : s'.os = s.os) (u : Un (frs X.stack) ch H H' s.heap s'.heap) (hok : HOk X.prog X.w H' s'.heap) (hg : AllBare s'.gens)
  (hch : ∀ b ∈ ch, (b ∈ X.ex ∨ X.s₀.heap.objs.size ≤ b) ∧ b ≠ X.env.locals ∧ (∀ x c, X.env.cells.lookup x = some c → c ≠ b) ∧ ∀ p ∈ X.pn ++ pins, p.1 ≠ b) : Inv X pins σ H' s' := by
 obtain ⟨h', g', d', t', o'⟩ := s'
 have e : o' = s.os := ho
 subst e
 exact I.call (g' := g') (t' := t') (d' := d') u hok hg hch
end
abbrev XK := Value → Option Addr → Hp → Prop
abbrev St := List (Option V)
abbrev VK := V → Hp → Prop
abbrev TE := St → Hp → VK → Prop
abbrev TT := St → Hp → (Bool → Hp → Prop) → Prop
abbrev TA := St → Hp → (List V → Hp → Prop) → Prop
structure Ends where
 nx : St → Hp → Prop
 rt : VK
 bk : St → Hp → Prop := fun _ _ => False
 ct : St → Hp → Prop := fun _ _ => False
abbrev TS := Ends → St → Hp → Prop
inductive EP (X : Cx) (pins : List (Addr × Obj)) (σ : St) (Q : VK) (u : Value) (s' : Shared) : Prop
 | mk (v : V) (H' : Hp) (h1 : Inv X pins σ H' s') (h2 : RelV v u) (h3 : Q v H')
inductive TP (X : Cx) (pins : List (Addr × Obj)) (σ : St) (Q : Bool → Hp → Prop) (b : Bool) (s' : Shared) : Prop
 | mk (H' : Hp) (h1 : Inv X pins σ H' s') (h2 : Q b H')
inductive AP (X : Cx) (pins : List (Addr × Obj)) (σ : St) (Q : List V → Hp → Prop) (us : List Value) (s' : Shared) : Prop
 | mk (vs : List V) (H' : Hp) (h1 : Inv X pins σ H' s') (h2 : Vals vs us) (h3 : Q vs H')
inductive SPn (X : Cx) (pins : List (Addr × Obj)) (P : St → Hp → Prop) (s' : Shared) : Prop
 | mk (σ' : St) (H' : Hp) (h1 : Inv X pins σ' H' s') (h2 : P σ' H')
inductive SPr (X : Cx) (pins : List (Addr × Obj)) (P : VK) (u : Value) (s' : Shared) : Prop
 | mk (v : V) (σ' : St) (H' : Hp) (h1 : Inv X pins σ' H' s') (h2 : RelV v u) (h3 : P v H')
def SP (X : Cx) (pins : List (Addr × Obj)) (D : Ends) (f : Flow) (s' : Shared) : Prop :=
 match f with
 | .next => SPn X pins D.nx s'
 | .brk => SPn X pins D.bk s'
 | .cont => SPn X pins D.ct s'
 | .ret u => SPr X pins D.rt u s'
def PE (X : Cx) (e : Expr) (t : TE) : Prop :=
 ∀ (pins : List (Addr × Obj)) (s : Shared) (σ : St) (H : Hp) (Q : VK), Inv X pins σ H s → t σ H Q → wpAny (model X.prog X.w) X.A (eval e X.env) (EP X pins σ Q) X.xe s
def PT (X : Cx) (e : Expr) (t : TT) : Prop :=
 ∀ (pins : List (Addr × Obj)) (s : Shared) (σ : St) (H : Hp) (Q : Bool → Hp → Prop), Inv X pins σ H s → t σ H Q → wpAny (model X.prog X.w) X.A (isTrue e X.env (eval e X.env)) (TP X pins σ Q) X.xe s
def PW (X : Cx) (e : Expr) (t : TT) : Prop :=
 ∀ (whole : Sem Value) (pins : List (Addr × Obj)) (s : Shared) (σ : St) (H : Hp) (Q : Bool → Hp → Prop), Inv X pins σ H s → t σ H Q → wpAny (model X.prog X.w) X.A (isTrue e X.env whole) (TP X pins σ Q) X.xe s
theorem PW.pt {X : Cx} {e : Expr} {t : TT} (h : PW X e t) : PT X e t := h _
def PA (X : Cx) (es : List Expr) (t : TA) : Prop :=
 ∀ (pos : Pos) (pins : List (Addr × Obj)) (s : Shared) (σ : St) (H : Hp) (Q : List V → Hp → Prop), Inv X pins σ H s → t σ H Q → wpAny (model X.prog X.w) X.A (spliced (backTo pos (starEach es X.env))) (AP X pins σ Q) X.xe s
def PS (X : Cx) (st : Stmt) (t : TS) : Prop :=
 ∀ (pins : List (Addr × Obj)) (s : Shared) (σ : St) (H : Hp) (D : Ends), Inv X pins σ H s → t D σ H → wpAny (model X.prog X.w) X.A (exec st X.env) (SP X pins D) X.xe s
def PSs (X : Cx) (st : List Stmt) (t : TS) : Prop :=
 ∀ (pins : List (Addr × Obj)) (s : Shared) (σ : St) (H : Hp) (D : Ends), Inv X pins σ H s → t D σ H → wpAny (model X.prog X.w) X.A (execs st X.env) (SP X pins D) X.xe s
theorem thn {α : Type} {t : Sem α} {Q Q' : α → Shared → Prop} {M : Model} {A : Around} {E : Value → Shared → Prop} {s : Shared} (h : wpAny M A t Q E s) (hQ : ∀ a s, Q a s → Q' a s) : wpAny M A t Q' E s := wpAny_mono h hQ fun _ _ x => x
end L2
namespace L2
open PySem PySem.Spec PyProof.Rows
section
variable {X : Cx}
theorem bin {a b : Expr} {ta tb : TE} (ha : PE X a ta) (hb : PE X b tb) {pins : List (Addr × Obj)} {s : Shared} {σ : St} {H : Hp} {R : V → V → Hp → Prop} (I : Inv X pins σ H s) (h : ta σ H fun x H1 => tb σ H1 fun y H2 => R x y H2)
  {α : Type} {Q : α → Shared → Prop} {f : Value → Value → Sem α}
  (hf : ∀ v u s2 x y H2, Inv X pins σ H2 s2 → RelV x v → RelV y u → R x y H2 → wpAny (model X.prog X.w) X.A (f v u) Q X.xe s2) :
  wpAny (model X.prog X.w) X.A (eval a X.env) (fun v s₁ => wpAny (model X.prog X.w) X.A (eval b X.env) (fun u s₂ => wpAny (model X.prog X.w) X.A (f v u) Q X.xe s₂) X.xe s₁) X.xe s := by
 refine thn (ha pins s σ H _ I h) fun v s1 zz2 => ?_
 obtain ⟨x, H1, I1, r1, q1⟩ := zz2
 refine thn (hb pins s1 σ H1 _ I1 q1) fun u s2 zz3 => ?_
 obtain ⟨y, H2, I2, r2, q2⟩ := zz3
 exact hf v u s2 x y H2 I2 r1 r2 q2
def tVar (i : Nat) : TE := fun σ H Q => ∃ v, σ[i]? = some (some v) ∧ Q v H
def tC (v : V) : TE := fun _ H Q => Q v H
theorem pe_var {i : Nat} {x : Str} {pos : Pos} (hN : X.N[i]? = some x) (hv : Vis X.env.scope x) (hd : autoParam ((x == ("__debug__" : Str)) = false) au2._auto_1) (hcd : autoParam ((x == ("__classdict__" : Str)) = false) au2._auto_1) : PE X (.Name x pos) (tVar i) := by
 intro pins s σ H Q I h
 obtain ⟨v, e, h⟩ := h
 obtain ⟨m, hn, hl⟩ := I.loc
 obtain ⟨u, r, l⟩ := hl i x v hN e hv
 have fin : EP X pins σ Q u s := ⟨v, H, I, r, h⟩
 rcases l with ⟨hk, hm⟩ | ⟨hk, c, hc, hcell⟩
 · exact wpAny_Name (wpAny_loadName_local I.ok.kind hk hn hm fin) hd
 · rcases hk with hk | hk
   · exact wpAny_Name (wpAny_loadName_cell I.ok.kind hk hc hcell fin) hd
   · exact wpAny_Name (wpAny_loadName_free I.ok.kind hk hc hcell fin hcd) hd
theorem pe_int {i j pos} : PE X (.Constant (.int i) j pos) (tC (.int i)) := fun _ _ _ H _ I h => wpAny_Constant_int ⟨.int i, H, I.tok _, ⟨_, rfl⟩, h⟩
theorem pe_bl {b j pos} : PE X (.Constant (.bool b) j pos) (tC (.bl b)) := fun _ _ _ H _ I h => Constant_bool ⟨.bl b, H, I, rfl, h⟩
theorem pe_non {j pos} : PE X (.Constant .none j pos) (tC .non) := fun _ _ _ H _ I h => Constant_none ⟨.non, H, I, rfl, h⟩
theorem pe_str {x j pos} : PE X (.Constant (.str x) j pos) (tC (.str x)) := fun _ _ _ H _ I h => Calls.Constant_str ⟨.str x, H, I.tok _, ⟨_, rfl⟩, h⟩
def Gl (X : Cx) (x : Str) : Prop := X.env.kindOf x = some .globalImplicit
theorem ld_glob {E : Value → Shared → Prop} {pins : List (Addr × Obj)} {s : Shared} {σ : St} {H : Hp} {x : Str} {u : Value} {pos : Pos} {Q : Value → Shared → Prop} (I : Inv X pins σ H s) (hg : Gl X x) (hm : X.mg x = some u) (h : Q u s)
  (hd : autoParam ((x == ("__debug__" : Str)) = false) au2._auto_1) : wpAny (model X.prog X.w) X.A (eval (.Name x pos) X.env) Q E s :=
 Calls.Name_function_global I.ok.kind hg (Calls.loadGlobal_global (by rw [I.ok.glob]; exact I.mod.glob.keeps I.bk) hm h) hd
theorem ld_blt {E : Value → Shared → Prop} {pins : List (Addr × Obj)} {s : Shared} {σ : St} {H : Hp} {x : Str} {u : Value} {pos : Pos} {Q : Value → Shared → Prop} (I : Inv X pins σ H s) (hg : Gl X x) (hm : X.mg x = none) (hv : bootBuiltins x = some u) (h : Q u s)
  (hn : autoParam (x ≠ "__name__") au2._auto_1) (hd : autoParam ((x == ("__debug__" : Str)) = false) au2._auto_1) : wpAny (model X.prog X.w) X.A (eval (.Name x pos) X.env) Q E s := by
 obtain ⟨mb, h1, h2⟩ := I.mod.blt
 exact Calls.Name_function_global I.ok.kind hg (Calls.loadGlobal_builtin (by rw [I.ok.glob]; exact I.mod.glob.keeps I.bk) hm (by rw [I.ok.blt]; exact h1.keeps I.bk) ((h2 x hn).trans hv) h) hd
theorem pe_glob {x : Str} {v : V} {u : Value} {pos : Pos} (hg : Gl X x) (hm : X.mg x = some u) (r : RelV v u) (hd : autoParam ((x == ("__debug__" : Str)) = false) au2._auto_1) : PE X (.Name x pos) (tC v) :=
 fun _ _ _ H _ I h => ld_glob I hg hm ⟨v, H, I, r, h⟩ hd
theorem pe_bltn {x : Str} {v : V} {u : Value} {pos : Pos} (hg : Gl X x) (hm : X.mg x = none) (hv : bootBuiltins x = some u) (r : RelV v u) (hn : autoParam (x ≠ "__name__") au2._auto_1) (hd : autoParam ((x == ("__debug__" : Str)) = false) au2._auto_1) : PE X (.Name x pos) (tC v) :=
 fun _ _ _ H _ I h => ld_blt I hg hm hv ⟨v, H, I, r, h⟩ hn hd
def t2I (ta tb : TE) (k : Int → Int → Hp → Prop) : St → Hp → Prop := fun σ H => ta σ H fun x H1 => tb σ H1 fun y H2 => ∃ i j, x = .int i ∧ y = .int j ∧ k i j H2
variable {a b : Expr} {ta tb : TE} {pos : Pos}
def PC (X : Cx) (op : CmpOp) (a b : Expr) (t : TE) : Prop :=
 ∀ (pins : List (Addr × Obj)) (s : Shared) (σ : St) (H : Hp) (Q : VK), Inv X pins σ H s → t σ H Q →
  wpAny (model X.prog X.w) X.A (eval a X.env) (fun v s₁ => wpAny (model X.prog X.w) X.A (eval b X.env) (fun u s₂ => wpAny (model X.prog X.w) X.A (compareOp op v u) (EP X pins σ Q) X.xe s₂) X.xe s₁) X.xe s
theorem nobehind (b : Expr) {op : CmpOp} (h : op ≠ .In) (h2 : op ≠ .NotIn) : behindInMarks op b = false := by
 have e1 : (op == CmpOp.In) = false := by cases op <;> first | rfl | exact absurd rfl h
 have e2 : (op == CmpOp.NotIn) = false := by cases op <;> first | rfl | exact absurd rfl h2
 cases b <;> simp [behindInMarks, e1, e2]
def tCmp (p : Int → Int → Bool) (ta tb : TE) : TE := fun σ H Q => t2I ta tb (fun i j H2 => Q (.bl (p i j)) H2) σ H
abbrev tEqI : TE → TE → TE := tCmp fun i j => decide (i = j)
theorem pc_int {op : CmpOp} {p : Int → Int → Bool} (ha : PE X a ta) (hb : PE X b tb)
  (rule : ∀ (i j : Int) (t u : Tok) (Q : Value → Shared → Prop) (s : Shared), Q (.bool (p i j)) s → wpAny (model X.prog X.w) X.A (compareOp op (.int i t) (.int j u)) Q X.xe s) : PC X op a b (tCmp p ta tb) := by
 intro pins s σ H Q I h
 refine bin ha hb I h fun v u s2 x y H2 I2 rx ry q => ?_
 obtain ⟨i, j, rfl, rfl, q⟩ := q
 obtain ⟨t, rfl⟩ := rx
 obtain ⟨t', rfl⟩ := ry
 exact rule i j t t' _ s2 ⟨.bl _, H2, I2, rfl, q⟩
theorem pc_eqI (ha : PE X a ta) (hb : PE X b tb) : PC X .Eq a b (tEqI ta tb) := pc_int ha hb fun _ _ _ _ _ _ h => eq_int (by rw [Bool.beq_eq_decide_eq]; exact h)
def tIsN (ta : TE) : TE := fun σ H Q => ta σ H fun x H1 => Q (.bl (decide (x = .non))) H1
def tNotN (ta : TE) : TE := fun σ H Q => ta σ H fun x H1 => Q (.bl (!decide (x = .non))) H1
theorem RelV.none_iff {x : V} {v : Value} (r : RelV x v) : (v == Value.none) = decide (x = .non) := by
 cases x with
 | non => cases r; rfl
 | bl _ => cases r; rfl
 | int _ => obtain ⟨t, rfl⟩ := r; rfl
 | str _ => obtain ⟨t, rfl⟩ := r; rfl
 | byt _ => obtain ⟨t, rfl⟩ := r; rfl
 | flt _ => obtain ⟨t, rfl⟩ := r; rfl
 | ref _ => cases r; rfl
 | ty _ => cases r; rfl
theorem pc_isN {j pos'} (ha : PE X a ta) : PC X .Is a (.Constant .none j pos') (tIsN ta) := by
 intro pins s σ H Q I h
 refine thn (ha pins s σ H _ I h) fun v s1 zz4 => ?_
 obtain ⟨x, H1, I1, r1, q1⟩ := zz4
 exact Constant_none (is_none_gen ⟨.bl _, H1, I1, by rw [r1.none_iff]; rfl, q1⟩)
theorem pc_notN {j pos'} (ha : PE X a ta) : PC X .IsNot a (.Constant .none j pos') (tNotN ta) := by
 intro pins s σ H Q I h
 refine thn (ha pins s σ H _ I h) fun v s1 zz5 => ?_
 obtain ⟨x, H1, I1, r1, q1⟩ := zz5
 exact Constant_none (isnot_none_gen ⟨.bl _, H1, I1, by rw [r1.none_iff]; rfl, q1⟩)
def tB (t : TE) : TT := fun σ H Q => t σ H fun x H1 => ∃ c, x = .bl c ∧ Q c H1
theorem pe_cmp {op : CmpOp} {t : TE} (h : PC X op a b t) (h1 : autoParam (behindInMarks op b = false) au3._auto_1) : PE X (.Compare a [op] [b] pos) t := fun pins s σ H Q I hw => wpAny_Compare1 (h pins s σ H Q I hw) h1
theorem pt_cmp {op : CmpOp} {t : TE} (h : PC X op a b t) (h1 : autoParam (behindInMarks op b = false) au3._auto_1) : PT X (.Compare a [op] [b] pos) (tB t) := by
 intro pins s σ H Q I hw
 refine wpAny_isTrue_Compare1 (thn (h pins s σ H _ I hw) fun v s1 h1 => thn h1 fun u s2 h2 => thn h2 fun c s3 zz6 => ?_) h1
 obtain ⟨x, H1, I1, r1, q1⟩ := zz6
 obtain ⟨d, rfl, q⟩ := q1
 cases r1
 exact wpAny_truthy_bool ⟨H1, I1, q⟩
theorem pt_val {e : Expr} {t : TE} (h : PE X e t) (he : autoParam (∀ whole, isTrue e X.env whole = (do let v ← whole; standAt e.pos; holding [v] (truthy v))) au4._auto_1) : PT X e (tB t) := by
 intro pins s σ H Q I hw
 refine isTrue_plain (thn (h pins s σ H _ I hw) fun v s1 zz7 => ?_) (he _)
 obtain ⟨x, H1, I1, r1, q1⟩ := zz7
 obtain ⟨d, rfl, q⟩ := q1
 cases r1
 exact wpAny_truthy_bool ⟨H1, I1, q⟩
variable {tA tB' : TT} {rest : List Expr}
def tAnd (t u : TT) : TT := fun σ H Q => t σ H fun c H1 => if c = true then u σ H1 Q else Q false H1
def tOr (t u : TT) : TT := fun σ H Q => t σ H fun c H1 => if c = true then Q true H1 else u σ H1 Q
def tNot (t : TT) : TT := fun σ H Q => t σ H fun c H1 => Q (!c) H1
theorem pw_and1 (ha : PT X a tA) : PW X (.BoolOp .And [a] pos) tA := by
 intro wh pins s σ H Q I h
 refine isTrue_and (thn (ha pins s σ H Q I h) fun c s1 e => ?_)
 cases c with
 | true => exact isTrue_and_nil e
 | false => exact e
theorem pw_or1 (ha : PT X a tA) : PW X (.BoolOp .Or [a] pos) tA := by
 intro wh pins s σ H Q I h
 refine isTrue_or (thn (ha pins s σ H Q I h) fun c s1 e => ?_)
 cases c with
 | false => exact isTrue_or_nil e
 | true => exact e
theorem pw_and (ha : PT X a tA) (hb : PW X (.BoolOp .And (b :: rest) pos) tB') : PW X (.BoolOp .And (a :: b :: rest) pos) (tAnd tA tB') := by
 intro wh pins s σ H Q I h
 refine isTrue_and (thn (ha pins s σ H _ I h) fun c s1 zz8 => ?_)
 obtain ⟨H1, I1, q1⟩ := zz8
 cases c with
 | true => exact hb wh pins s1 σ H1 Q I1 q1
 | false => exact ⟨H1, I1, q1⟩
theorem pw_or (ha : PT X a tA) (hb : PW X (.BoolOp .Or (b :: rest) pos) tB') : PW X (.BoolOp .Or (a :: b :: rest) pos) (tOr tA tB') := by
 intro wh pins s σ H Q I h
 refine isTrue_or (thn (ha pins s σ H _ I h) fun c s1 zz9 => ?_)
 obtain ⟨H1, I1, q1⟩ := zz9
 cases c with
 | true => exact ⟨H1, I1, q1⟩
 | false => exact hb wh pins s1 σ H1 Q I1 q1
theorem pt_not (ha : PT X a tA) : PT X (.UnaryOp .Not a pos) (tNot tA) := by
 intro pins s σ H Q I h
 refine isTrue_not (wpAny_mono (ha pins s σ H (fun c H1 => Q (!c) H1) I h) (fun c s' z => ?_) fun _ _ z => z)
 obtain ⟨H', I', q⟩ := z
 exact ⟨H', I', q⟩
def tAndV (ta tb : TE) : TE := fun σ H Q => ta σ H fun x H1 => ∃ c, x = .bl c ∧ if c = true then tb σ H1 Q else Q (.bl false) H1
def tNotV (ta : TE) : TE := fun σ H Q => ta σ H fun x H1 => ∃ c, x = .bl c ∧ Q (.bl (!c)) H1
theorem pe_one {op} {t : TE} (h : PE X a t) : PE X (.BoolOp op [a] pos) t := fun pins s σ H Q I hw => BoolOp_one (h pins s σ H Q I hw)
theorem pe_and (ha : PE X a ta) (hb : PE X (.BoolOp .And (b :: rest) pos) tb) : PE X (.BoolOp .And (a :: b :: rest) pos) (tAndV ta tb) := by
 intro pins s σ H Q I h
 refine BoolOp_and (thn (ha pins s σ H _ I h) fun v s1 zz10 => ?_)
 obtain ⟨x, H1, I1, r1, q1⟩ := zz10
 obtain ⟨c, rfl, q1⟩ := q1
 cases r1
 refine wpAny_truthy_bool ?_
 cases c with
 | true => exact hb pins s1 σ H1 Q I1 q1
 | false => exact ⟨.bl false, H1, I1, rfl, q1⟩
theorem pe_not (ha : PE X a ta) : PE X (.UnaryOp .Not a pos) (tNotV ta) := by
 intro pins s σ H Q I h
 refine UnaryOp_ (thn (ha pins s σ H _ I h) fun v s1 zz12 => ?_)
 obtain ⟨x, H1, I1, r1, q1⟩ := zz12
 obtain ⟨c, rfl, q1⟩ := q1
 cases r1
 exact not_of (wpAny_truthy_bool ⟨.bl (!c), H1, I1, rfl, q1⟩)
def tIf (t : TT) (ta tb : TE) : TE := fun σ H Q => t σ H fun c H1 => if c = true then ta σ H1 Q else tb σ H1 Q
theorem pe_ifExp {c : Expr} (hc : PT X c tA) (ha : PE X a ta) (hb : PE X b tb) : PE X (.IfExp c a b pos) (tIf tA ta tb) := by
 intro pins s σ H Q I h
 refine wpAny_IfExp (thn (hc pins s σ H _ I h) fun d s1 zz13 => ?_)
 obtain ⟨H1, I1, q1⟩ := zz13
 cases d with
 | true => exact ha pins s1 σ H1 Q I1 q1
 | false => exact hb pins s1 σ H1 Q I1 q1
end
end L2
namespace L2
open PySem PySem.Spec PyProof.Rows
def SqL (K : PySem.W.Frag) (H : Hp) (a : Addr) (xs : List V) : Prop :=
 Rd H a (.lst xs) ∨
  ∃ (o : Obj) (its : Array Value) (n : Nat), K.lookup a = some o ∧ o.cls = .type "list" ∧ o.dict = none ∧ o.data = .seq its n ∧ its.size ≤ sizeLine ∧ Vals xs its.toList
def SqT (K : PySem.W.Frag) (H : Hp) (a : Addr) (xs : List V) : Prop :=
 Rd H a (.tup xs) ∨
  ∃ (o : Obj) (its : Array Value) (n : Nat), K.lookup a = some o ∧ o.cls = .type "tuple" ∧ o.data = .seq its n ∧ its.size ≤ sizeLine ∧ Vals xs its.toList
noncomputable def absV : Value → Option V
 | .none => some .non
 | .bool b => some (.bl b)
 | .int i _ => some (.int i)
 | .str x _ => some (.str x)
 | .bytes b _ => some (.byt b)
 | .float b _ => some (.flt b)
 | .ref a => some (.ref a)
 | .type n => some (.ty n)
 | _ => none
theorem RelV.abs {x : V} {u : Value} (r : RelV x u) : absV u = some x := by
 cases x with
 | non => cases r; rfl
 | bl _ => cases r; rfl
 | int _ => obtain ⟨t, rfl⟩ := r; rfl
 | str _ => obtain ⟨t, rfl⟩ := r; rfl
 | byt _ => obtain ⟨t, rfl⟩ := r; rfl
 | flt _ => obtain ⟨t, rfl⟩ := r; rfl
 | ref _ => cases r; rfl
 | ty _ => cases r; rfl
theorem RelV.inj {x y : V} {u : Value} (r : RelV x u) (q : RelV y u) : x = y := Option.some.inj (r.abs.symm.trans q.abs)
theorem Vals.inj : ∀ {xs ys : List V} {us : List Value}, Vals xs us → Vals ys us → xs = ys
 | _, _, _, .nil, .nil => rfl
 | _, _, _, .cons r t, .cons r' t' => by rw [r.inj r', Vals.inj t t']
section
variable {X : Cx} {pins : List (Addr × Obj)} {σ : St} {H : Hp} {s : Shared} {a : Addr} {xs ys : List V}
theorem SqL.of {K : PySem.W.Frag} (h : H a = some (.lst xs)) : SqL K H a xs := .inl (.inl h)
theorem SqT.of {K : PySem.W.Frag} (h : H a = some (.tup xs)) : SqT K H a xs := .inl (.inl h)
theorem Inv.list (I : Inv X pins σ H s) (h : SqL X.K H a xs) : ∃ its : List Value, Vals xs its ∧ PlainL s.heap a its.toArray ∧ xs.length ≤ sizeLine := by
 rcases h with h | ⟨o, its, n, hk, hc, hd, hs, hz, r⟩
 · obtain ⟨z, its, n, r, e⟩ := h.ok I.hok
   exact ⟨its, r, ⟨_, n, e, rfl, rfl, rfl⟩, z⟩
 · refine ⟨its.toList, r, ⟨o, n, I.kIn a o hk, hc, hd, by simpa using hs⟩, ?_⟩
   have e := r.length
   simp only [Array.length_toList] at e
   lia
theorem Inv.tuple (I : Inv X pins σ H s) (h : SqT X.K H a xs) : ∃ its : List Value, Vals xs its ∧ IsTup s.heap a its.toArray ∧ xs.length ≤ sizeLine := by
 rcases h with h | ⟨o, its, n, hk, hc, hs, hz, r⟩
 · obtain ⟨z, its, r, p⟩ := h.ok I.hok
   exact ⟨its, r, p.tup, z⟩
 · refine ⟨its.toList, r, ⟨o, I.kIn a o hk, hc, n, by simpa using hs⟩, ?_⟩
   have e := r.length
   simp only [Array.length_toList] at e
   lia
theorem Inv.list_inj (I : Inv X pins σ H s) (h : SqL X.K H a xs) (h' : SqL X.K H a ys) : xs = ys := by
 obtain ⟨its, r, ⟨o, n, e, _, _, d⟩, _⟩ := I.list h
 obtain ⟨its', r', ⟨o', n', e', _, _, d'⟩, _⟩ := I.list h'
 rw [e] at e'; cases e'
 rw [d] at d'
 injection d' with d1 _
 have : its = its' := by simpa using congrArg Array.toList d1
 subst this
 exact r.inj r'
theorem Inv.tuple_inj (I : Inv X pins σ H s) (h : SqT X.K H a xs) (h' : SqT X.K H a ys) : xs = ys := by
 obtain ⟨its, r, ⟨o, e, _, n, d⟩, _⟩ := I.tuple h
 obtain ⟨its', r', ⟨o', e', _, n', d'⟩, _⟩ := I.tuple h'
 rw [e] at e'; cases e'
 rw [d] at d'
 injection d' with d1 _
 have : its = its' := by simpa using congrArg Array.toList d1
 subst this
 exact r.inj r'
end
noncomputable abbrev Cx.wish (X : Cx) (E : Value → Shared → Prop) : Cx := { X with xe := E }
noncomputable abbrev Cx.nox (X : Cx) : Cx := X.wish fun _ _ => False
theorem Cx.Ok.wish {X : Cx} (ok : X.Ok) (E : Value → Shared → Prop) : (X.wish E).Ok :=
 ⟨ok.mod, ok.kind, ok.glob, ok.blt, ok.above, ok.inj, ok.has, ok.cab, ok.hd, ok.frames, ok.stk, ok.exf, ok.bs, ok.bsz, ok.noex, ok.exfs, ok.funs, ok.frf⟩
theorem Cx.Ok.unwish {X : Cx} {E : Value → Shared → Prop} (ok : (X.wish E).Ok) : X.Ok :=
 ⟨ok.mod, ok.kind, ok.glob, ok.blt, ok.above, ok.inj, ok.has, ok.cab, ok.hd, ok.frames, ok.stk, ok.exf, ok.bs, ok.bsz, ok.noex, ok.exfs, ok.funs, ok.frf⟩
section
variable {X : Cx} {pins : List (Addr × Obj)} {σ : St} {H : Hp} {s : Shared} {E : Value → Shared → Prop}
theorem Inv.wish (I : Inv X pins σ H s) (E : Value → Shared → Prop) : Inv (X.wish E) pins σ H s := ⟨I.ok.wish E, I.os, I.bare, I.base, I.loc, I.cell, I.free, I.freeC, I.pin, I.hok, I.len⟩
theorem Inv.unwish (I : Inv (X.wish E) pins σ H s) : Inv X pins σ H s := ⟨I.ok.unwish, I.os, I.bare, I.base, I.loc, I.cell, I.free, I.freeC, I.pin, I.hok, I.len⟩
theorem SP.unwish {D : Ends} {f : Flow} {s' : Shared} (h : SP (X.wish E) pins D f s') : SP X pins D f s' := by
 cases f with
 | next => obtain ⟨σ', H', I, q⟩ := h; exact ⟨σ', H', I.unwish, q⟩
 | brk => obtain ⟨σ', H', I, q⟩ := h; exact ⟨σ', H', I.unwish, q⟩
 | cont => obtain ⟨σ', H', I, q⟩ := h; exact ⟨σ', H', I.unwish, q⟩
 | ret u => obtain ⟨v, σ', H', I, r, q⟩ := h; exact ⟨v, σ', H', I.unwish, r, q⟩
theorem PSs.nox {st : List Stmt} {t : TS} (h : PSs X.nox st t) : PSs X st t := fun pins s σ H D I hw =>
 wpAny_mono (h pins s σ H D (I.wish _) hw) (fun _ _ q => q.unwish) fun _ _ z => False.elim z
end
section
variable {X : Cx} {st : Stmt} {rest : List Stmt} {t u : TS} {e : Expr} {te : TE} {pos : Pos}
def tNext : TS := fun D σ H => D.nx σ H
def tSeq (t u : TS) : TS := fun D σ H => t { D with nx := u D } σ H
theorem pss_nil : PSs X [] tNext := fun _ _ σ H _ I h => wpAny_execs_nil ⟨σ, H, I, h⟩
theorem pss_cons (h1 : PS X st t) (h2 : PSs X rest u) : PSs X (st :: rest) (tSeq t u) := by
 intro pins s σ H D I h
 refine wpAny_execs_cons (thn (h1 pins s σ H { D with nx := u D } I h) fun f s1 q => ?_)
 cases f with
 | next =>
  obtain ⟨σ', H', I', q⟩ := q
  exact h2 pins s1 σ' H' D I' q
 | ret v => exact q
 | brk => exact q
 | cont => exact q
theorem pss_one (h1 : PS X st t) : PSs X [st] t := by
 intro pins s σ H D I h
 refine wpAny_execs_cons (thn (h1 pins s σ H D I h) fun f s1 q => ?_)
 cases f with
 | next => exact wpAny_execs_nil q
 | ret v => exact q
 | brk => exact q
 | cont => exact q
theorem Inv.quiet {pins : List (Addr × Obj)} {σ : St} {H : Hp} {s : Shared} (I : Inv X pins σ H s) : interactive X.env = false := by simp [interactive, I.ok.kind]
def tDrop (te : TE) : TS := fun D σ H => te σ H fun _ H1 => D.nx σ H1
theorem ps_expr (he : PE X e te) (hs : autoParam (swapsWith e none pos.line X.env = pure false) au5._auto_1) : PS X (.Expr e pos) (tDrop te) := by
 intro pins s σ H D I h
 exact wpAny_Expr_any (thn (he pins s σ H _ I h) fun v s1 zz16 => (by obtain ⟨x, H1, I1, r1, q1⟩ := zz16; exact (⟨σ, H1, I1, q1⟩))) I.quiet hs
def tRet (te : TE) : TS := fun D σ H => te σ H D.rt
theorem ps_ret (he : PE X e te) : PS X (.Return (some e) pos) (tRet te) := by
 intro pins s σ H D I h
 exact wpAny_Return_some (thn (he pins s σ H _ I h) fun v s1 zz17 => (by obtain ⟨x, H1, I1, r1, q1⟩ := zz17; exact (⟨x, σ, H1, I1, r1, q1⟩)))
def tIfS (c : TT) (t u : TS) : TS := fun D σ H => c σ H fun b H1 => if b = true then t D σ H1 else u D σ H1
theorem ps_if {c : Expr} {a b : List Stmt} {tc : TT} (hc : PT X c tc) (ha : PSs X a t) (hb : PSs X b u) : PS X (.If c a b pos) (tIfS tc t u) := by
 intro pins s σ H D I h
 refine wpAny_If (thn (hc pins s σ H _ I h) fun d s1 zz18 => ?_)
 obtain ⟨H1, I1, q1⟩ := zz18
 cases d with
 | true => exact ha pins s1 σ H1 D I1 q1
 | false => exact hb pins s1 σ H1 D I1 q1
end
abbrev TG := V → St → Hp → (St → Hp → Prop) → Prop
abbrev TGs := List V → St → Hp → (St → Hp → Prop) → Prop
def PG (X : Cx) (target : Expr) (t : TG) : Prop :=
 ∀ (pins : List (Addr × Obj)) (s : Shared) (σ : St) (H : Hp) (v : V) (u : Value) (Q : St → Hp → Prop), Inv X pins σ H s → RelV v u → t v σ H Q →
  wpAny (model X.prog X.w) X.A (assign target X.env u) (fun _ s' => SPn X pins Q s') X.xe s
def PGs (X : Cx) (ts : List Expr) (t : TGs) : Prop :=
 ∀ (pins : List (Addr × Obj)) (s : Shared) (σ : St) (H : Hp) (vs : List V) (us : List Value) (Q : St → Hp → Prop), Inv X pins σ H s → Vals vs us → t vs σ H Q →
  wpAny (model X.prog X.w) X.A (assignInOrder ((assignEach ts X.env).map (·.2)) us) (fun _ s' => SPn X pins Q s') X.xe s
abbrev TSet := V → V → V → Hp → (Hp → Prop) → Prop
def PSet (X : Cx) (t : TSet) : Prop :=
 ∀ (pins : List (Addr × Obj)) (s : Shared) (σ : St) (H : Hp) (o i v : V) (ov iv u : Value) (Q : Hp → Prop), Inv X pins σ H s → RelV o ov → RelV i iv → RelV v u → t o i v H Q →
  wpAny (model X.prog X.w) X.A (setItem ov iv u) (fun _ s' => ∃ H', Inv X pins σ H' s' ∧ Q H') X.xe s
section
variable {X : Cx} {pos : Pos}
def gName (i : Nat) : TG := fun v σ H Q => Q (σ.set i (some v)) H
theorem pg_name {i : Nat} {x : Str} (hN : X.N.Nodup) (hi : X.N[i]? = some x) (hx : Loc X.env.scope x) (hf : autoParam (X.fn x = true ∨ X.env.scope.names.lookup x = some .local) au1._auto_1) : PG X (.Name x pos) (gName i) := by
 intro pins s σ H v u Q I r h
 exact wpAny_assign_Name (store_ok I hN hi hx r (fun s' I' => ⟨_, H, I', h⟩) hf)
def gNil : TGs := fun vs σ H Q => vs = [] ∧ Q σ H
def gCons (t : TG) (u : TGs) : TGs := fun vs σ H Q => ∃ v r, vs = v :: r ∧ t v σ H fun σ' H' => u r σ' H' Q
theorem pgs_nil : PGs X [] gNil := by
 intro pins s σ H vs us Q I r h
 obtain ⟨e, h⟩ := h
 subst e
 cases r
 exact assignInOrder_nil ⟨σ, H, I, h⟩
theorem pgs_cons {e : Expr} {es : List Expr} {t : TG} {u : TGs} (h1 : PG X e t) (h2 : PGs X es u)
  (hs : autoParam ((assignEach (e :: es) X.env).map (·.2) = assign e X.env :: (assignEach es X.env).map (·.2)) au5._auto_1) : PGs X (e :: es) (gCons t u) := by
 intro pins s σ H vs us Q I r h
 obtain ⟨v, vr, e1, h⟩ := h
 subst e1
 cases r with
 | cons r rr =>
  rw [hs]
  refine assignInOrder_cons (thn (h1 pins s σ H _ _ _ I r h) fun _ s1 zz19 => ?_)
  obtain ⟨σ1, H1, I1, q1⟩ := zz19
  exact h2 pins s1 σ1 H1 _ _ Q I1 rr q1
def gTup (K : PySem.W.Frag) (n : Nat) (t : TGs) : TG := fun v σ H Q => ∃ a xs, v = .ref a ∧ SqT K H a xs ∧ xs.length = n ∧ t xs σ H Q
theorem pg_tup {es : List Expr} {k : Nat} {t : TGs} {n : Nat} (hc : X.calm = true) (h : PGs X es t)
  (hn : autoParam ((assignEach es X.env).length = n) au5._auto_1) (hst : autoParam ((assignEach es X.env).findIdx? (·.1) = none) au5._auto_1) : PG X (.Tuple es k pos) (gTup X.K n t) := by
 intro pins s σ H v u Q I r hw
 obtain ⟨a, xs, e1, hq, hl, hw⟩ := hw
 subst e1
 cases r
 obtain ⟨its, rv, ht, hz⟩ := I.tuple hq
 refine assign_Tuple_tuple (I.ok.hd hc) ht (by simp [hn, ← hl, rv.length]) hst fun h' hx => ?_
 have I1 : Inv X pins σ H { s with heap := h' } := I.kept (t' := s.toks) fun b o e => hx b o (Nat.ne_of_lt (Heap.lt_size e)) e
 exact h pins _ σ H xs _ Q I1 (by simpa using rv) hw
def gSub (to ti : TE) (t : TSet) : TG := fun v σ H Q => to σ H fun o H1 => ti σ H1 fun i H2 => t o i v H2 fun H3 => Q σ H3
theorem pg_sub {o i : Expr} {to ti : TE} {t : TSet} (ho : PE X o to) (hi : PE X i ti) (hs : PSet X t)
  (ha : autoParam (∀ v, assign (.Subscript o i pos) X.env v = (do
   let ov ← holding [v] (eval o X.env)
   let iv ← holding [v, ov] (eval i X.env)
   standAt pos
   holding [v, ov, iv] (setItem ov iv v)
   release [v, ov, iv] [])) au4._auto_1) : PG X (.Subscript o i pos) (gSub to ti t) := by
 intro pins s σ H v u Q I r h
 rw [ha]
 refine wpAny_bind (wpAny_holding (thn (ho pins s σ H _ I h) fun ov s1 zz20 => ?_))
 obtain ⟨x, H1, I1, r1, q1⟩ := zz20
 refine wpAny_bind (wpAny_holding (thn (hi pins s1 σ H1 _ I1 q1) fun iv s2 zz21 => ?_))
 obtain ⟨y, H2, I2, r2, q2⟩ := zz21
 refine wpAny_bind (wpAny_standAt (wpAny_bind (wpAny_holding (thn (hs pins s2 σ H2 x y v ov iv u _ I2 r1 r2 r q2) fun _ s3 zz22 => ?_))))
 obtain ⟨H3, I3, q3⟩ := zz22
 exact wpAny_release ⟨σ, H3, I3, q3⟩
def tAsg (te : TE) (g : TG) : TS := fun D σ H => te σ H fun x H1 => g x σ H1 D.nx
theorem ps_asg {tg e : Expr} {te : TE} {g : TG} (he : PE X e te) (hg : PG X tg g) (hs : autoParam (swapsWithSole [tg] e pos.line X.env = pure false) au5._auto_1) (hw : autoParam (swappedStores [tg] e X.env = pure none) au5._auto_1)
  (h1 : autoParam ((assignEach [tg] X.env).map (·.2) = [assign tg X.env]) au5._auto_1) : PS X (.Assign [tg] e pos) (tAsg te g) := by
 intro pins s σ H D I h
 refine wpAny_Assign_stores (thn (he pins s σ H _ I h) fun v s1 zz23 => ?_) hs hw
 obtain ⟨x, H1, I1, r1, q1⟩ := zz23
 rw [h1]
 exact thn (hg pins s1 σ H1 x v _ I1 r1 q1) fun _ s2 q => q
theorem ps_set {i : Nat} {x : Str} {e : Expr} {te : TE} {pos' : Pos} (hN : X.N.Nodup) (hi : X.N[i]? = some x) (hx : Loc X.env.scope x) (he : PE X e te) (hs : autoParam (swapsWith e (some (.Name x pos')) pos.line X.env = pure false) au5._auto_1) (hf : autoParam (X.fn x = true ∨ X.env.scope.names.lookup x = some .local) au1._auto_1) :
  PS X (.Assign [.Name x pos'] e pos) (tAsg te (gName i)) := by
 intro pins s σ H D I h
 refine wpAny_Assign_Name (thn (he pins s σ H _ I h) fun v s1 zz24 => ?_) hs
 obtain ⟨y, H1, I1, r1, q1⟩ := zz24
 exact store_ok I1 hN hi hx r1 (fun s2 I2 => ⟨_, H1, I2, q1⟩) hf
end
section
variable {X : Cx} {pos : Pos}
def tWhile (c : TT) (tb : TS) : TS := fun D σ H => ∃ W : Nat → St → Hp → Prop, (∃ m, W m σ H) ∧ ∀ m σ H, W m σ H →
 c σ H fun b H1 => if b = true then ∃ N : St → Hp → Prop, (∀ σ' H', N σ' H' → ∃ m', m' < m ∧ W m' σ' H') ∧ tb { D with nx := N, ct := N, bk := D.nx } σ H1 else D.nx σ H1
theorem ps_while {c : Expr} {body : List Stmt} {tc : TT} {tb : TS} (hp : PassesOwn (model X.prog X.w) X.A X.env X.xe) (hc : PT X c tc) (hb : PSs X body tb) : PS X (.While c body [] pos) (tWhile tc tb) := by
 intro pins s σ H D I h
 obtain ⟨W, ⟨m0, w0⟩, turn⟩ := h
 refine wpAny_While (codeAny_whileLoop (fun n s' => ∃ σ' H', Inv X pins σ' H' s' ∧ W n σ' H') ?_ m0 ⟨σ, H, I, w0⟩)
 rintro n s1 ⟨σ1, H1, I1, w1⟩
 refine wpAny_passesOwn hp (thn (hc pins s1 σ1 H1 _ I1 (turn n σ1 H1 w1)) fun b s2 zz34 => ?_)
 obtain ⟨H2, I2, q2⟩ := zz34
 cases b with
 | true =>
  obtain ⟨N, hN, q2⟩ := q2
  rw [if_pos rfl]
  refine wpAny_passesOwn hp (thn (hb pins s2 σ1 H2 _ I2 q2) fun f s3 q3 => ?_)
  cases f with
  | next =>
   obtain ⟨σ3, H3, I3, n3⟩ := q3
   obtain ⟨m', hm, w3⟩ := hN σ3 H3 n3
   exact ⟨m', hm, σ3, H3, I3, w3⟩
  | cont =>
   obtain ⟨σ3, H3, I3, n3⟩ := q3
   obtain ⟨m', hm, w3⟩ := hN σ3 H3 n3
   exact ⟨m', hm, σ3, H3, I3, w3⟩
  | brk => exact q3
  | ret v => exact q3
 | false =>
  rw [if_neg Bool.false_ne_true]
  exact wpAny_execs_nil ⟨σ1, H2, I2, q2⟩
end
structure It where
 go : Nat → Hp → Prop
 yld : Nat → Hp → V → Hp → Prop
 stop : Nat → Hp → Prop
def FpOk (X : Cx) (pins : List (Addr × Obj)) (H : Hp) (b : Addr) : Prop :=
 H b = none ∧ b ≠ X.env.locals ∧ b ∉ X.fs ∧ (b ∈ X.ex ∨ X.s₀.heap.objs.size ≤ b) ∧ (∀ x c, X.env.cells.lookup x = some c → c ≠ b) ∧ ∀ p ∈ X.pn ++ pins, p.1 ≠ b
theorem Inv.fpOk {X : Cx} {pins : List (Addr × Obj)} {σ : St} {H H' : Hp} {s : Shared} {b : Addr} (I : Inv X pins σ H s) (hb : s.heap.objs.size ≤ b) (hn : H' b = none) : FpOk X pins H' b := by
 refine ⟨hn, Nat.ne_of_gt (Nat.lt_of_lt_of_le I.lt hb), I.nofs hb, .inr (Nat.le_trans I.sz hb), fun x c e z => ?_, fun p hp z => ?_⟩
 · obtain ⟨v, q⟩ := I.cell x c e
   exact absurd (Nat.lt_of_lt_of_le q.lt (by rw [z]; exact hb)) (Nat.lt_irrefl _)
 · exact absurd (Nat.lt_of_lt_of_le (Heap.lt_size (I.pin p hp).1) (by rw [z]; exact hb)) (Nat.lt_irrefl _)
structure Turn (P : Program) (w : World) (K : PySem.W.Frag) (tg : Expr) (J : It) (fp : List Addr) (it : Addr) (tn : Nat → Heap → Prop) : Prop where
 mem : it ∈ fp
 obj : ∀ i h, tn i h → ∀ b ∈ fp, ∃ o, h.get? b = some o ∧ ∀ v, o.data ≠ .cell v
 keep : ∀ i h h', tn i h → (∀ b ∈ fp, ∀ o, h.get? b = some o → h'.get? b = some o) → tn i h'
 item : ∀ (X : Cx), X.prog = P → X.w = w → X.K = K → X.calm = true → ∀ (i : Nat) (pins : List (Addr × Obj)) (s : Shared) (σ : St) (H : Hp) (E : Value → Shared → Prop), Inv X pins σ H s → (∀ b ∈ fp, FpOk X pins H b) → tn i s.heap → J.go i H →
  wpAny (model P w) X.A (pyNext (.ref it)) (fun r s1 => ∃ u, r = some u ∧
   wpAny (model P w) X.A (letOwnedTupleGo tg (.ref it) u) (fun _ s2 => ∃ x H', Inv X pins σ H' s2 ∧ RelV x u ∧ J.yld i H x H' ∧ tn (i + 1) s2.heap ∧ ∀ b ∈ fp, H' b = none) E s1) E s
 done : ∀ (X : Cx), X.prog = P → X.w = w → X.K = K → X.calm = true → ∀ (i : Nat) (pins : List (Addr × Obj)) (s : Shared) (σ : St) (H : Hp) (E : Value → Shared → Prop), Inv X pins σ H s → (∀ b ∈ fp, FpOk X pins H b) → tn i s.heap → J.stop i H →
  wpAny (model P w) X.A (pyNext (.ref it)) (fun r s1 => r = none ∧ Inv X pins σ H s1) E s
 self : ∀ (A : Around) (i : Nat) (s : Shared) (Q : Value → Shared → Prop) (E : Value → Shared → Prop), tn i s.heap → Q (.ref it) s → wpAny (model P w) A (pyIter (.ref it)) Q E s
abbrev TI := St → Hp → (It → Hp → Prop) → Prop
def PIE (X : Cx) (pins : List (Addr × Obj)) (σ : St) (tg : Expr) (R : It → Hp → Prop) (itv : Value) (s2 : Shared) : Prop :=
 ∃ (it : Addr) (fp : List Addr) (tn : Nat → Heap → Prop) (J : It) (H' : Hp), itv = .ref it ∧ Inv X pins σ H' s2 ∧ Turn X.prog X.w X.K tg J fp it tn ∧ tn 0 s2.heap ∧ (∀ b ∈ fp, FpOk X pins H' b) ∧ R J H'
def PI (X : Cx) (tg iter : Expr) (wi : TI) : Prop :=
 ∀ (pins : List (Addr × Obj)) (s : Shared) (σ : St) (H : Hp) (R : It → Hp → Prop), Inv X pins σ H s → wi σ H R →
  wpAny (model X.prog X.w) X.A (eval iter X.env) (fun v s1 => wpAny (model X.prog X.w) X.A (pyIter v) (PIE X pins σ tg R) X.xe s1) X.xe s
theorem go_of {M : Model} {A : Around} {E : Value → Shared → Prop} {s : Shared} {tg : Expr} {it : Addr} {u : Value} {o : Obj} {n : String} {vs : Array Value} {Q : Unit → Shared → Prop} (ho : s.heap.get? it = some o) (hc : o.cls = .type n) (hd : o.data = .fields vs)
  (hn : ["enumerate", "zip", "dict_itemiterator", "dict_reverseitemiterator", "odict_iterator", "itertools.zip_longest", "itertools.pairwise"].contains n = false) (hQ : Q () s) : wpAny M A (letOwnedTupleGo tg (.ref it) u) Q E s := by
 unfold letOwnedTupleGo
 cases tg <;> first
  | exact wpAny_pure hQ
  | (cases u <;> first
    | exact wpAny_pure hQ
    | (refine wpAny_bind (wpAny_load ho ?_)
       rw [hc, hd]
       show wpAny M A (if (["enumerate", "zip", "dict_itemiterator", "dict_reverseitemiterator", "odict_iterator", "itertools.zip_longest", "itertools.pairwise"].contains n && vs[0]? == some (rawInt _)) = true then _ else _) Q E s
       rw [if_neg (by intro h; rw [hn, Bool.false_and] at h; cases h)]
       exact wpAny_pure hQ))
noncomputable def Itl (K : PySem.W.Frag) (a : Addr) : It :=
 ⟨fun i H => ∃ xs x, SqL K H a xs ∧ xs[i]? = some x, fun i H x H' => H' = H ∧ ∀ xs, SqL K H a xs → xs[i]? = some x, fun i H => ∃ xs, SqL K H a xs ∧ xs.length ≤ i⟩
noncomputable def Itt (K : PySem.W.Frag) (a : Addr) : It :=
 ⟨fun i H => ∃ xs x, SqT K H a xs ∧ xs[i]? = some x, fun i H x H' => H' = H ∧ ∀ xs, SqT K H a xs → xs[i]? = some x, fun i H => ∃ xs, SqT K H a xs ∧ xs.length ≤ i⟩
noncomputable def Itr (lo : Int) (n : Nat) : It := ⟨fun i _ => i < n, fun i H x H' => H' = H ∧ x = .int (lo + i), fun i _ => n ≤ i⟩
theorem turn_list {P : Program} {w : World} {K : PySem.W.Frag} {tg : Expr} (a it : Addr) : Turn P w K tg (Itl K a) [it] it (fun i h => h.IsListIter it a i) where
 mem := by simp
 obj := fun i h st b hb => by
  have e : b = it := by simpa using hb
  subst e
  obtain ⟨o, e, c, d⟩ := st
  exact ⟨o, e, fun v z => by rw [d] at z; cases z⟩
 keep := fun i h h' st k => st.at fun o e => k it (by simp) o e
 item := by
  intro X hP hw hK hc i pins s σ H E I hf st hg
  subst hP hw hK
  obtain ⟨xs, x, hq, hx⟩ := hg
  obtain ⟨its, rv, p, hz⟩ := I.list hq
  obtain ⟨u, hu, ru⟩ := rv.get hx
  obtain ⟨f0, f1, f2, f3, f4, f5⟩ := hf it (by simp)
  refine wpAny_pyNext_list_item st p.isList (x := u) (by simpa using hu) fun h' st' sb => ?_
  have I1 : Inv X pins σ H { s with heap := h' } := I.turned (t' := s.toks) (fun b o hb e => (sb.2 b hb).trans e) f0 f1 f3 f4 f5
  obtain ⟨o, e, c, d⟩ := id st'
  exact ⟨u, rfl, go_of (s := { s with heap := h' }) e c d (by decide) ⟨x, H, I1, ru, ⟨rfl, fun ys hy => by rw [I.list_inj hy hq]; exact hx⟩, st', fun b hb => (hf b hb).1⟩⟩
 done := by
  intro X hP hw hK hc i pins s σ H E I hf st hg
  subst hP hw hK
  obtain ⟨xs, hq, hx⟩ := hg
  obtain ⟨its, rv, p, hz⟩ := I.list hq
  obtain ⟨f0, f1, f2, f3, f4, f5⟩ := hf it (by simp)
  have hl := rv.length
  exact wpAny_pyNext_list_end (I.ok.hd hc) st p.isList (by simp; lia) fun h' eb => ⟨rfl, I.turned (t' := s.toks) (fun b o hb e => eb b o hb e) f0 f1 f3 f4 f5⟩
 self := fun _ _ _ _ _ st h => wpAny_pyIter_listiter st h
theorem turn_tuple {P : Program} {w : World} {K : PySem.W.Frag} {tg : Expr} (a it : Addr) : Turn P w K tg (Itt K a) [it] it (fun i h => h.IsTupleIter it a i) where
 mem := by simp
 obj := fun i h st b hb => by
  have e : b = it := by simpa using hb
  subst e
  obtain ⟨o, e, c, d⟩ := st
  exact ⟨o, e, fun v z => by rw [d] at z; cases z⟩
 keep := fun i h h' st k => st.at fun o e => k it (by simp) o e
 item := by
  intro X hP hw hK hc i pins s σ H E I hf st hg
  subst hP hw hK
  obtain ⟨xs, x, hq, hx⟩ := hg
  obtain ⟨its, rv, p, hz⟩ := I.tuple hq
  obtain ⟨u, hu, ru⟩ := rv.get hx
  obtain ⟨f0, f1, f2, f3, f4, f5⟩ := hf it (by simp)
  refine wpAny_pyNext_tuple_item st (show s.heap.IsTuple a its.toArray from p) (x := u) (by simpa using hu) fun h' st' sb => ?_
  have I1 : Inv X pins σ H { s with heap := h' } := I.turned (t' := s.toks) (fun b o hb e => (sb.2 b hb).trans e) f0 f1 f3 f4 f5
  obtain ⟨o, e, c, d⟩ := id st'
  exact ⟨u, rfl, go_of (s := { s with heap := h' }) e c d (by decide) ⟨x, H, I1, ru, ⟨rfl, fun ys hy => by rw [I.tuple_inj hy hq]; exact hx⟩, st', fun b hb => (hf b hb).1⟩⟩
 done := by
  intro X hP hw hK hc i pins s σ H E I hf st hg
  subst hP hw hK
  obtain ⟨xs, hq, hx⟩ := hg
  obtain ⟨its, rv, p, hz⟩ := I.tuple hq
  obtain ⟨f0, f1, f2, f3, f4, f5⟩ := hf it (by simp)
  have hl := rv.length
  exact wpAny_pyNext_tuple_end (I.ok.hd hc) st (show s.heap.IsTuple a its.toArray from p) (by simp; lia) fun h' eb => ⟨rfl, I.turned (t' := s.toks) (fun b o hb e => eb b o hb e) f0 f1 f3 f4 f5⟩
 self := fun _ _ _ _ _ st h => wpAny_pyIter_tupleiter st h
theorem turn_range {P : Program} {w : World} {K : PySem.W.Frag} {tg : Expr} (it : Addr) (lo : Int) (n : Nat) : Turn P w K tg (Itr lo n) [it] it (fun i h => IsRangeIter h it (lo + (i : Nat) * 1) ((n : Int) - (i : Nat)) 1) where
 mem := by simp
 obj := fun i h st b hb => by
  have e : b = it := by simpa using hb
  subst e
  exact ⟨_, st, fun v z => by
   have z' : Data.fields _ = Data.cell v := z
   cases z'⟩
 keep := fun i h h' st k => k it (by simp) _ st
 item := by
  intro X hP hw hK hc i pins s σ H E I hf st hg
  subst hP hw hK
  obtain ⟨f0, f1, f2, f3, f4, f5⟩ := hf it (by simp)
  have W := Walks.range (prog := X.prog) (w := X.w) (I.ok.hd hc) it lo 1 n
  refine W.item i s _ _ hg st fun v h' tk hv st' kk => ?_
  obtain ⟨t, rfl⟩ := hv
  have I1 : Inv X pins σ H { s with heap := h', toks := tk } := I.turned (fun b o hb e => kk b o (by simpa using hb) e) f0 f1 f3 f4 f5
  refine ⟨_, rfl, go_of (s := { s with heap := h', toks := tk }) (n := "range_iterator") st' rfl rfl (by decide) ⟨.int (lo + i), H, I1, ⟨t, ?_⟩, ⟨rfl, rfl⟩, st', fun b hb => (hf b hb).1⟩⟩
  rw [Int.mul_one]
 done := by
  intro X hP hw hK hc i pins s σ H E I hf st hg
  subst hP hw hK
  obtain ⟨f0, f1, f2, f3, f4, f5⟩ := hf it (by simp)
  exact wpAny_pyNext_range_end (I.ok.hd hc) st (by have : n ≤ i := hg; lia) fun h' eb => ⟨rfl, I.turned (t' := s.toks) (fun b o hb e => eb b o hb e) f0 f1 f3 f4 f5⟩
 self := fun _ _ _ _ _ st h => wpAny_pyIter_rangeiter st h
end L2
namespace L2
open PySem PySem.Spec PyProof.Rows
section
variable {X : Cx} {tg : Expr}
def iList (K : PySem.W.Frag) (tl : TE) : TI := fun σ H R => tl σ H fun x H1 => ∃ a, x = .ref a ∧ (∃ xs, SqL K H1 a xs) ∧ R (Itl K a) H1
def iTup (K : PySem.W.Frag) (tl : TE) : TI := fun σ H R => tl σ H fun x H1 => ∃ a, x = .ref a ∧ (∃ xs, SqT K H1 a xs) ∧ R (Itt K a) H1
theorem pi_list {l : Expr} {tl : TE} (hl : PE X l tl) : PI X tg l (iList X.K tl) := by
 intro pins s σ H R I h
 refine thn (hl pins s σ H _ I h) fun v s1 zz35 => ?_
 obtain ⟨x, H1, I1, r1, q1⟩ := zz35
 obtain ⟨a, e, ⟨xs, hq⟩, q⟩ := q1
 subst e
 cases r1
 obtain ⟨its, rv, p, hz⟩ := I1.list hq
 refine wpAny_pyIter_list p.isList ?_
 refine ⟨s1.heap.objs.size, [s1.heap.objs.size], _, _, H1, rfl, I1.kept (t' := s1.toks) fun b o e => Heap.get?_push_of_some _ e, turn_list a _, ⟨_, Heap.get?_push_size _ rfl, rfl, rfl⟩, fun b hb => ?_, q⟩
 have e : b = s1.heap.objs.size := by simpa using hb
 subst e
 exact I1.fpOk (Nat.le_refl _) (I1.hok.fresh (Nat.le_refl _))
theorem pi_tup {l : Expr} {tl : TE} (hl : PE X l tl) : PI X tg l (iTup X.K tl) := by
 intro pins s σ H R I h
 refine thn (hl pins s σ H _ I h) fun v s1 zz36 => ?_
 obtain ⟨x, H1, I1, r1, q1⟩ := zz36
 obtain ⟨a, e, ⟨xs, hq⟩, q⟩ := q1
 subst e
 cases r1
 obtain ⟨its, rv, p, hz⟩ := I1.tuple hq
 refine wpAny_pyIter_tuple (show s1.heap.IsTuple a its.toArray from p) ?_
 refine ⟨s1.heap.objs.size, [s1.heap.objs.size], _, _, H1, rfl, I1.kept (t' := s1.toks) fun b o e => Heap.get?_push_of_some _ e, turn_tuple a _, ⟨_, Heap.get?_push_size _ rfl, rfl, rfl⟩, fun b hb => ?_, q⟩
 have e : b = s1.heap.objs.size := by simpa using hb
 subst e
 exact I1.fpOk (Nat.le_refl _) (I1.hok.fresh (Nat.le_refl _))
theorem range_it {pins : List (Addr × Obj)} {σ : St} {H : Hp} {s : Shared} {R : It → Hp → Prop} {E : Value → Shared → Prop} {lo hi : Int} {t u v : Tok} {tk : Nat} (I : Inv X pins σ H s) (h1 : -(2 ^ 62) ≤ lo) (h2 : lo < 2 ^ 62) (h3 : -(2 ^ 62) ≤ hi) (h4 : hi < 2 ^ 62)
  (q : R (Itr lo (hi - lo).toNat) H) : wpAny (model X.prog X.w) X.A (pyIter (.ref s.heap.objs.size)) (PIE X pins σ tg R) E { s with heap := s.heap.push { cls := .type "range", data := .fields #[.int lo t, .int hi u, .int 1 v] }, toks := tk } := by
 refine wpAny_pyIter_range (IsRange.new ..) (small_one h1 h2 h3 h4) ?_
 have I1 : Inv X pins σ H { s with heap := s.heap.push { cls := .type "range", data := .fields #[.int lo t, .int hi u, .int 1 v] }, toks := tk } := I.kept fun b o e => Heap.get?_push_of_some _ e
 refine ⟨(s.heap.push { cls := .type "range", data := .fields #[.int lo t, .int hi u, .int 1 v] }).objs.size, [(s.heap.push { cls := .type "range", data := .fields #[.int lo t, .int hi u, .int 1 v] }).objs.size], _, _, H, rfl,
  I1.kept (t' := tk) fun b o e => Heap.get?_push_of_some _ e, turn_range _ lo (hi - lo).toNat, ?_, fun b hb => ?_, q⟩
 · have e1 : lo + ((0 : Nat) : Int) * 1 = lo := by simp
   have e2 : (((hi - lo).toNat : Nat) : Int) - ((0 : Nat) : Int) = Builtin.Range.rangeSize lo hi 1 := by rw [rangeSize_one]; split <;> lia
   show IsRangeIter _ _ (lo + ((0 : Nat) : Int) * 1) ((((hi - lo).toNat : Nat) : Int) - ((0 : Nat) : Int)) 1
   rw [e1, e2]
   exact Heap.get?_push_size _ rfl
 · have e : b = (s.heap.push { cls := .type "range", data := .fields #[.int lo t, .int hi u, .int 1 v] }).objs.size := by simpa using hb
   subst e
   exact I1.fpOk (Nat.le_refl _) (I1.hok.fresh (Nat.le_refl _))
def iRng1 (ta : TA) : TI := fun σ H R => ta σ H fun vs H1 => ∃ j : Int, vs = [.int j] ∧ -(2 ^ 62) ≤ j ∧ j < 2 ^ 62 ∧ R (Itr 0 j.toNat) H1
theorem pi_range1 {a : Expr} {ta : TA} {p pos : Pos} (hg : Gl X "range") (hm : X.mg "range" = none) (ha : PA X [a] ta) (hs : autoParam (starEach [a] X.env = [(false, eval a X.env)]) au5._auto_1) : PI X tg (.Call (.Name "range" p) [a] [] pos) (iRng1 ta) := by
 intro pins s σ H R I h
 refine Call_ (ld_blt I hg hm boot_range (PyProof.Rows.callWith_type1 (thn (ha pos pins s σ H _ I h) fun us s1 zz37 => ?_) hs rfl))
 obtain ⟨vs, H1, I1, r1, q1⟩ := zz37
 obtain ⟨j, e, q1, q2, q⟩ := q1
 subst e
 cases r1 with
 | cons r rr =>
  cases rr
  obtain ⟨t, rfl⟩ := r
  exact call_range_1 (range_it I1 (by lia) (by lia) q1 q2 (by simpa using q))
def tFor (wi : TI) (g : TG) (tb : TS) : TS := fun D σ H => wi σ H fun J H1 => ∃ W : Nat → Nat → St → Hp → Prop, (∃ m, W 0 m σ H1) ∧ ∀ i m σ H, W i m σ H →
 (J.stop i H ∧ D.nx σ H) ∨ (J.go i H ∧ ∃ N : St → Hp → Prop, (∀ σ' H', N σ' H' → ∃ m', m' < m ∧ W (i + 1) m' σ' H') ∧ ∀ x H', J.yld i H x H' → g x σ H' fun σ2 H2 => tb { D with nx := N, ct := N, bk := D.nx } σ2 H2)
noncomputable def pinsAt (fp : List Addr) (h : Heap) : List (Addr × Obj) := fp.filterMap fun b => (h.get? b).map fun o => (b, o)
theorem mem_pinsAt {fp : List Addr} {h : Heap} {b : Addr} {o : Obj} (hb : b ∈ fp) (e : h.get? b = some o) : (b, o) ∈ pinsAt fp h := List.mem_filterMap.mpr ⟨b, hb, by rw [e]; rfl⟩
theorem of_pinsAt {fp : List Addr} {h : Heap} {p : Addr × Obj} (hp : p ∈ pinsAt fp h) : p.1 ∈ fp ∧ h.get? p.1 = some p.2 := by
 obtain ⟨b, hb, e⟩ := List.mem_filterMap.mp hp
 cases q : h.get? b with
 | none => rw [q] at e; cases e
 | some o =>
  rw [q] at e
  have e' : (b, o) = p := Option.some.inj e
  subst e'
  exact ⟨hb, q⟩
theorem Inv.pinned {pins : List (Addr × Obj)} {σ : St} {H : Hp} {s : Shared} {fp : List Addr} (I : Inv X pins σ H s) (hf : ∀ b ∈ fp, FpOk X pins H b) (ho : ∀ b ∈ fp, ∃ o, s.heap.get? b = some o ∧ ∀ v, o.data ≠ .cell v) : Inv X (pins ++ pinsAt fp s.heap) σ H s :=
 I.pins_of fun p hp => (List.mem_append.mp hp).elim (fun z => I.pin p (List.mem_append_right _ z)) fun z => by
  obtain ⟨hb, e⟩ := of_pinsAt z
  obtain ⟨f0, f1, f2, _⟩ := hf p.1 hb
  obtain ⟨o, e', d⟩ := ho p.1 hb
  rw [e] at e'; cases e'
  exact ⟨e, f0, f1, f2, d⟩
theorem Inv.unpinned {pins pl : List (Addr × Obj)} {σ : St} {H : Hp} {s : Shared} (I : Inv X (pins ++ pl) σ H s) : Inv X pins σ H s := I.pins_of fun p hp => I.pin p (List.mem_append_right _ (List.mem_append_left _ hp))
theorem ps_for {iter : Expr} {body : List Stmt} {wi : TI} {g : TG} {tb : TS} {pos : Pos} (hp : PassesOwn (model X.prog X.w) X.A X.env X.xe) (hc : X.calm = true) (hi : PI X tg iter wi) (hg : PG X tg g) (hb : PSs X body tb)
  (hs : autoParam (∀ x, foldedSetIterable iter X.env x = pure x) au4._auto_1) : PS X (.For tg iter body [] pos) (tFor wi g tb) := by
 intro pins s σ H D I h
 refine wpAny_For (thn (hi pins s σ H _ I h) fun v s1 h1 => thn h1 fun itv s2 h2 => ?_) hs
 obtain ⟨it, fp, tn, J, H2, e, I2, T, st2, f2, W, ⟨m0, w0⟩, turn⟩ := h2
 subst e
 have stat : ∀ {H' : Hp}, (∀ b ∈ fp, H' b = none) → ∀ b ∈ fp, FpOk X pins H' b := fun hn b hb => ⟨hn b hb, (f2 b hb).2⟩
 refine codeAny_forLoop_any (fun n s' => ∃ i σ' H', Inv X pins σ' H' s' ∧ tn i s'.heap ∧ (∀ b ∈ fp, H' b = none) ∧ W i n σ' H') ?_ m0 ⟨0, σ, H2, I2, st2, fun b hb => (f2 b hb).1, w0⟩
 rintro n s3 ⟨i, σ3, H3, I3, st3, fr3, w3⟩
 rcases turn i n σ3 H3 w3 with ⟨stop, qn⟩ | ⟨go, N, hN, step⟩
 · refine wpAny_passesOwn hp (thn (T.done X rfl rfl rfl hc i pins s3 σ3 H3 X.xe I3 (stat fr3) st3 stop) fun r s4 zz39 => ?_)
   obtain ⟨hr, I4⟩ := zz39
   subst hr
   exact wpAny_execs_nil ⟨σ3, H3, I4, qn⟩
 · refine wpAny_passesOwn hp (thn (T.item X rfl rfl rfl hc i pins s3 σ3 H3 X.xe I3 (stat fr3) st3 go) fun r s4 zz40 => ?_)
   obtain ⟨u, hr, h4⟩ := zz40
   subst hr
   refine wpAny_passesOwn hp (thn h4 fun _ s5 zz41 => ?_)
   obtain ⟨x, H5, I5, r5, y5, st5, fr5⟩ := zz41
   have I5' := I5.pinned (stat fr5) (T.obj _ _ st5)
   refine wpAny_passesOwn hp (thn (hg _ s5 σ3 H5 x u _ I5' r5 (step x H5 y5)) fun _ s6 zz42 => ?_)
   obtain ⟨σ6, H6, I6, q6⟩ := zz42
   refine wpAny_passesOwn hp (thn (hb _ s6 σ6 H6 _ I6 q6) fun f s7 q7 => ?_)
   have again : ∀ {σ7 : St} {H7 : Hp}, Inv X (pins ++ pinsAt fp s5.heap) σ7 H7 s7 → N σ7 H7 → ∃ m, m < n ∧ ∃ i σ' H', Inv X pins σ' H' s7 ∧ tn i s7.heap ∧ (∀ b ∈ fp, H' b = none) ∧ W i m σ' H' := fun {σ7 H7} I7 n7 => by
    obtain ⟨m', hm, w7⟩ := hN σ7 H7 n7
    refine ⟨m', hm, i + 1, σ7, H7, I7.unpinned, T.keep _ _ _ st5 fun b hb o e => (I7.pin (b, o) (List.mem_append_right _ (List.mem_append_right _ (mem_pinsAt hb e)))).1, fun b hb => ?_, w7⟩
    obtain ⟨o, e, d⟩ := T.obj _ _ st5 b hb
    exact (I7.pin (b, o) (List.mem_append_right _ (List.mem_append_right _ (mem_pinsAt hb e)))).2.1
   cases f with
   | next => obtain ⟨σ7, H7, I7, n7⟩ := q7; exact again I7 n7
   | cont => obtain ⟨σ7, H7, I7, n7⟩ := q7; exact again I7 n7
   | brk => obtain ⟨σ7, H7, I7, q7⟩ := q7; exact ⟨σ7, H7, I7.unpinned, q7⟩
   | ret v => obtain ⟨x7, σ7, H7, I7, r7, q7⟩ := q7; exact ⟨x7, σ7, H7, I7.unpinned, r7, q7⟩
end
end L2
namespace L2
open PySem PySem.Spec PyProof.Rows
abbrev R2 := V → V → Hp → VK → Prop
def OpR (X : Cx) (f : Value → Value → Sem Value) (r : R2) : Prop :=
 ∀ (pins : List (Addr × Obj)) (s : Shared) (σ : St) (H : Hp) (x y : V) (v u : Value) (Q : VK), Inv X pins σ H s → RelV x v → RelV y u → r x y H Q →
  wpAny (model X.prog X.w) X.A (f v u) (EP X pins σ Q) X.xe s
def UnR (X : Cx) (f : Value → Sem Value) (r : V → Hp → VK → Prop) : Prop :=
 ∀ (pins : List (Addr × Obj)) (s : Shared) (σ : St) (H : Hp) (x : V) (v : Value) (Q : VK), Inv X pins σ H s → RelV x v → r x H Q →
  wpAny (model X.prog X.w) X.A (f v) (EP X pins σ Q) X.xe s
def CallR (X : Cx) (f : Value) (r : List V → Hp → VK → Prop) : Prop :=
 ∀ (pins : List (Addr × Obj)) (s : Shared) (σ : St) (H : Hp) (xs : List V) (us : List Value) (Q : VK), Inv X pins σ H s → Vals xs us → r xs H Q →
  wpAny (model X.prog X.w) X.A (call f us) (EP X pins σ Q) X.xe s
def TruR (X : Cx) (r : V → Hp → (Bool → Hp → Prop) → Prop) : Prop :=
 ∀ (pins : List (Addr × Obj)) (s : Shared) (σ : St) (H : Hp) (x : V) (v : Value) (Q : Bool → Hp → Prop), Inv X pins σ H s → RelV x v → r x H Q →
  wpAny (model X.prog X.w) X.A (truthy v) (TP X pins σ Q) X.xe s
def tOp (r : R2) (ta tb : TE) : TE := fun σ H Q => ta σ H fun x H1 => tb σ H1 fun y H2 => r x y H2 Q
def tUn (r : V → Hp → VK → Prop) (ta : TE) : TE := fun σ H Q => ta σ H fun x H1 => r x H1 Q
def rI (C : Int → Int → Prop) (g : Int → Int → V) : R2 := fun x y H Q => ∃ i j, x = .int i ∧ y = .int j ∧ C i j ∧ Q (g i j) H
def rI0 (g : Int → Int → V) : R2 := fun x y H Q => ∃ i j, x = .int i ∧ y = .int j ∧ Q (g i j) H
def rU (g : Int → V) : V → Hp → VK → Prop := fun x H Q => ∃ i, x = .int i ∧ Q (g i) H
section
variable {X : Cx} {a b c : Expr} {ta tb tc : TE} {pos : Pos}
theorem binT (ha : PE X a ta) (hb : PE X b tb) {pins : List (Addr × Obj)} {s : Shared} {σ : St} {H : Hp} {R : V → V → Hp → Prop} (I : Inv X pins σ H s)
  (h : ta σ H fun x H1 => tb σ H1 fun y H2 => R x y H2) {Q : Value → Shared → Prop} {f : Value → Value → Sem Value}
  (hf : ∀ v u s2 x y H2, Inv X pins σ H2 s2 → RelV x v → RelV y u → R x y H2 → wpAny (model X.prog X.w) X.A (f v u) Q X.xe s2) :
  wpAny (model X.prog X.w) X.A (eval a X.env) (fun v s₁ => wpAny (model X.prog X.w) X.A (eval b X.env) (fun u s₂ => wpAny (model X.prog X.w) X.A (f v u) Q X.xe s₂) X.xe s₁) X.xe s := by
 refine thn (ha pins s σ H _ I h) fun v s1 zz44 => ?_
 obtain ⟨x, H1, I1, r1, q1⟩ := zz44
 refine thn (hb pins s1 σ H1 _ I1 q1) fun u s2 zz45 => ?_
 obtain ⟨y, H2, I2, r2, q2⟩ := zz45
 exact hf v u s2 x y H2 I2 r1 r2 q2
theorem pe_op {op : Operator} {r : R2} (ho : OpR X (binaryOp op) r) (ha : PE X a ta) (hb : PE X b tb) : PE X (.BinOp a op b pos) (tOp r ta tb) := by
 intro pins s σ H Q I h
 exact wpAny_BinOp (binT ha hb I h fun v u s2 x y H2 I2 rx ry q => ho pins s2 σ H2 x y v u Q I2 rx ry q)
theorem pe_un {op : UnaryOp} {r : V → Hp → VK → Prop} (ho : UnR X (unaryOp op) r) (ha : PE X a ta) : PE X (.UnaryOp op a pos) (tUn r ta) := by
 intro pins s σ H Q I h
 exact UnaryOp_ (thn (ha pins s σ H _ I h) fun v s1 zz46 => (by obtain ⟨x, H1, I1, r1, q1⟩ := zz46; exact (ho pins s1 σ H1 x v Q I1 r1 q1)))
theorem opI {f : Value → Value → Sem Value} {C : Int → Int → Prop} {g : Int → Int → Int}
  (rule : ∀ (i j : Int) (t u : Tok) (s : Shared) (Q : Value → Shared → Prop) (E : Value → Shared → Prop), C i j → Q (.int (g i j) s.toks) { s with toks := s.toks + 1 } → wpAny (model X.prog X.w) X.A (f (.int i t) (.int j u)) Q E s) :
  OpR X f (rI C fun i j => .int (g i j)) := by
 intro pins s σ H x y v u Q I rx ry h
 obtain ⟨i, j, rfl, rfl, hc, q⟩ := h
 obtain ⟨t, rfl⟩ := rx
 obtain ⟨t', rfl⟩ := ry
 exact rule i j t t' s _ _ hc ⟨.int (g i j), H, I.tok _, ⟨_, rfl⟩, q⟩
theorem opI0 {f : Value → Value → Sem Value} {g : Int → Int → Int}
  (rule : ∀ (i j : Int) (t u : Tok) (s : Shared) (Q : Value → Shared → Prop) (E : Value → Shared → Prop), Q (.int (g i j) s.toks) { s with toks := s.toks + 1 } → wpAny (model X.prog X.w) X.A (f (.int i t) (.int j u)) Q E s) :
  OpR X f (rI0 fun i j => .int (g i j)) := by
 intro pins s σ H x y v u Q I rx ry h
 obtain ⟨i, j, rfl, rfl, q⟩ := h
 obtain ⟨t, rfl⟩ := rx
 obtain ⟨t', rfl⟩ := ry
 exact rule i j t t' s _ _ ⟨.int (g i j), H, I.tok _, ⟨_, rfl⟩, q⟩
theorem opB0 {f : Value → Value → Sem Value} {g : Int → Int → Bool}
  (rule : ∀ (i j : Int) (t u : Tok) (s : Shared) (Q : Value → Shared → Prop) (E : Value → Shared → Prop), Q (.bool (g i j)) s → wpAny (model X.prog X.w) X.A (f (.int i t) (.int j u)) Q E s) :
  OpR X f (rI0 fun i j => .bl (g i j)) := by
 intro pins s σ H x y v u Q I rx ry h
 obtain ⟨i, j, rfl, rfl, q⟩ := h
 obtain ⟨t, rfl⟩ := rx
 obtain ⟨t', rfl⟩ := ry
 exact rule i j t t' s _ _ ⟨.bl (g i j), H, I, rfl, q⟩
def CDiv (i j : Int) : Prop := 0 < j ∧ j < 1073741824
def CPow (i j : Int) : Prop := 0 ≤ j ∧ j ≤ 1000000 ∧ i.natAbs < 2 ^ 64
def CMul (i j : Int) : Prop := (-(2 ^ 64) < i ∧ i < 2 ^ 64) ∨ (-(2 ^ 64) < j ∧ j < 2 ^ 64)
theorem CMul.ok {i j : Int} (h : CMul i j) : IntMulOk i j := by
 rcases h with ⟨h1, h2⟩ | ⟨h1, h2⟩
 · exact .of_left (intBits_le_64 h1 h2)
 · exact .of_right (intBits_le_64 h1 h2)
theorem op_add : OpR X (binaryOp .Add) (rI0 fun i j => .int (i + j)) := opI0 fun _ _ _ _ _ _ _ q => add_int q
theorem op_sub : OpR X (binaryOp .Sub) (rI0 fun i j => .int (i - j)) := opI0 fun _ _ _ _ _ _ _ q => sub_int q
theorem op_mul : OpR X (binaryOp .Mult) (rI CMul fun i j => .int (i * j)) := opI fun _ _ _ _ _ _ _ hc q => mul_int q hc.ok
theorem op_fdiv : OpR X (binaryOp .FloorDiv) (rI CDiv fun i j => .int (i / j)) := opI fun i j _ _ _ _ _ hc q => by
 have h1 : (0 : Int) < j := hc.1
 have h2 : j < 1073741824 := hc.2
 exact floordiv_int (by lia) (by rw [Int.fdiv_eq_ediv_of_nonneg i (by lia)]; exact q) (.inl (PyProof.noPylong_small (by lia)))
theorem op_mod : OpR X (binaryOp .Mod) (rI (fun _ j => 0 < j) fun i j => .int (i % j)) := opI fun i j _ _ _ _ _ hc q => by
 have h1 : (0 : Int) < j := hc
 exact mod_int' (by lia) (by rw [Int.fmod_eq_emod_of_nonneg i (by lia)]; exact q)
theorem op_pow : OpR X (binaryOp .Pow) (rI CPow fun i j => .int (i ^ j.toNat)) := opI fun _ _ _ _ _ _ _ hc q => pow_int_small hc.1 hc.2.1 hc.2.2 q
theorem unI {f : Value → Sem Value} {g : Int → Int}
  (rule : ∀ (i : Int) (t : Tok) (s : Shared) (Q : Value → Shared → Prop) (E : Value → Shared → Prop), Q (.int (g i) s.toks) { s with toks := s.toks + 1 } → wpAny (model X.prog X.w) X.A (f (.int i t)) Q E s) :
  UnR X f (rU fun i => .int (g i)) := by
 intro pins s σ H x v Q I rx h
 obtain ⟨i, rfl, q⟩ := h
 obtain ⟨t, rfl⟩ := rx
 exact rule i t s _ _ ⟨.int (g i), H, I.tok _, ⟨_, rfl⟩, q⟩
theorem un_neg : UnR X (unaryOp .USub) (rU fun i => .int (-i)) := unI fun _ _ _ _ _ q => neg_int q
end
noncomputable def scal : V → V → Bool
 | .non, .non => true | .non, .int _ => true | .int _, .non => true | .non, .bl _ => true | .bl _, .non => true | .non, .str _ => true | .str _, .non => true
 | .int _, .int _ => true | .bl _, .bl _ => true | .str _, .str _ => true | .byt _, .byt _ => true
 | .int _, .str _ => true | .str _, .int _ => true | .bl _, .str _ => true | .str _, .bl _ => true
 | _, _ => false
def rEq : R2 := fun x y H Q => scal x y = true ∧ Q (.bl (decide (x = y))) H
def rNe : R2 := fun x y H Q => scal x y = true ∧ Q (.bl (!decide (x = y))) H
theorem dec_int {i j : Int} : decide (V.int i = V.int j) = (i == j) := by
 rw [Bool.eq_iff_iff]
 simp
theorem dec_bl {i j : Bool} : decide (V.bl i = V.bl j) = (i == j) := by
 rw [Bool.eq_iff_iff]
 simp
theorem dec_str {i j : Str} : decide (V.str i = V.str j) = (i == j) := by
 rw [Bool.eq_iff_iff]
 simp
theorem dec_byt {i j : Array UInt8} : decide (V.byt i = V.byt j) = (i.toList == j.toList) := by
 rw [Bool.eq_iff_iff]
 cases i
 cases j
 simp
section
variable {X : Cx} {a b c : Expr} {ta tb tc : TE} {pos : Pos}
theorem fin_bl {pins : List (Addr × Obj)} {σ : St} {H : Hp} {s : Shared} {Q : VK} {k k' : Bool} (I : Inv X pins σ H s) (q : Q (.bl k) H) (e : k = k') : EP X pins σ Q (.bool k') s := by
 subst e
 exact ⟨.bl k, H, I, rfl, q⟩
theorem op_eq : OpR X (compareOp .Eq) rEq := by
 intro pins s σ H x y v u Q I rx ry h
 obtain ⟨hs, q⟩ := h
 cases x with
 | non =>
  cases rx
  cases y with
  | non => cases ry; exact PySem.EqNone.eq_none_none (fin_bl I q rfl)
  | bl j => cases ry; exact PySem.EqNone.eq_none_bool (fin_bl I q rfl)
  | int j => obtain ⟨t', rfl⟩ := ry; exact PySem.EqNone.eq_none_int (fin_bl I q rfl)
  | str j => obtain ⟨t', rfl⟩ := ry; exact PySem.EqNone.eq_none_str (fin_bl I q rfl)
  | _ => exact absurd (show false = true from hs) Bool.false_ne_true
 | bl i =>
  cases rx
  cases y with
  | non => cases ry; exact PySem.EqNone.eq_bool_none (fin_bl I q rfl)
  | bl j => cases ry; exact eq_bool (fin_bl I q dec_bl)
  | str j => obtain ⟨t', rfl⟩ := ry; exact PySem.EqMixed.eq_bool_str (fin_bl I q rfl)
  | _ => exact absurd (show false = true from hs) Bool.false_ne_true
 | int i =>
  obtain ⟨t, rfl⟩ := rx
  cases y with
  | non => cases ry; exact PySem.EqNone.eq_int_none (fin_bl I q rfl)
  | int j => obtain ⟨t', rfl⟩ := ry; exact eq_int (fin_bl I q dec_int)
  | str j => obtain ⟨t', rfl⟩ := ry; exact PySem.EqMixed.eq_int_str (fin_bl I q rfl)
  | _ => exact absurd (show false = true from hs) Bool.false_ne_true
 | str i =>
  obtain ⟨t, rfl⟩ := rx
  cases y with
  | non => cases ry; exact PySem.EqNone.eq_str_none (fin_bl I q rfl)
  | bl j => cases ry; exact PySem.EqMixed.eq_str_bool (fin_bl I q rfl)
  | int j => obtain ⟨t', rfl⟩ := ry; exact PySem.EqMixed.eq_str_int (fin_bl I q rfl)
  | str j => obtain ⟨t', rfl⟩ := ry; exact eq_str (fin_bl I q dec_str)
  | _ => exact absurd (show false = true from hs) Bool.false_ne_true
 | byt i =>
  obtain ⟨t, rfl⟩ := rx
  cases y with
  | byt j => obtain ⟨t', rfl⟩ := ry; exact PySem.W.eq_bytes (fin_bl I q dec_byt)
  | _ => exact absurd (show false = true from hs) Bool.false_ne_true
 | _ => exact absurd (show false = true from hs) Bool.false_ne_true
theorem op_ne : OpR X (compareOp .NotEq) rNe := by
 intro pins s σ H x y v u Q I rx ry h
 obtain ⟨hs, q⟩ := h
 cases x with
 | non =>
  cases rx
  cases y with
  | non => cases ry; exact PySem.EqNone.ne_none_none (fin_bl I q rfl)
  | bl j => cases ry; exact PySem.EqNone.ne_none_bool (fin_bl I q rfl)
  | int j => obtain ⟨t', rfl⟩ := ry; exact PySem.EqNone.ne_none_int (fin_bl I q rfl)
  | str j => obtain ⟨t', rfl⟩ := ry; exact PySem.EqNone.ne_none_str (fin_bl I q rfl)
  | _ => exact absurd (show false = true from hs) Bool.false_ne_true
 | bl i =>
  cases rx
  cases y with
  | non => cases ry; exact PySem.EqNone.ne_bool_none (fin_bl I q rfl)
  | bl j => cases ry; exact ne_bool (fin_bl I q (congrArg not dec_bl))
  | str j => obtain ⟨t', rfl⟩ := ry; exact PySem.EqMixed.ne_bool_str (fin_bl I q rfl)
  | _ => exact absurd (show false = true from hs) Bool.false_ne_true
 | int i =>
  obtain ⟨t, rfl⟩ := rx
  cases y with
  | non => cases ry; exact PySem.EqNone.ne_int_none (fin_bl I q rfl)
  | int j => obtain ⟨t', rfl⟩ := ry; exact ne_int (fin_bl I q (congrArg not dec_int))
  | str j => obtain ⟨t', rfl⟩ := ry; exact PySem.EqMixed.ne_int_str (fin_bl I q rfl)
  | _ => exact absurd (show false = true from hs) Bool.false_ne_true
 | str i =>
  obtain ⟨t, rfl⟩ := rx
  cases y with
  | non => cases ry; exact PySem.EqNone.ne_str_none (fin_bl I q rfl)
  | bl j => cases ry; exact PySem.EqMixed.ne_str_bool (fin_bl I q rfl)
  | int j => obtain ⟨t', rfl⟩ := ry; exact PySem.EqMixed.ne_str_int (fin_bl I q rfl)
  | str j => obtain ⟨t', rfl⟩ := ry; exact ne_str (fin_bl I q (congrArg not dec_str))
  | _ => exact absurd (show false = true from hs) Bool.false_ne_true
 | byt i =>
  obtain ⟨t, rfl⟩ := rx
  cases y with
  | byt j => obtain ⟨t', rfl⟩ := ry; exact PySem.W.ne_bytes (fin_bl I q (congrArg not dec_byt))
  | _ => exact absurd (show false = true from hs) Bool.false_ne_true
 | _ => exact absurd (show false = true from hs) Bool.false_ne_true
theorem op_lt : OpR X (compareOp .Lt) (rI0 fun i j => .bl (decide (i < j))) := opB0 fun _ _ _ _ _ _ _ q => lt_int q
theorem op_le : OpR X (compareOp .LtE) (rI0 fun i j => .bl (decide (i ≤ j))) := opB0 fun _ _ _ _ _ _ _ q => le_int q
theorem op_gt : OpR X (compareOp .Gt) (rI0 fun i j => .bl (decide (j < i))) := opB0 fun _ _ _ _ _ _ _ q => gt_int q
theorem op_ge : OpR X (compareOp .GtE) (rI0 fun i j => .bl (decide (j ≤ i))) := opB0 fun _ _ _ _ _ _ _ q => ge_int q
theorem nomark (b : Expr) {op : CmpOp} (h : autoParam (op ≠ .In) au2._auto_1) (h2 : autoParam (op ≠ .NotIn) au2._auto_1) : behindInMarks op b = false := by
 have e1 : (op == CmpOp.In) = false := by cases op <;> first | rfl | exact absurd rfl h
 have e2 : (op == CmpOp.NotIn) = false := by cases op <;> first | rfl | exact absurd rfl h2
 cases b <;> simp [behindInMarks, e1, e2]
theorem pe_cmpR {op : CmpOp} {r : R2} (ho : OpR X (compareOp op) r) (ha : PE X a ta) (hb : PE X b tb) (hm : behindInMarks op b = false) : PE X (.Compare a [op] [b] pos) (tOp r ta tb) := by
 intro pins s σ H Q I h
 exact wpAny_Compare1 (binT ha hb I h fun v u s2 x y H2 I2 rx ry q => ho pins s2 σ H2 x y v u Q I2 rx ry q) hm
def tTest (t : TE) : TT := fun σ H Q => t σ H fun x H' => ∃ k, x = .bl k ∧ Q k H'
theorem pt_cmpR {op : CmpOp} {r : R2} (ho : OpR X (compareOp op) r) (ha : PE X a ta) (hb : PE X b tb) (hm : behindInMarks op b = false) : PT X (.Compare a [op] [b] pos) (tTest (tOp r ta tb)) := by
 intro pins s σ H Q I h
 refine wpAny_isTrue_Compare1 (thn (ha pins s σ H _ I h) fun v s1 ⟨x, H1, I1, r1, q1⟩ => thn (hb pins s1 σ H1 _ I1 q1) fun u s2 ⟨y, H2, I2, r2, q2⟩ =>
  thn (ho pins s2 σ H2 x y v u _ I2 r1 r2 q2) fun c s3 ⟨z, H3, I3, r3, k, e, q3⟩ => ?_) hm
 subst e
 cases r3
 exact wpAny_truthy_bool ⟨H3, I3, q3⟩
def TruV (K : PySem.W.Frag) (x : V) (H : Hp) (k : Bool) : Prop :=
 match x with
 | .non => k = false
 | .bl b => k = b
 | .int i => k = (i != 0)
 | .str y => y.length ≤ sizeLine ∧ k = ((y.length : Int) != 0)
 | .byt y => y.size ≤ sizeLine ∧ k = ((y.size : Int) != 0)
 | .ref p => (∃ xs, SqL K H p xs ∧ k = !xs.isEmpty) ∨ (∃ xs, SqT K H p xs ∧ k = !xs.isEmpty) ∨ ∃ kvs, H p = some (.dK kvs) ∧ k = !kvs.isEmpty
 | _ => False
theorem isEmpty_kv {κ : Type} {kvs : List (κ × V)} {vs : List (κ × Value)} (r : KV kvs vs) : (!vs.isEmpty) = !kvs.isEmpty := by
 cases r <;> rfl
theorem isEmpty_of {xs : List V} {its : List Value} (r : Vals xs its) : (!its.toArray.isEmpty) = !xs.isEmpty := by
 cases r <;> simp
theorem line63 : (sizeLine : Nat) < 2 ^ 63 := by rw [sizeLine_eq]; decide
theorem tru_ok : TruR X (fun x H Q => ∃ k, TruV X.K x H k ∧ Q k H) := by
 intro pins s σ H x v Q I rx h
 obtain ⟨k, e, q⟩ := h
 have hl := line63
 have hs : sizeLine = 16777216 := sizeLine_eq
 cases x with
 | non =>
  cases rx
  have e' : k = false := e
  subst e'
  exact truthy_none ⟨H, I, q⟩
 | bl b =>
  cases rx
  have e' : k = b := e
  subst e'
  exact wpAny_truthy_bool ⟨H, I, q⟩
 | int i =>
  obtain ⟨t, rfl⟩ := rx
  have e' : k = (i != 0) := e
  subst e'
  exact PySem.P.truthy_int ⟨H, I, q⟩
 | str y =>
  obtain ⟨t, rfl⟩ := rx
  obtain ⟨hy, e'⟩ : y.length ≤ sizeLine ∧ k = ((y.length : Int) != 0) := e
  subst e'
  exact PySem.P.truthy_str (by lia) ⟨H, I.tok _, q⟩
 | byt y =>
  obtain ⟨t, rfl⟩ := rx
  obtain ⟨hy, e'⟩ : y.size ≤ sizeLine ∧ k = ((y.size : Int) != 0) := e
  subst e'
  exact PySem.W.truthy_bytes (by lia) ⟨H, I.tok _, q⟩
 | ref p =>
  cases rx
  have e' : (∃ xs, SqL X.K H p xs ∧ k = !xs.isEmpty) ∨ (∃ xs, SqT X.K H p xs ∧ k = !xs.isEmpty) ∨ ∃ kvs, H p = some (.dK kvs) ∧ k = !kvs.isEmpty := e
  rcases e' with ⟨xs, hx, e'⟩ | ⟨xs, hx, e'⟩ | ⟨kvs, hx, e'⟩
  · subst e'
    obtain ⟨its, r, pl, hz⟩ := I.list hx
    have hlen := r.length
    exact wpAny_truthy_list pl.isList (by simp only [List.size_toArray]; lia) ⟨H, I.tok _, by rw [isEmpty_of r]; exact q⟩
  · subst e'
    obtain ⟨its, r, pl, hz⟩ := I.tuple hx
    have hlen := r.length
    exact truthy_tuple pl (by simp only [List.size_toArray]; lia) ⟨H, I.tok _, by rw [isEmpty_of r]; exact q⟩
  · subst e'
    obtain ⟨hz, hS, vs, r, m⟩ : kvs.length ≤ sizeLine ∧ (p == sysModules) = false ∧ ∃ vs, KV kvs vs ∧ s.heap.DictOf (mixKind X.prog X.w) p vs := I.hok p _ hx
    have hlen : kvs.length = vs.length := Paired.length r
    exact wpAny_truthy_dict hS m (by lia) ⟨H, I.tok _, by rw [isEmpty_kv r]; exact q⟩
 | _ => exact (show False from e).elim
theorem pt_truth (ha : PE X a ta) (he : ∀ whole, isTrue a X.env whole = (do let v ← whole; standAt a.pos; holding [v] (truthy v))) :
  PT X a (fun σ H Q => ta σ H fun x H' => ∃ k, TruV X.K x H' k ∧ Q k H') := by
 intro pins s σ H Q I h
 exact isTrue_plain (thn (ha pins s σ H _ I h) fun v s1 zz59 => (by obtain ⟨x, H1, I1, r1, q1⟩ := zz59; exact (tru_ok pins s1 σ H1 x v Q I1 r1 q1))) (he _)
theorem vals1 {x : V} {us : List Value} (r : Vals [x] us) : ∃ u, us = [u] ∧ RelV x u := by
 cases r with
 | cons r1 r2 => cases r2; exact ⟨_, rfl, r1⟩
theorem vals2 {x y : V} {us : List Value} (r : Vals [x, y] us) : ∃ u w', us = [u, w'] ∧ RelV x u ∧ RelV y w' := by
 cases r with
 | cons r1 r2 =>
  cases r2 with
  | cons r3 r4 => cases r4; exact ⟨_, _, rfl, r1, r3⟩
theorem call_int1 : CallR X (.type "int") (fun xs H Q => (∃ i, xs = [.int i] ∧ Q (.int i) H) ∨ ∃ k, xs = [.bl k] ∧ Q (.int (if k then 1 else 0)) H) := by
 intro pins s σ H xs us Q I r h
 rcases h with ⟨i, rfl, q⟩ | ⟨k, rfl, q⟩
 · obtain ⟨u, rfl, t, rfl⟩ := vals1 r
   exact call_int_int ⟨.int i, H, I, ⟨_, rfl⟩, q⟩
 · obtain ⟨u, rfl, r1⟩ := vals1 r
   cases r1
   exact call_int_bool ⟨.int (if k then 1 else 0), H, I.tok _, ⟨_, rfl⟩, q⟩
end
end L2
namespace L2
open PySem PySem.Spec PyProof.Rows
structure ObjM (h : Heap) (x dx C : Addr) (mA : Str → Option Value) : Prop where
 obj : h.get? x = some (PySem.W.instObj C dx)
 ns : h.Ns1 dx mA
 ne : dx ≠ x
theorem lookIn_ns {h : Heap} {dx : Addr} {mA : Str → Option Value} (n : h.Ns1 dx mA) : ∃ od, h.get? dx = some od ∧ ∀ name, PySem.W.lookIn name od = some (mA name) := by
 obtain ⟨o, es, ep, ho, hd, hk, _, hm⟩ := n
 refine ⟨o, ho, fun name => ?_⟩
 have e := hm name
 unfold nsFind findBy at e
 rw [← Array.find?_toList] at e
 unfold PySem.W.lookIn
 rw [hd]
 dsimp only
 split
 · rename_i y q
   rw [q] at e
   exact congrArg some e
 · rename_i q
   rw [q] at e
   have a : es.toList.any (·.refKey) = false := by
    rw [List.any_eq_false]
    intro y hy
    obtain ⟨z, t, hkey⟩ := hk y (Array.mem_toList_iff.mp hy)
    simp [DictEntry.refKey, hkey]
   have a' : ¬ es.toList.any (·.refKey) = true := by rw [a]; exact Bool.false_ne_true
   rw [if_neg a']
   exact congrArg some e
theorem ObjM.look {h : Heap} {x dx C : Addr} {mA : Str → Option Value} (I : ObjM h x dx C mA) : ∃ od, PySem.W.InstAt h x (PySem.W.instObj C dx) C (some od) ∧ ∀ name, PySem.W.lookIn name od = some (mA name) :=
 let ⟨od, ho, hl⟩ := lookIn_ns I.ns
 ⟨od, ⟨I.obj, rfl, rfl, ho⟩, hl⟩
section
variable {prog : Program} {w : World} {A : Around} {E : Value → Shared → Prop} {s : Shared} {K : PySem.W.Frag} {x dx C f : Addr} {mA : Str → Option Value} {name : Str} {v : Value}
theorem get_map {expr : Bool} {Q : Value → Shared → Prop} (X : K.In s.heap) (I : ObjM s.heap x dx C mA) (hg : PySem.W.plainGet K C name = true) (hh : PySem.W.hasDictIn K C = true)
  (ha : PySem.W.findIn K (.ref C) name = some none) (hv : mA name = some v) (hv' : PySem.W.handedIn v = true) (h : Q v { s with toks := s.toks + 1 }) :
  wpAny (model prog w) A (getAttr (.ref x) name expr) Q E s := by
 obtain ⟨od, J, hl⟩ := I.look
 exact PySem.W.get_value X J (PySem.W.plainGet_of hg).1 (PySem.W.findObj_own hh ha rfl (by rw [hl, hv])) hv' h
theorem get_meth {pl : Sem Bool} {Q : Value × List Value → Shared → Prop} (X : K.In s.heap) (I : ObjM s.heap x dx C mA) (hg : PySem.W.plainGet K C name = true)
  (hf : PySem.W.findIn K (.ref C) name = some (some (.ref f))) (ht : PySem.W.isFn K (.ref f) = true) (hv : mA name = none) (h : Q (.ref f, [.ref x]) s) :
  wpAny (model prog w) A (getMethod (.ref x) name pl) Q E s := by
 obtain ⟨od, J, hl⟩ := I.look
 exact PySem.W.method_fn X J (PySem.W.plainGet_of hg).1 (PySem.W.plainGet_of hg).2 hf (beq_iff_eq.mp ht) (by show (PySem.W.lookIn name od).map (·.isSome) = some false; rw [hl, hv]; rfl) h
theorem set_map {ns : List Str} {Q : Unit → Shared → Prop} (X : K.In s.heap) (I : ObjM s.heap x dx C mA)
  (hs : PySem.W.findIn K (.ref C) "__setattr__" = some (some (.builtin "object.__setattr__"))) (hp : PySem.W.plainOver K C = true) (ht : PySem.W.takerIn K C name = some none) (hh : PySem.W.hasDictIn K C = true)
  (hw : PySem.Within mA ns) (hsz : ns.length ≤ sizeLine)
  (h : ∀ h', ObjM h' x dx C (fun y => if y = name then some v else mA y) → Heap.SameBut dx s.heap h' → Q () { s with heap := h', toks := s.toks + 2 }) :
  wpAny (model prog w) A (setAttr (.ref x) name v) Q E s := by
 obtain ⟨od, J, hl⟩ := I.look
 refine PySem.W.set_plain X J hs (PySem.W.osa_open (s := { s with toks := s.toks + 1 }) (r := none) X J hp ht fun b => ?_)
 obtain ⟨cd, hc, hd'⟩ := PySem.W.any_some hh
 have hx : s.heap.get? x = some ⟨.ref C, some dx, .plain, #[]⟩ := I.obj
 refine wpAny_bind (wpAny_pure (wpAny_bind (wpAny_bind (wpAny_loadPart hx (wpAny_bind (PySem.W.Looks.here (s := { s with toks := s.toks + 1 }) (PySem.W.looks_clsIn X hc) ?_))))))
 rw [hd']
 refine wpAny_pure (a := some dx) (wpAny_bind (wpAny_pure (wpAny_bind ?_)))
 refine wpAny_nsSet1 (s := { s with toks := s.toks + 1 }) I.ns fun h' hn2 hs2 => ?_
 obtain ⟨oD, esD, epD, hoD, hdD, hcD⟩ := hn2.count (PySem.Within.cons name v hw)
 refine wpAny_bind (wpAny_lookBehind hoD (by rw [hdD]; exact pastItsLine_dict (Nat.le_trans hcD (by rw [List.length_cons]; lia))) ?_)
 exact wpAny_pure (h _ ⟨(hs2.2 _ (Ne.symm I.ne)).trans I.obj, hn2, I.ne⟩ hs2)
theorem make_map {R : Result → Shared → Prop} {vs : List Value} {kw : List (Str × Value)} (X : K.In s.heap) (hm : PySem.W.makesIn K C = true)
  (hi : PySem.W.findIn K (.ref C) "__init__" = some (some (.ref f))) (hf : PySem.W.typeIn K (.ref f) = some (.type "function"))
  (h : codeAny (model prog w) (A.under (.builtin "type.__call__" ⟨.ref C :: vs, kw⟩)) (.call (.ref f) ⟨.ref (s.heap.objs.size + 1) :: vs, kw⟩) (PySem.W.InitBack (s.heap.objs.size + 1) R)
   { s with heap := (s.heap.push PySem.W.emptyDict).push (PySem.W.instObj C s.heap.objs.size) }) :
  codeAny (model prog w) A (.call (.ref C) ⟨vs, kw⟩) R s := by
 obtain ⟨hh, g, d, t, os⟩ := s
 exact PySem.W.make_core (PySem.W.makes_of X hm) (PySem.W.looks_findIn X hi) (fun self => PySem.W.bind_fn X self hf) (.inl rfl) h
end
noncomputable def putF (f : Str) (v : V) : List (Str × V) → List (Str × V)
 | [] => [(f, v)]
 | (g, x) :: r => if g = f then (g, v) :: r else (g, x) :: putF f v r
theorem lookup_putF (f g : Str) (v : V) : ∀ fs : List (Str × V), (putF f v fs).lookup g = if g = f then some v else fs.lookup g
 | [] => by
  show List.lookup g [(f, v)] = _
  by_cases h : g = f
  · have hb : (g == f) = true := beq_iff_eq.mpr h
    simp only [List.lookup, hb, if_pos h]
  · have hb : (g == f) = false := beq_eq_false_iff_ne.mpr h
    simp only [List.lookup, hb, if_neg h]
 | (k, x) :: r => by
  have ih := lookup_putF f g v r
  rw [show putF f v ((k, x) :: r) = (if k = f then (k, v) :: r else (k, x) :: putF f v r) from rfl]
  by_cases hk : k = f
  · rw [if_pos hk]
    by_cases h : g = k
    · have hb : (g == k) = true := beq_iff_eq.mpr h
      simp only [List.lookup, hb, if_pos (h.trans hk)]
    · have hb : (g == k) = false := beq_eq_false_iff_ne.mpr h
      simp only [List.lookup, hb, if_neg (fun e : g = f => h (e.trans hk.symm))]
  · rw [if_neg hk]
    by_cases h : g = k
    · have hb : (g == k) = true := beq_iff_eq.mpr h
      simp only [List.lookup, hb, if_neg (fun e : g = f => hk (h.symm.trans e))]
    · have hb : (g == k) = false := beq_eq_false_iff_ne.mpr h
      simp only [List.lookup, hb]
      exact ih
theorem keys_putF (f : Str) (v : V) : ∀ fs : List (Str × V), f ∈ (putF f v fs).map (·.1) ∧ ∀ g, g ∈ fs.map (·.1) → g ∈ (putF f v fs).map (·.1)
 | [] => ⟨by simp [putF], fun g h => by simp at h⟩
 | (k, x) :: r => by
  obtain ⟨i1, i2⟩ := keys_putF f v r
  rw [show putF f v ((k, x) :: r) = (if k = f then (k, v) :: r else (k, x) :: putF f v r) from rfl]
  by_cases hk : k = f
  · rw [if_pos hk]
    subst hk
    exact ⟨by simp, fun g h => by simpa using h⟩
  · rw [if_neg hk]
    refine ⟨?_, fun g h => ?_⟩
    · rw [List.map_cons]
      exact List.mem_cons_of_mem _ i1
    · rw [List.map_cons] at h ⊢
      rcases List.mem_cons.mp h with e | e
      · exact List.mem_cons.mpr (.inl e)
      · exact List.mem_cons_of_mem _ (i2 g e)
theorem length_putF (f : Str) (v : V) : ∀ fs : List (Str × V), (putF f v fs).length ≤ fs.length + 1
 | [] => by simp [putF]
 | (k, x) :: r => by
  have ih := length_putF f v r
  rw [show putF f v ((k, x) :: r) = (if k = f then (k, v) :: r else (k, x) :: putF f v r) from rfl]
  by_cases hk : k = f
  · rw [if_pos hk, List.length_cons, List.length_cons]; lia
  · rw [if_neg hk, List.length_cons, List.length_cons]; lia
theorem RelO.some_of {v : V} {o : Option Value} (r : RelO (some v) o) : ∃ u, o = some u ∧ RelV v u := by
 cases o with
 | none => exact (show False from r).elim
 | some u => exact ⟨u, rfl, r⟩
theorem RelO.none_of {o : Option Value} (r : RelO none o) : o = none := by
 cases o with
 | none => rfl
 | some u => exact (show False from r).elim
theorem handed_of {v : V} {u : Value} (r : RelV v u) : PySem.W.handedIn u = true := by
 cases v with
 | non => cases (show u = Value.none from r); rfl
 | bl b => cases (show u = Value.bool b from r); rfl
 | int i => obtain ⟨t, e⟩ := (show ∃ t, u = Value.int i t from r); cases e; rfl
 | str x => obtain ⟨t, e⟩ := (show ∃ t, u = Value.str x t from r); cases e; rfl
 | byt b => obtain ⟨t, e⟩ := (show ∃ t, u = Value.bytes b t from r); cases e; rfl
 | flt b => obtain ⟨t, e⟩ := (show ∃ t, u = Value.float b t from r); cases e; rfl
 | ref a => cases (show u = Value.ref a from r); rfl
 | ty n => cases (show u = Value.type n from r); rfl
section
variable {P : Program} {w : World} {H H' : Hp} {h h' : Heap} {a C dx : Addr} {fs fs' : List (Str × V)}
theorem ins_get (hok : HOk P w H h) (e : H a = some (.ins C dx fs)) : ∃ mA, ObjM h a dx C mA ∧ (∀ f, RelO (fs.lookup f) (mA f)) ∧ PySem.Within mA (fs.map (·.1)) ∧ fs.length ≤ 1000 ∧ H dx = some (.own a) := by
 obtain ⟨d, z, ne, ob, mA, n, r, q⟩ := (show ObjOk P w H h a (.ins C dx fs) from hok a _ e)
 exact ⟨mA, ⟨ob, n, ne⟩, r, q, z, d⟩
end
structure Cls (K : PySem.W.Frag) (C : Addr) : Prop where
 pg : PySem.W.plainGet K C Str.empty = true
 hd : PySem.W.hasDictIn K C = true
 po : PySem.W.plainOver K C = true
 sa : PySem.W.findIn K (.ref C) "__setattr__" = some (some (.builtin "object.__setattr__"))
theorem Cls.get {K : PySem.W.Frag} {C : Addr} (c : Cls K C) (f : Str) : PySem.W.plainGet K C f = true := c.pg
def NoAttr (K : PySem.W.Frag) (C : Addr) (f : Str) : Prop := PySem.W.findIn K (.ref C) f = some none
theorem NoAttr.taker {K : PySem.W.Frag} {C : Addr} {f : Str} (n : NoAttr K C f) : PySem.W.takerIn K C f = some none := by
 unfold PySem.W.takerIn
 rw [show PySem.W.findIn K (.ref C) f = some none from n]
 rfl
structure Meth (K : PySem.W.Frag) (C : Addr) (m : Str) (f : Addr) : Prop where
 at_ : PySem.W.findIn K (.ref C) m = some (some (.ref f))
 fn : PySem.W.isFn K (.ref f) = true
 kp : PySem.W.keepIn K (.ref f) = true
section
variable {X : Cx} {pins : List (Addr × Obj)} {σ : St} {H : Hp} {s : Shared} {a C dx : Addr} {fs : List (Str × V)} {f : Str} {v : V} {A : Around} {E : Value → Shared → Prop}
theorem getattr_ok {b : Bool} {Q : Value → Shared → Prop} (I : Inv X pins σ H s) (e : H a = some (.ins C dx fs)) (c : Cls X.K C) (n : NoAttr X.K C f) (l : fs.lookup f = some v)
  (h : ∀ u s', Inv X pins σ H s' → RelV v u → Q u s') : wpAny (model X.prog X.w) A (getAttr (.ref a) f b) Q E s := by
 obtain ⟨mA, O, r, _, _, _⟩ := ins_get I.hok e
 obtain ⟨u, hu, ru⟩ := RelO.some_of (v := v) (o := mA f) (by rw [← l]; exact r f)
 exact get_map I.kIn O (c.get f) c.hd n hu (handed_of ru) (h u _ (I.tok _) ru)
theorem getmeth_ok {m : Str} {g : Addr} {pl : Sem Bool} {Q : Value × List Value → Shared → Prop} (I : Inv X pins σ H s) (e : H a = some (.ins C dx fs)) (c : Cls X.K C) (k : Meth X.K C m g) (l : fs.lookup m = none)
  (h : Q (.ref g, [.ref a]) s) : wpAny (model X.prog X.w) A (getMethod (.ref a) m pl) Q E s := by
 obtain ⟨mA, O, r, _, _, _⟩ := ins_get I.hok e
 have hn : mA m = none := RelO.none_of (by rw [← l]; exact r m)
 exact get_meth I.kIn O (c.get m) k.at_ k.fn hn h
theorem setattr_ok {y : V} {u : Value} {Q : Unit → Shared → Prop} (I : Inv X pins σ H s) (e : H a = some (.ins C dx fs)) (c : Cls X.K C) (n : NoAttr X.K C f) (hl : fs.length < 1000) (ry : RelV y u)
  (h : ∀ s', Inv X pins σ (upd H a (.ins C dx (putF f y fs))) s' → Q () s') : wpAny (model X.prog X.w) A (setAttr (.ref a) f u) Q E s := by
 obtain ⟨mA, O, r, wi, _, ho⟩ := ins_get I.hok e
 have hz : (fs.map (·.1)).length ≤ sizeLine := by rw [List.length_map, sizeLine_eq]; lia
 refine set_map I.kIn O c.sa c.po n.taker c.hd wi hz fun h' O' sb => h _ ?_
 have hd : ∃ o, h'.get? dx = some o := let ⟨o, _, _, e', _⟩ := O'.ns; ⟨o, e'⟩
 refine I.write (x := a) (e := dx) (by rw [e]; exact True.intro) (.inr ho) (fun b q hb z => (sb.2 b hb).trans z) hd ?_
 refine ⟨by rw [upd_ne O.ne]; exact ho, ?_, O.ne, O'.obj, _, O'.ns, fun g => ?_, fun g hg => ?_⟩
 · have := length_putF f y fs; lia
 · show RelO ((putF f y fs).lookup g) (if g = f then some u else mA g)
   rw [lookup_putF]
   by_cases q : g = f
   · rw [if_pos q, if_pos q]; exact ry
   · rw [if_neg q, if_neg q]; exact r g
 · by_cases q : g = f
   · rw [q]; exact (keys_putF f y fs).1
   · refine (keys_putF f y fs).2 g (wi g fun z => hg ?_)
     show (if g = f then some u else mA g) = none
     rw [if_neg q]; exact z
theorem Inv.made (I : Inv X pins σ H s) : Inv X pins σ (upd (upd H s.heap.objs.size (.own (s.heap.objs.size + 1))) (s.heap.objs.size + 1) (.ins C s.heap.objs.size []))
  { s with heap := (s.heap.push PySem.W.emptyDict).push (PySem.W.instObj C s.heap.objs.size) } := by
 have e1 : (s.heap.push PySem.W.emptyDict).get? s.heap.objs.size = some PySem.W.emptyDict := Heap.get?_push_size s.heap rfl
 have e2 : ((s.heap.push PySem.W.emptyDict).push (PySem.W.instObj C s.heap.objs.size)).get? (s.heap.objs.size + 1) = some (PySem.W.instObj C s.heap.objs.size) := by
  have := Heap.get?_push_size (s.heap.push PySem.W.emptyDict) (o := PySem.W.instObj C s.heap.objs.size) rfl
  rwa [Heap.size_push] at this
 have e3 : (s.heap.push PySem.W.emptyDict).Ns s.heap.objs.size (fun _ => none) := ⟨PySem.W.emptyDict, #[], _, e1, rfl, (fun e he => absurd he (by simp)), fun _ => rfl⟩
 have I1 := I.laid (a := s.heap.objs.size) (o := .own (s.heap.objs.size + 1)) (h' := s.heap.push PySem.W.emptyDict) (t' := s.toks) (fun b u q => Heap.get?_push_of_some _ q) (Nat.le_refl _) ⟨_, e1⟩
 refine I1.laid (a := s.heap.objs.size + 1) (o := .ins C s.heap.objs.size []) (t' := s.toks) (fun b u q => Heap.get?_push_of_some _ q) (Nat.le_of_eq (Heap.size_push _ _)) ?_
 have ne : s.heap.objs.size ≠ s.heap.objs.size + 1 := Nat.ne_of_lt (Nat.lt_succ_self _)
 refine ⟨by rw [upd_ne ne, upd_same], Nat.zero_le _, ne, e2, fun _ => none, (Heap.Ns1.of_empty e3).at fun o q => Heap.get?_push_of_some _ q, fun _ => True.intro, fun y hy => absurd rfl hy⟩
theorem attr_of {prog : Program} {w : World} {env : Env} {e : Expr} {f : Str} {pos : Pos} {s : Shared} {Q : Value → Shared → Prop} (hb : attributeBase e f env (eval e env) = eval e env)
  (h : wpAny (model prog w) A (eval e env) (fun o s₁ => wpAny (model prog w) A (getAttr o f true) Q E s₁) E s) : wpAny (model prog w) A (eval (.Attribute e f pos) env) Q E s :=
 Attribute_any_ h (by rw [arm_eval_Attribute, hb])
end
def tFld (K : PySem.W.Frag) (ta : TE) (f : Str) : TE := fun σ H Q => ta σ H fun x H1 => ∃ a C dx fs v, x = .ref a ∧ H1 a = some (.ins C dx fs) ∧ Cls K C ∧ NoAttr K C f ∧ fs.lookup f = some v ∧ Q v H1
def sFld (K : PySem.W.Frag) (ta tv : TE) (f : Str) : TS := fun D σ H => tv σ H fun y H1 => ta σ H1 fun x H2 => ∃ a C dx fs, x = .ref a ∧ H2 a = some (.ins C dx fs) ∧ Cls K C ∧ NoAttr K C f ∧ fs.length < 1000 ∧
 D.nx σ (upd H2 a (.ins C dx (putF f y fs)))
section
variable {X : Cx} {o e value : Expr} {f : Str} {pos pos' tpos : Pos} {ta tv : TE}
theorem pe_fld (he : PE X e ta) (hb : attributeBase e f X.env (eval e X.env) = eval e X.env) : PE X (.Attribute e f pos) (tFld X.K ta f) := by
 intro pins s σ H Q I h
 refine attr_of hb (thn (he pins s σ H _ I h) fun u s1 zz60 => ?_)
 obtain ⟨x, H1, I1, rx, a, C, dx, fs, v, ex, ea, c, n, l, q⟩ := zz60
 subst ex
 obtain rfl : u = Value.ref a := rx
 exact getattr_ok I1 ea c n l fun u' s2 I2 ru => ⟨v, H1, I2, ru, q⟩
theorem ps_fld (ha : PE X o ta) (hv : PE X value tv) (hs : swapsWith value (some (.Attribute o f pos')) pos.line X.env = pure false) : PS X (.Assign [.Attribute o f pos'] value pos) (sFld X.K ta tv f) := by
 intro pins s σ H D I h
 refine plainObj_wpAny_Assign_Attribute (thn (hv pins s σ H _ I h) fun u s1 ⟨y, H1, I1, ry, q⟩ => thn (ha pins s1 σ H1 _ I1 q) fun ov s2 zz63 => ?_) hs
 obtain ⟨x, H2, I2, rx, a, C, dx, fs, ex, ea, c, n, l, q2⟩ := zz63
 subst ex
 obtain rfl : ov = Value.ref a := rx
 exact setattr_ok I2 ea c n l ry fun s3 I3 => ⟨σ, _, I3, q2⟩
end
section
variable {X : Cx} {pins : List (Addr × Obj)} {σ : St} {H : Hp} {s : Shared} {A : Around} {E : Value → Shared → Prop} {Q : Value → Shared → Prop} {c : Value} {b : Bool}
inductive TyOf (K : PySem.W.Frag) (H : Hp) : V → Value → Prop where
 | non : TyOf K H .non (.type "NoneType")
 | bl (x : Bool) : TyOf K H (.bl x) (.type "bool")
 | int (i : Int) : TyOf K H (.int i) (.type "int")
 | str (x : Str) : TyOf K H (.str x) (.type "str")
 | flt (x : UInt64) : TyOf K H (.flt x) (.type "float")
 | lst {a : Addr} {xs : List V} (e : H a = some (.lst xs)) : TyOf K H (.ref a) (.type "list")
 | frz {a : Addr} {o : Obj} {xs : List V} (e : H a = some (.frz o (.lst xs))) : TyOf K H (.ref a) (.type "list")
 | tup {a : Addr} {xs : List V} (e : H a = some (.tup xs)) : TyOf K H (.ref a) (.type "tuple")
 | dK {a : Addr} {kvs : List (Key × V)} (e : H a = some (.dK kvs)) : TyOf K H (.ref a) (.type "dict")
 | dT {a : Addr} {kvs : List (List Key × V)} (e : H a = some (.dT kvs)) : TyOf K H (.ref a) (.type "dict")
 | ins {a C dx : Addr} {fs : List (Str × V)} (e : H a = some (.ins C dx fs)) (cl : Cls K C) (ha : PySem.W.findIn K (.ref C) "__class__" = some (some (.builtin "object.__class__")))
   (hn : PySem.W.specialIn K (.builtin "object.__class__") "__get__" = some (some (.builtin "getset_descriptor.__get__"))) (htk : PySem.W.takesIn K (.builtin "object.__class__") = some true)
   (hm : PySem.W.mroIn K C (.type "object") = some true) : TyOf K H (.ref a) (.ref C)
theorem isinst_ok {x : V} {u t : Value} (I : Inv X pins σ H s) (rx : RelV x u) (ty : TyOf X.K H x t) (e : PySem.W.kitOne X.K t c = some b) (h : ∀ tk, Q (.bool b) { s with toks := tk }) :
  wpAny (model X.prog X.w) A (call (.builtin "isinstance") [u, c]) Q E s := by
 cases ty with
 | non => cases (show u = Value.none from rx); exact PySem.W.kia_one PySem.W.kitx_none I.kIn True.intro e (fun z => nomatch z) h
 | bl y => cases (show u = Value.bool y from rx); exact PySem.W.kia_one PySem.W.kitx_bool I.kIn True.intro e (fun z => nomatch z) h
 | int i => obtain ⟨t, q⟩ := (show ∃ t, u = Value.int i t from rx); cases q; exact PySem.W.kia_one PySem.W.kitx_int I.kIn True.intro e (fun z => nomatch z) h
 | str y => obtain ⟨t, q⟩ := (show ∃ t, u = Value.str y t from rx); cases q; exact PySem.W.kia_one PySem.W.kitx_str I.kIn True.intro e (fun z => nomatch z) h
 | flt y => obtain ⟨t, q⟩ := (show ∃ t, u = Value.float y t from rx); cases q; exact PySem.W.kia_one PySem.W.kitx_float I.kIn True.intro e (fun z => nomatch z) h
 | @lst a xs ea =>
  cases (show u = Value.ref a from rx)
  obtain ⟨_, _, n, _, h1⟩ := (show ObjOk X.prog X.w H s.heap a (.lst xs) from I.hok a _ ea)
  exact PySem.W.kia_one PySem.W.kitx_list I.kIn ⟨_, h1, rfl⟩ e (fun z => nomatch z) h
 | @frz a ob xs ea =>
  cases (show u = Value.ref a from rx)
  obtain ⟨_, _, _, n, _, h1⟩ := (show ObjOk X.prog X.w H s.heap a (.frz ob (.lst xs)) from I.hok a _ ea)
  exact PySem.W.kia_one PySem.W.kitx_list I.kIn ⟨_, h1, rfl⟩ e (fun z => nomatch z) h
 | @tup a xs ea =>
  cases (show u = Value.ref a from rx)
  obtain ⟨_, _, _, p⟩ := (show ObjOk X.prog X.w H s.heap a (.tup xs) from I.hok a _ ea)
  obtain ⟨o, h1, h2, _⟩ := p
  exact PySem.W.kia_one PySem.W.kitx_tuple I.kIn ⟨o, h1, h2⟩ e (fun z => nomatch z) h
 | @dK a kvs ea =>
  cases (show u = Value.ref a from rx)
  obtain ⟨_, _, vs, _, p⟩ := (show ObjOk X.prog X.w H s.heap a (.dK kvs) from I.hok a _ ea)
  obtain ⟨o, es, ep, h1, h2, _⟩ := p
  exact PySem.W.kia_one PySem.W.kitx_dict I.kIn ⟨o, h1, h2.1⟩ e (fun z => nomatch z) h
 | @dT a kvs ea =>
  cases (show u = Value.ref a from rx)
  obtain ⟨_, _, xs, _, o, es, ep, h1, h2, _⟩ := (show ObjOk X.prog X.w H s.heap a (.dT kvs) from I.hok a _ ea)
  exact PySem.W.kia_one PySem.W.kitx_dict I.kIn ⟨o, h1, h2.1⟩ e (fun z => nomatch z) h
 | @ins a C dx fs ea cl ha hn htk hm =>
  cases (show u = Value.ref a from rx)
  obtain ⟨mA, O, _⟩ := ins_get I.hok ea
  obtain ⟨od, J, _⟩ := O.look
  exact PySem.W.kia_one (PySem.W.kitx_own (cl.get _) cl.hd ha hn htk hm) I.kIn J e (fun z => nomatch z) h
end
end L2
namespace L2
open PySem PySem.Spec PyProof.Rows
structure Room (k : Nat) (A : Around) : Prop where
 hd : A.handled = none
 dp : A.depth + 3 * k + 5 < recursionLimit
 un : A.units + 16 * k + 200 < cLine
 gd : A.guards = some []
theorem Room.mono {j k : Nat} {A : Around} (r : Room k A) (h : j ≤ k) : Room j A := ⟨r.hd, by have := r.dp; lia, by have := r.un; lia, r.gd⟩
theorem Room.deeper {k : Nat} {A : Around} (r : Room (k + 1) A) (env : Env) : Room k (A.deeper env) :=
 ⟨r.hd, by have := r.dp; show A.depth + 1 + 3 * k + 5 < _; lia, by have := r.un; show A.units + 3 + 16 * k + 200 < _; lia, r.gd⟩
theorem make_depth {A : Around} {C : Addr} {us : List Value} {kw : List (Str × Value)} : (A.under (.builtin "type.__call__" ⟨.ref C :: us, kw⟩)).depth = A.depth + 1 := by
 first | rfl | simp [Around.under, Code.weight, Code.isCreation, Code.isGuard, Code.isCaller, Code.frames, Code.isFrame, guardIds]
theorem make_units {A : Around} {C : Addr} {us : List Value} {kw : List (Str × Value)} : (A.under (.builtin "type.__call__" ⟨.ref C :: us, kw⟩)).units = A.units + 1 := by
 first | rfl | simp [Around.under, Code.cUnits, Code.frames, Code.isFrame]
theorem make_guards {A : Around} {C : Addr} {us : List Value} {kw : List (Str × Value)} : (A.under (.builtin "type.__call__" ⟨.ref C :: us, kw⟩)).guards = A.guards := by
 first | rfl | simp [Around.under, Code.weight, Code.isCreation, Code.isGuard, Code.isCaller, Code.frames, Code.isFrame, guardIds]
theorem Room.make {k : Nat} {A : Around} (r : Room (k + 1) A) (C : Addr) (us : List Value) (kw : List (Str × Value)) : Room k (A.under (.builtin "type.__call__" ⟨.ref C :: us, kw⟩)) :=
 ⟨r.hd, by have := r.dp; rw [make_depth]; lia, by have := r.un; rw [make_units]; lia, by rw [make_guards]; exact r.gd⟩
theorem Room.depth {k : Nat} {A : Around} (r : Room k A) : A.depth < recursionLimit := by have := r.dp; lia
theorem Room.units {k : Nat} {A : Around} (r : Room k A) : A.units + 64 < cLine := by have := r.un; lia
theorem Room.units0 {k : Nat} {A : Around} (r : Room k A) : A.units < cLine := by have := r.un; lia
def tNil : TA := fun _ H Q => Q [] H
def tCons (ta : TE) (tr : TA) : TA := fun σ H Q => ta σ H fun x H1 => tr σ H1 fun xs H2 => Q (x :: xs) H2
section
variable {X : Cx} {e : Expr} {es : List Expr} {te : TE} {t : TA} {pos : Pos}
theorem pa_nil : PA X [] tNil := fun _ _ _ _ H Q I h => Calls.spliced_nil ⟨[], H, I, .nil, h⟩
theorem pa_cons (ha : PE X e te) (hr : PA X es t) (hs : autoParam (starEach (e :: es) X.env = (false, eval e X.env) :: starEach es X.env) au5._auto_1) : PA X (e :: es) (tCons te t) := by
 intro pos pins s σ H Q I h
 rw [hs]
 show wpAny _ _ (spliced ((false, eval e X.env) :: backTo pos (starEach es X.env))) _ _ s
 refine Calls.spliced_cons (thn (ha pins s σ H _ I h) fun u s1 zz68 => ?_)
 obtain ⟨x, H1, I1, r1, q1⟩ := zz68
 exact thn (hr pos pins s1 σ H1 _ I1 q1) fun us s2 zz69 => (by obtain ⟨xs, H2, I2, r2, q2⟩ := zz69; exact (⟨x :: xs, H2, I2, .cons r1 r2, q2⟩))
def tTup (t : TA) : TE := fun σ H Q => t σ H fun xs H1 => xs.length ≤ sizeLine ∧ ∀ p, H1 p = none → Q (.ref p) (upd H1 p (.tup xs))
def tLst (t : TA) : TE := fun σ H Q => t σ H fun xs H1 => xs.length ≤ sizeLine ∧ ∀ p, H1 p = none → Q (.ref p) (upd H1 p (.lst xs))
theorem pe_tup {x1} (h : PA X es t) : PE X (.Tuple es x1 pos) (tTup t) := by
 intro pins s σ H Q I hq
 refine wpAny_Tuple_spliced (thn (h pos pins s σ H _ I hq) fun us s1 ⟨xs, H1, I1, r, z, q⟩ => ⟨by rw [← r.length]; exact z, ?_⟩)
 have hf : H1 s1.heap.objs.size = none := I1.hok.fresh (Nat.le_refl _)
 refine ⟨.ref s1.heap.objs.size, upd H1 s1.heap.objs.size (.tup xs), I1.laid (t' := s1.toks) (fun b u e => Heap.get?_push_of_some _ e) (Nat.le_refl _) ?_, rfl, q _ hf⟩
 exact ⟨z, us, r, ⟨_, Heap.get?_push_size _ rfl, rfl, rfl, _, rfl⟩⟩
theorem pe_lst (h : PA X es t) : PE X (.List es pos) (tLst t) := by
 intro pins s σ H Q I hq
 refine wpAny_List_spliced (thn (h pos pins s σ H _ I hq) fun us s1 ⟨xs, H1, I1, r, z, q⟩ => ⟨by rw [← r.length]; exact z, ?_⟩)
 have hf : H1 s1.heap.objs.size = none := I1.hok.fresh (Nat.le_refl _)
 refine ⟨.ref s1.heap.objs.size, upd H1 s1.heap.objs.size (.lst xs), I1.laid (t' := s1.toks) (fun b u e => Heap.get?_push_of_some _ e) (Nat.le_refl _) ?_, rfl, q _ hf⟩
 exact ⟨z, us, 0, r, Heap.get?_push_size _ rfl⟩
end
abbrev Sp := List V → Hp → VK → XK → Prop
abbrev CXT := List Env → Hp → Shared → XK → Value → Shared → Prop
structure Env0 (P : Program) (w : World) (K : PySem.W.Frag) (mg : Str → Option Value) (base : Heap) (A : Around) (outer : List Env) (s : Shared) (H : Hp) : Prop where
 frames : A.frames = some outer
 mod : Mod K mg base
 bs : ∀ b o, base.get? b = some o → s.heap.get? b = some o ∧ H b = none
 bsz : base.objs.size ≤ s.heap.objs.size
 funs : s.heap.FunFrames base outer
 frf : ∀ b ∈ frs outer, H b = none
 hok : HOk P w H s.heap
 bare : AllBare s.gens
def CE (outer : List Env) (P : Program) (w : World) (H : Hp) (s : Shared) (Q : VK) (u : Value) (s' : Shared) : Prop :=
 ∃ v H', s'.os = s.os ∧ AllBare s'.gens ∧ Un (frs outer) [] H H' s.heap s'.heap ∧ HOk P w H' s'.heap ∧ RelV v u ∧ Q v H'
def CR (CX : CXT) (outer : List Env) (P : Program) (w : World) (H : Hp) (s : Shared) (Q : VK) (E : XK) (r : Result) (s' : Shared) : Prop :=
 match r with
 | .ok (.ret u) => CE outer P w H s Q u s'
 | .ok _ => False
 | .error e => CX outer H s E e s'
structure FnOk (P : Program) (w : World) (K : PySem.W.Frag) (mg : Str → Option Value) (base : Heap) (CX : CXT) (k : Nat) (f : Addr) (fd : FuncData) (ps : List Str) (sp : Sp) : Prop where
 len : ∀ vs H Q E, sp vs H Q E → vs.length = ps.length
 run : ∀ (A : Around) (outer : List Env) (s : Shared) (H : Hp) (args : Args) (us : List Value) (vs : List V) (Q : VK) (E : XK), Room k A → Env0 P w K mg base A outer s H → BindsTo s fd args (ps.zip us) → Vals vs us → sp vs H Q E →
  codeAny (model P w) A (.call (.ref f) args) (CR CX outer P w H s Q E) s
theorem FnOk.imp {P : Program} {w : World} {K : PySem.W.Frag} {mg : Str → Option Value} {base : Heap} {CX : CXT} {k : Nat} {f : Addr} {fd : FuncData} {ps : List Str} {sp sp' : Sp} (F : FnOk P w K mg base CX k f fd ps sp)
  (h : ∀ vs H Q E, sp' vs H Q E → sp vs H Q E) : FnOk P w K mg base CX k f fd ps sp' :=
 ⟨fun vs H Q E q => F.len vs H Q E (h _ _ _ _ q), fun A outer s H args us vs Q E hr he hb hv hs => F.run A outer s H args us vs Q E hr he hb hv (h _ _ _ _ hs)⟩
theorem Env0.make {P : Program} {w : World} {K : PySem.W.Frag} {mg : Str → Option Value} {base : Heap} {A : Around} {outer : List Env} {s : Shared} {H : Hp} (e : Env0 P w K mg base A outer s H) (C : Addr) (us : List Value) (kw : List (Str × Value)) :
  Env0 P w K mg base (A.under (.builtin "type.__call__" ⟨.ref C :: us, kw⟩)) outer s H := ⟨by first | exact e.frames | (simpa [Around.under, Code.envs, Code.isFrame, pushEnvs] using e.frames), e.mod, e.bs, e.bsz, e.funs, e.frf, e.hok, e.bare⟩
section
variable {X : Cx} {pins : List (Addr × Obj)} {σ : St} {H : Hp} {s s' : Shared}
theorem Inv.env0 (I : Inv X pins σ H s) : Env0 X.prog X.w X.K X.mg X.base X.A X.stack s H :=
 ⟨I.ok.frames, I.ok.mod, I.bs, Nat.le_trans I.ok.bsz I.sz, I.stack, I.stkFree, I.hok, I.bare⟩
theorem Inv.after {Q : VK} {u : Value} (I : Inv X pins σ H s) (h : CE X.stack X.prog X.w H s Q u s') : EP X pins σ Q u s' := by
 obtain ⟨v, H', os, bare, un, hok, r, q⟩ := h
 obtain ⟨hh, g, d, t, os'⟩ := s'
 obtain rfl : os' = s.os := os
 exact ⟨v, H', I.call (h' := hh) (g' := g) (d' := d) (t' := t) (ch := []) un hok bare (fun b z => absurd z (by simp)), r, q⟩
end
def tCall (sp : Sp) (dvs : List V) (E : XK) (t : TA) : TE := fun σ H Q => t σ H fun vs H1 => sp (vs ++ dvs) H1 Q E
def tMeth (C : Addr) (m : Str) (sp : Sp) (dvs : List V) (E : XK) (ta : TE) (t : TA) : TE := fun σ H Q => ta σ H fun x H1 => ∃ a dx fs, x = .ref a ∧ H1 a = some (.ins C dx fs) ∧ fs.lookup m = none ∧
 t σ H1 fun vs H2 => sp (x :: (vs ++ dvs)) H2 Q E
def tMake (C : Addr) (sp : Sp) (dvs : List V) (E : XK) (t : TA) : TE := fun σ H Q => t σ H fun vs H1 => ∀ x dx, H1 x = none → H1 dx = none → dx ≠ x →
 sp (.ref x :: (vs ++ dvs)) (upd (upd H1 dx (.own x)) x (.ins C dx [])) (fun v H2 => v = .non ∧ Q (.ref x) H2) E
def Binds (K : PySem.W.Frag) (fd : FuncData) (ps : List Str) (ds : List Value) : Prop :=
 ∀ (s : Shared) (us : List Value), K.In s.heap → (us ++ ds).length = ps.length → BindsTo s fd ⟨us, []⟩ (ps.zip (us ++ ds))
theorem Binds.all {K : PySem.W.Frag} {fd : FuncData} {ps : List Str} (h : ∀ us : List Value, us.length = ps.length → bindArgs fd ⟨us, []⟩ = pure (ps.zip us)) : Binds K fd ps [] := fun s us _ hl => by
 rw [List.append_nil] at hl ⊢
 exact .of_eq (h us hl)
def Passes (CX : CXT) (X : Cx) (E : XK) : Prop := ∀ (pins : List (Addr × Obj)) (σ : St) (H : Hp) (s : Shared) (e : Value) (s' : Shared), Inv X pins σ H s → CX X.stack H s E e s' → X.xe e s'
section
variable {X : Cx} {CX : CXT} {k : Nat} {f C : Addr} {fd : FuncData} {ps : List Str} {sp : Sp} {dvs : List V} {ds : List Value} {E : XK} {x m : Str} {p pos apos : Pos} {e o : Expr} {es : List Expr} {ta : TE} {t : TA}
theorem run_fn {pins : List (Addr × Obj)} {σ : St} {H : Hp} {s : Shared} {Q : VK} {us : List Value} {vs : List V} (F : FnOk X.prog X.w X.K X.mg X.base CX k f fd ps sp) (hr : Room k X.A) (hb : Binds X.K fd ps ds) (hd : Vals dvs ds) (hx : Passes CX X E)
  (I : Inv X pins σ H s) (r : Vals vs us) (h : sp (vs ++ dvs) H Q E) : wpAny (model X.prog X.w) X.A (call (.ref f) us) (EP X pins σ Q) X.xe s := by
 have r2 : Vals (vs ++ dvs) (us ++ ds) := r.append hd
 have hl : (us ++ ds).length = ps.length := by rw [← r2.length]; exact F.len _ _ _ _ h
 refine wpAny_call (codeAny_mono (F.run X.A X.stack s H ⟨us, []⟩ (us ++ ds) (vs ++ dvs) Q E hr I.env0 (hb s us I.kIn hl) r2 h) fun r s' hq => ?_)
 cases r with
 | error e => exact hx pins σ H s e s' I hq
 | ok fl =>
  cases fl with
  | ret u => exact I.after hq
  | next => exact False.elim hq
  | brk => exact False.elim hq
  | cont => exact False.elim hq
theorem pe_call (F : FnOk X.prog X.w X.K X.mg X.base CX k f fd ps sp) (hr : Room k X.A) (hg : Gl X x) (hm : X.mg x = some (.ref f)) (hk : PySem.W.keepIn X.K (.ref f) = true) (hb : Binds X.K fd ps ds) (hd : Vals dvs ds) (hx : Passes CX X E)
  (ha : PA X (e :: es) t) (hdb : autoParam ((x == ("__debug__" : Str)) = false) au2._auto_1) (he : autoParam (starEach (e :: es) X.env = (false, eval e X.env) :: starEach es X.env) au5._auto_1) (hpl : autoParam ((backTo pos (starEach es X.env)).any (·.1) = false) au5._auto_1) :
  PE X (.Call (.Name x p) (e :: es) [] pos) (tCall sp dvs E t) := by
 intro pins s σ H Q I h
 refine wpAny_Call_Name_kw (ld_glob I hg hm ?_ hdb)
 refine PySem.W.callWith_K (h₀ := X.base) I.ok.mod.kin hk (thn (ha pos pins s σ H _ I h) fun us s1 ⟨vs, H1, I1, r, q⟩ => ⟨I1.kIn, ?_⟩) he hpl
 exact run_fn F hr hb hd hx I1 r q
theorem pe_meth {pl : Sem Bool} (he : PE X o ta) (c : Cls X.K C) (hm : Meth X.K C m f) (F : FnOk X.prog X.w X.K X.mg X.base CX k f fd ps sp) (hr : Room k X.A) (hb : Binds X.K fd ps ds) (hd : Vals dvs ds) (hx : Passes CX X E) (ha : PA X (e :: es) t)
  (hst : autoParam (starEach (e :: es) X.env = (false, eval e X.env) :: starEach es X.env) au5._auto_1) (hpl : autoParam ((backTo pos (starEach es X.env)).any (·.1) = false) au5._auto_1)
  (ht : autoParam (eval (.Call (.Attribute o m apos) (e :: es) [] pos) X.env = (do
   let ov ← eval o X.env
   standAt apos.atName
   let (f, first) ← holding [ov] (getMethod ov m pl)
   callWith pos f first (backTo pos (starEach (e :: es) X.env)) (backToKw pos (keywordEach [] X.env)))) au5._auto_1) :
  PE X (.Call (.Attribute o m apos) (e :: es) [] pos) (tMeth C m sp dvs E ta t) := by
 intro pins s σ H Q I h
 refine PySem.W.methodCall_KW (pl := pl) (thn (he pins s σ H _ I h) fun u s1 zz73 => ?_) ht
 obtain ⟨x, H1, I1, rx, a, dx, fs, ex, ea, l, q⟩ := zz73
 subst ex
 obtain rfl : u = Value.ref a := rx
 refine getmeth_ok I1 ea c hm l ?_
 refine PySem.W.callWith_K (first := [.ref a]) (h₀ := X.base) I.ok.mod.kin hm.kp (thn (ha pos pins s1 σ H1 _ I1 q) fun us s2 ⟨vs, H2, I2, r, q2⟩ => ⟨I2.kIn, ?_⟩) hst hpl
 exact run_fn (us := .ref a :: us) (vs := .ref a :: vs) F hr hb hd hx I2 (.cons rfl r) q2
theorem pe_meth0 {pl : Sem Bool} (he : PE X o ta) (c : Cls X.K C) (hm : Meth X.K C m f) (F : FnOk X.prog X.w X.K X.mg X.base CX k f fd ps sp) (hr : Room k X.A) (hb : Binds X.K fd ps ds) (hd : Vals dvs ds) (hx : Passes CX X E)
  (ht : autoParam (eval (.Call (.Attribute o m apos) [] [] pos) X.env = (do
   let ov ← eval o X.env
   standAt apos.atName
   let (f, first) ← holding [ov] (getMethod ov m pl)
   callWith pos f first (backTo pos (starEach [] X.env)) (backToKw pos (keywordEach [] X.env)))) au5._auto_1) :
  PE X (.Call (.Attribute o m apos) [] [] pos) (tMeth C m sp dvs E ta tNil) := by
 intro pins s σ H Q I h
 refine PySem.W.methodCall_KW (pl := pl) (thn (he pins s σ H _ I h) fun u s1 zz75 => ?_) ht
 obtain ⟨x, H1, I1, rx, a, dx, fs, ex, ea, l, q⟩ := zz75
 subst ex
 obtain rfl : u = Value.ref a := rx
 refine getmeth_ok I1 ea c hm l ?_
 exact PySem.W.callWith_K0 (first := [.ref a]) I1.kIn hm.kp (run_fn (us := [.ref a]) (vs := [.ref a]) F hr hb hd hx I1 (.cons rfl .nil) q)
structure Mk (K : PySem.W.Frag) (C f : Addr) : Prop where
 makes : PySem.W.makesIn K C = true
 init : PySem.W.findIn K (.ref C) "__init__" = some (some (.ref f))
 fn : PySem.W.isFn K (.ref f) = true
 kp : PySem.W.keepIn K (.ref C) = true
theorem run_make {pins : List (Addr × Obj)} {σ : St} {H : Hp} {s : Shared} {Q : VK} {us : List Value} {vs : List V} (M : Mk X.K C f) (F : FnOk X.prog X.w X.K X.mg X.base CX k f fd ps sp) (hr : Room (k + 1) X.A) (hb : Binds X.K fd ps ds) (hd : Vals dvs ds)
  (hx : Passes CX X E) (I : Inv X pins σ H s) (r : Vals vs us)
  (h : ∀ x dx, H x = none → H dx = none → dx ≠ x → sp (.ref x :: (vs ++ dvs)) (upd (upd H dx (.own x)) x (.ins C dx [])) (fun v H2 => v = .non ∧ Q (.ref x) H2) E) :
  wpAny (model X.prog X.w) X.A (call (.ref C) us) (EP X pins σ Q) X.xe s := by
 have hq := h (s.heap.objs.size + 1) s.heap.objs.size (I.hok.fresh (Nat.le_succ _)) (I.hok.fresh (Nat.le_refl _)) (Nat.ne_of_lt (Nat.lt_succ_self _))
 have I2 := Inv.made (C := C) I
 have r2 : Vals (V.ref (s.heap.objs.size + 1) :: (vs ++ dvs)) (Value.ref (s.heap.objs.size + 1) :: (us ++ ds)) := .cons rfl (r.append hd)
 have hl : (Value.ref (s.heap.objs.size + 1) :: us ++ ds).length = ps.length := by
  have e := r2.length
  rw [F.len _ _ _ _ hq] at e
  exact e.symm
 refine wpAny_call (make_map (f := f) I.kIn M.makes M.init (beq_iff_eq.mp M.fn) (codeAny_mono (F.run _ X.stack _ _ ⟨Value.ref (s.heap.objs.size + 1) :: us, []⟩ (Value.ref (s.heap.objs.size + 1) :: (us ++ ds)) _ _ E (hr.make C us [])
  (I2.env0.make C us []) (hb _ (Value.ref (s.heap.objs.size + 1) :: us) I2.kIn hl) r2 hq) fun r s' hq' => ?_))
 cases r with
 | error e => exact hx pins σ _ _ e s' I2 hq'
 | ok fl =>
  cases fl with
  | ret u =>
   obtain ⟨v, H', I3, rv, ev, q3⟩ := I2.after hq'
   subst ev
   exact ⟨rv, ⟨V.ref (s.heap.objs.size + 1), H', I3, rfl, q3⟩⟩
  | next => exact False.elim hq'
  | brk => exact False.elim hq'
  | cont => exact False.elim hq'
theorem pe_make (M : Mk X.K C f) (F : FnOk X.prog X.w X.K X.mg X.base CX k f fd ps sp) (hr : Room (k + 1) X.A) (hg : Gl X x) (hm : X.mg x = some (.ref C)) (hb : Binds X.K fd ps ds) (hd : Vals dvs ds) (hx : Passes CX X E)
  (ha : PA X (e :: es) t) (hdb : autoParam ((x == ("__debug__" : Str)) = false) au2._auto_1) (he : autoParam (starEach (e :: es) X.env = (false, eval e X.env) :: starEach es X.env) au5._auto_1) (hpl : autoParam ((backTo pos (starEach es X.env)).any (·.1) = false) au5._auto_1) :
  PE X (.Call (.Name x p) (e :: es) [] pos) (tMake C sp dvs E t) := by
 intro pins s σ H Q I h
 refine wpAny_Call_Name_kw (ld_glob I hg hm ?_ hdb)
 refine PySem.W.callWith_K (h₀ := X.base) I.ok.mod.kin M.kp (thn (ha pos pins s σ H _ I h) fun us s1 ⟨vs, H1, I1, r, q⟩ => ⟨I1.kIn, ?_⟩) he hpl
 exact run_make M F hr hb hd hx I1 r q
end
structure FnScope (N P : List Str) (sc : Scope) : Prop where
 kind : sc.kind = .function
 co : sc.isCoroutine = false
 gen : sc.isGenerator = false
 nd : N.Nodup
 pre : N.take P.length = P
 par : ∀ x ∈ P, sc.names.lookup x = some .local ∨ sc.names.lookup x = some .cell
 nofree : ∀ y ∈ sc.names, y.2 ≠ .free
theorem bindL_out {kindOf : Str → Option NameKind} {x : Str} : ∀ {binds : List (Str × Value)} {m : Str → Option Value}, (∀ v, (x, v) ∉ binds) → bindL kindOf binds m x = m x
 | [], _, _ => rfl
 | (n, v) :: r, m, h => by
  unfold bindL
  rw [bindL_out fun w hw => h w (List.mem_cons_of_mem _ hw)]
  split
  · have : x ≠ n := by rintro rfl; exact h v List.mem_cons_self
    simp [this]
  · rfl
theorem bindC_out {kindOf : Str → Option NameKind} {x : Str} : ∀ {binds : List (Str × Value)} {m : Str → Option Value}, (∀ v, (x, v) ∉ binds) → bindC kindOf binds m x = m x
 | [], _, _ => rfl
 | (n, v) :: r, m, h => by
  unfold bindC
  rw [bindC_out fun w hw => h w (List.mem_cons_of_mem _ hw)]
  split
  · rfl
  · have : x ≠ n := by rintro rfl; exact h v List.mem_cons_self
    simp [this]
theorem bindL_get {kindOf : Str → Option NameKind} {x : Str} {v : Value} : ∀ {P : List Str} {vs : List Value} {i : Nat} {m : Str → Option Value}, P.Nodup → P[i]? = some x → vs[i]? = some v → kindOf x = some .local →
  bindL kindOf (P.zip vs) m x = some v
 | [], _, _, _, _, h, _, _ => by simp at h
 | _ :: _, [], _, _, _, _, h, _ => by simp at h
 | p :: P, w :: vs, 0, m, nd, h1, h2, hk => by
  simp at h1 h2; subst h1; subst h2
  show bindL kindOf ((p, w) :: P.zip vs) m p = _
  unfold bindL
  rw [bindL_out fun v hv => (List.nodup_cons.mp nd).1 (List.of_mem_zip hv).1, if_pos hk]
  simp
 | p :: P, w :: vs, i + 1, m, nd, h1, h2, hk => by
  show bindL kindOf ((p, w) :: P.zip vs) m x = _
  unfold bindL
  exact bindL_get (i := i) (List.nodup_cons.mp nd).2 (by simpa using h1) (by simpa using h2) hk
theorem bindC_get {kindOf : Str → Option NameKind} {x : Str} {v : Value} : ∀ {P : List Str} {vs : List Value} {i : Nat} {m : Str → Option Value}, P.Nodup → P[i]? = some x → vs[i]? = some v → kindOf x ≠ some .local →
  bindC kindOf (P.zip vs) m x = some v
 | [], _, _, _, _, h, _, _ => by simp at h
 | _ :: _, [], _, _, _, _, h, _ => by simp at h
 | p :: P, w :: vs, 0, m, nd, h1, h2, hk => by
  simp at h1 h2; subst h1; subst h2
  show bindC kindOf ((p, w) :: P.zip vs) m p = _
  unfold bindC
  rw [bindC_out fun v hv => (List.nodup_cons.mp nd).1 (List.of_mem_zip hv).1, if_neg hk]
  simp
 | p :: P, w :: vs, i + 1, m, nd, h1, h2, hk => by
  show bindC kindOf ((p, w) :: P.zip vs) m x = _
  unfold bindC
  exact bindC_get (i := i) (List.nodup_cons.mp nd).2 (by simpa using h1) (by simpa using h2) hk
noncomputable def start (N : List Str) (vs : List V) : St := vs.map some ++ List.replicate (N.length - vs.length) none
noncomputable def cxOf (CX : CXT) (P : Program) (w : World) (K : PySem.W.Frag) (mg : Str → Option Value) (base : Heap) (N : List Str) (qual : Str) (scope : Scope) (f : Addr) (cd : Value) (A : Around) (outer : List Env) (s : Shared) (H : Hp) (E : XK) : Cx where
 prog := P
 w := w
 K := K
 mg := mg
 base := base
 A := A.deeper (envOfC qual scope s.heap.objs.size f cd)
 N := N
 s₀ := s
 H₀ := H
 env := envOfC qual scope s.heap.objs.size f cd
 outer := outer
 stack := envOfC qual scope s.heap.objs.size f cd :: outer
 ex := []
 calm := true
 fn := fun _ => true
 pn := []
 xe := fun e s' => wpAny (model P w) (A.deeper (envOfC qual scope s.heap.objs.size f cd)) (leaving (envOfC qual scope s.heap.objs.size f cd) e) (fun _ s'' => CX outer H s E e s'') (fun e' s'' => CX outer H s E e' s'') s'
theorem cell_has {sc : Scope} {n : Nat} {x : Str} (h : sc.names.lookup x = some .cell) : ∃ c, (cellsFrom n sc.names []).lookup x = some c := by
 have q := PySem.W.cellsFrom_some sc.names n [] (.inl h)
 exact Option.isSome_iff_exists.mp q
theorem inv_start {CX : CXT} {P : Program} {w : World} {K : PySem.W.Frag} {mg : Str → Option Value} {base : Heap} {N ps : List Str} {qual : Str} {scope : Scope} {f : Addr} {cd : Value} {A : Around} {outer : List Env} {s s1 : Shared} {H : Hp} {E : XK} {us : List Value} {vs : List V}
  (S : FnScope N ps scope) (hd : A.handled = none) (e0 : Env0 P w K mg base A outer s H) (hl : vs.length = ps.length) (r : Vals vs us)
  (x : InCallC s s.heap.objs.size (bindL (envOfC qual scope s.heap.objs.size f cd).kindOf (ps.zip us) fun _ => none) (cellsFrom (s.heap.objs.size + 1) scope.names []) (bindC (envOfC qual scope s.heap.objs.size f cd).kindOf (ps.zip us) fun _ => none) s1) :
  Inv (cxOf CX P w K mg base N qual scope f cd A outer s H E) [] (start N vs) H s1 := by
 have hpl : ps.length ≤ N.length := by have := congrArg List.length S.pre; rw [List.length_take] at this; lia
 obtain ⟨h1, tk, rfl, hk⟩ := x.done
 have noA : ∀ b : Addr, b ∉ (cxOf CX P w K mg base N qual scope f cd A outer s H E).ex := fun b z => absurd (show b ∈ ([] : List Addr) from z) (by simp)
 refine ⟨⟨e0.mod, S.kind, rfl, rfl, Nat.le_refl _, fun y z c h1 h2 => ?_, fun y hy => ?_, fun y c _ h => ?_, fun _ => hd, Around.frames_deeper e0.frames, .inr ⟨rfl, rfl⟩, fun b z => absurd z (noA b), e0.bs, e0.bsz, fun b _ _ => noA b, fun b z => absurd z (noA b), e0.funs, e0.frf⟩,
  rfl, e0.bare, Un.kept hk, ⟨_, x.toInCall.ns, fun i y v h1 h2 h3 => ?_⟩, fun y c h => ⟨_, x.cell y c h⟩, e0.hok.fresh (Nat.le_refl _), fun y c h => ?_, fun p hp => absurd (show p ∈ ([] : List (Addr × Obj)) from hp) (by simp), e0.hok.kept hk, ?_⟩
 · exact name_of_addr x.apart (PySem.mem_of_lookup h1) (PySem.mem_of_lookup h2)
 · have hy : scope.names.lookup y = some .cell ∨ scope.names.lookup y = some .free := hy
   rcases hy with hy | hy
   · exact cell_has hy
   · exact absurd rfl (S.nofree _ (PySem.mem_of_lookup hy))
 · exact Nat.le_of_lt (x.above y c (PySem.mem_of_lookup h))
 · have hi : i < vs.length := by
     unfold start at h2
     by_cases hi : i < vs.length
     · exact hi
     · rw [List.getElem?_append_right (by simpa using hi)] at h2
       rw [List.getElem?_replicate] at h2
       split at h2 <;> cases h2
   have ha : vs[i]? = some v := by
    unfold start at h2
    rw [List.getElem?_append_left (by simpa using hi), List.getElem?_map] at h2
    cases e : vs[i]? with
    | none => rw [e] at h2; cases h2
    | some a => rw [e] at h2; cases h2; rfl
   obtain ⟨u, hu, rv⟩ := r.get ha
   have hp : ps[i]? = some y := by
    rw [← S.pre, List.getElem?_take_of_lt (by lia)]; exact h1
   have ndP : ps.Nodup := by rw [← S.pre]; exact S.nd.sublist (List.take_sublist _ _)
   refine ⟨u, rv, ?_⟩
   rcases S.par y (List.mem_of_getElem? hp) with k | k
   · exact .inl ⟨k, bindL_get ndP hp hu k⟩
   · obtain ⟨c, e⟩ := cell_has (n := s.heap.objs.size + 1) k
     refine .inr ⟨.inl k, c, e, ?_⟩
     have q := x.cell y c e
     rw [bindC_get ndP hp hu (by show scope.names.lookup y ≠ _; rw [k]; decide)] at q
     exact q
 · exact e0.hok.fresh (Nat.le_of_lt (x.above y c (PySem.mem_of_lookup h)))
 · unfold start
   show _ = N.length
   rw [List.length_append, List.length_map, List.length_replicate]
   lia
theorem fn_of {CX : CXT} {P : Program} {w : World} {K : PySem.W.Frag} {mg : Str → Option Value} {base : Heap} {k : Nat} {f : Addr} {name qual : Str} {params : Arguments} {body : List Stmt} {scope : Scope} {dV kV doc pm cdv ct oc : Value} {an od : Option Addr}
  {osl : Array (Option Value)} {N ps : List Str} {sp : Sp} (lk : K.lookup f = some ⟨oc, od, .func (PySem.W.fnOf name qual params body scope dV kV doc pm an cdv ct), osl⟩) (hcd : PySem.W.codeIn K cdv qual = true) (S : FnScope N ps scope)
  (len : ∀ vs H Q E, sp vs H Q E → vs.length = ps.length)
  (hbody : ∀ (A : Around) (outer : List Env) (s : Shared) (H : Hp) (vs : List V) (Q : VK) (E : XK), Room k (A.deeper (envOfC qual scope s.heap.objs.size f cdv)) → sp vs H Q E →
   ∃ t, PSs (cxOf CX P w K mg base N qual scope f cdv A outer s H E) body t ∧ t { nx := fun _ H' => Q .non H', rt := Q } (start N vs) H) :
  FnOk P w K mg base CX (k + 1) f (PySem.W.fnOf name qual params body scope dV kV doc pm an cdv ct) ps sp := by
 refine ⟨len, fun A outer s H args us vs Q E hr e0 hb r hsp => ?_⟩
 have hl := len _ _ _ _ hsp
 have KX : K.In s.heap := e0.mod.kin.keeps fun b o e => (e0.bs b o e).1
 have lim : s.heap.NoLimit := e0.mod.nolimit.keeps fun b o e => (e0.bs b o e).1
 have hkind : ∀ y ∈ ps.zip us, scope.names.lookup y.1 = some .local ∨ (scope.names.lookup y.1 = some .cell ∧ ((cellsFrom (s.heap.objs.size + 1) scope.names []).lookup y.1).isSome = true) := fun zz81 hy => (by obtain ⟨n, v⟩ := zz81; exact (by
  rcases S.par n (List.of_mem_zip hy).1 with q | q
  · exact .inl q
  · exact .inr ⟨q, PySem.W.cellsFrom_some _ _ _ (.inl q)⟩))
 refine codeAny_call_function hr.depth (KX _ _ lk) rfl S.co S.gen rfl (PySem.W.codeRec_of KX hcd) (hb _ _ _ _ ?_)
 refine wpAny_newFunctionEnv_cells S.kind hkind fun env he s1 x => ?_
 subst he
 refine ⟨lim.keeps x.toInCall.keep, codeAny_func ?_⟩
 obtain ⟨t, ht, hq⟩ := hbody A outer s H vs Q E (hr.deeper _) hsp
 have I : Inv (cxOf CX P w K mg base N qual scope f cdv A outer s H E) [] (start N vs) H s1 := inv_start S hr.hd e0 hl r x
 refine wpAny_mono (ht [] s1 (start N vs) H _ I hq) (fun fl s' hs => ?_) fun e s' hs => hs
 have fin : ∀ {σ' : St} {H' : Hp} {v : V} {u : Value}, Inv (cxOf CX P w K mg base N qual scope f cdv A outer s H E) [] σ' H' s' → RelV v u → Q v H' → CE outer P w H s Q u s' :=
  fun {σ' H' v u} J rv q => ⟨v, H', J.os, J.bare, J.base, J.hok, rv, q⟩
 cases fl with
 | ret u =>
  obtain ⟨v, σ', H', J, rv, q⟩ := hs
  exact fin J rv q
 | next =>
  obtain ⟨σ', H', J, q⟩ := hs
  exact fin (v := V.non) (u := Value.none) J rfl q
 | brk =>
  obtain ⟨_, _, _, q⟩ := hs
  exact False.elim q
 | cont =>
  obtain ⟨_, _, _, q⟩ := hs
  exact False.elim q
end L2
namespace L2
open PySem PySem.Spec PyProof.Rows
section
variable {X : Cx} {x : Str} {p pos : Pos} {e : Expr} {es : List Expr} {t : TA} {id T : String} {r : List V → Hp → VK → Prop}
def tCB (r : List V → Hp → VK → Prop) (t : TA) : TE := fun σ H Q => t σ H fun vs H1 => r vs H1 Q
theorem pe_callB (hc : CallR X (.builtin id) r) (hg : Gl X x) (hm : X.mg x = none) (hv : bootBuiltins x = some (.builtin id)) (ha : PA X (e :: es) t) (hn : autoParam (x ≠ "__name__") au2._auto_1) (hdb : autoParam ((x == ("__debug__" : Str)) = false) au2._auto_1)
  (he : autoParam (starEach (e :: es) X.env = (false, eval e X.env) :: starEach es X.env) au5._auto_1) (hpl : autoParam ((backTo pos (starEach es X.env)).any (·.1) = false) au5._auto_1) : PE X (.Call (.Name x p) (e :: es) [] pos) (tCB r t) := by
 intro pins s σ H Q I h
 refine wpAny_Call_Name_kw (ld_blt I hg hm hv ?_ hn hdb)
 exact PyProof.Rows.callWith_builtin1 (thn (ha pos pins s σ H _ I h) fun us s1 zz82 => (by obtain ⟨vs, H1, I1, r1, q1⟩ := zz82; exact (hc pins s1 σ H1 vs us Q I1 r1 q1))) he hpl
theorem pe_callTy (hc : CallR X (.type T) r) (hg : Gl X x) (hm : X.mg x = none) (hv : bootBuiltins x = some (.type T)) (ha : PA X (e :: es) t) (hn : autoParam (x ≠ "__name__") au2._auto_1) (hdb : autoParam ((x == ("__debug__" : Str)) = false) au2._auto_1)
  (he : autoParam (starEach (e :: es) X.env = (false, eval e X.env) :: starEach es X.env) au5._auto_1) (hpl : autoParam ((backTo pos (starEach es X.env)).any (·.1) = false) au5._auto_1) : PE X (.Call (.Name x p) (e :: es) [] pos) (tCB r t) := by
 intro pins s σ H Q I h
 refine wpAny_Call_Name_kw (ld_blt I hg hm hv ?_ hn hdb)
 exact PyProof.Rows.callWith_type1 (thn (ha pos pins s σ H _ I h) fun us s1 zz83 => (by obtain ⟨vs, H1, I1, r1, q1⟩ := zz83; exact (hc pins s1 σ H1 vs us Q I1 r1 q1))) he hpl
end
end L2
namespace HT
open PySem PyProof.Rows
section
variable {prog : Program} {w : World} {A : Around} {E : Value → Shared → Prop} {s : Shared}
theorem cat_tup {t b : Addr} {vs ws : List Value} {Q : Value → Shared → Prop} (ht : IsTup s.heap t vs.toArray) (hb : IsTup s.heap b ws.toArray) (hv : vs ≠ [])
  (h1 : ws = [] → Q (.ref t) s) (h2 : ws ≠ [] → Q (.ref s.heap.objs.size) { s with heap := s.heap.push { cls := .type "tuple", data := .seq (vs ++ ws).toArray } })
  (hsz : vs.length + ws.length ≤ sizeLine) : wpAny (model prog w) A (binaryOp .Add (.ref t) (.ref b)) Q E s := by
 obtain ⟨⟨cls, dd, data, sl⟩, ho, hc, n, hd⟩ := id ht
 obtain ⟨⟨cls2, dd2, data2, sl2⟩, ho2, hc2, n2, hd2⟩ := id hb
 simp only at hc hd hc2 hd2
 subst hc hd hc2 hd2
 have e : vs.toArray ++ ws.toArray = (vs ++ ws).toArray := by simp
 by_cases hw : ws = []
 · exact concat_meets ⟨_, ho, rfl⟩ ⟨_, ho2, rfl⟩ noFill_tuple_add seq_tuple_add PySem.F.slot_tuple_add PySem.F.entry_tuple_add (PySem.F.args_tuple_add_2 _ _)
     (tuple_addW1 t b vs.toArray ws.toArray n n2 dd dd2 sl sl2 (by simpa using hv) (by simp [hw])) ⟨ho, ho2, h1 hw⟩
 · refine concat_meets ⟨_, ho, rfl⟩ ⟨_, ho2, rfl⟩ noFill_tuple_add seq_tuple_add PySem.F.slot_tuple_add PySem.F.entry_tuple_add (PySem.F.args_tuple_add_2 _ _)
     (tuple_addW2 t b vs.toArray ws.toArray n n2 dd dd2 sl sl2 (by simpa using hv) (by simpa using hw) (by rw [List.size_toArray, List.size_toArray]; exact hsz)) ⟨ho, ho2, ?_⟩
   rw [e]
   exact h2 hw
noncomputable def sIx (n d : Nat) : Option Int → Nat
 | none => d
 | some v => if v < 0 then (v + (n : Int)).toNat else min v.toNat n
theorem sIx_none (n d : Nat) : sIx n d none = d := rfl
theorem sIx_nat (n d k : Nat) : sIx n d (some (k : Int)) = min k n := by
 show (if (k : Int) < 0 then ((k : Int) + (n : Int)).toNat else min (k : Int).toNat n) = min k n
 rw [if_neg (by lia), Int.toNat_natCast]
theorem sIx_le (n d : Nat) (hd : d ≤ n) (o : Option Int) : sIx n d o ≤ n := by
 cases o with
 | none => exact hd
 | some v =>
  show (if v < 0 then (v + (n : Int)).toNat else min v.toNat n) ≤ n
  by_cases hv : v < 0
  · rw [if_pos hv]; lia
  · rw [if_neg hv]; exact Nat.min_le_right _ _
theorem clip_eq (v : Int) (n d : Nat) : (if v < 0 then max (v + (n : Int)) 0 else min v (n : Int)) = ((sIx n d (some v) : Nat) : Int) := by
 show (if v < 0 then max (v + (n : Int)) 0 else min v (n : Int)) = (((if v < 0 then (v + (n : Int)).toNat else min v.toNat n) : Nat) : Int)
 by_cases hv : v < 0
 · simp only [if_pos hv]; lia
 · simp only [if_neg hv]; lia
theorem adjust_gen (lo hi : Option Int) (n : Nat) : Builtin.Slice.sliceAdjust lo hi 1 (n : Int) = (((sIx n 0 lo : Nat) : Int), ((sIx n n hi : Nat) : Int)) := by
 have h1 : ¬ ((1 : Int) < 0) := by lia
 unfold Builtin.Slice.sliceAdjust
 simp only [h1, if_false]
 refine Prod.ext ?_ ?_
 · cases lo with
   | none => rfl
   | some v => exact clip_eq v n 0
 · cases hi with
   | none => rfl
   | some v => exact clip_eq v n n
theorem places_gen (i j : Nat) : Builtin.Slice.slicePlaces (i : Int) (j : Int) 1 = j - i := by
 unfold Builtin.Slice.slicePlaces
 have h1 : (1 : Int) > 0 := by lia
 simp only [h1, if_true, Int.ediv_one]
 split <;> lia
theorem slicePart_ {v : Value} {o : Option Int} {Q : Option Int → Shared → Prop} (p : IsPart v o) (h : Q o s) : wpAny (model prog w) A (Builtin.Slice.slicePartIndex v) Q E s := by
 cases p with
 | none => exact slicePart_none h
 | int i t => exact slicePart_int h
theorem sliceApplied_gen {sl : Addr} {vl vu : Value} {lo hi : Option Int} {n : Nat} {Q : Int × Int × Nat → Shared → Prop} (hs : s.heap.IsSliceOf sl vl vu .none) (pl : IsPart vl lo) (pu : IsPart vu hi)
  (h : Q (((sIx n 0 lo : Nat) : Int), 1, sIx n n hi - sIx n 0 lo) s) : wpAny (model prog w) A (Builtin.Slice.sliceApplied (.ref sl) (pure (n : Int))) Q E s := by
 obtain ⟨os, hos, hcs, hds⟩ := id hs
 unfold Builtin.Slice.sliceApplied Builtin.Slice.sliceFields
 refine wpAny_bind (wpAny_bind (wpAny_field hos hds (x := vl) rfl (wpAny_bind (wpAny_field hos hds (x := vu) rfl (wpAny_bind (wpAny_field hos hds (x := .none) rfl (wpAny_pure ?_)))))))
 refine wpAny_bind (slicePart_none ?_)
 show wpAny _ _ (if ((1 : Int) == 0) = true then _ else _) _ _ s
 rw [if_neg (by decide)]
 refine wpAny_bind (slicePart_ pl (wpAny_bind (slicePart_ pu (wpAny_bind (wpAny_pure ?_)))))
 show wpAny _ _ (match Builtin.Slice.sliceAdjust lo hi 1 (n : Int) with | (lo, hi) => pure (lo, (1 : Int), Builtin.Slice.slicePlaces lo hi 1)) _ _ s
 rw [adjust_gen lo hi n]
 show wpAny _ _ (pure (((sIx n 0 lo : Nat) : Int), (1 : Int), Builtin.Slice.slicePlaces ((sIx n 0 lo : Nat) : Int) ((sIx n n hi : Nat) : Int) 1)) _ _ s
 rw [places_gen]
 exact wpAny_pure h
theorem pick_gen (xs : Array Value) (i k : Nat) : ((List.range k).filterMap fun (m : Nat) => xs[((i : Int) + (m : Int) * 1).toNat]?).toArray = ((xs.toList.drop i).take k).toArray := by
 have e : (fun (m : Nat) => xs[((i : Int) + (m : Int) * 1).toNat]?) = fun m => xs[i + m]? := by
  funext m
  have : ((i : Int) + (m : Int) * 1).toNat = i + m := by lia
  rw [this]
 rw [e]
 have := pick_run xs i k
 rw [List.filterMap_map] at this
 have e2 : ((fun x => xs[x]?) ∘ fun x => i + x) = fun m => xs[i + m]? := rfl
 rw [e2] at this
 rw [this]
theorem getItem_tuple_cut {t sl : Addr} {items : Array Value} {vl vu : Value} {lo hi : Option Int} {Q : Value → Shared → Prop} (ht : IsTup s.heap t items) (hs : s.heap.IsSliceOf sl vl vu .none) (pl : IsPart vl lo) (pu : IsPart vu hi)
  (hw : ¬ (sIx items.size 0 lo = 0 ∧ sIx items.size items.size hi = items.size))
  (h : Q (.ref s.heap.objs.size) { s with heap := s.heap.push { cls := .type "tuple", data := .seq ((items.toList.drop (sIx items.size 0 lo)).take (sIx items.size items.size hi - sIx items.size 0 lo)).toArray } })
  (hsz : items.size ≤ sizeLine) : wpAny (model prog w) A (getItem (.ref t) (.ref sl)) Q E s := by
 have htake : sizeOk (.seq ((items.toList.drop (sIx items.size 0 lo)).take (sIx items.size items.size hi - sIx items.size 0 lo)).toArray) := by
  show ((items.toList.drop (sIx items.size 0 lo)).take (sIx items.size items.size hi - sIx items.size 0 lo)).toArray.size ≤ sizeLine
  rw [List.size_toArray, List.length_take, List.length_drop, Array.length_toList]
  lia
 have hj : sIx items.size items.size hi ≤ items.size := sIx_le _ _ (Nat.le_refl _) hi
 obtain ⟨os, hos, hcs, hds⟩ := id hs
 have hTs : s.TypeIs (.ref sl) "slice" := ⟨os, hos, hcs⟩
 unfold getItem
 try with_reducible refine wpAny_holding ?_
 first | refine wpAny_bind (wpAny_pure ?_) | skip
 refine wpAny_bind (wpAny_sequenceKey ht.typeIs (by decide) ?_)
 refine wpAny_bind (wpAny_callSpecial?_slot (name := Str.ofString "__getitem__") ht.typeIs PyProof.Rows.slot_tuple_getitem
  (wpAny_call_entry PyProof.Rows.slot_tuple_getitem ht.typeIs entry_tuple_getitem ?_ (args_tuple_getitem _ _)))
 show wpAny _ _ (Builtin.Tuple.tupleItemsOf (.ref t) >>= _) _ _ s
 refine wpAny_bind (tupleItemsOf_ ht ?_)
 refine wpAny_bind (wpAny_typeOf hTs ?_)
 rw [if_pos (by decide)]
 refine wpAny_bind (sliceApplied_gen hs pl pu ?_)
 have hno : ¬ ((((sIx items.size 0 lo : Nat) : Int) == 0 && (1 : Int) == 1 && (sIx items.size items.size hi - sIx items.size 0 lo) == items.size) = true) := by
  intro q
  rw [Bool.and_eq_true, Bool.and_eq_true] at q
  have q1 : ((sIx items.size 0 lo : Nat) : Int) = 0 := eq_of_beq q.1.1
  have q2 : sIx items.size items.size hi - sIx items.size 0 lo = items.size := eq_of_beq q.2
  exact hw ⟨by lia, by lia⟩
 show wpAny _ _ (if (((sIx items.size 0 lo : Nat) : Int) == 0 && (1 : Int) == 1 && (sIx items.size items.size hi - sIx items.size 0 lo) == items.size) = true then _ else _) _ _ s
 rw [if_neg hno, pick_gen]
 first
  | exact wpAny_bind (m := Builtin.Tuple.tupleExact _) (wpAny_newObj_type (wpAny_pure ⟨_, rfl, wpAny_pure h⟩) htake)
  | exact wpAny_bind (m := Builtin.Tuple.tupleExact _) (wpAny_newObj_type (wpAny_bind (wpAny_pure (wpAny_pure ⟨_, rfl, wpAny_pure h⟩))) htake)
  | exact wpAny_bind (wpAny_bind (m := Builtin.Tuple.tupleExact _) (wpAny_newObj_type (wpAny_pure (wpAny_pure ⟨_, rfl, wpAny_pure h⟩)) htake))
  | exact wpAny_bind (wpAny_bind (m := Builtin.Tuple.tupleExact _) (wpAny_newObj_type (wpAny_pure ⟨_, rfl, wpAny_pure h⟩) htake))
end
end HT
namespace L2
open PySem PySem.Spec PyProof.Rows
abbrev TO := St → Hp → (Option Int → Hp → Prop) → Prop
def PO (X : Cx) (e : Option Expr) (t : TO) : Prop :=
 ∀ (pins : List (Addr × Obj)) (s : Shared) (σ : St) (H : Hp) (Q : Option Int → Hp → Prop), Inv X pins σ H s → t σ H Q →
  wpAny (model X.prog X.w) X.A (evalPart e X.env) (fun u s' => ∃ o H', Inv X pins σ H' s' ∧ IsPart u o ∧ Q o H') X.xe s
def tNoPart : TO := fun _ H Q => Q none H
def tPart (t : TE) : TO := fun σ H Q => t σ H fun x H1 => ∃ i, x = .int i ∧ Q (some i) H1
section
variable {X : Cx} {e : Expr} {te : TE} {lo hi : Option Expr} {tl th : TO} {pos p2 : Pos}
theorem po_none : PO X none tNoPart := by
 intro pins s σ H Q I h
 rw [evalPart_none]
 exact wpAny_pure ⟨none, H, I, .none, h⟩
theorem po_some (h : PE X e te) : PO X (some e) (tPart te) := by
 intro pins s σ H Q I hw
 rw [evalPart_some]
 refine thn (h pins s σ H _ I hw) fun u s1 zz84 => ?_
 obtain ⟨x, H1, I1, r1, q1⟩ := zz84
 obtain ⟨i, rfl, q⟩ := q1
 obtain ⟨t, rfl⟩ := r1
 exact ⟨some i, H1, I1, .int i t, q⟩
def SlR (X : Cx) (r : V → Option Int → Option Int → Hp → VK → Prop) : Prop :=
 ∀ (pins : List (Addr × Obj)) (s : Shared) (σ : St) (H : Hp) (x : V) (v vl vu : Value) (lo hi : Option Int) (sl : Addr) (Q : VK), Inv X pins σ H s → RelV x v → s.heap.IsSliceOf sl vl vu .none → IsPart vl lo → IsPart vu hi → r x lo hi H Q →
  ∃ T id, typeLookup (.type T) "__getitem__" = pure (some (.builtin id)) ∧ s.TypeIs v T ∧ wpAny (model X.prog X.w) X.A (getItem v (.ref sl)) (EP X pins σ Q) X.xe s
def tSl (r : V → Option Int → Option Int → Hp → VK → Prop) (te : TE) (tl th : TO) : TE := fun σ H Q => te σ H fun x H1 => tl σ H1 fun l H2 => th σ H2 fun u H3 => r x l u H3 Q
theorem pe_slice {r : V → Option Int → Option Int → Hp → VK → Prop} (hr : SlR X r) (he : PE X e te) (hl : PO X lo tl) (hu : PO X hi th) : PE X (.Subscript e (.Slice lo hi none p2) pos) (tSl r te tl th) := by
 intro pins s σ H Q I h
 refine Subscript_ (thn (he pins s σ H _ I h) fun v s1 zz85 => ?_)
 obtain ⟨x, H1, I1, r1, q1⟩ := zz85
 refine wpAny_Slice (thn (hl pins s1 σ H1 _ I1 q1) fun vl s2 ⟨l, H2, I2, pl, q2⟩ => thn (hu pins s2 σ H2 _ I2 q2) fun vu s3 zz87 => ?_)
 obtain ⟨u, H3, I3, pu, q3⟩ := zz87
 rw [evalPart_none]
 refine wpAny_pure ?_
 have I4 : Inv X pins σ H3 { s3 with heap := s3.heap.push { cls := .type "slice", data := .fields #[vl, vu, .none] } } := I3.kept (t' := s3.toks) fun b ob q => Heap.get?_push_of_some _ q
 obtain ⟨T, id, hT, ht, hg⟩ := hr pins { s3 with heap := s3.heap.push { cls := .type "slice", data := .fields #[vl, vu, .none] } } σ H3 x v vl vu l u s3.heap.objs.size Q I4 r1 (Heap.IsSliceOf.new ..) pl pu q3
 show wpAny (model X.prog X.w) X.A (subscriptTail e (.Slice lo hi none p2) v (.ref s3.heap.objs.size)) (EP X pins σ Q) X.xe { s3 with heap := s3.heap.push { cls := .type "slice", data := .fields #[vl, vu, .none] } }
 exact tail_any (ops := [.ref s3.heap.objs.size, v]) ht hT hg (by with_unfolding_all rfl)
noncomputable def cutV (xs : List V) (lo hi : Option Int) : List V := (xs.drop (HT.sIx xs.length 0 lo)).take (HT.sIx xs.length xs.length hi - HT.sIx xs.length 0 lo)
theorem cutV_length (xs : List V) (lo hi : Option Int) : (cutV xs lo hi).length ≤ xs.length := by
 unfold cutV
 rw [List.length_take, List.length_drop]
 lia
theorem Vals.nil_iff {xs : List V} {us : List Value} (r : Vals xs us) : us = [] ↔ xs = [] := by
 cases r with
 | nil => simp
 | cons _ _ => simp
end
end L2
namespace L2
open PySem PySem.Spec PyProof.Rows
noncomputable def ixN (n : Nat) (i : Int) : Option Nat := if 0 ≤ i then (if i < n then some i.toNat else none) else if -(n : Int) ≤ i then some (i + n).toNat else none
noncomputable def atI {α : Type} (xs : List α) (i : Int) : Option α := (ixN xs.length i).bind fun j => xs[j]?
theorem ixN_seq {n : Nat} {i : Int} {j : Nat} (h : ixN n i = some j) : seqIndex? i n = some j ∧ j < n ∧ -(n : Int) ≤ i ∧ i < n := by
 unfold ixN at h
 by_cases h0 : 0 ≤ i
 · rw [if_pos h0] at h
   by_cases h1 : i < n
   · rw [if_pos h1] at h
     have e : i.toNat = j := Option.some.inj h
     exact ⟨by rw [seqIndex_of h0 h1, e], by lia, by lia, h1⟩
   · rw [if_neg h1] at h; cases h
 · rw [if_neg h0] at h
   by_cases h1 : -(n : Int) ≤ i
   · rw [if_pos h1] at h
     have e : (i + n).toNat = j := Option.some.inj h
     exact ⟨by rw [seqIndex_neg (by lia) h1, e], by lia, h1, by lia⟩
   · rw [if_neg h1] at h; cases h
theorem atI_get {α : Type} {xs : List α} {i : Int} {v : α} (h : atI xs i = some v) : ∃ j, seqIndex? i xs.length = some j ∧ xs[j]? = some v ∧ j < xs.length ∧ -(xs.length : Int) ≤ i ∧ i < xs.length := by
 unfold atI at h
 cases e : ixN xs.length i with
 | none => rw [e] at h; cases h
 | some j =>
  rw [e] at h
  obtain ⟨h1, h2, h3, h4⟩ := ixN_seq e
  exact ⟨j, h1, h, h2, h3, h4⟩
theorem atI_nat {α : Type} {xs : List α} {j : Nat} {v : α} (h : xs[j]? = some v) : atI xs (j : Int) = some v := by
 have hj : j < xs.length := (List.getElem?_eq_some_iff.mp h).1
 have e : ixN xs.length (j : Int) = some j := by
  unfold ixN
  rw [if_pos (by lia), if_pos (by lia)]; simp
 unfold atI; rw [e]; exact h
theorem atI_last {α : Type} (xs : List α) (v : α) : atI (xs ++ [v]) (-1) = some v := by
 have hl : (xs ++ [v]).length = xs.length + 1 := by simp
 have e : ixN (xs ++ [v]).length (-1) = some xs.length := by
  unfold ixN
  rw [hl, if_neg (by decide), if_pos (by lia)]
  congr 1
  lia
 unfold atI
 rw [e]
 show (xs ++ [v])[xs.length]? = some v
 simp
def PlainIx (b : Expr) : Prop := ∀ o i, subscripted b false o i = operate [o, i] (getItem o i)
def IxR (X : Cx) (r : R2) : Prop :=
 ∀ (value slice : Expr) (pins : List (Addr × Obj)) (s : Shared) (σ : St) (H : Hp) (x y : V) (v u : Value) (Q : VK), Inv X pins σ H s → RelV x v → RelV y u → r x y H Q →
  subscripted slice false v u = operate [v, u] (getItem v u) → wpAny (model X.prog X.w) X.A (subscriptTail value slice v u) (EP X pins σ Q) X.xe s
def MtR (X : Cx) (id : String) (r : V → List V → Hp → VK → Prop) : Prop :=
 ∀ (pins : List (Addr × Obj)) (s : Shared) (σ : St) (H : Hp) (x : V) (xs : List V) (v : Value) (us : List Value) (Q : VK), Inv X pins σ H s → RelV x v → Vals xs us → r x xs H Q →
  wpAny (model X.prog X.w) X.A (call (.builtin id) (v :: us)) (EP X pins σ Q) X.xe s
section
variable {X : Cx} {a b : Expr} {ta tb : TE} {pos : Pos}
theorem IxR.or {r r' : R2} (h : IxR X r) (h' : IxR X r') : IxR X (fun x y H Q => r x y H Q ∨ r' x y H Q) := by
 intro value slice pins s σ H x y v u Q I rx ry q hs
 rcases q with q | q
 · exact h value slice pins s σ H x y v u Q I rx ry q hs
 · exact h' value slice pins s σ H x y v u Q I rx ry q hs
theorem pe_ix {r : R2} (hr : IxR X r) (ha : PE X a ta) (hb : PE X b tb) (hs : PlainIx b) : PE X (.Subscript a b pos) (tOp r ta tb) := by
 intro pins s σ H Q I h
 exact Subscript_ (binT ha hb I h fun v u s2 x y H2 I2 rx ry q => hr a b pins s2 σ H2 x y v u Q I2 rx ry q (hs _ _))
def rIxL (K : PySem.W.Frag) : R2 := fun x y H Q => ∃ p xs i v, x = .ref p ∧ y = .int i ∧ SqL K H p xs ∧ atI xs i = some v ∧ Q v H
def rIxT (K : PySem.W.Frag) : R2 := fun x y H Q => ∃ p xs i v, x = .ref p ∧ y = .int i ∧ SqT K H p xs ∧ atI xs i = some v ∧ Q v H
def rIxS : R2 := fun x y H Q => ∃ z i c, x = .str z ∧ y = .int i ∧ z.length ≤ sizeLine ∧ atI z.cps.toList i = some c ∧ Q (.str ⟨#[c]⟩) H
theorem ix_list : IxR X (rIxL X.K) := by
 intro value slice pins s σ H x y v u Q I rx ry h hs
 obtain ⟨p, xs, i, z, rfl, rfl, hq, he, q⟩ := h
 cases rx
 obtain ⟨t, rfl⟩ := ry
 obtain ⟨its, r, pl, hz⟩ := I.list hq
 obtain ⟨j, h1, h2, h3, h4, h5⟩ := atI_get he
 obtain ⟨w, ew, rw'⟩ := r.get h2
 have hl := r.length
 have hn := line63
 have fin : EP X pins σ Q w s := ⟨z, H, I, rw', q⟩
 by_cases h0 : 0 ≤ i
 · have hj : i.toNat = j := by
     rw [seqIndex_of h0 h5] at h1
     exact Option.some.inj h1
   exact item_listR pl.isList h0 (by lia) (by rw [hj]; simpa using ew) fin hs
 · have hj : (i + (its.toArray.size : Int)).toNat = j := by
     rw [seqIndex_neg (by lia) h4] at h1
     rw [List.size_toArray, ← hl]
     exact Option.some.inj h1
   exact subscriptTail_builtinR (x := w) pl.isList.typeIs slot_list_getitem.lookup
    (wpAny_getItem_list_neg (Q := fun r s' => r = w ∧ EP X pins σ Q r s') pl.isList (by lia) (by rw [List.size_toArray] <;> lia) (by lia) (by rw [hj]; simpa using ew) ⟨rfl, fin⟩) hs
theorem ix_tup : IxR X (rIxT X.K) := by
 intro value slice pins s σ H x y v u Q I rx ry h hs
 obtain ⟨p, xs, i, z, rfl, rfl, hq, he, q⟩ := h
 cases rx
 obtain ⟨t, rfl⟩ := ry
 obtain ⟨its, r, pl, hz⟩ := I.tuple hq
 obtain ⟨j, h1, h2, h3, h4, h5⟩ := atI_get he
 obtain ⟨w, ew, rw'⟩ := r.get h2
 have hl := r.length
 have hn := line63
 have fin : EP X pins σ Q w s := ⟨z, H, I, rw', q⟩
 exact subscriptTail_builtinR (x := w) pl.typeIs slot_tuple_getitem.lookup
  (getItem_tuple (j := j) (Q := fun r s' => r = w ∧ EP X pins σ Q r s') pl (by lia) (by lia) (by rw [List.size_toArray, ← hl]; exact h1) (by simpa using ew) ⟨rfl, fin⟩) hs
theorem ix_str : IxR X rIxS := by
 intro value slice pins s σ H x y v u Q I rx ry h hs
 obtain ⟨z, i, c, rfl, rfl, hz, he, q⟩ := h
 obtain ⟨t, rfl⟩ := rx
 obtain ⟨t', rfl⟩ := ry
 obtain ⟨j, h1, h2, h3, h4, h5⟩ := atI_get he
 have hl : z.cps.toList.length = z.length := by simp [Str.length]
 rw [hl] at h1 h4 h5
 have hn := line63
 exact tail_any (typeIs_str s z t) slot_str_getitem.lookup (getItem_str (c := c) (by
  have e1 : decide (i < -(2 ^ 63 : Int)) = false := decide_eq_false (by lia)
  have e2 : decide (i ≥ 2 ^ 63) = false := decide_eq_false (by lia)
  rw [e1, e2, Bool.or_false]) (by rw [h1]; simpa using h2) ⟨.str ⟨#[c]⟩, H, I.tok _, ⟨_, rfl⟩, q⟩) hs
def rIx (K : PySem.W.Frag) : R2 := fun x y H Q => rIxL K x y H Q ∨ rIxT K x y H Q ∨ rIxS x y H Q
theorem ix_seq : IxR X (rIx X.K) := ix_list.or (ix_tup.or ix_str)
theorem mapSeq_set (its : List Value) (n j : Nat) (u : Value) : Obj.mapSeq (·.setIfInBounds j u) { cls := .type "list", data := .seq its.toArray n } = { cls := .type "list", data := .seq (its.set j u).toArray n } := by
 simp [Obj.mapSeq]
theorem Inv.lst {pins : List (Addr × Obj)} {σ : St} {H : Hp} {s : Shared} {p : Addr} {xs : List V} (I : Inv X pins σ H s) (h : H p = some (.lst xs)) :
  ∃ (its : List Value) (n : Nat), Vals xs its ∧ s.heap.get? p = some { cls := .type "list", data := .seq its.toArray n } ∧ xs.length ≤ sizeLine := by
 obtain ⟨z, its, n, r, e⟩ := I.hok p _ h
 exact ⟨its, n, r, e, z⟩
theorem Inv.lstUpd {pins : List (Addr × Obj)} {σ : St} {H : Hp} {s : Shared} {p : Addr} {xs ys : List V} {its its' : List Value} {n n' : Nat} {f : Obj → Obj} (I : Inv X pins σ H s) (h : H p = some (.lst xs))
  (ho : s.heap.get? p = some { cls := .type "list", data := .seq its.toArray n }) (hf : f { cls := .type "list", data := .seq its.toArray n } = { cls := .type "list", data := .seq its'.toArray n' }) (r : Vals ys its') (hz : ys.length ≤ sizeLine) (t : Nat) :
  Inv X pins σ (upd H p (.lst ys)) { s with heap := s.heap.update p f, toks := t } := by
 have e : (s.heap.update p f).get? p = some { cls := .type "list", data := .seq its'.toArray n' } := by
  rw [Heap.get?_update_self f ho (by rw [hf] <;> rfl), hf]
 refine I.write (x := p) (e := p) (by rw [h]; trivial) (.inl rfl) (fun b u hb q => (Heap.get?_update_other _ _ (Ne.symm hb)).trans q) ⟨_, e⟩ ?_
 exact ⟨hz, its', n', r, e⟩
def rSetL : V → V → V → Hp → (Hp → Prop) → Prop := fun o i v H Q => ∃ p xs k j, o = .ref p ∧ i = .int k ∧ H p = some (.lst xs) ∧ ixN xs.length k = some j ∧ Q (upd H p (.lst (xs.set j v)))
theorem set_list : PSet X rSetL := by
 intro pins s σ H o i v ov iv u Q I ro ri rv h
 obtain ⟨p, xs, k, j, rfl, rfl, hp, hj, q⟩ := h
 cases ro
 obtain ⟨t, rfl⟩ := ri
 obtain ⟨its, n, r, ho, hz⟩ := I.lst hp
 obtain ⟨h1, h2, h3, h4⟩ := ixN_seq hj
 have hl := r.length
 have hn := line63
 have I' : Inv X pins σ (upd H p (.lst (xs.set j v))) { s with heap := s.heap.update p (Obj.mapSeq (·.setIfInBounds j u)) } :=
  I.lstUpd hp ho (mapSeq_set its n j u) (r.set rv j) (by rw [List.length_set]; exact hz) s.toks
 by_cases h0 : 0 ≤ k
 · have hk : k.toNat = j := by
     rw [seqIndex_of h0 h4] at h1
     exact Option.some.inj h1
   exact PySem.W.ki_setAt ho h0 (by lia) (by rw [List.size_toArray, ← hl]; exact h4) (by rw [hk]; exact ⟨_, I', q⟩)
 · have hk : (k + (its.toArray.size : Int)).toNat = j := by
     rw [seqIndex_neg (by lia) h3] at h1
     rw [List.size_toArray, ← hl]
     exact Option.some.inj h1
   exact PySem.W.ki_setBack ho (by lia) (by rw [List.size_toArray, ← hl]; exact h3) (by lia) (by rw [hk]; exact ⟨_, I', q⟩)
theorem slice_bounds (lo hi : Option Int) (n : Nat) : (sliceBounds lo hi none n).1 = ((HT.sIx n 0 lo : Nat) : Int) ∧ (sliceBounds lo hi none n).2.1 = ((HT.sIx n n hi : Nat) : Int) ∧ (sliceBounds lo hi none n).2.2 = 1 := by
 refine ⟨?_, ?_, rfl⟩
 · cases lo with
   | none => simp [sliceBounds, HT.sIx]
   | some i =>
    simp only [sliceBounds, HT.sIx, Option.getD_none, show (1 : Int) > 0 by decide, if_true]
    by_cases h : i < 0
    · simp only [h, if_true] <;> lia
    · simp only [h, if_false] <;> lia
 · cases hi with
   | none => simp [sliceBounds, HT.sIx]
   | some i =>
    simp only [sliceBounds, HT.sIx, Option.getD_none, show (1 : Int) > 0 by decide, if_true]
    by_cases h : i < 0
    · simp only [h, if_true] <;> lia
    · simp only [h, if_false] <;> lia
theorem slicePick_cut (its : List Value) (lo hi : Option Int) : slicePick its.toArray lo hi none = ((its.drop (HT.sIx its.length 0 lo)).take (HT.sIx its.length its.length hi - HT.sIx its.length 0 lo)).toArray := by
 obtain ⟨h1, h2, h3⟩ := slice_bounds lo hi its.toArray.size
 unfold slicePick
 rw [h1, h2, h3]
 simp only [sliceRange_one, pick_run, List.size_toArray] <;> rfl
def rSlL (K : PySem.W.Frag) : V → Option Int → Option Int → Hp → VK → Prop := fun x lo hi H Q => ∃ a xs, x = .ref a ∧ SqL K H a xs ∧ ∀ p, H p = none → Q (.ref p) (upd H p (.lst (cutV xs lo hi)))
theorem sl_list : SlR X (rSlL X.K) := by
 intro pins s σ H x v vl vu lo hi sl Q I rx hs pl pu h
 obtain ⟨a, xs, rfl, hx, q⟩ := h
 cases rx
 obtain ⟨its, r, ht, hz⟩ := I.list hx
 have hlen := r.length
 refine ⟨"list", _, slot_list_getitem.lookup, ht.isList.typeIs, ?_⟩
 refine wpAny_getItem_list_slice ht.isList hs pl pu .none (by simp) ?_ (by rw [List.size_toArray] <;> lia)
 rw [slicePick_cut, ← hlen]
 refine ⟨.ref s.heap.objs.size, _, I.laid (t' := s.toks) (o := .lst (cutV xs lo hi)) (fun b ob q => Heap.get?_push_of_some _ q) (Nat.le_refl _) ?_, rfl, q _ (I.hok.fresh (Nat.le_refl _))⟩
 exact ⟨Nat.le_trans (cutV_length xs lo hi) hz, _, 0, (r.drop (HT.sIx xs.length 0 lo)).take (HT.sIx xs.length xs.length hi - HT.sIx xs.length 0 lo), Heap.get?_push_size _ rfl⟩
noncomputable def flatV : V → Bool
 | .non => true
 | .bl _ => true
 | .int _ => true
 | .str _ => true
 | _ => false
noncomputable def eqV : V → V → Bool
 | .non, .non => true
 | .bl a, .bl b => a == b
 | .bl a, .int b => (if a then 1 else 0) == b
 | .int a, .bl b => a == (if b then 1 else 0)
 | .int a, .int b => a == b
 | .str a, .str b => a == b
 | _, _ => false
theorem eqAt_V {A : Around} {s : Shared} {y x : V} {u v : Value} (ry : RelV y u) (rx : RelV x v) (fy : flatV y = true) (fx : flatV x = true) : SeqAt.EqAt A s u v (eqV y x) := by
 cases y with
 | non =>
  cases ry
  cases x with
  | non => cases rx; exact SeqAt.EqAt.same _
  | bl b => cases rx; exact SeqAt.EqAt.none_bool b
  | int b => obtain ⟨t, rfl⟩ := rx; exact SeqAt.EqAt.none_int b t
  | str b => obtain ⟨t, rfl⟩ := rx; exact SeqAt.EqAt.none_str b t
  | _ => exact absurd (show false = true from fx) Bool.false_ne_true
 | bl a =>
  cases ry
  cases x with
  | non => cases rx; exact SeqAt.EqAt.bool_none a
  | bl b => cases rx; exact SeqAt.EqAt.bool_bool a b
  | int b => obtain ⟨t, rfl⟩ := rx; exact SeqAt.EqAt.bool_int a b t
  | str b => obtain ⟨t, rfl⟩ := rx; exact SeqAt.EqAt.bool_str a b t
  | _ => exact absurd (show false = true from fx) Bool.false_ne_true
 | int a =>
  obtain ⟨t', rfl⟩ := ry
  cases x with
  | non => cases rx; exact SeqAt.EqAt.int_none a t'
  | bl b => cases rx; exact SeqAt.EqAt.int_bool a t' b
  | int b => obtain ⟨t, rfl⟩ := rx; exact SeqAt.EqAt.int_int a t' b t
  | str b => obtain ⟨t, rfl⟩ := rx; exact SeqAt.EqAt.int_str a t' b t
  | _ => exact absurd (show false = true from fx) Bool.false_ne_true
 | str a =>
  obtain ⟨t', rfl⟩ := ry
  cases x with
  | non => cases rx; exact SeqAt.EqAt.str_none a t'
  | bl b => cases rx; exact SeqAt.EqAt.str_bool a t' b
  | int b => obtain ⟨t, rfl⟩ := rx; exact SeqAt.EqAt.str_int a t' b t
  | str b => obtain ⟨t, rfl⟩ := rx; exact SeqAt.EqAt.str_str a t' b t
  | _ => exact absurd (show false = true from fx) Bool.false_ne_true
 | _ => exact absurd (show false = true from fy) Bool.false_ne_true
noncomputable def eqU (x : V) (u : Value) : Bool := match u with
 | .none => eqV .non x
 | .bool b => eqV (.bl b) x
 | .int i _ => eqV (.int i) x
 | .str z _ => eqV (.str z) x
 | _ => false
theorem eqU_of {x y : V} {u : Value} (r : RelV y u) (f : flatV y = true) : eqU x u = eqV y x := by
 cases y with
 | non => cases r; rfl
 | bl b => cases r; rfl
 | int i => obtain ⟨t, rfl⟩ := r; rfl
 | str z => obtain ⟨t, rfl⟩ := r; rfl
 | _ => exact absurd (show false = true from f) Bool.false_ne_true
theorem any_eqU {x : V} : ∀ {xs : List V} {us : List Value}, Vals xs us → xs.all flatV = true → us.any (eqU x) = xs.any fun y => eqV y x
 | _, _, .nil, _ => rfl
 | y :: xs, u :: us, .cons r t, f => by
  rw [List.all_cons, Bool.and_eq_true] at f
  rw [List.any_cons, List.any_cons, eqU_of r f.1, any_eqU t f.2]
theorem mem_eqAt {A : Around} {s : Shared} {x : V} {v : Value} (rx : RelV x v) (fx : flatV x = true) : ∀ {xs : List V} {us : List Value}, Vals xs us → xs.all flatV = true → ∀ u ∈ us, SeqAt.EqAt A s u v (eqU x u)
 | _, _, .nil, _ => fun u hu => by cases hu
 | y :: xs, u :: us, .cons r t, f => fun u' hu => by
  rw [List.all_cons, Bool.and_eq_true] at f
  rcases List.mem_cons.mp hu with rfl | hu
  · rw [eqU_of r f.1]; exact eqAt_V r rx f.1 fx
  · exact mem_eqAt rx fx t f.2 u' hu
noncomputable def inV (x : V) (xs : List V) : Bool := xs.any fun y => eqV y x
def rIn (K : PySem.W.Frag) (neg : Bool) : R2 := fun x y H Q => ∃ p xs, y = .ref p ∧ (SqL K H p xs ∨ SqT K H p xs) ∧ flatV x = true ∧ xs.all flatV = true ∧ Q (.bl (if neg then !inV x xs else inV x xs)) H
theorem op_notIn_seq : OpR X (compareOp .NotIn) (rIn X.K true) := by
 intro pins s σ H x y v u Q I rx ry h
 obtain ⟨p, xs, rfl, hq, fx, fs, q⟩ := h
 cases ry
 rcases hq with hq | hq
 · obtain ⟨its, r, pl, hz⟩ := I.list hq
   refine SeqAt.notIn_listAt (eqU x) pl.isList (fun w hw => mem_eqAt rx fx r fs w (by simpa using hw)) ⟨.bl _, H, I, rfl, ?_⟩
   rw [show its.toArray.any (eqU x) = its.any (eqU x) by simp, any_eqU r fs]
   exact q
 · obtain ⟨its, r, pl, hz⟩ := I.tuple hq
   refine SeqAt.notIn_tupleAt (eqU x) pl (fun w hw => mem_eqAt rx fx r fs w (by simpa using hw)) ⟨.bl _, H, I, rfl, ?_⟩
   rw [show its.toArray.any (eqU x) = its.any (eqU x) by simp, any_eqU r fs]
   exact q
theorem call_len_seq : CallR X (.builtin "len") (fun xs H Q => ∃ p ys, xs = [.ref p] ∧ (SqL X.K H p ys ∨ SqT X.K H p ys) ∧ Q (.int ys.length) H) := by
 intro pins s σ H xs us Q I r h
 obtain ⟨p, ys, rfl, hq, q⟩ := h
 obtain ⟨u, rfl, rx⟩ := vals1 r
 cases rx
 have hn := line63
 rcases hq with hq | hq
 · obtain ⟨its, r', pl, hz⟩ := I.list hq
   have hlen := r'.length
   exact Calls.call_len_list pl.isList (by simp only [List.size_toArray] <;> lia) ⟨.int ys.length, H, I.tok _, ⟨s.toks + 1, by rw [List.size_toArray, hlen]⟩, q⟩
 · obtain ⟨its, r', pl, hz⟩ := I.tuple hq
   have hlen := r'.length
   exact len_tuple pl (by simp only [List.size_toArray] <;> lia) ⟨.int ys.length, H, I.tok _, ⟨s.toks + 1, by rw [List.size_toArray, hlen]⟩, q⟩
theorem call_list_of : CallR X (.type "list") (fun xs H Q => ∃ p ys, xs = [.ref p] ∧ (SqL X.K H p ys ∨ SqT X.K H p ys) ∧ ∀ l, H l = none → Q (.ref l) (upd H l (.lst ys))) := by
 intro pins s σ H xs us Q I r h
 obtain ⟨p, ys, rfl, hq, q⟩ := h
 obtain ⟨u, rfl, rx⟩ := vals1 r
 cases rx
 have fin : ∀ (its : List Value), Vals ys its → ys.length ≤ sizeLine → ∀ (h' : Heap) (c' : Nat), (∀ b o', s.heap.get? b = some o' → h'.get? b = some o') →
   h'.get? s.heap.objs.size = some { cls := .type "list", dict := none, data := .seq its.toArray c', slots := #[] } → EP X pins σ Q (.ref s.heap.objs.size) { s with heap := h' } := fun its r' hz h' c' kp e =>
  ⟨.ref s.heap.objs.size, _, I.laid (t' := s.toks) kp (Nat.le_refl _) (show ObjOk X.prog X.w _ h' _ (.lst ys) from ⟨hz, its, c', r', e⟩), rfl, q _ (I.hok.fresh (Nat.le_refl _))⟩
 rcases hq with hq | hq
 · obtain ⟨its, r', pl, hz⟩ := I.list hq
   have hlen := r'.length
   obtain ⟨o, ho, hc, n, hd⟩ := pl.isList
   exact call_list_seq p (.inl rfl) ho hc hd (fun h' c' kp e => fin its r' hz h' c' kp e) (by simp only [List.size_toArray] <;> lia)
 · obtain ⟨its, r', pl, hz⟩ := I.tuple hq
   have hlen := r'.length
   obtain ⟨o, ho, hc, n, hd⟩ := pl
   exact call_list_seq p (.inr rfl) ho hc hd (fun h' c' kp e => fin its r' hz h' c' kp e) (by simp only [List.size_toArray] <;> lia)
theorem call_tuple_of : CallR X (.type "tuple") (fun xs H Q => ∃ p ys, xs = [.ref p] ∧ ((SqL X.K H p ys ∧ ∀ l, H l = none → Q (.ref l) (upd H l (.tup ys))) ∨ (SqT X.K H p ys ∧ Q (.ref p) H))) := by
 intro pins s σ H xs us Q I r h
 obtain ⟨p, ys, rfl, h⟩ := h
 obtain ⟨u, rfl, rx⟩ := vals1 r
 cases rx
 rcases h with ⟨hq, q⟩ | ⟨hq, q⟩
 · obtain ⟨its, r', pl, hz⟩ := I.list hq
   have hlen := r'.length
   refine call_tuple_list pl.isList (fun h' kp => ?_) (by simp only [List.size_toArray] <;> lia)
   have I1 : Inv X pins σ H { s with heap := h' } := I.kept (t' := s.toks) kp
   have I2 : Inv X pins σ (upd H h'.objs.size (.tup ys)) { s with heap := h'.push { cls := .type "tuple", data := .seq its.toArray } } :=
    I1.laid (t' := s.toks) (fun b o e => Heap.get?_push_of_some _ e) (Nat.le_refl _) (show ObjOk X.prog X.w _ _ _ (.tup ys) from ⟨hz, its, r', IsTp.new _ _⟩)
   exact ⟨.ref h'.objs.size, _, I2, rfl, q _ (I1.hok.fresh (Nat.le_refl _))⟩
 · obtain ⟨its, r', pl, hz⟩ := I.tuple hq
   exact call_tuple_same pl ⟨.ref p, H, I, rfl, q⟩
def tyV (K : PySem.W.Frag) (T : String) (x : V) (H : Hp) : Prop := match x with
 | .str _ => T = "str"
 | .int _ => T = "int"
 | .ref p => (T = "list" ∧ ∃ xs, SqL K H p xs) ∨ (T = "tuple" ∧ ∃ o, K.lookup p = some o ∧ o.cls = .type "tuple" ∧ o.dict = none) ∨
   (T = "dict" ∧ ((∃ kvs, H p = some (.dK kvs)) ∨ ∃ kvs, H p = some (.dT kvs))) ∨ (T = "set" ∧ ∃ S n, H p = some (.set S n)) ∨ (T = "tuple" ∧ ∃ xs, H p = some (.tup xs))
 | _ => False
theorem tyV_is {pins : List (Addr × Obj)} {σ : St} {H : Hp} {s : Shared} {T : String} {x : V} {v : Value} (I : Inv X pins σ H s) (r : RelV x v) (ty : tyV X.K T x H) :
  s.TypeIs v T ∧ ∀ a, v = .ref a → ∃ ob, s.heap.get? a = some ob ∧ ob.dict = none := by
 cases x with
 | str z =>
  obtain ⟨t, rfl⟩ := r
  cases (show T = "str" from ty)
  exact ⟨typeIs_str s z t, fun _ e => nomatch e⟩
 | int i =>
  obtain ⟨t, rfl⟩ := r
  cases (show T = "int" from ty)
  exact ⟨typeIs_int s i t, fun _ e => nomatch e⟩
 | ref p =>
  cases r
  rcases ty with ⟨rfl, xs, hq⟩ | ⟨rfl, o, hk, hc, hd⟩ | ⟨rfl, hk⟩ | ⟨rfl, S, n, hk⟩ | ⟨rfl, xs, hk⟩
  · obtain ⟨its, _, pl, _⟩ := I.list hq
    refine ⟨pl.isList.typeIs, fun a e => ?_⟩
    cases e
    obtain ⟨o, n, e, c, hd, _⟩ := pl
    exact ⟨o, e, hd⟩
  · refine ⟨⟨o, I.kIn p o hk, hc⟩, fun a e => ?_⟩
    cases e
    exact ⟨o, I.kIn _ o hk, hd⟩
  · have z : ∃ o, s.heap.get? p = some o ∧ o.ExactDict := by
      rcases hk with ⟨kvs, hk⟩ | ⟨kvs, hk⟩
      · obtain ⟨_, _, _, _, o, _, _, e, ex, _⟩ := I.hok p _ hk
        exact ⟨o, e, ex⟩
      · obtain ⟨_, _, _, _, o, _, _, e, ex, _⟩ := I.hok p _ hk
        exact ⟨o, e, ex⟩
    obtain ⟨o, e, ex⟩ := z
    refine ⟨⟨o, e, ex.1⟩, fun a e2 => ?_⟩
    cases e2
    exact ⟨o, e, ex.2.1⟩
  · obtain ⟨o, _, _, _, e, ex, _⟩ := I.hok p _ hk
    refine ⟨⟨o, e, ex.1⟩, fun a e2 => ?_⟩
    cases e2
    exact ⟨o, e, ex.2.1⟩
  · obtain ⟨_, _, _, o, e, c, dn, _⟩ := (show ObjOk X.prog X.w H s.heap p (.tup xs) from I.hok p _ hk)
    refine ⟨⟨o, e, c⟩, fun a e2 => ?_⟩
    cases e2
    exact ⟨o, e, dn⟩
 | _ => exact False.elim ty
def tBM0 (K : PySem.W.Frag) (T : String) (r : V → List V → Hp → VK → Prop) (to : TE) : TE := fun σ H Q => to σ H fun x H1 => tyV K T x H1 ∧ r x [] H1 Q
def tBM (K : PySem.W.Frag) (T : String) (r : V → List V → Hp → VK → Prop) (to : TE) (t : TA) : TE := fun σ H Q => to σ H fun x H1 => tyV K T x H1 ∧ t σ H1 fun xs H2 => r x xs H2 Q
variable {o e : Expr} {es : List Expr} {to : TE} {t : TA} {name : Str} {apos cpos : Pos} {T id : String} {r : V → List V → Hp → VK → Prop}
theorem pe_bm0 (pa : PlainAttrs T) (slot : Slot T name id) (hty : typeOf (.builtin id) = pure (.type "method_descriptor")) (hm : MtR X id r) (ho : PE X o to)
  (hbase : autoParam (attributeBase o name X.env (eval o X.env) = eval o X.env) au5._auto_1) (hline : autoParam ((apos.endLine == cpos.line) = true) au5._auto_1) : PE X (.Call (.Attribute o name apos) [] [] cpos) (tBM0 X.K T r to) := by
 intro pins s σ H Q I h
 refine wpAny_Call_method0_late hbase hline (thn (ho pins s σ H _ I h) fun v s1 zz88 => ?_)
 obtain ⟨x, H1, I1, r1, ty, q1⟩ := zz88
 obtain ⟨h1, h2⟩ := tyV_is I1 r1 ty
 exact ⟨T, id, pa, slot, hty, h1, h2, Calls.callWith_builtin rfl (PySem.evalArgs_none (hm pins s1 σ H1 x [] v [] Q I1 r1 .nil q1))⟩
theorem pe_bm (pa : PlainAttrs T) (slot : Slot T name id) (hty : typeOf (.builtin id) = pure (.type "method_descriptor")) (hm : MtR X id r) (ho : PE X o to) (ha : PA X (e :: es) t)
  (hbase : autoParam (attributeBase o name X.env (eval o X.env) = eval o X.env) au5._auto_1)
  (hfew : autoParam (((backTo cpos (starEach (e :: es) X.env)).all (fun x => !x.1) && (backToKw cpos (keywordEach [] X.env)).all (fun x => x.1.isSome)
   && decide ((e :: es).length + ([] : List Keyword).length + (if ([] : List Keyword).isEmpty then 0 else 1) < 30)) = true) au5._auto_1)
  (hline : autoParam ((apos.endLine == cpos.line) = true) au5._auto_1) (hs : autoParam (starEach (e :: es) X.env = (false, eval e X.env) :: starEach es X.env) au5._auto_1) (hplain : autoParam ((backTo cpos (starEach es X.env)).any (·.1) = false) au5._auto_1) :
  PE X (.Call (.Attribute o name apos) (e :: es) [] cpos) (tBM X.K T r to t) := by
 intro pins s σ H Q I h
 refine wpAny_Call_method_late hbase hfew hline rfl (thn (ho pins s σ H _ I h) fun v s1 zz89 => ?_)
 obtain ⟨x, H1, I1, r1, ty, q1⟩ := zz89
 obtain ⟨h1, h2⟩ := tyV_is I1 r1 ty
 refine ⟨T, id, pa, slot, hty, h1, h2, ?_⟩
 have hA := ha cpos pins s1 σ H1 _ I1 q1
 rw [hs] at hA ⊢
 refine Calls.callWith_builtin (by show (false || (backTo cpos (starEach es X.env)).any (·.1)) = false; rw [hplain] <;> rfl) (Calls.evalArgs_plain ?_)
 exact thn hA fun us s2 zz90 => (by obtain ⟨vs, H2, I2, r2, q2⟩ := zz90; exact (hm pins s2 σ H2 x vs v us Q I2 r1 r2 q2))
end
end L2
namespace L2
open PySem PySem.Spec PyProof.Rows
def MtM (X : Cx) (id : String) (r : V → List V → Hp → VK → Prop) : Prop :=
 ∀ (pins : List (Addr × Obj)) (s : Shared) (σ : St) (H : Hp) (x : V) (xs : List V) (v : Value) (us : List Value) (Q : VK), Inv X pins σ H s → RelV x v → Vals xs us → r x xs H Q →
  wpAny (model X.prog X.w) X.A (call (.builtin id) (v :: us)) (EP X pins σ Q) X.xe s
theorem Vals.one : ∀ {x : V} {us : List Value}, Vals [x] us → ∃ u, us = [u] ∧ RelV x u
 | _, _, .cons r .nil => ⟨_, rfl, r⟩
theorem Vals.zero : ∀ {us : List Value}, Vals [] us → us = []
 | _, .nil => rfl
theorem Vals.dropLast {xs : List V} {us : List Value} (h : Vals xs us) : Vals xs.dropLast us.dropLast := by
 induction h with
 | nil => exact .nil
 | cons r t ih =>
  cases t with
  | nil => exact .nil
  | cons q t' => exact .cons r ih
theorem Vals.rep {xs : List V} {us : List Value} (h : Vals xs us) : ∀ k : Nat, Vals (List.replicate k xs).flatten (List.replicate k us).flatten
 | 0 => .nil
 | k + 1 => by
  rw [List.replicate_succ, List.replicate_succ, List.flatten_cons, List.flatten_cons]
  exact Vals.append h (Vals.rep h k)
theorem erase_last {α : Type} (l : List α) : l.eraseIdx (l.length - 1) = l.dropLast := by
 induction l with
 | nil => rfl
 | cons a r ih =>
  cases r with
  | nil => rfl
  | cons b r =>
   have e : (a :: b :: r).length - 1 = ((b :: r).length - 1) + 1 := by
    have h1 : (a :: b :: r).length = r.length + 2 := rfl
    have h2 : (b :: r).length = r.length + 1 := rfl
    lia
   rw [e, List.eraseIdx_cons_succ, ih]
   all_goals rfl
theorem foldl_rep (its : List Value) : ∀ (k : Nat) (acc : List Value),
  List.foldl (fun x1 x2 => x1 ++ x2) acc.toArray (List.replicate k its.toArray) = (acc ++ (List.replicate k its).flatten).toArray
 | 0, acc => by simp
 | k + 1, acc => by
  have e : acc.toArray ++ its.toArray = (acc ++ its).toArray := by simp
  have e2 : (acc ++ its) ++ (List.replicate k its).flatten = acc ++ (List.replicate (k + 1) its).flatten := by
   rw [List.replicate_succ, List.flatten_cons, List.append_assoc]
  rw [← e2, ← foldl_rep its k (acc ++ its), ← e, List.replicate_succ, List.foldl_cons]
section
variable {X : Cx} {pins : List (Addr × Obj)} {σ : St} {H : Hp} {s : Shared} {l b : Addr} {xs ys zs : List V}
theorem Inv.lset {its its' : List Value} {n : Nat} {f : Array Value → Array Value} {t' : Nat} (I : Inv X pins σ H s) (hH : H l = some (.lst xs))
  (e : s.heap.get? l = some { cls := .type "list", data := .seq its.toArray n }) (hf : f its.toArray = its'.toArray) (hv : Vals ys its') (hz : ys.length ≤ sizeLine) :
  Inv X pins σ (upd H l (.lst ys)) { s with heap := s.heap.update l (Obj.mapSeq f), toks := t' } := by
 have q := PySem.IsL.update e f
 rw [hf] at q
 refine I.write (x := l) (e := l) (by rw [hH]; exact trivial) (.inl rfl) (fun b' u hb hu => (Heap.get?_update_other s.heap (Obj.mapSeq f) (Ne.symm hb)).trans hu) ⟨_, q⟩ ?_
 exact ⟨hz, its', _, hv, q⟩
theorem Inv.lnew {its : List Value} {t' : Nat} (I : Inv X pins σ H s) (hv : Vals ys its) (hz : ys.length ≤ sizeLine) :
  Inv X pins σ (upd H s.heap.objs.size (.lst ys)) { s with heap := s.heap.push { cls := .type "list", data := .seq its.toArray }, toks := t' } :=
 I.laid (fun _ _ q => Heap.get?_push_of_some _ q) (Nat.le_refl _) ⟨hz, its, 0, hv, Heap.get?_push_size _ rfl⟩
theorem Inv.fresh (I : Inv X pins σ H s) : H s.heap.objs.size = none := I.hok.fresh (Nat.le_refl _)
theorem Inv.lstM (I : Inv X pins σ H s) (hH : H l = some (.lst xs)) : xs.length ≤ sizeLine ∧ ∃ (its : List Value) (n : Nat), Vals xs its ∧ xs.length = its.length ∧ s.heap.get? l = some { cls := .type "list", data := .seq its.toArray n } := by
 obtain ⟨z, its, n, r, e⟩ := I.hok l _ hH
 exact ⟨z, its, n, r, r.length, e⟩
theorem notLongL {n : Nat} (h : n ≤ sizeLine) : Builtin.List.listTooLong n = false := by
 unfold Builtin.List.listTooLong
 exact decide_eq_false (by lia)
end
section
variable {X : Cx}
def rAppend : V → List V → Hp → VK → Prop := fun x vs H Q => ∃ l xs y, x = .ref l ∧ vs = [y] ∧ H l = some (.lst xs) ∧ xs.length < sizeLine ∧ Q .non (upd H l (.lst (xs ++ [y])))
theorem mt_append : MtM X "list.append" rAppend := by
 intro pins s σ H x vs v us Q I rx rv h
 obtain ⟨l, xs, y, rfl, rfl, hH, hz, q⟩ := h
 cases rx
 obtain ⟨u, rfl, ru⟩ := rv.one
 obtain ⟨z, its, n, r, hl, e⟩ := I.lstM hH
 refine call_meets F.slot_list_append ⟨_, e, rfl⟩ F.entry_list_append (F.args_list_append_2 _ _) (PySem.list_append l its.toArray n u (by rw [List.size_toArray]; lia)) ⟨e, ?_⟩
 refine ⟨.non, _, I.lset (its' := its ++ [u]) hH e (by simp) (r.append (.cons ru .nil)) ?_, rfl, q⟩
 rw [List.length_append, List.length_singleton]
 lia
def rPop : V → List V → Hp → VK → Prop := fun x vs H Q => ∃ l xs y, x = .ref l ∧ vs = [] ∧ H l = some (.lst xs) ∧ xs[xs.length - 1]? = some y ∧ Q y (upd H l (.lst xs.dropLast))
theorem mt_pop : MtM X "list.pop" rPop := by
 intro pins s σ H x vs v us Q I rx rv h
 obtain ⟨l, xs, y, rfl, rfl, hH, hy, q⟩ := h
 cases rx
 have hus := rv.zero
 subst hus
 obtain ⟨z, its, n, r, hl, e⟩ := I.lstM hH
 obtain ⟨u, hu, ru⟩ := r.get hy
 have hy' : its.toArray[its.toArray.size - 1]? = some u := by
  show its.toArray[its.length - 1]? = some u
  rw [← Array.getElem?_toList, ← hl]
  exact hu
 refine call_meets F.slot_list_pop ⟨_, e, rfl⟩ F.entry_list_pop (F.args_list_pop_1 _) (MeetsSeq.list_pop_last l its.toArray n u hy' (by rw [List.size_toArray]; lia)) ⟨e, ?_⟩
 refine ⟨y, _, I.lset (its' := its.dropLast) hH e ?_ r.dropLast ?_, ru, q⟩
 · show its.toArray.eraseIdxIfInBounds (its.toArray.size - 1) = its.dropLast.toArray
   rw [List.size_toArray, List.eraseIdxIfInBounds_toArray, erase_last]
 · rw [List.length_dropLast]
   lia
def rCat : R2 := fun x y H Q => ∃ l b xs zs, x = .ref l ∧ y = .ref b ∧ H l = some (.lst xs) ∧ H b = some (.lst zs) ∧ xs.length + zs.length ≤ sizeLine ∧ ∀ p, H p = none → Q (.ref p) (upd H p (.lst (xs ++ zs)))
theorem op_cat : OpR X (binaryOp .Add) rCat := by
 intro pins s σ H x y v u Q I rx ry h
 obtain ⟨l, b, xs, zs, rfl, rfl, hH, hB, hz, q⟩ := h
 cases rx
 cases ry
 obtain ⟨z, its, n, r, hl, e⟩ := I.lstM hH
 obtain ⟨z2, its2, n2, r2, hl2, e2⟩ := I.lstM hB
 refine PySem.P.add_list e e2 ?_ (by rw [List.size_toArray, List.size_toArray]; lia)
 have ea : its.toArray ++ its2.toArray = (its ++ its2).toArray := by simp
 rw [ea]
 exact ⟨.ref _, _, I.lnew (t' := s.toks) (r.append r2) (by rw [List.length_append]; lia), rfl, q _ I.fresh⟩
def rRep : R2 := fun x y H Q => ∃ l k xs, x = .ref l ∧ y = .int k ∧ H l = some (.lst xs) ∧ -(2 ^ 63) ≤ k ∧ k < 2 ^ 63 ∧ xs.length * k.toNat ≤ sizeLine ∧
 ∀ p, H p = none → Q (.ref p) (upd H p (.lst (List.replicate k.toNat xs).flatten))
theorem len_rep {α : Type} (xs : List α) (k : Nat) : (List.replicate k xs).flatten.length = k * xs.length := by
 induction k with
 | zero => simp
 | succ k ih => rw [List.replicate_succ, List.flatten_cons, List.length_append, ih, Nat.succ_mul, Nat.add_comm]
theorem op_rep : OpR X (binaryOp .Mult) rRep := by
 intro pins s σ H x y v u Q I rx ry h
 obtain ⟨l, k, xs, rfl, rfl, hH, h1, h2, hz, q⟩ := h
 cases rx
 obtain ⟨t, rfl⟩ := ry
 obtain ⟨z, its, n, r, hl, e⟩ := I.lstM hH
 have hlen : its.toArray.size * k.toNat ≤ sizeLine := by rw [List.size_toArray, ← hl]; exact hz
 have hcap : ¬ its.toArray.size * k.toNat > (2 ^ 63 - 1) / 8 := by
  have : (sizeLine : Nat) ≤ (2 ^ 63 - 1) / 8 := by decide
  lia
 have hfit : ¬ (!Builtin.List.listFitsIndex k) = true := by
  rw [fitsIndex_both h1 h2]
  exact Bool.false_ne_true
 have hlong : ¬ Builtin.List.listTooLong (its.toArray.size * k.toNat) = true := by
  rw [notLongL hlen]
  exact Bool.false_ne_true
 have hnew : List.foldl (fun x1 x2 => x1 ++ x2) #[] (List.replicate (if its.toArray.isEmpty = true then 0 else k.toNat) its.toArray) = (List.replicate k.toNat its).flatten.toArray := by
  have f0 : ∀ m : Nat, List.foldl (fun x1 x2 => x1 ++ x2) #[] (List.replicate m its.toArray) = (List.replicate m its).flatten.toArray := fun m => by
   have := foldl_rep its m []
   rw [List.nil_append] at this
   exact this
  rw [f0]
  cases its with
  | nil => simp
  | cons a r' => rw [if_neg (by simp)]
 refine wpAny_binaryOp_repeat_ref (T := "list") (U := "int") (by decide) ⟨_, e, rfl⟩ (fun s' => typeIs_int s' k t) noFill_list_mul F.fills_int_mul F.slot_int_rmul repeat_list F.slot_int_index.lookup
  (call_meets F.slot_int_rmul (typeIs_int s k t) F.entry_int_rmul (F.args_int_rmul_2 _ _) (int___rmul___int_list k t l its.toArray n)
   ⟨e, rfl, ⟨_, e, rfl⟩, call_meets F.slot_list_mul ⟨_, e, rfl⟩ F.entry_list_mul (F.args_list_mul_2 _ _) (AutoListH.list___mul___list_int_3 l its.toArray n k t hfit hcap hlong) ⟨e, ?_⟩⟩)
 rw [hnew]
 exact ⟨.ref _, _, I.lnew (t' := s.toks) (r.rep k.toNat) (by rw [len_rep, Nat.mul_comm]; exact hz), rfl, q _ I.fresh⟩
end
end L2
namespace L2
open PySem PySem.Spec PyProof.Rows
section
variable {κ : Type} [DecidableEq κ]
noncomputable def valV (kvs : List (κ × V)) (k : κ) : Option V := (kvs.find? fun kv => decide (kv.1 = k)).map (·.2)
noncomputable def putK (kvs : List (κ × V)) (k : κ) (v : V) : List (κ × V) :=
 if (kvs.any fun kv => decide (kv.1 = k)) = true then kvs.map (fun kv => if kv.1 = k then (kv.1, v) else kv) else kvs ++ [(k, v)]
theorem valV_pos {p : κ × V} {r : List (κ × V)} {k : κ} (e : p.1 = k) : valV (p :: r) k = some p.2 := by simp [valV, List.find?_cons, e]
theorem valV_neg {p : κ × V} {r : List (κ × V)} {k : κ} (e : ¬ p.1 = k) : valV (p :: r) k = valV r k := by simp [valV, List.find?_cons, e]
theorem valV_any (k : κ) : ∀ kvs : List (κ × V), (kvs.any fun kv => decide (kv.1 = k)) = (valV kvs k).isSome
 | [] => rfl
 | p :: r => by
  rw [List.any_cons]
  by_cases e : p.1 = k
  · simp only [valV_pos e, decide_eq_true e, Bool.true_or, Option.isSome_some]
  · rw [valV_neg e, decide_eq_false e, Bool.false_or]; exact valV_any k r
theorem length_putK (kvs : List (κ × V)) (k : κ) (v : V) : (putK kvs k v).length ≤ kvs.length + 1 := by
 unfold putK
 split
 · rw [List.length_map]; lia
 · rw [List.length_append, List.length_cons, List.length_nil]; lia
theorem RelO.isSome_eq {o : Option V} {u : Option Value} (r : RelO o u) : o.isSome = u.isSome := by
 cases o with
 | none => cases u with
  | none => rfl
  | some _ => exact (show False from r).elim
 | some _ => cases u with
  | none => exact (show False from r).elim
  | some _ => rfl
theorem KV.val {kvs : List (κ × V)} {vs : List (κ × Value)} (r : KV kvs vs) (k : κ) : RelO (valV kvs k) (valueAt vs k) := by
 unfold KV at r
 induction r with
 | nil => exact True.intro
 | @cons p q ps qs h t ih =>
  obtain ⟨h1, h2⟩ := h
  by_cases e : p.1 = k
  · have e' : q.1 = k := h1.symm.trans e
    have b : valueAt (q :: qs) k = some q.2 := by simp [valueAt, List.find?_cons, e']
    rw [valV_pos e, b]; exact h2
  · have e' : ¬ q.1 = k := fun z => e (h1.trans z)
    have b : valueAt (q :: qs) k = valueAt qs k := by simp [valueAt, List.find?_cons, e']
    rw [valV_neg e, b]; exact ih
theorem KV.any {kvs : List (κ × V)} {vs : List (κ × Value)} (r : KV kvs vs) (k : κ) : (kvs.any fun kv => decide (kv.1 = k)) = vs.any fun kv => decide (kv.1 = k) := by
 unfold KV at r
 induction r with
 | nil => rfl
 | cons h t ih => rw [List.any_cons, List.any_cons, ih, h.1]
theorem KV.repl {kvs : List (κ × V)} {vs : List (κ × Value)} (r : KV kvs vs) (k : κ) {y : V} {u : Value} (ry : RelV y u) :
  KV (kvs.map fun kv => if kv.1 = k then (kv.1, y) else kv) (vs.map fun kv => if kv.1 = k then (kv.1, u) else kv) := by
 unfold KV at r ⊢
 induction r with
 | nil => exact .nil
 | @cons p q ps qs h t ih =>
  rw [List.map_cons, List.map_cons]
  refine .cons ?_ ih
  obtain ⟨h1, h2⟩ := h
  by_cases e : p.1 = k
  · rw [if_pos e, if_pos (h1.symm.trans e)]; exact ⟨h1, ry⟩
  · rw [if_neg e, if_neg (fun z => e (h1.trans z))]; exact ⟨h1, h2⟩
theorem KV.put {kvs : List (κ × V)} {vs : List (κ × Value)} (r : KV kvs vs) (k : κ) {y : V} {u : Value} (ry : RelV y u) : KV (putK kvs k y) (stored vs k u) := by
 unfold putK stored
 rw [r.any k]
 by_cases e : (vs.any fun kv => decide (kv.1 = k)) = true
 · rw [if_pos e, if_pos e]; exact r.repl k ry
 · rw [if_neg e, if_neg e]; exact Paired.snoc r ⟨rfl, ry⟩
theorem KV.length {kvs : List (κ × V)} {vs : List (κ × Value)} (r : KV kvs vs) : kvs.length = vs.length := Paired.length r
end
theorem kV_is {P : Program} {w : World} {k : Key} {u : Value} (r : RelV (kV k) u) : (mixKind P w).is k u = true := by
 cases k with
 | inl i => obtain ⟨t, e⟩ := (show ∃ t, u = Value.int i t from r); subst e; exact mixKind_int P w i t
 | inr x => obtain ⟨t, e⟩ := (show ∃ t, u = Value.str x t from r); subst e; exact mixKind_str P w x t
theorem items_are {P : Program} {w : World} : ∀ {ks : List Key} {us : List Value}, Vals (ks.map kV) us → ItemsAre (mixKind P w) ks us
 | [], _, r => by rw [List.map_nil] at r; cases r; exact .nil
 | k :: ks, _, r => by
  rw [List.map_cons] at r
  cases r with
  | cons h t => exact .cons (kV_is h) (items_are t)
abbrev KT (H : Hp) : List (List Key × V) → List (List Key × Addr × Value) → Prop := Paired fun p q => p.1 = q.1 ∧ H q.2.1 = some (.tup (p.1.map kV)) ∧ RelV p.2 q.2.2
theorem KT.val {H : Hp} {kvs : List (List Key × V)} {xs : List (List Key × Addr × Value)} (r : KT H kvs xs) (k : List Key) : RelO (valV kvs k) ((atKey xs k).map (·.2)) := by
 induction r with
 | nil => exact True.intro
 | @cons p q ps qs h t ih =>
  obtain ⟨h1, _, h2⟩ := h
  by_cases e : p.1 = k
  · have e' : q.1 = k := h1.symm.trans e
    have b : atKey (q :: qs) k = some q.2 := by simp [atKey, List.find?_cons, e']
    rw [valV_pos e, b]; exact h2
  · have e' : ¬ q.1 = k := fun z => e (h1.trans z)
    have b : atKey (q :: qs) k = atKey qs k := by simp [atKey, List.find?_cons, e']
    rw [valV_neg e, b]; exact ih
theorem KT.repl {H : Hp} {kvs : List (List Key × V)} {xs : List (List Key × Addr × Value)} (r : KT H kvs xs) (k : List Key) {y : V} {u : Value} (ry : RelV y u) :
  KT H (kvs.map fun kv => if kv.1 = k then (kv.1, y) else kv) (xs.map (putAt k u)) := by
 induction r with
 | nil => exact .nil
 | @cons p q ps qs h t ih =>
  rw [List.map_cons, List.map_cons]
  refine .cons ?_ ih
  obtain ⟨h1, h2, h3⟩ := h
  unfold putAt
  by_cases e : p.1 = k
  · rw [if_pos e, if_pos (h1.symm.trans e)]; exact ⟨h1, h2, ry⟩
  · rw [if_neg e, if_neg (fun z => e (h1.trans z))]; exact ⟨h1, h2, h3⟩
theorem KT.put {H : Hp} {kvs : List (List Key × V)} {xs : List (List Key × Addr × Value)} (r : KT H kvs xs) (k : List Key) {b : Addr} {y : V} {u : Value} (hb : H b = some (.tup (k.map kV))) (ry : RelV y u) :
  KT H (putK kvs k y) (storedH xs k b u) := by
 have e : (kvs.any fun kv => decide (kv.1 = k)) = (atKey xs k).isSome := by
  rw [valV_any, (r.val k).isSome_eq, Option.isSome_map]
 unfold putK storedH
 rw [e]
 by_cases q : (atKey xs k).isSome = true
 · rw [if_pos q, if_pos q]; exact r.repl k ry
 · rw [if_neg q, if_neg q]; exact Paired.snoc r ⟨rfl, hb, ry⟩
theorem KT.keeps {H H' : Hp} {kvs : List (List Key × V)} {xs : List (List Key × Addr × Value)} (r : KT H kvs xs) (ht : ∀ b ys, H b = some (.tup ys) → H' b = some (.tup ys)) : KT H' kvs xs :=
 Paired.mapP r fun _ _ z => ⟨z.1, ht _ _ z.2.1, z.2.2⟩
section
variable {P : Program} {w : World} {H : Hp} {h : Heap} {a : Addr}
theorem rd_of {u : HO} (ok : HOk P w H h) (e : Rd H a u) : ObjOk P w H h a u := e.ok ok
theorem dk_rd {kvs : List (Key × V)} (ok : HOk P w H h) (e : Rd H a (.dK kvs)) : kvs.length ≤ sizeLine ∧ (a == sysModules) = false ∧ ∃ vs, KV kvs vs ∧ h.DictOf (mixKind P w) a vs :=
 show ObjOk P w H h a (.dK kvs) from rd_of ok e
theorem dk_of {kvs : List (Key × V)} (ok : HOk P w H h) (e : H a = some (.dK kvs)) : kvs.length ≤ sizeLine ∧ (a == sysModules) = false ∧ ∃ vs, KV kvs vs ∧ h.DictOf (mixKind P w) a vs := dk_rd ok (.inl e)
theorem key_of {ks : List Key} (ok : HOk P w H h) (e : H a = some (.tup (ks.map kV))) : (tupleKind (mixKind P w)).is h ks a := by
 obtain ⟨_, its, r, o, h1, h2, _, n, h3⟩ := (show ObjOk P w H h a (.tup (ks.map kV)) from ok a _ e)
 exact ⟨o, its.toArray, n, h1, h2, h3, by simpa using items_are r⟩
theorem dt_rd {kvs : List (List Key × V)} (ok : HOk P w H h) (e : Rd H a (.dT kvs)) : kvs.length ≤ sizeLine ∧ (a == sysModules) = false ∧
  ∃ xs, KT H kvs xs ∧ h.DictOfH (tupleKind (mixKind P w)) a xs := by
 obtain ⟨z, y, xs, r, o, es, ep, h1, h2, h3, h4, h5⟩ := (show ObjOk P w H h a (.dT kvs) from rd_of ok e)
 refine ⟨z, y, xs, r, o, es, ep, h1, h2, h3, h4, fun x hx => ?_, h5⟩
 have all : ∀ {l : List (List Key × V)} {m : List (List Key × Addr × Value)}, KT H l m → ∀ x ∈ m, (tupleKind (mixKind P w)).is h x.1 x.2.1 := by
  intro l m q
  induction q with
  | nil => intro x hx; exact nomatch hx
  | @cons p q ps qs hq t ih =>
   intro x hx
   rcases List.mem_cons.mp hx with e | hx
   · subst e
     exact key_of ok (by rw [← hq.1]; exact hq.2.1)
   · exact ih x hx
 exact all r x hx
theorem dt_of {kvs : List (List Key × V)} (ok : HOk P w H h) (e : H a = some (.dT kvs)) : kvs.length ≤ sizeLine ∧ (a == sysModules) = false ∧
  ∃ xs, KT H kvs xs ∧ h.DictOfH (tupleKind (mixKind P w)) a xs := dt_rd ok (.inl e)
end
def DGet (H : Hp) (a : Addr) (y : V) (r : Option V) : Prop :=
 (∃ kvs k, Rd H a (.dK kvs) ∧ y = kV k ∧ r = valV kvs k) ∨ ∃ kvs k b, Rd H a (.dT kvs) ∧ y = .ref b ∧ H b = some (.tup (k.map kV)) ∧ r = valV kvs k
def DPut (H : Hp) (a : Addr) (y v : V) (H' : Hp) : Prop :=
 (∃ kvs k, H a = some (.dK kvs) ∧ y = kV k ∧ kvs.length < sizeLine ∧ H' = upd H a (.dK (putK kvs k v))) ∨
 ∃ kvs k b, H a = some (.dT kvs) ∧ y = .ref b ∧ H b = some (.tup (k.map kV)) ∧ kvs.length < sizeLine ∧ H' = upd H a (.dT (putK kvs k v))
theorem DGet.k {H : Hp} {a : Addr} {kvs : List (Key × V)} {k : Key} (e : H a = some (.dK kvs)) : DGet H a (kV k) (valV kvs k) := .inl ⟨kvs, k, .inl e, rfl, rfl⟩
theorem DPut.k {H : Hp} {a : Addr} {kvs : List (Key × V)} {k : Key} {v : V} (e : H a = some (.dK kvs)) (hl : kvs.length < sizeLine) : DPut H a (kV k) v (upd H a (.dK (putK kvs k v))) := .inl ⟨kvs, k, e, rfl, hl, rfl⟩
section
variable {X : Cx} {pins : List (Addr × Obj)} {σ : St} {H : Hp} {s : Shared} {a : Addr} {y v : V} {u r : Value} {o : Option V} {A : Around} {E : Value → Shared → Prop}
theorem Inv.big (I : Inv X pins σ H s) : sysModules < s.heap.objs.size := by
 have h : mainGlobals < s.heap.objs.size := (I.mod.glob.keeps I.bk).lt
 exact Nat.lt_trans (by decide) h
theorem d_getItem {Q : Value → Shared → Prop} (hu : A.units + 1 < cLine) (I : Inv X pins σ H s) (g : DGet H a y (some v)) (ry : RelV y u) (h : ∀ w' s', Inv X pins σ H s' → RelV v w' → Q w' s') :
  wpAny (model X.prog X.w) A (getItem (.ref a) u) Q E s := by
 rcases g with ⟨kvs, k, e, ey, l⟩ | ⟨kvs, k, b, e, ey, eb, l⟩
 · subst ey
   obtain ⟨z, hd, vs, rel, dd⟩ := dk_rd I.hok e
   obtain ⟨w', hw, rw'⟩ := RelO.some_of (v := v) (o := valueAt vs k) (by rw [l]; exact rel.val k)
   exact wpAny_getItem_of (kV_is ry) dd.mapOf hw (h w' _ (I.tok _) rw')
 · subst ey
   cases (show u = Value.ref b from ry)
   obtain ⟨z, hd, xs, rel, dd⟩ := dt_rd I.hok e
   obtain ⟨w', hw, rw'⟩ := RelO.some_of (v := v) (o := (atKey xs k).map (·.2)) (by rw [l]; exact rel.val k)
   obtain ⟨p, hp, hp2⟩ := Option.map_eq_some_iff.mp hw
   refine wpAny_getItem_heap (tupleKind_room_in1 hu) (key_of I.hok eb) dd hp ?_
   rw [hp2]
   exact h w' _ (I.tok _) rw'
theorem d_write {h' : Heap} {t' : Nat} {ob : HO} (I : Inv X pins σ H s) (mu : Mut (H a)) (hs : Heap.SameBut a s.heap h') (he : ∃ q, h'.get? a = some q) (new : ObjOk X.prog X.w (upd H a ob) h' a ob) :
  Inv X pins σ (upd H a ob) { s with heap := h', toks := t' } :=
 I.write (x := a) (e := a) mu (.inl rfl) (fun b q hb z => (hs.2 b hb).trans z) he new
theorem dk_new {P : Program} {w : World} {H' : Hp} {h' : Heap} {kvs : List (Key × V)} {vs : List (Key × Value)} (z : kvs.length ≤ sizeLine) (hd : (a == sysModules) = false) (rel : KV kvs vs) (dd : h'.DictOf (mixKind P w) a vs) :
  ObjOk P w H' h' a (.dK kvs) := ⟨z, hd, vs, rel, dd⟩
theorem d_setItem {H' : Hp} {Q : Unit → Shared → Prop} (hu : A.units + 1 < cLine) (I : Inv X pins σ H s) (g : DPut H a y v H') (ry : RelV y u) (rv : RelV v r) (h : ∀ s', Inv X pins σ H' s' → Q () s') :
  wpAny (model X.prog X.w) A (setItem (.ref a) u r) Q E s := by
 rcases g with ⟨kvs, k, e, ey, l, eH⟩ | ⟨kvs, k, b, e, ey, eb, l, eH⟩
 · subst ey eH
   obtain ⟨z, hd, vs, rel, dd⟩ := dk_of I.hok e
   have hz : vs.length ≤ sizeLine := by rw [← rel.length]; exact z
   have hl : (putK kvs k v).length ≤ sizeLine := by have := length_putK kvs k v; lia
   refine wpAny_setItem_pairs (hsz := hz) (kV_is ry) dd fun h' dd' hs => h _ ?_
   have he : ∃ q, h'.get? a = some q := let ⟨q, _, _, hq, _⟩ := dd'; ⟨q, hq⟩
   exact d_write I (by rw [e]; exact True.intro) hs he (dk_new hl hd (rel.put k rv) dd')
 · subst ey eH
   cases (show u = Value.ref b from ry)
   obtain ⟨z, hd, xs, rel, dd⟩ := dt_of I.hok e
   have hz : xs.length ≤ sizeLine := by rw [← Paired.length rel]; exact z
   have hl : (putK kvs k v).length ≤ sizeLine := by have := length_putK kvs k v; lia
   refine wpAny_setItem_heap (hsz := hz) (tupleKind_room_in1 hu) (key_of I.hok eb) dd fun h' dd' hs => h _ ?_
   obtain ⟨q, es, ep, hq, h2, h3, h4, _, h5⟩ := dd'
   refine d_write I (by rw [e]; exact True.intro) hs ⟨q, hq⟩ ⟨hl, hd, _, (rel.put k eb rv).keeps fun c ys ec => ?_, q, es, ep, hq, h2, h3, h4, h5⟩
   rw [upd_ne (ne_of ec e (fun z => nomatch z))]
   exact ec
end
def NoSl (i : Expr) : Prop := ∀ ov iv, subscripted i false ov iv = operate [ov, iv] (getItem ov iv)
theorem subD_of {prog : Program} {w : World} {A : Around} {E : Value → Shared → Prop} {s : Shared} {env : Env} {value slice : Expr} {pos : Pos} {T id : String} {Q : Value → Shared → Prop}
  (hl : typeLookup (.type T) "__getitem__" = pure (some (.builtin id))) (hs : NoSl slice)
  (h : wpAny (model prog w) A (eval value env) (fun o s₁ => wpAny (model prog w) A (eval slice env) (fun i s₂ => s₂.TypeIs o T ∧ wpAny (model prog w) A (getItem o i) Q E s₂) E s₁) E s) :
  wpAny (model prog w) A (eval (.Subscript value slice pos) env) Q E s := by
 refine Subscript_ (wpAny_mono h (fun o s₁ h₁ => wpAny_mono h₁ (fun i s₂ h₂ => ?_) fun _ _ x => x) fun _ _ x => x)
 obtain ⟨hT, h₂⟩ := h₂
 unfold subscriptTail
 refine wpAny_bind ?_
 rw [getitemInPython_of_ne hT.not_modules]
 refine wpAny_bind (wpAny_specialOf hT hl ?_)
 have fin : wpAny (model prog w) A (subscripted slice false o i) (fun r s₃ => wpAny (model prog w) A (letTemporaryGo value o r >>= fun _ => pure r) Q E s₃) E s₂ := by
  rw [hs o i]
  exact wpAny_operating (wpAny_mono h₂ (fun r s₃ h₃ => wpAny_bind (wpAny_letTemporaryGo (wpAny_pure h₃))) fun _ _ x => x)
 first
  | exact wpAny_pure (wpAny_bind fin)
  | exact wpAny_bind (wpAny_pure (wpAny_bind fin))
  | exact wpAny_bind fin
theorem dict_typeIs {X : Cx} {pins : List (Addr × Obj)} {σ : St} {H : Hp} {s : Shared} {a : Addr} {y : V} {o : Option V} (I : Inv X pins σ H s) (g : DGet H a y o) : s.TypeIs (.ref a) "dict" := by
 rcases g with ⟨kvs, k, e, _, _⟩ | ⟨kvs, k, b, e, _, _, _⟩
 · obtain ⟨_, _, vs, _, dd⟩ := dk_rd I.hok e
   exact dd.typeIs
 · obtain ⟨_, _, xs, _, dd⟩ := dt_rd I.hok e
   exact dd.typeIs
def tDGet (td ty : TE) : TE := fun σ H Q => td σ H fun x H1 => ty σ H1 fun y H2 => ∃ a v, x = .ref a ∧ DGet H2 a y (some v) ∧ Q v H2
def sDPut (td ty tv : TE) : TS := fun D σ H => tv σ H fun v H1 => td σ H1 fun x H2 => ty σ H2 fun y H3 => ∃ a H4, x = .ref a ∧ DPut H3 a y v H4 ∧ D.nx σ H4
section
variable {X : Cx} {o i e value : Expr} {pos pos' tpos : Pos} {td ty tv : TE}
theorem pe_dget (hu : X.A.units + 1 < cLine) (ho : PE X o td) (hi : PE X i ty) (hs : NoSl i) : PE X (.Subscript o i pos) (tDGet td ty) := by
 intro pins s σ H Q I h
 refine subD_of PySem.F.slot_dict_getitem.lookup hs (thn (ho pins s σ H _ I h) fun u s1 ⟨x, H1, I1, rx, q1⟩ => thn (hi pins s1 σ H1 _ I1 q1) fun iv s2 zz92 => ?_)
 obtain ⟨y, H2, I2, ry, a, v, ex, g, q2⟩ := zz92
 subst ex
 obtain rfl : u = Value.ref a := rx
 exact ⟨dict_typeIs I2 g, d_getItem hu I2 g ry fun w' s3 I3 rw' => ⟨v, H2, I3, rw', q2⟩⟩
theorem ps_dput (hu : X.A.units + 1 < cLine) (ho : PE X o td) (hi : PE X i ty) (hv : PE X value tv) (hs : swapsWith value (some (.Subscript o i pos')) pos.line X.env = pure false) :
  PS X (.Assign [.Subscript o i pos'] value pos) (sDPut td ty tv) := by
 intro pins s σ H D I h
 refine wpAny_Assign_Subscript (thn (hv pins s σ H _ I h) fun r s1 ⟨v, H1, I1, rv, q1⟩ => thn (ho pins s1 σ H1 _ I1 q1) fun u s2 ⟨x, H2, I2, rx, q2⟩ => thn (hi pins s2 σ H2 _ I2 q2) fun iv s3 zz99 => ?_) hs
 obtain ⟨y, H3, I3, ry, a, H4, ex, g, q3⟩ := zz99
 subst ex
 obtain rfl : u = Value.ref a := rx
 exact d_setItem hu I3 g ry rv fun s4 I4 => ⟨σ, H4, I4, q3⟩
end
theorem dk_empty {P : Program} {w : World} {H : Hp} (h : Heap) (hb : sysModules < h.objs.size) : ObjOk P w H (h.push { cls := .type "dict", data := .dict #[] }) h.objs.size (.dK []) :=
 ⟨Nat.zero_le _, beq_eq_false_iff_ne.mpr (Ne.symm (Nat.ne_of_lt hb)), [], .nil, Heap.DictOf.new h⟩
def tPairs : List (TE × TE) → St → Hp → (List (V × V) → Hp → Prop) → Prop
 | [], _, H, Q => Q [] H
 | (tk, tv) :: r, σ, H, Q => tk σ H fun x H1 => tv σ H1 fun y H2 => tPairs r σ H2 fun ps H3 => Q ((x, y) :: ps) H3
abbrev VV : List (V × V) → List (Value × Value) → Prop := Paired fun p q => RelV p.1 q.1 ∧ RelV p.2 q.2
def PPs (X : Cx) (pos : Pos) (keys : List (Option Expr)) (values : List Expr) (trs : List (TE × TE)) : Prop :=
 ∀ (pins : List (Addr × Obj)) (s : Shared) (σ : St) (H : Hp) (Q : List (V × V) → Hp → Prop), Inv X pins σ H s → tPairs trs σ H Q →
  wpAny (model X.prog X.w) X.A (evalPairs (pairTrees keys values X.env pos)) (fun vs s' => ∃ ps H', Inv X pins σ H' s' ∧ VV ps vs ∧ Q ps H') X.xe s
theorem pps_nil {X : Cx} {pos : Pos} : PPs X pos [] [] [] := fun pins s σ H Q I h => pairTrees_nil_walk ⟨[], H, I, .nil, h⟩
theorem pps_cons {X : Cx} {pos : Pos} {k v : Expr} {ks : List (Option Expr)} {vs : List Expr} {tk tv : TE} {trs : List (TE × TE)} (hk : PE X k tk) (hv : PE X v tv) (hr : PPs X pos ks vs trs) :
  PPs X pos (some k :: ks) (v :: vs) ((tk, tv) :: trs) := fun pins s σ H Q I h =>
 pairTrees_cons_walk (thn (hk pins s σ H _ I h) fun u s1 zz106 => (by obtain ⟨x, H1, I1, rx, q1⟩ := zz106; exact (thn (hv pins s1 σ H1 _ I1 q1) fun w2 s2 zz107 => (by obtain ⟨y, H2, I2, ry, q2⟩ := zz107; exact (
  thn (hr pins s2 σ H2 _ I2 q2) fun ws s3 zz108 => (by obtain ⟨ps, H3, I3, rel, q3⟩ := zz108; exact (⟨(x, y) :: ps, H3, I3, .cons ⟨rx, ry⟩ rel, q3⟩)))))))
noncomputable def mergeK (kvs more : List (Key × V)) : List (Key × V) := more.foldl (fun acc kv => putK acc kv.1 kv.2) kvs
theorem KV.merge : ∀ {more : List (Key × V)} {rs : List (Key × Value)} {kvs : List (Key × V)} {vs : List (Key × Value)}, KV more rs → KV kvs vs → KV (mergeK kvs more) (merged vs rs) := by
 intro more rs kvs vs r
 unfold KV at r
 induction r generalizing kvs vs with
 | nil => intro q; exact q
 | @cons p q ps qs h t ih =>
  intro r0
  have e : KV (putK kvs p.1 p.2) (stored vs q.1 q.2) := by
   have := r0.put p.1 h.2
   rw [← h.1]; exact this
  exact ih e
theorem length_mergeK : ∀ (more kvs : List (Key × V)), (mergeK kvs more).length ≤ kvs.length + more.length
 | [], kvs => by show kvs.length ≤ kvs.length + 0; lia
 | p :: r, kvs => by
  have h1 := length_mergeK r (putK kvs p.1 p.2)
  have h2 := length_putK kvs p.1 p.2
  show (mergeK (putK kvs p.1 p.2) r).length ≤ _
  rw [List.length_cons]; lia
theorem carries_of {P : Program} {w : World} : ∀ {kvs : List (Key × V)} {ws : List (Value × Value)}, VV (kvs.map fun kv => (kV kv.1, kv.2)) ws → ∃ rs, Carries (mixKind P w) ws rs ∧ KV kvs rs
 | [], _, r => by rw [List.map_nil] at r; cases r; exact ⟨[], True.intro, .nil⟩
 | p :: kvs, _, r => by
  rw [List.map_cons] at r
  cases r with
  | @cons a b as bs h t =>
   obtain ⟨rs, c, q⟩ := carries_of (P := P) (w := w) t
   obtain ⟨b1, b2⟩ := b
   exact ⟨(p.1, b2) :: rs, ⟨kV_is h.1, rfl, c⟩, .cons ⟨rfl, h.2⟩ q⟩
def tDisp (trs : List (TE × TE)) : TE := fun σ H Q => ∀ p, H p = none → tPairs trs σ (upd H p (.dK [])) fun ps H2 => H2 p = some (.dK []) ∧ ∃ kvs : List (Key × V), ps = kvs.map (fun kv => (kV kv.1, kv.2)) ∧ kvs.length ≤ 15 ∧ Q (.ref p) (upd H2 p (.dK (mergeK [] kvs)))
theorem pe_disp {X : Cx} {pos : Pos} {keys : List (Option Expr)} {values : List Expr} {trs : List (TE × TE)} (h : PPs X pos keys values trs) (hall : keys.all (·.isSome) = true) (hl : keys.length = values.length) (h0 : keys ≠ [])
  (h15 : keys.length ≤ 15) : PE X (.Dict keys values pos) (tDisp trs) := by
 intro pins s σ H Q I q
 have hn := I.hok.fresh (Nat.le_refl s.heap.objs.size)
 have I1 := I.laid (a := s.heap.objs.size) (o := .dK []) (h' := s.heap.push { cls := .type "dict", data := .dict #[] }) (t' := s.toks) (fun _ _ q => Heap.get?_push_of_some _ q) (Nat.le_refl _) (dk_empty s.heap I.big)
 refine wpAny_Dict_walk (knd := mixKind X.prog X.w) hall hl h0 h15 (thn (h pins _ σ _ _ I1 (q _ hn)) fun ws s2 zz109 => ?_)
 obtain ⟨ps, H2, I2, rel, e, kvs, ep, lk, q2⟩ := zz109
 subst ep
 obtain ⟨rs, c, rk⟩ := carries_of (P := X.prog) (w := X.w) rel
 obtain ⟨z, hd, vs0, r0, dd⟩ := dk_of I2.hok e
 cases r0
 refine ⟨rs, c, dd, fun h' dd' hs => ⟨.ref s.heap.objs.size, _, ?_, rfl, q2⟩⟩
 have hz : (mergeK [] kvs).length ≤ sizeLine := by
  have h1 := length_mergeK kvs []
  rw [List.length_nil] at h1
  rw [sizeLine_eq]; lia
 have he : ∃ q, h'.get? s.heap.objs.size = some q := let ⟨q, _, _, hq, _⟩ := dd'; ⟨q, hq⟩
 exact d_write I2 (by rw [e]; exact True.intro) hs he (dk_new hz hd (rk.merge .nil) dd')
end L2
namespace Att
open PySem PySem.W PySem.Calls PyProof.Rows
theorem ints_of_wellAll {P : Params} {h : Heap} : ∀ (ns : List Int) (vs : List Value), WellAll P h vs (ns.map WData.int) → IntsAre vs ns := by
 intro ns
 induction ns with
 | nil =>
  intro vs w
  rw [List.map_nil] at w
  cases w
  exact .nil
 | cons n ns ih =>
  intro vs w
  rw [List.map_cons] at w
  cases w with
  | cons a b =>
   cases a
   exact .cons _ _ (ih _ b)
theorem script_of {l : OpenLaw} {n : Nat} (hn : l.most = some n) {P : Params} {h : Heap} {args : List WData} {vals : List Value}
  (hpre : l.row.toRowW.claim.pre args = true) (hwl : WellAll P h vals args) :
  ∃ a vs ns, vals = [Value.ref a] ∧ args = [WData.list (ns.map WData.int)] ∧ h.get? a = some { cls := .type "list", data := .seq vs.toArray } ∧ IntsAre vs ns ∧ ns.length ≤ n := by
 have hsh : WShape.hasAll [] args [.list .int] = true := (pre_splitW hpre).1
 have hc : l.pre.holds [] { args := args } = true := (pre_splitW hpre).2
 obtain ⟨d, r, rfl, h1, h2⟩ := hasAllW_cons hsh
 obtain rfl := hasAllW_nil h2
 obtain ⟨xs, rfl, h3⟩ := hasW_list h1
 obtain ⟨ns, rfl⟩ := items_int h3
 have hlen : ns.length ≤ n := by
  unfold OpenLaw.pre at hc
  have h4 : (WTm.not (.lt (.lit (.int (n : Int))) (.len (.arg 0)))).holds [] { args := [.list (ns.map .int)] } = true := by
   have h4 := (holds_andW hc).1
   rw [hn] at h4
   exact h4
  have h5 := condW_of h4 (w_not (w_lt w_lit (w_len_list (w_arg rfl))))
  rw [List.length_map] at h5
  refine Nat.le_of_not_lt fun q => ?_
  have q' : (n : Int) < ((ns.length : Nat) : Int) := by lia
  first
   | (rw [decide_eq_true q'] at h5; exact absurd h5 (by decide))
   | (simp at h5; lia)
 cases hwl with
 | cons w1 w2 =>
  cases w2
  cases w1 with
  | list ho hall => exact ⟨_, _, ns, rfl, rfl, ho, ints_of_wellAll ns _ hall, hlen⟩
theorem post_true (l : OpenLaw) (args : List WData) : l.row.toRowW.claim.post args (.bool true) args = true :=
 postW_of (r := l.row.toRowW) (X := (true == true))
  (show WShape.has [] (.bool true) .bool = true by first | rfl | decide | simp [WShape.has, WShape.arms, WShape.armsAll])
  (show (WTm.eq .res (.lit (.bool true))).value [] { args := args, res := some (.bool true), after := args } = some (.bool (true == true)) from w_eq_bool (w_res rfl) w_lit) rfl
theorem attach_call {l : OpenLaw} {n : Nat} {q : Program} {loose : List Str} {XP : (Str → Option Value) → Heap → Prop} {YP : World → Heap → Prop} {d : DefRec}
  (hn : l.most = some n) (hdf : d.params.defaults = [])
  (call : ∀ (w : World) (s₀ s₁ : Shared) (mg mb : Str → Option Value) (fa : Addr) (o : Obj) (pm cd doc : Value) (a : Addr) (vs : List Value) (ns : List Int),
   Ground q loose [] XP w s₀ mg mb s₁.heap → YP w s₁.heap →
   s₁.heap.get? fa = some o → o.data = .func (docDef d.name d.params d.body d.scope pm cd doc) → s₁.heap.CodeRec cd d.name → mg d.name = some (.ref fa) →
   s₁.heap.get? a = some { cls := .type "list", data := .seq vs.toArray } → IntsAre vs ns → ns.length ≤ n → s₁.gens = #[] →
   codeAny (model l.prog w) callerA (.call (.ref fa) ⟨[.ref a], []⟩) (fun r s' => r = .ok (.ret (.bool true)) ∧ OldK s₁.heap s'.heap ∧ s'.os = s₁.os ∧ AllBare s'.gens) s₁) :
  WalkO q loose XP YP l.row.toRowW d [] (fun f vs => PySem.call f vs) := by
 intro w s₀ s₁ mg mb G Y fa o pm cd doc dV kV ho hd hcd hD hmg hg args vals as hpre hlay hrd hwl hlo
 obtain rfl : dV = .none := Dflts.none hD hdf
 obtain rfl : kV = .none := Dflts.noKw hD
 obtain ⟨a, vs, ns, rfl, rfl, hobj, hints, hlen⟩ := script_of hn hpre hwl
 refine enter_call (codeAny_mono (call w s₀ s₁ mg mb fa o pm cd doc a vs ns G Y ho (fd_plain hd) hcd hmg hobj hints hlen hg) fun r s' hq => ?_)
 obtain ⟨rfl, h2, h3, h4⟩ := hq
 exact ⟨.inl ⟨.bool true, .bool true, [], rfl, fun _ => rfl, .bool true, post_true l _, fun _ => ⟨List.Pairwise.nil, fun _ hm => (nomatch hm)⟩⟩, h2, h3, h4⟩
end Att
namespace L2
open PySem PySem.Spec PyProof.Rows
theorem vals_ints : ∀ {vs : List Value} {ns : List Int}, IntsAre vs ns → Vals (ns.map V.int) vs
 | _, _, .nil => .nil
 | _, _, .cons n t h => .cons ⟨t, rfl⟩ (vals_ints h)
def Only (H : Hp) : Prop := ∀ b, H b = none ∨ ∃ o xs, H b = some (.frz o (.lst xs))
theorem law_call {P : Program} {w : World} {K : PySem.W.Frag} {mg mb : Str → Option Value} {CX : CXT} {k : Nat} {fa a : Addr} {fd : FuncData} {x : Str} {sp : Sp} {s₁ : Shared} {vs : List Value} {ns : List Int}
  (KX : K.In s₁.heap) (hns : s₁.heap.Ns mainGlobals mg) (hb : s₁.heap.Ns builtinsNs mb) (hbb : ∀ x : Str, x ≠ "__name__" → mb x = bootBuiltins x) (hlim : s₁.heap.NoLimit) (hg : s₁.gens = #[])
  (ha : s₁.heap.get? a = some { cls := .type "list", data := .seq vs.toArray }) (hi : IntsAre vs ns) (hl : ns.length ≤ sizeLine) (hr : Room k callerA)
  (F : ∀ base : Heap, K.In base → base.Ns mainGlobals mg → FnOk P w K mg base CX k fa fd [x] sp) (hbind : ∀ (s : Shared) (u : Value), BindsTo s fd ⟨[u], []⟩ [(x, u)])
  (hsp : ∀ H : Hp, Only H → SqL K H a (ns.map V.int) → sp [.ref a] H (fun v _ => v = .bl true) fun _ _ _ => False)
  (hCX : ∀ H e s', CX [] H s₁ (fun _ _ _ => False) e s' → False) :
  codeAny (model P w) callerA (.call (.ref fa) ⟨[.ref a], []⟩) (fun r s' => r = .ok (.ret (.bool true)) ∧ OldK s₁.heap s'.heap ∧ s'.os = s₁.os ∧ AllBare s'.gens) s₁ := by
 have rv := vals_ints hi
 have lenV := hi.length
 have core : ∀ H : Hp, Only H → SqL K H a (ns.map V.int) → HOk P w H s₁.heap → (∀ b, H b ≠ none → b = a) → (H a ≠ none → K.lookup a = none) →
   codeAny (model P w) callerA (.call (.ref fa) ⟨[.ref a], []⟩) (fun r s' => r = .ok (.ret (.bool true)) ∧ OldK s₁.heap s'.heap ∧ s'.os = s₁.os ∧ AllBare s'.gens) s₁ := by
  intro H hO hS hok hA hK
  have base_of : ∀ {b : Addr} {o : Obj}, s₁.heap.get? b = some o → H b = none → (hidT s₁.heap H).get? b = some o := fun e n => hidT_get e n
  have noA : ∀ {b : Addr} {o : Obj} {es : Array DictEntry} {ep : Nat}, s₁.heap.get? b = some o → o.data = .dict es ep → H b = none := fun {b o es ep} e d => by
   cases q : H b with
   | none => rfl
   | some u =>
    have e' : b = a := hA b (by rw [q]; simp)
    subst e'
    rw [ha] at e; cases e
    have d' : Data.seq vs.toArray _ = Data.dict es ep := d
    cases d'
  have nsK : ∀ {b : Addr} {m : Str → Option Value}, s₁.heap.Ns b m → (hidT s₁.heap H).Ns b m := fun {b m} zz122 => (by obtain ⟨o, es, ep, e, d, r⟩ := zz122; exact (⟨o, es, ep, base_of e (noA e d), d, r⟩))
  have hKb : K.In (hidT s₁.heap H) := fun b o e => base_of (KX b o e) (by
   cases q : H b with
   | none => rfl
   | some u =>
    have e' : b = a := hA b (by rw [q]; simp)
    subst e'
    rw [hK (by rw [q]; simp)] at e; cases e)
  have hM : Mod K mg (hidT s₁.heap H) := ⟨hKb, nsK hns, ⟨mb, nsK hb, hbb⟩, let ⟨mc, h1, h2⟩ := hlim; ⟨mc, nsK h1, h2⟩⟩
  have e0 : Env0 P w K mg (hidT s₁.heap H) callerA [] s₁ H := ⟨rfl, hM, fun b o e => of_hidT e, Nat.le_of_eq (hidT_size _ _), trivial, fun b hb => absurd (show b ∈ ([] : List Addr) from hb) (by simp), hok, .of_eq hg⟩
  refine codeAny_mono ((F _ hKb (nsK hns)).run callerA [] s₁ H ⟨[.ref a], []⟩ [.ref a] [.ref a] _ _ hr e0 (hbind s₁ (.ref a)) (.cons rfl .nil) (hsp H hO hS)) fun r s' h => ?_
  cases r with
  | error e => exact (hCX H e s' h).elim
  | ok fl =>
   cases fl with
   | next => exact False.elim h
   | brk => exact False.elim h
   | cont => exact False.elim h
   | ret u =>
    obtain ⟨v, H', os, bare, un, hok', r', q⟩ := h
    have q' : v = .bl true := q
    subst q'
    obtain rfl : u = Value.bool true := r'
    refine ⟨rfl, OldK.of_keep fun b o e => ?_, os, bare⟩
    cases q : H b with
    | none => exact un.keep b o e q (by intro z; exact absurd (show b ∈ ([] : List Addr) from z) (by simp)) (by simp)
    | some u =>
     rcases hO b with z | ⟨ob, xs, z⟩
     · rw [q] at z; cases z
     · have z2 := un.frzs b ob _ z
       obtain ⟨e1, _⟩ := hok b _ z
       obtain ⟨e2, _⟩ := hok' b _ z2
       rw [e] at e1; cases e1
       exact e2
 cases hk : K.lookup a with
 | some o =>
  have e := KX a o hk
  rw [ha] at e
  cases e
  refine core (fun _ => none) (fun _ => .inl rfl) (.inr ⟨_, vs.toArray, _, hk, rfl, rfl, rfl, by rw [List.size_toArray, lenV]; exact hl, by simpa using rv⟩) (fun b u z => by have z' : (none : Option HO) = some u := z; cases z') (fun b z => absurd rfl z) fun z => absurd rfl z
 | none =>
  refine core (fun b => if b = a then some (.frz { cls := .type "list", data := .seq vs.toArray } (.lst (ns.map V.int))) else none) (fun b => ?_) (.inl (.inr ⟨{ cls := .type "list", data := .seq vs.toArray }, if_pos rfl⟩)) (fun b u z => ?_) (fun b z => ?_) fun _ => hk
  · by_cases hb : b = a
    · exact .inr ⟨_, _, if_pos hb⟩
    · exact .inl (if_neg hb)
  · by_cases hb : b = a
    · have z' := (if_pos hb).symm.trans z
      cases z'
      subst hb
      exact ⟨ha, by rw [List.length_map]; exact hl, vs, _, rv, ha⟩
    · have z' := (if_neg hb).symm.trans z
      cases z'
  · by_cases hb : b = a
    · exact hb
    · exact absurd (if_neg hb) z
end L2
namespace L2
open PySem PySem.Spec PyProof.Rows
theorem walk_of {l : PySem.W.OpenLaw} {n k : Nat} {q : Program} {loose : List Str} {XP : (Str → Option Value) → Heap → Prop} {YP : World → Heap → Prop} {d : DefRec} {K : Params → PySem.W.Frag} {CX : World → CXT} {sp : World → Sp} {x : Str}
  (hn : l.most = some n) (hn2 : n ≤ sizeLine) (hdf : d.params.defaults = []) (hr : Room k callerA)
  (hY : ∀ (w : World) (h : Heap), YP w h → (K w.params).In h)
  (F : ∀ (w : World) (mg : Str → Option Value) (fa : Addr) (h : Heap), (K w.params).In h → h.Ns mainGlobals mg → mg d.name = some (.ref fa) →
   ∃ fd : FuncData, (∀ (s : Shared) (u : Value), BindsTo s fd ⟨[u], []⟩ [(x, u)]) ∧
    ∀ base : Heap, (K w.params).In base → base.Ns mainGlobals mg → FnOk l.prog w (K w.params) mg base (CX w) k fa fd [x] (sp w))
  (hsp : ∀ (w : World) (H : Hp) (a : Addr) (ns : List Int), ns.length ≤ n → Only H → SqL (K w.params) H a (ns.map V.int) → sp w [.ref a] H (fun v _ => v = .bl true) fun _ _ _ => False)
  (hCX : ∀ (w : World) (H : Hp) (s : Shared) (e : Value) (s' : Shared), CX w [] H s (fun _ _ _ => False) e s' → False) :
  PySem.W.WalkO q loose XP YP l.row.toRowW d [] (fun f vs => PySem.call f vs) := by
 refine Att.attach_call hn hdf fun w s₀ s₁ mg mb fa o pm cd doc a vs ns G Y ho hd hcd hmg hobj hints hlen hg => ?_
 have KX := hY w _ Y
 obtain ⟨fd, hb, hF⟩ := F w mg fa _ KX G.T.g hmg
 exact law_call KX G.T.g G.T.b G.T.builtins G.T.nolimit hg hobj hints (Nat.le_trans hlen hn2) hr hF hb (fun H hO hS => hsp w H a ns hlen hO hS) fun H e s' => hCX w H s₁ e s'
end L2
namespace L2
open PySem PySem.Spec PyProof.Rows
noncomputable def defArgs (s : Stmt) : Arguments := match s with
 | .FunctionDef _ a _ _ _ _ _ _ _ _ => a
 | _ => { posonlyargs := [], args := [], vararg := none, kwonlyargs := [], kw_defaults := [], kwarg := none, defaults := [] }
noncomputable def defBody (s : Stmt) : List Stmt := match s with
 | .FunctionDef _ _ b _ _ _ _ _ _ _ => b
 | _ => []
noncomputable def defScope (s : Stmt) : Scope := match s with
 | .FunctionDef _ _ _ _ _ _ sc _ _ _ => sc
 | _ => { kind := .function, names := [], isGenerator := false, isCoroutine := false }
abbrev CX0 : CXT := fun _ _ _ _ _ _ => False
abbrev E0 : XK := fun _ _ _ => False
theorem pass0 {X : Cx} : Passes CX0 X E0 := fun _ _ _ _ _ _ _ h => h.elim
structure Fun (K : PySem.W.Frag) (x qual : Str) (st : Stmt) (f : Addr) (fd : FuncData) : Prop where
 ex : ∃ (oc : Value) (od : Option Addr) (kV doc pm : Value) (an : Option Addr) (cdv ct : Value) (osl : Array (Option Value)),
  fd = PySem.W.fnOf x qual (defArgs st) (defBody st) (defScope st) .none kV doc pm an cdv ct ∧ K.lookup f = some ⟨oc, od, .func fd, osl⟩ ∧ PySem.W.codeIn K cdv qual = true
 kp : PySem.W.keepIn K (.ref f) = true
section
variable {P : Program} {w : World} {K : PySem.W.Frag} {mg : Str → Option Value} {base : Heap}
theorem Fun.ok {x qual : Str} {st : Stmt} {f : Addr} {fd : FuncData} {N ps : List Str} {k : Nat} {sp : Sp} (F : Fun K x qual st f fd) (S : FnScope N ps (defScope st)) (len : ∀ vs H Q E, sp vs H Q E → vs.length = ps.length)
  (hbody : ∀ (cdv : Value) (A : Around) (outer : List Env) (s : Shared) (H : Hp) (vs : List V) (Q : VK) (E : XK), Room k (A.deeper (envOfC qual (defScope st) s.heap.objs.size f cdv)) → sp vs H Q E →
   ∃ t, PSs (cxOf CX0 P w K mg base N qual (defScope st) f cdv A outer s H E).nox (defBody st) t ∧ t { nx := fun _ H' => Q .non H', rt := Q } (start N vs) H) : FnOk P w K mg base CX0 (k + 1) f fd ps sp := by
 obtain ⟨oc, od, kV, doc, pm, an, cdv, ct, osl, rfl, lk, hcd⟩ := F.ex
 refine fn_of lk hcd S len fun A outer s H vs Q E hr hsp => ?_
 obtain ⟨t, h, q⟩ := hbody cdv A outer s H vs Q E hr hsp
 exact ⟨t, h.nox, q⟩
theorem Fun.binds {x qual : Str} {st : Stmt} {f : Addr} {fd : FuncData} {ps : List Str} (F : Fun K x qual st f fd)
  (h : ∀ (kV doc pm : Value) (an : Option Addr) (cdv ct : Value) (us : List Value), us.length = ps.length → bindArgs (PySem.W.fnOf x qual (defArgs st) (defBody st) (defScope st) .none kV doc pm an cdv ct) ⟨us, []⟩ = pure (ps.zip us)) : Binds K fd ps [] := by
 obtain ⟨oc, od, kV, doc, pm, an, cdv, ct, osl, rfl, lk, hcd⟩ := F.ex
 exact .all (h kV doc pm an cdv ct)
theorem fun_mk {x qual : Str} {st : Stmt} {f : Addr} {oc : Value} {od an : Option Addr} {osl : Array (Option Value)} {kV doc pm cdv ct : Value} (l : K.lookup f = some ⟨oc, od, .func (PySem.W.fnOf x qual (defArgs st) (defBody st) (defScope st) .none kV doc pm an cdv ct), osl⟩)
  (c : PySem.W.codeIn K cdv qual = true) (k : PySem.W.keepIn K (.ref f) = true) : Fun K x qual st f (PySem.W.fnOf x qual (defArgs st) (defBody st) (defScope st) .none kV doc pm an cdv ct) := ⟨⟨oc, od, kV, doc, pm, an, cdv, ct, osl, rfl, l, c⟩, k⟩
end
theorem hu_of {A : Around} {k : Nat} (hr : Room k A) : A.units + 1 < cLine := Nat.lt_of_le_of_lt (Nat.add_le_add_left (by decide : 1 ≤ 64) _) hr.units
section
variable {X : Cx}
theorem pv (i : Nat) {x : Str} {pos : Pos} (hN : autoParam (X.N[i]? = some x) au5._auto_1) (hv : autoParam (Vis X.env.scope x) au6._auto_1) (hd : autoParam ((x == ("__debug__" : Str)) = false) au2._auto_1)
  (hcd : autoParam ((x == ("__classdict__" : Str)) = false) au2._auto_1) : PE X (.Name x pos) (tVar i) := pe_var hN hv hd hcd
end
theorem iteF {A B : Prop} (h : B) : if false = true then A else B := by
 rw [if_neg Bool.false_ne_true]
 exact h
theorem iteT {A B : Prop} (h : A) : if true = true then A else B := by
 rw [if_pos rfl]
 exact h
theorem ite2 {c A B : Prop} [Decidable c] (h1 : c → A) (h2 : ¬ c → B) : if c then A else B := by
 by_cases h : c
 · rw [if_pos h]
   exact h1 h
 · rw [if_neg h]
   exact h2 h
def Same (H H' : Hp) : Prop := ∀ b o, H b = some o → H' b = some o
end L2
end
section
namespace L2
open PySem PySem.Spec PyProof.Rows
noncomputable def blkEnv (scope : Scope) (cl : List (Str × Addr)) (C : Addr) (env : Env) : Env :=
 { scope := relabel scope env, locals := C, globals := env.globals, cells := cellsFrom (C + 1) scope.names cl, qual := env.qual, func := none, code := env.code, frame := env.frame, builtins := env.builtins }
noncomputable def blk (X : Cx) (N : List Str) (scope : Scope) (s : Shared) (H : Hp) (cl : List (Str × Addr)) (C : Addr) (ex : List Addr) : Cx :=
 { X with N := N, s₀ := s, H₀ := H, env := blkEnv scope cl C X.env, outer := X.stack, ex := ex, fn := fun x => decide (scope.names.lookup x = some .cell), pn := [], xe := fun _ _ => False }
theorem cellsFrom_app : ∀ (names : List (Str × NameKind)) (n : Nat) (acc : List (Str × Addr)), cellsFrom n names acc = cellsFrom n names [] ++ acc
 | [], _, _ => rfl
 | (name, kind) :: r, n, acc => by
  unfold cellsFrom
  split
  · rw [cellsFrom_app r (n + 1) ((name, n) :: acc), cellsFrom_app r (n + 1) [(name, n)], List.append_assoc]; rfl
  · exact cellsFrom_app r n acc
theorem cellsFrom_mem : ∀ (names : List (Str × NameKind)) (n : Nat) {x : Str} {c : Addr}, (x, c) ∈ cellsFrom n names [] → (x, NameKind.cell) ∈ names
 | [], _, _, _, h => by simp [cellsFrom] at h
 | (name, kind) :: r, n, x, c, h => by
  unfold cellsFrom at h
  split at h
  · rename_i hk
    rw [cellsFrom_app] at h
    rcases List.mem_append.mp h with q | q
    · exact List.mem_cons_of_mem _ (cellsFrom_mem r _ q)
    · have e : (x, c) = (name, n) := by simpa using q
      cases e
      have : kind = .cell := by simpa using hk
      subst this
      exact List.mem_cons_self
  · exact List.mem_cons_of_mem _ (cellsFrom_mem r _ h)
theorem lookup_mem_nd {α : Type} : ∀ {l : List (Str × α)} {x : Str} {v : α}, (l.map (·.1)).Nodup → (x, v) ∈ l → l.lookup x = some v
 | (k, w) :: r, x, v, nd, h => by
  rw [List.map_cons] at nd
  obtain ⟨h1, h2⟩ := List.nodup_cons.mp nd
  rw [List.lookup_cons]
  rcases List.mem_cons.mp h with e | h'
  · cases e; simp
  · have hne : (x == k) = false := by
      rw [beq_eq_false_iff_ne]
      intro e
      exact h1 (e ▸ List.mem_map.mpr ⟨(x, v), h', rfl⟩)
    rw [hne]
    exact lookup_mem_nd h2 h'
theorem lookup_relabel {env : Env} : ∀ {names : List (Str × NameKind)} {x : Str} {k : NameKind},
  (names.map fun (n, k) => if (k == NameKind.free && env.scope.kind == .function && env.kindOf n == some .cell) then (n, NameKind.cell) else (n, k)).lookup x = some k →
  names.lookup x = some k ∨ (k = .cell ∧ names.lookup x = some .free)
 | [], _, _, h => by simp at h
 | (n, k0) :: r, x, k, h => by
  have ih := @lookup_relabel env r x k
  rw [List.map_cons] at h
  cases hx : x == n with
  | true =>
   by_cases hc : (k0 == NameKind.free && env.scope.kind == .function && env.kindOf n == some .cell) = true
   · dsimp only at h
     rw [if_pos hc, List.lookup_cons, hx] at h
     cases h
     right
     refine ⟨rfl, ?_⟩
     rw [List.lookup_cons, hx]
     simp only [Bool.and_eq_true] at hc
     have : k0 = .free := by simpa using hc.1.1
     rw [this]
   · dsimp only at h
     rw [if_neg hc, List.lookup_cons, hx] at h
     left
     rw [List.lookup_cons, hx]
     exact h
  | false =>
   have h' : (r.map fun (n, k) => if (k == NameKind.free && env.scope.kind == .function && env.kindOf n == some .cell) then (n, NameKind.cell) else (n, k)).lookup x = some k := by
    by_cases hc : (k0 == NameKind.free && env.scope.kind == .function && env.kindOf n == some .cell) = true
    · dsimp only at h
      rw [if_pos hc, List.lookup_cons, hx] at h
      exact h
    · dsimp only at h
      rw [if_neg hc, List.lookup_cons, hx] at h
      exact h
   rw [List.lookup_cons, hx]
   exact ih h'
theorem lookup_relabel_free {env : Env} : ∀ {names : List (Str × NameKind)} {x : Str}, names.lookup x = some .free →
  (names.map fun (n, k) => if (k == NameKind.free && env.scope.kind == .function && env.kindOf n == some .cell) then (n, NameKind.cell) else (n, k)).lookup x = some .free ∨
  (names.map fun (n, k) => if (k == NameKind.free && env.scope.kind == .function && env.kindOf n == some .cell) then (n, NameKind.cell) else (n, k)).lookup x = some .cell
 | [], _, h => by simp at h
 | (n, k0) :: r, x, h => by
  have ih := @lookup_relabel_free env r x
  rw [List.map_cons]
  dsimp only
  cases hx : x == n with
  | true =>
   rw [List.lookup_cons, hx] at h
   cases h
   by_cases hc : (NameKind.free == NameKind.free && env.scope.kind == .function && env.kindOf n == some .cell) = true
   · right; rw [if_pos hc, List.lookup_cons, hx]
   · left; rw [if_neg hc, List.lookup_cons, hx]
  | false =>
   rw [List.lookup_cons, hx] at h
   by_cases hc : (k0 == NameKind.free && env.scope.kind == .function && env.kindOf n == some .cell) = true
   · rw [if_pos hc]; simp only [List.lookup_cons, hx]; exact ih h
   · rw [if_neg hc]; simp only [List.lookup_cons, hx]; exact ih h
theorem closure_of {scope : Scope} {env : Env} (h : ∀ x ∈ scope.names, x.2 = .free → ∃ c, env.cells.lookup x.1 = some c) :
  ∃ cl, closureFor scope env = pure cl ∧ (∀ x c, (x, c) ∈ cl → env.cells.lookup x = some c) ∧ ∀ x, (x, NameKind.free) ∈ scope.names → ∃ c, (x, c) ∈ cl := by
 have gen : ∀ (names : List (Str × NameKind)) (acc : List (Str × Addr)), (∀ x ∈ names, x.2 = .free → ∃ c, env.cells.lookup x.1 = some c) → (∀ x c, (x, c) ∈ acc → env.cells.lookup x = some c) →
   ∃ cl, (forIn names acc (fun (x : Str × NameKind) (cs : List (Str × Addr)) => match x with | (name, kind) => if kind == .free then (do let a ← cellOf env name; pure (ForInStep.yield ((name, a) :: cs))) else pure (ForInStep.yield cs)) : Sem (List (Str × Addr))) = pure cl ∧
    (∀ x c, (x, c) ∈ cl → env.cells.lookup x = some c) ∧ (∀ p ∈ acc, p ∈ cl) ∧ ∀ x, (x, NameKind.free) ∈ names → ∃ c, (x, c) ∈ cl := by
  intro names
  induction names with
  | nil => intro acc _ ha; exact ⟨acc, by rw [List.forIn_nil], ha, fun _ hp => hp, fun x hx => by simp at hx⟩
  | cons p r ih =>
   intro acc hn ha
   obtain ⟨n, k⟩ := p
   rw [List.forIn_cons]
   by_cases hk : (k == NameKind.free) = true
   · have hk' : k = .free := by simpa using hk
     obtain ⟨c, hc⟩ := hn (n, k) List.mem_cons_self hk'
     obtain ⟨cl, e1, e2, e3, e4⟩ := ih ((n, c) :: acc) (fun x hx => hn x (List.mem_cons_of_mem _ hx)) (fun x c' hx => by
      rcases List.mem_cons.mp hx with e | hx
      · cases e; exact hc
      · exact ha x c' hx)
     refine ⟨cl, ?_, e2, fun q hq => e3 q (List.mem_cons_of_mem _ hq), fun x hx => ?_⟩
     · dsimp only
       rw [if_pos hk]
       have : cellOf env n = pure c := by unfold cellOf; rw [hc]
       rw [this]
       exact e1
     · rcases List.mem_cons.mp hx with e | hx
       · cases e; exact ⟨c, e3 _ List.mem_cons_self⟩
       · exact e4 x hx
   · obtain ⟨cl, e1, e2, e3, e4⟩ := ih acc (fun x hx => hn x (List.mem_cons_of_mem _ hx)) ha
     refine ⟨cl, ?_, e2, e3, fun x hx => ?_⟩
     · dsimp only
       rw [if_neg hk]
       exact e1
     · rcases List.mem_cons.mp hx with e | hx
       · cases e; exact absurd rfl hk
       · exact e4 x hx
 obtain ⟨cl, e1, e2, _, e4⟩ := gen scope.names [] h (fun _ _ hx => nomatch hx)
 refine ⟨cl, ?_, e2, e4⟩
 unfold closureFor
 first
  | exact e1
  | (simp only [bind_pure]; exact e1)
section
variable {prog : Program} {w : World} {A : Around} {R : Result → Shared → Prop} {s : Shared}
theorem compLoop_own {elt target iter : Expr} {ifs : List Expr} {scope : Scope} {pos : Pos} {it acc : Value} {env : Env} (I : Nat → Shared → Prop)
  (turn : ∀ n s, I n s → wpAny (model prog w) A (pyNext it) (fun r s₁ => match r with
   | none => R (.ok .next) s₁
   | some v => wpAny (model prog w) A (letOwnedTupleGo target it v) (fun _ s₀ => wpAny (model prog w) A (assign target env v) (fun _ s₂ =>
     wpAny (model prog w) A (forIn ifs true fun c r => if r = true then do let ok ← isTrue c env (eval c env); pure (ForInStep.yield ok) else pure (ForInStep.yield r)) (fun ok s₃ =>
      if ok = true then wpAny (model prog w) A (eval elt env) (fun x s₄ =>
       wpAny (model prog w) A (call (.builtin "list.append") [acc, x]) (fun _ s₅ => ∃ m, m < n ∧ I m s₅) (fun _ _ => False) s₄) (fun _ _ => False) s₃
      else ∃ m, m < n ∧ I m s₃) (fun _ _ => False) s₂) (fun _ _ => False) s₀) (fun _ _ => False) s₁) (fun _ _ => False) s)
  (n : Nat) (h : I n s) : codeAny (model prog w) A (.compLoop (.ListComp elt [⟨target, iter, ifs, 0⟩] scope pos) 0 it acc env) R s := by
 refine codeAny_loop rfl I (fun n s hI => ?_) n h
 show wpAny _ A ((compTurn (.ListComp elt [⟨target, iter, ifs, 0⟩] scope pos) 0 it acc env).onRaise (fun x => do noteFrame x env; theTreesLotGoes x)) _ _ s
 refine wpAny_noted ?_
 rw [compTurn_list]
 refine wpAny_bind (wpAny_standAt (wpAny_bind (wpAny_mono (turn n s hI) (fun r s₁ h₁ => ?_) fun _ _ h' => h'.elim)))
 cases r with
 | none => exact wpAny_pure h₁
 | some v =>
  refine wpAny_bind (wpAny_mono h₁ (fun _ s₀ h₀ => ?_) fun _ _ h' => h'.elim)
  refine wpAny_bind (wpAny_mono h₀ (fun _ s₂ h₂ => wpAny_bind (wpAny_mono h₂ (fun ok s₃ h₃ => ?_) fun _ _ h' => h'.elim)) fun _ _ h' => h'.elim)
  cases ok with
  | false => exact wpAny_pure ⟨rfl, h₃⟩
  | true =>
   exact wpAny_bind (wpAny_bind (wpAny_mono h₃ (fun x s₄ h₄ => wpAny_bind (wpAny_mono h₄ (fun _ s₅ h₅ => wpAny_pure (wpAny_pure ⟨rfl, h₅⟩)) fun _ _ h' => h'.elim)) fun _ _ h' => h'.elim))
end
def PF (X : Cx) (ifs : List Expr) (t : TT) : Prop :=
 ∀ (pins : List (Addr × Obj)) (s : Shared) (σ : St) (H : Hp) (Q : Bool → Hp → Prop), Inv X pins σ H s → t σ H Q →
  wpAny (model X.prog X.w) X.A (forIn ifs true fun c r => if r = true then do let ok ← isTrue c X.env (eval c X.env); pure (ForInStep.yield ok) else pure (ForInStep.yield r)) (TP X pins σ Q) X.xe s
def tTrue : TT := fun _ H Q => Q true H
theorem pf_nil {X : Cx} : PF X [] tTrue := fun _ _ _ H _ I h => wpAny_tests_nil ⟨H, I, h⟩
theorem pf_one {X : Cx} {c : Expr} {t : TT} (h : PT X c t) : PF X [c] t := fun pins s σ H Q I hw => wpAny_tests_one (h pins s σ H Q I hw)
noncomputable def st0 (nt : Nat) (js : List Nat) (σ : St) : St := List.replicate nt none ++ js.map fun j => (σ[j]?).join
structure CpOk (X : Cx) (N : List Str) (nt : Nat) (js : List Nat) (scope : Scope) : Prop where
 kind : scope.kind = .function
 nd : (scope.names.map (·.1)).Nodup
 len : nt ≤ N.length
 cap : js.map (fun j => X.N[j]?) = (N.drop nt).map some
 fr : ∀ x ∈ N.drop nt, scope.names.lookup x = some .free
 see : ∀ x ∈ scope.names, x.2 = .free → X.env.kindOf x.1 = some .cell ∨ X.env.kindOf x.1 = some .free
section
variable {X : Cx} {N : List Str} {nt : Nat} {js : List Nat} {scope : Scope} {pins : List (Addr × Obj)} {σ : St} {H : Hp} {s : Shared}
theorem CpOk.names (S : CpOk X N nt js scope) : ∀ x ∈ scope.names, x.2 = .local → scope.names.lookup x.1 = some .local := fun x hx e => by
 obtain ⟨n, k⟩ := x
 cases e
 exact lookup_mem_nd S.nd hx
theorem blk_start {cl : List (Str × Addr)} {fp : List Addr} (S : CpOk X N nt js scope) (hc : X.calm = true) (I : Inv X pins σ H s) (hf : ∀ b ∈ fp, FpOk X pins H b) (hfs : ∀ b ∈ fp, b < s.heap.objs.size)
  (c1 : ∀ x c, (x, c) ∈ cl → X.env.cells.lookup x = some c) (c2 : ∀ x, (x, NameKind.free) ∈ scope.names → ∃ c, (x, c) ∈ cl) {tk : Nat} :
  Inv (blk X N scope s H cl s.heap.objs.size fp) [] (st0 nt js σ) H { s with heap := pushCells (s.heap.push { cls := .type "dict", data := .dict #[] }) scope.names, toks := tk } := by
 have keep : ∀ b o, s.heap.get? b = some o → (pushCells (s.heap.push { cls := .type "dict", data := .dict #[] }) scope.names).get? b = some o := fun b o e => pushCells_keeps _ _ b o (Heap.get?_push_of_some _ e)
 have ok := cellsFrom_ok scope.names (s.heap.push { cls := .type "dict", data := .dict #[] }) (s.heap.objs.size + 1) [] ⟨fun _ _ hm => (nomatch hm), List.Pairwise.nil⟩ (by rw [Heap.size_push]; exact Nat.le_refl _)
 rw [Heap.size_push] at ok
 have split : ∀ x c, (cellsFrom (s.heap.objs.size + 1) scope.names cl).lookup x = some c → (x, c) ∈ cellsFrom (s.heap.objs.size + 1) scope.names [] ∨ (x, c) ∈ cl := fun x c e => by
  rw [cellsFrom_app] at e
  exact List.mem_append.mp (PySem.mem_of_lookup e)
 have old : ∀ x c, (x, c) ∈ cl → c < s.heap.objs.size := fun x c h => by
  obtain ⟨v, q⟩ := I.cell x c (c1 x c h)
  exact q.lt
 have new : ∀ x c, (x, c) ∈ cellsFrom (s.heap.objs.size + 1) scope.names [] → s.heap.objs.size + 1 ≤ c := fun x c h => (ok.empty x c h).2
 have fresh : ∀ b, s.heap.objs.size ≤ b → H b = none := fun b hb => I.hok.fresh hb
 have clook : ∀ x, scope.names.lookup x = some .free → ∀ c, X.env.cells.lookup x = some c → (cellsFrom (s.heap.objs.size + 1) scope.names cl).lookup x = some c := fun x hx c hcx => by
  obtain ⟨c', hc'⟩ := c2 x (PySem.mem_of_lookup hx)
  have e1 : (cellsFrom (s.heap.objs.size + 1) scope.names []).lookup x = none := by
   cases e : (cellsFrom (s.heap.objs.size + 1) scope.names []).lookup x with
   | none => rfl
   | some d =>
    have := lookup_mem_nd S.nd (cellsFrom_mem _ _ (PySem.mem_of_lookup e))
    rw [hx] at this; cases this
  have e2 : ∃ d, cl.lookup x = some d := by
   cases e : cl.lookup x with
   | some d => exact ⟨d, rfl⟩
   | none =>
    exfalso
    have : ∀ {l : List (Str × Addr)}, (x, c') ∈ l → l.lookup x ≠ none := fun {l} => by
     induction l with
     | nil => intro h; simp at h
     | cons p r ih =>
      intro h
      obtain ⟨k, v⟩ := p
      rw [List.lookup_cons]
      cases hb : x == k with
      | true => simp
      | false =>
       rcases List.mem_cons.mp h with q | q
       · cases q; simp at hb
       · exact ih q
    exact this hc' e
  obtain ⟨d, hd⟩ := e2
  have : d = c := by
   have := c1 x d (PySem.mem_of_lookup hd)
   rw [hcx] at this; cases this; rfl
  subst this
  rw [cellsFrom_app, List.lookup_append, e1, hd]
  rfl
 have fsx : ∀ b, b ≠ X.env.locals → b ∉ X.fs → b ∉ frs X.stack := fun b h1 h2 hb => (List.mem_cons.mp (I.stkSub b hb)).elim h1 h2
 refine ⟨⟨I.ok.mod, S.kind, I.ok.glob, I.ok.blt, Nat.le_refl _, fun x y c e1 e2 => ?_, fun x hx => ?_, fun x c h1 h2 => ?_, I.ok.hd, I.ok.frames, .inl rfl, fun b hb => ⟨?_, fun x c e => ?_⟩, fun b o e => ⟨I.bk b o e, (I.bs b o e).2⟩, ?_, fun b o e hb => ?_, fun b hb => ?_, I.stack, I.stkFree⟩,
  rfl, I.bare, Un.kept keep, ⟨_, (Heap.Ns.new s.heap (.type "dict")).keeps (pushCells_keeps _ _), fun i x v e1 e2 e3 => ?_⟩, fun x c e => ?_, fresh _ (Nat.le_refl _), fun x c e => ?_, fun p hp => absurd (show p ∈ ([] : List (Addr × Obj)) from hp) (by simp), I.hok.kept keep, ?_⟩
 · rcases split x c e1 with h1 | h1 <;> rcases split y c e2 with h2 | h2
   · exact name_of_addr ok.apart h1 h2
   · exact absurd (Nat.lt_of_lt_of_le (old y c h2) (Nat.le_of_succ_le (new x c h1))) (Nat.lt_irrefl _)
   · exact absurd (Nat.lt_of_lt_of_le (old x c h1) (Nat.le_of_succ_le (new y c h2))) (Nat.lt_irrefl _)
   · exact I.ok.inj x y c (c1 x c h1) (c1 y c h2)
 · have own : scope.names.lookup x = some .cell → ∃ c, (cellsFrom (s.heap.objs.size + 1) scope.names cl).lookup x = some c := fun h => by
     obtain ⟨c, e⟩ := cell_has (n := s.heap.objs.size + 1) h
     exact ⟨c, by rw [cellsFrom_app, List.lookup_append, e]; rfl⟩
   have fre : scope.names.lookup x = some .free → ∃ c, (cellsFrom (s.heap.objs.size + 1) scope.names cl).lookup x = some c := fun h => by
    obtain ⟨c, e⟩ := I.ok.has x (S.see _ (PySem.mem_of_lookup h) rfl)
    exact ⟨c, clook x h c e⟩
   rcases hx with h | h <;> rcases lookup_relabel h with q | ⟨z, q⟩
   · exact own q
   · exact fre q
   · exact fre q
   · cases z
 · have h1 : scope.names.lookup x = some .cell := by simpa [blk] using h1
   obtain ⟨d, e⟩ := cell_has (n := s.heap.objs.size + 1) h1
   have h2 : (cellsFrom (s.heap.objs.size + 1) scope.names cl).lookup x = some c := h2
   rw [cellsFrom_app, List.lookup_append, e] at h2
   have : d = c := by simpa using h2
   subst this
   exact Nat.le_of_succ_le (new x d (PySem.mem_of_lookup e))
 · exact Nat.ne_of_lt (hfs b hb)
 · rcases split x c e with h | h
   · exact Nat.ne_of_gt (Nat.lt_of_lt_of_le (hfs b hb) (Nat.le_of_succ_le (new x c h)))
   · exact (hf b hb).2.2.2.2.1 x c (c1 x c h)
 · exact Nat.le_trans I.ok.bsz I.sz
 · rcases (hf b hb).2.2.2.1 with z | z
   · exact I.ok.noex b o e z
   · exact absurd (Nat.lt_of_lt_of_le (Heap.lt_size e) (Nat.le_trans I.ok.bsz z)) (Nat.lt_irrefl _)
 · exact fsx b (hf b hb).2.1 (hf b hb).2.2.1
 · have hi : nt ≤ i := by
     apply Nat.le_of_not_lt
     intro hlt
     unfold st0 at e2
     rw [List.getElem?_append_left (by simpa using hlt), List.getElem?_replicate, if_pos hlt] at e2
     cases e2
   have e2' : (js.map fun j => (σ[j]?).join)[i - nt]? = some (some v) := by
    unfold st0 at e2
    rw [List.getElem?_append_right (by simpa using hi), List.length_replicate] at e2
    exact e2
   rw [List.getElem?_map] at e2'
   have e1' : (N.drop nt)[i - nt]? = some x := by
    rw [List.getElem?_drop]
    have : nt + (i - nt) = i := by lia
    rw [this]; exact e1
   cases hj : js[i - nt]? with
   | none => rw [hj] at e2'; cases e2'
   | some j =>
    rw [hj] at e2'
    have e2'' : (σ[j]?).join = some v := by simpa using e2'
    have hσ : σ[j]? = some (some v) := by
     cases q : σ[j]? with
     | none => rw [q] at e2''; cases e2''
     | some o => rw [q] at e2''; simpa using e2''
    have hX : X.N[j]? = some x := by
     have := congrArg (fun l => l[i - nt]?) S.cap
     simp only [List.getElem?_map, hj, e1', Option.map_some] at this
     exact Option.some.inj this
    have hfree := S.fr x (List.mem_of_getElem? e1')
    have hk := S.see _ (PySem.mem_of_lookup hfree) rfl
    obtain ⟨m, _, hl⟩ := I.loc
    obtain ⟨u, ru, lk⟩ := hl j x v hX hσ (by rcases hk with q | q; exact .inr (.inl q); exact .inr (.inr q))
    refine ⟨u, ru, ?_⟩
    rcases lk with ⟨hk', _⟩ | ⟨_, c, hc1, hcell⟩
    · rcases hk with q | q <;> rw [q] at hk' <;> cases hk'
    · refine .inr ⟨?_, c, clook x hfree c hc1, hcell.keeps keep⟩
      rcases lookup_relabel_free (env := X.env) hfree with q | q
      · exact .inr q
      · exact .inl q
 · rcases split x c e with h | h
   · exact ⟨none, (ok.empty x c h).1⟩
   · obtain ⟨v, q⟩ := I.cell x c (c1 x c h)
     exact ⟨v, q.keeps keep⟩
 · rcases split x c e with h | h
   · exact fresh _ (Nat.le_of_succ_le (new x c h))
   · exact I.freeC x c (c1 x c h)
 · unfold st0
   show _ = N.length
   rw [List.length_append, List.length_replicate, List.length_map]
   have := congrArg List.length S.cap
   rw [List.length_map, List.length_map, List.length_drop] at this
   have := S.len
   lia
end
end L2
end
section
namespace L2
open PySem PySem.Spec PyProof.Rows
def GLow (nt : Nat) (g : TG) : Prop := ∀ v σ H (Q : St → Hp → Prop), g v σ H Q → g v σ H fun σ' H' => Q σ' H' ∧ σ'.length = σ.length ∧ ∀ k, nt ≤ k → σ'[k]? = σ[k]?
def GLows (nt : Nat) (g : TGs) : Prop := ∀ vs σ H (Q : St → Hp → Prop), g vs σ H Q → g vs σ H fun σ' H' => Q σ' H' ∧ σ'.length = σ.length ∧ ∀ k, nt ≤ k → σ'[k]? = σ[k]?
theorem glow_name {nt i : Nat} (h : autoParam (i < nt) au2._auto_1) : GLow nt (gName i) := fun v σ H Q q => ⟨q, by simp, fun k hk => by rw [List.getElem?_set_ne (by lia)]⟩
theorem glow_nil {nt : Nat} : GLows nt gNil := fun vs σ H Q zz1 => (by obtain ⟨e, q⟩ := zz1; exact (⟨e, q, rfl, fun _ _ => rfl⟩))
def GMono (g : TGs) : Prop := ∀ vs σ H (Q Q' : St → Hp → Prop), (∀ σ' H', Q σ' H' → Q' σ' H') → g vs σ H Q → g vs σ H Q'
theorem gmono_nil : GMono gNil := fun vs σ H Q Q' hq zz2 => (by obtain ⟨e, q⟩ := zz2; exact (⟨e, hq _ _ q⟩))
theorem gmono_name {i : Nat} {u : TGs} (hu : GMono u) : GMono (gCons (gName i) u) := fun vs σ H Q Q' hq zz3 => (by obtain ⟨v, r, e, q⟩ := zz3; exact (⟨v, r, e, hu r _ _ Q Q' hq q⟩))
theorem glow_cons {nt i : Nat} {u : TGs} (h : autoParam (i < nt) au2._auto_1) (hm : GMono u) (hu : GLows nt u) : GLows nt (gCons (gName i) u) := fun vs σ H Q zz1 => (by obtain ⟨v, r, e, q⟩ := zz1; exact (by
 refine ⟨v, r, e, hm _ _ _ _ _ (fun σ' H' z => ?_) (hu r (σ.set i (some v)) H Q q)⟩
 obtain ⟨z1, z2, z3⟩ := z
 refine ⟨z1, by simpa using z2, fun k hk => ?_⟩
 rw [z3 k hk, List.getElem?_set_ne (by lia)]))
theorem glow_tup {nt n : Nat} {K : PySem.W.Frag} {t : TGs} (h : GLows nt t) : GLow nt (gTup K n t) := fun v σ H Q zz5 => (by obtain ⟨a, xs, e, sq, l, q⟩ := zz5; exact (⟨a, xs, e, sq, l, h xs σ H Q q⟩))
def CompW (nt : Nat) (js : List Nat) (g : TG) (tc : TT) (te : TE) (σ : St) (Q : VK) (D : Addr) (J : It) (H0 : Hp) : Prop :=
 ∃ W : Nat → Nat → List V → Hp → Prop, (∃ m, W 0 m [] H0) ∧ ∀ i m acc H, W i m acc H →
  (J.stop i H ∧ Q (.ref D) H) ∨ (J.go i H ∧ acc.length < sizeLine ∧ ∃ B : List V → Hp → Prop, (∀ acc' H', B acc' H' → ∃ m', m' < m ∧ W (i + 1) m' acc' H') ∧ ∀ x H', J.yld i H x H' → g x (st0 nt js σ) H' fun σ2 H2 =>
   tc σ2 H2 fun b H3 => if b = true then te σ2 H3 fun v H4 => H4 D = some (.lst acc) ∧ B (acc ++ [v]) (upd H4 D (.lst (acc ++ [v]))) else B acc H3)
def tComp (nt : Nat) (js : List Nat) (wi : TI) (g : TG) (tc : TT) (te : TE) : TE := fun σ H Q => wi σ H fun J H1 => ∀ D, H1 D = none → CompW nt js g tc te σ Q D J (upd H1 D (.lst []))
section
variable {X : Cx} {N : List Str} {nt : Nat} {js : List Nat} {scope : Scope} {pins : List (Addr × Obj)} {σ : St} {H : Hp} {s : Shared}
theorem wpAny_newEnvC {M : Model} {A : Around} {E : Value → Shared → Prop} {cl : List (Str × Addr)} {env : Env} {Q : Env → Shared → Prop} {s : Shared} (h : ∀ cenv : Env, { cenv with scope := relabel scope env } = blkEnv scope cl s.heap.objs.size env → cenv.locals = s.heap.objs.size → Q cenv { s with heap := pushCells (s.heap.push { cls := .type "dict", data := .dict #[] }) scope.names }) :
  wpAny M A (newFunctionEnv scope env.globals cl [] env.qual none .none (some env)) Q E s := by
 simp only [newFunctionEnv, Option.isSome_some, if_true]
 refine wpAny_bind (wpAny_alloc ?_)
 refine wpAny_bind (wpAny_layCells _ (fun name kind cells => by cases hkc : kind == NameKind.cell <;> simp [hkc]) _ _ _ _ ?_)
 rw [show ({ s with heap := s.heap.push { cls := .type "dict", data := .dict #[] } } : Shared).heap.objs.size = s.heap.objs.size + 1 from Heap.size_push ..]
 first
  | exact wpAny_pure (h _ rfl rfl)
  | exact wpAny_bind (wpAny_pure (wpAny_pure (h _ rfl rfl)))
theorem comp_core {elt tg iter : Expr} {ifs : List Expr} {pos : Pos} {g : TG} {tc : TT} {te : TE} {cl : List (Str × Addr)} {Q : VK} {E : Value → Shared → Prop} {RR : Value → Addr → Result → Shared → Prop}
  (S : CpOk X N nt js scope) (hc : X.calm = true)
  (hg : ∀ s H cl C ex, PG (blk X N scope s H cl C ex) tg g) (hlow : GLow nt g) (hf : ∀ s H cl C ex, PF (blk X N scope s H cl C ex) ifs tc) (he : ∀ s H cl C ex, PE (blk X N scope s H cl C ex) elt te)
  {it : Addr} {fp : List Addr} {tn : Nat → Heap → Prop} {J : It} (I : Inv X pins σ H s) (T : Turn X.prog X.w X.K tg J fp it tn) (st : tn 0 s.heap) (ff : ∀ b ∈ fp, FpOk X pins H b)
  (c1 : ∀ x c, (x, c) ∈ cl → X.env.cells.lookup x = some c) (c2 : ∀ x, (x, NameKind.free) ∈ scope.names → ∃ c, (x, c) ∈ cl)
  (R : ∀ D, H D = none → CompW nt js g tc te σ Q D J (upd H D (.lst [])))
  (fin : ∀ (D C : Addr) (s' : Shared) (H' : Hp), Inv X pins σ H' s' → FpOk X pins H' C → (∃ m, s'.heap.Ns C m) → Q (.ref D) H' → RR (.ref D) C (.ok .next) s') :
  wpAny (model X.prog X.w) X.A (newList []) (fun acc s₃ => wpAny (model X.prog X.w) X.A (newFunctionEnv scope X.env.globals cl [] X.env.qual none .none (some X.env)) (fun cenv s₄ =>
   codeAny (model X.prog X.w) X.A (.compStart (.ListComp elt [⟨tg, iter, ifs, 0⟩] scope pos) 0 (.ref it) acc { cenv with scope := relabel scope X.env }) (RR acc cenv.locals) s₄) E s₃) E s := by
 refine wpAny_newObj_type (wpAny_newEnvC fun cenv ecenv eloc => ?_)
 rw [ecenv, eloc]
 dsimp only
 have hD : H s.heap.objs.size = none := I.hok.fresh (Nat.le_refl _)
 obtain ⟨W, ⟨m0, w0⟩, turn⟩ := R s.heap.objs.size hD
 have kD : ∀ b u, s.heap.get? b = some u → (s.heap.push { cls := .type "list", data := .seq ([] : List Value).toArray }).get? b = some u := fun b u e => Heap.get?_push_of_some _ e
 have I3 : Inv X pins σ (upd H s.heap.objs.size (.lst [])) { s with heap := s.heap.push { cls := .type "list", data := .seq ([] : List Value).toArray }, toks := s.toks } :=
  I.laid kD (Nat.le_refl _) ⟨Nat.zero_le _, [], _, .nil, Heap.get?_push_size _ rfl⟩
 have fs : ∀ b ∈ fp, b < s.heap.objs.size := fun b hb => by
  obtain ⟨o, e, _⟩ := T.obj _ _ st b hb
  exact Heap.lt_size e
 have ff3 : ∀ b ∈ fp, FpOk X pins (upd H s.heap.objs.size (.lst [])) b := fun b hb => ⟨by rw [upd_ne (Nat.ne_of_lt (fs b hb))]; exact (ff b hb).1, (ff b hb).2⟩
 have I4 := blk_start (tk := s.toks) S hc I3 ff3 (fun b hb => by show b < (s.heap.push _).objs.size; rw [Heap.size_push]; exact Nat.lt_succ_of_lt (fs b hb)) c1 c2
 dsimp only at I4
 have gsz : (s.heap.push { cls := .type "list", data := .seq ([] : List Value).toArray }).objs.size = s.heap.objs.size + 1 := Heap.size_push ..
 generalize hY : blk X N scope { s with heap := s.heap.push { cls := .type "list", data := .seq ([] : List Value).toArray }, toks := s.toks } (upd H s.heap.objs.size (.lst [])) cl (s.heap.push { cls := .type "list", data := .seq ([] : List Value).toArray }).objs.size fp = Y at I4
 have hY2 := hY
 have Yenv : Y.env = blkEnv scope cl (s.heap.push { cls := .type "list", data := .seq ([] : List Value).toArray }).objs.size X.env := by rw [← hY]; rfl
 have Yprog : Y.prog = X.prog := by rw [← hY]; rfl
 have Yw : Y.w = X.w := by rw [← hY]; rfl
 have YA : Y.A = X.A := by rw [← hY]; rfl
 have YK : Y.K = X.K := by rw [← hY]; rfl
 have Ycalm : Y.calm = true := by rw [← hY]; exact hc
 have Yxe : Y.xe = fun _ _ => False := by rw [← hY]; rfl
 have Yex : Y.ex = fp := by rw [← hY]; rfl
 have Ypn : Y.pn = [] := by rw [← hY]; rfl
 have Yfs : Y.fs = frs X.stack := by rw [← hY]; rfl
 have Ys0 : Y.s₀ = { s with heap := s.heap.push { cls := .type "list", data := .seq ([] : List Value).toArray }, toks := s.toks } := by rw [← hY]; rfl
 have YH0 : Y.H₀ = upd H s.heap.objs.size (.lst []) := by rw [← hY]; rfl
 have hgY : PG Y tg g := by rw [← hY]; exact hg _ _ _ _ _
 have hfY : PF Y ifs tc := by rw [← hY]; exact hf _ _ _ _ _
 have heY : PE Y elt te := by rw [← hY]; exact he _ _ _ _ _
 have hm : (Y.N.length : Nat) = (st0 nt js σ).length := I4.len.symm
 rw [← Yenv, ← Yprog, ← Yw, ← YA]
 have fpY : ∀ {H' : Hp} (_ : ∀ b ∈ fp, H' b = none), ∀ b ∈ fp, FpOk Y [] H' b := fun {H'} hn b hb => by
  refine ⟨hn b hb, (I4.ok.exf b (by rw [Yex]; exact hb)).1, I4.ok.exfs b (by rw [Yex]; exact hb), .inl (by rw [Yex]; exact hb), (I4.ok.exf b (by rw [Yex]; exact hb)).2, fun p hp => ?_⟩
  rw [Ypn] at hp
  simp at hp
 have back : ∀ {H' : Hp} {s' : Shared} {σ' : St}, Inv Y [] σ' H' s' → Inv X pins σ H' s' ∧ FpOk X pins H' Y.env.locals ∧ ∃ m, s'.heap.Ns Y.env.locals m := fun {H' s' σ'} J => by
  have hb : Un (frs X.stack) fp (upd H s.heap.objs.size (.lst [])) H' (s.heap.push { cls := .type "list", data := .seq ([] : List Value).toArray }) s'.heap := by
   have := J.base
   rw [Yfs, Yex, YH0, Ys0] at this
   exact this
  have loc : Y.env.locals = s.heap.objs.size + 1 := by rw [Yenv]; exact gsz
  have os : s'.os = s.os := by
   have := J.os
   rw [Ys0] at this
   exact this
  have hok : HOk X.prog X.w H' s'.heap := by
   have := J.hok
   rw [Yprog, Yw] at this
   exact this
  refine ⟨I3.call' (ch := fp) os hb hok J.bare fun b hb => ⟨(ff b hb).2.2.2.1, (ff b hb).2.1, (ff b hb).2.2.2.2.1, (ff b hb).2.2.2.2.2⟩, ?_, let ⟨m, q, _⟩ := J.loc; ⟨m, q⟩⟩
  exact I.fpOk (by rw [loc]; exact Nat.le_succ _) J.free
 have loop : codeAny (model Y.prog Y.w) Y.A (.compLoop (.ListComp elt [⟨tg, iter, ifs, 0⟩] scope pos) 0 (.ref it) (.ref s.heap.objs.size) Y.env) (RR (.ref s.heap.objs.size) Y.env.locals)
   { s with heap := pushCells ((s.heap.push { cls := .type "list", data := .seq ([] : List Value).toArray }).push { cls := .type "dict", data := .dict #[] }) scope.names } := by
  refine compLoop_own (fun n s' => ∃ i acc H', Inv Y [] (st0 nt js σ) H' s' ∧ tn i s'.heap ∧ (∀ b ∈ fp, H' b = none) ∧ W i n acc H') ?_ m0
   ⟨0, [], _, I4, T.keep _ _ _ st fun b _ o e => pushCells_keeps _ _ b o (Heap.get?_push_of_some _ (kD b o e)), fun b hb => (ff3 b hb).1, w0⟩
  rintro n s5 ⟨i, acc, H5, I5, st5, fr5, w5⟩
  rcases turn i n acc H5 w5 with ⟨stop, q⟩ | ⟨go, hlen, B, hB, step⟩
  · have hd := T.done Y Yprog Yw YK Ycalm i [] s5 _ H5 (fun _ _ => False) I5 (fpY fr5) st5 stop
    rw [← Yprog, ← Yw] at hd
    refine thn hd fun r s6 zz6 => ?_
    obtain ⟨hr, I6⟩ := zz6
    subst hr
    obtain ⟨b1, b2, b3⟩ := back I6
    exact fin _ _ _ _ b1 b2 b3 q
  · have hd := T.item Y Yprog Yw YK Ycalm i [] s5 _ H5 (fun _ _ => False) I5 (fpY fr5) st5 go
    rw [← Yprog, ← Yw] at hd
    refine thn hd fun r s6 zz7 => ?_
    obtain ⟨u, hr, h6⟩ := zz7
    subst hr
    refine thn h6 fun _ s7 zz8 => ?_
    obtain ⟨x, H7, I7, r7, y7, st7, fr7⟩ := zz8
    have I7' := I7.pinned (fpY fr7) (T.obj _ _ st7)
    have g7 := hlow _ _ _ _ (step x H7 y7)
    have h7 := hgY _ s7 _ H7 x u _ I7' r7 g7
    rw [Yxe] at h7
    refine thn h7 fun _ s8 zz9 => ?_
    obtain ⟨σ8, H8, I8, q8, l8, k8⟩ := zz9
    have h8 := hfY _ s8 σ8 H8 _ I8 q8
    rw [Yxe] at h8
    refine thn h8 fun b s9 zz10 => ?_
    obtain ⟨H9, I9, q9⟩ := zz10
    have again : ∀ {H10 : Hp} {s10 : Shared} {acc' : List V}, Inv Y ([] ++ pinsAt fp s7.heap) σ8 H10 s10 → B acc' H10 → ∃ m, m < n ∧ ∃ i acc H', Inv Y [] (st0 nt js σ) H' s10 ∧ tn i s10.heap ∧ (∀ b ∈ fp, H' b = none) ∧ W i m acc H' := fun {H10 s10 acc'} I10 b10 => by
     obtain ⟨m', hm', w10⟩ := hB acc' H10 b10
     refine ⟨m', hm', i + 1, acc', H10, I10.unpinned.weak l8.symm fun k v e => ?_, T.keep _ _ _ st7 fun b hb o e => (I10.pin (b, o) (List.mem_append_right _ (List.mem_append_right _ (mem_pinsAt hb e)))).1, fun b hb => ?_, w10⟩
     · by_cases hk : nt ≤ k
       · rw [k8 k hk]; exact e
       · exfalso
         unfold st0 at e
         rw [List.getElem?_append_left (by simp; lia), List.getElem?_replicate, if_pos (by lia)] at e
         cases e
     · obtain ⟨o, e, d⟩ := T.obj _ _ st7 b hb
       exact (I10.pin (b, o) (List.mem_append_right _ (List.mem_append_right _ (mem_pinsAt hb e)))).2.1
    cases b with
    | false =>
     rw [if_neg Bool.false_ne_true] at q9 ⊢
     exact again I9 q9
    | true =>
     rw [if_pos rfl] at q9 ⊢
     have h9 := heY _ s9 σ8 H9 _ I9 q9
     rw [Yxe] at h9
     refine thn h9 fun y s10 zz11 => ?_
     obtain ⟨v, H10, I10, r10, hD10, q10⟩ := zz11
     have h10 := (mt_append (X := Y) _ s10 σ8 H10 (.ref s.heap.objs.size) [v] (.ref s.heap.objs.size) [y] (fun _ H' => B (acc ++ [v]) H') I10 rfl (.cons r10 .nil) ⟨_, acc, v, rfl, rfl, hD10, hlen, q10⟩)
     rw [Yxe] at h10
     refine thn h10 fun _ s11 zz12 => ?_
     obtain ⟨_, H11, I11, _, q11⟩ := zz12
     exact again I11 q11
 have eloc2 : (s.heap.push { cls := .type "list", data := .seq ([] : List Value).toArray }).objs.size = Y.env.locals := by rw [Yenv]; rfl
 rw [eloc2]
 exact codeAny_compStart_list loop (by rw [Yprog, Yw, YA] at *; exact T.self _ 0 _ _ _ (T.keep _ _ _ st fun b _ o e => pushCells_keeps _ _ b o (Heap.get?_push_of_some _ (kD b o e))) loop)
theorem pe_comp {elt tg iter : Expr} {ifs : List Expr} {pos : Pos} {wi : TI} {g : TG} {tc : TT} {te : TE} (S : CpOk X N nt js scope) (hc : X.calm = true) (hi : PI X tg iter wi)
  (hg : ∀ s H cl C ex, PG (blk X N scope s H cl C ex) tg g) (hlow : GLow nt g) (hf : ∀ s H cl C ex, PF (blk X N scope s H cl C ex) ifs tc) (he : ∀ s H cl C ex, PE (blk X N scope s H cl C ex) elt te)
  (hs : autoParam (∀ x, foldedSetIterable iter X.env x = pure x) au4._auto_1) : PE X (.ListComp elt [⟨tg, iter, ifs, 0⟩] scope pos) (tComp nt js wi g tc te) := by
 intro pins s σ H Q I h
 obtain ⟨cl, hcl, c1, c2⟩ := closure_of (scope := scope) (env := X.env) fun x hx e => I.ok.has x.1 (S.see x hx e)
 rw [eval_ListComp]
 refine wpAny_comprehension_free (use := none) rfl hs hcl S.kind S.names (thn (hi pins s σ H _ I h) fun v s1 h1 => thn h1 fun itv s2 h2 => ?_)
 obtain ⟨it, fp, tn, J, H2, rfl, I2, T, st2, f2, R⟩ := h2
 refine comp_core (RR := fun acc C => compPost (model X.prog X.w) X.A X.xe none (EP X pins σ Q) acc C) S hc hg hlow hf he I2 T st2 f2 c1 c2 R fun D C s' H' I' fo zz13 q => ?_
 obtain ⟨m, hn⟩ := zz13
 refine ⟨m, hn, fun h' sb => ⟨.ref D, H', ?_, rfl, q⟩⟩
 obtain ⟨f0, f1, _, f3, f4, f5⟩ := fo
 exact I'.turned (t' := s'.toks) (fun b o hb e => (sb.2 b hb).trans e) f0 f1 f3 f4 f5
theorem ps_comp {i : Nat} {y : Str} {elt tg iter : Expr} {ifs : List Expr} {pos pos' py : Pos} {wi : TI} {g : TG} {tc : TT} {te : TE} (hN : X.N.Nodup) (hiN : X.N[i]? = some y) (hy : Loc X.env.scope y) (S : CpOk X N nt js scope) (hc : X.calm = true) (hi : PI X tg iter wi)
  (hg : ∀ s H cl C ex, PG (blk X N scope s H cl C ex) tg g) (hlow : GLow nt g) (hf : ∀ s H cl C ex, PF (blk X N scope s H cl C ex) ifs tc) (he : ∀ s H cl C ex, PE (blk X N scope s H cl C ex) elt te)
  (hsw : autoParam (swapsWith (.ListComp elt [⟨tg, iter, ifs, 0⟩] scope pos) (some (.Name y py)) pos'.line X.env = pure true) au5._auto_1) (hs : autoParam (∀ x, foldedSetIterable iter X.env x = pure x) au4._auto_1)
  (hfn : autoParam (X.fn y = true ∨ X.env.scope.names.lookup y = some .local) au1._auto_1) :
  PS X (.Assign [.Name y py] (.ListComp elt [⟨tg, iter, ifs, 0⟩] scope pos) pos') (tAsg (tComp nt js wi g tc te) (gName i)) := by
 intro pins s σ H D I h
 obtain ⟨cl, hcl, c1, c2⟩ := closure_of (scope := scope) (env := X.env) fun x hx e => I.ok.has x.1 (S.see x hx e)
 rw [exec_Assign_Name_used _ _ _ _ hsw]
 refine wpAny_bind (wpAny_standAt (wpAny_bind ?_))
 show wpAny _ _ (do let _ ← comprehension (.ListComp elt [⟨tg, iter, ifs, 0⟩] scope pos) scope X.env _ (newList []) false (eval iter X.env) (some (assign (.Name y py) X.env))) _ _ s
 refine wpAny_bind (wpAny_mono (wpAny_comprehension_free (use := some (assign (.Name y py) X.env)) (Q := fun _ s' => SP X pins D .next s') rfl hs hcl S.kind S.names
  (thn (hi pins s σ H _ I h) fun v s1 h1 => thn h1 fun itv s2 h2 => ?_)) (fun _ s' hq => wpAny_pure (wpAny_pure hq)) fun _ _ e => e)
 obtain ⟨it, fp, tn, J, H2, rfl, I2, T, st2, f2, R⟩ := h2
 refine comp_core (RR := fun acc C => compPost (model X.prog X.w) X.A X.xe (some (assign (.Name y py) X.env)) (fun _ s' => SP X pins D .next s') acc C) (Q := fun x H1 => gName i x σ H1 D.nx) S hc hg hlow hf he I2 T st2 f2 c1 c2 R fun Da C s' H' I' fo zz14 q => ?_
 obtain ⟨m, hn⟩ := zz14
 show wpAny _ _ (assign (.Name y py) X.env (.ref Da)) _ _ _
 obtain ⟨f0, f1, _, f3, f4, f5⟩ := fo
 refine wpAny_assign_Name (store_ok2 I' hN hiN hy (v := .ref Da) rfl (fun s'' I'' zz15 => ?_) hfn)
 obtain ⟨a, sb, ha⟩ := zz15
 have hCa : C ≠ a := by
  rcases ha with z | z
  · rw [z]; exact f1
  · exact Ne.symm (f4 _ _ z)
 refine ⟨m, hn.sameBut sb hCa, fun h' sb' => ⟨_, H', ?_, q⟩⟩
 exact I''.turned (t' := s''.toks) (fun b o hb e => (sb'.2 b hb).trans e) f0 f1 f3 f4 f5
end
end L2
end
section
namespace L2
open PySem PySem.Spec PyProof.Rows
open AutoSeq1 (wpAny_loadPart')
section
variable {prog : Program} {w : World} {A : Around} {E : Value → Shared → Prop} {s : Shared}
theorem initKw {T newId : String} {me : Value} {more : List Value} {kw : List (Str × Value)} (q1 : typeLookup (.type T) "__init__" = pure (some (.builtin "object.__init__")))
  (q2 : Bind.madeBy (.type T) = pure (some newId)) (q3 : (some newId != some "object.__new__") = true) : Meets (Builtin.«object.__init__» ⟨me :: more, kw⟩) (fun _ R s => s.TypeIs me T ∧ R (.ok (.ret .none)) s) := by
 refine Meets.of_wp fun prog w A R s zz1 => ?_
 obtain ⟨hT, hq⟩ := zz1
 cases more with
 | nil =>
  cases kw with
  | nil => exact wpAny_pure ⟨_, rfl, hq⟩
  | cons p r =>
   repeat (any_goals (first | assumption | wp_step))
   all_goals exact ⟨_, rfl, hq⟩
 | cons a r =>
  repeat (any_goals (first | assumption | wp_step))
  all_goals exact ⟨_, rfl, hq⟩
theorem callTyKw {T newId : String} {B : Builtin} {xs : List Value} {kw : List (Str × Value)} {S : PySem.Spec} {Q : Value → Shared → Prop} (ft : TypeCalled T newId "object.__init__") (hne : (some newId != some "object.__new__") = true)
  (c1 : checkTypeCall T ⟨xs, kw⟩ = pure ()) (c2 : checkBuiltinCall newId ⟨.type T :: xs, kw⟩ = pure ()) (c3 : ∀ ob, argsOk "object.__init__" ⟨ob :: xs, kw⟩) (eN : entryFor table newId = some B) (mt : Meets (B ⟨.type T :: xs, kw⟩) S)
  (h : S A.in1 (wants (fun ob z => z.TypeIs ob T ∧ Q ob z) E) s) : wpAny (model prog w) A (call (.type T) xs kw) Q E s := by
 obtain ⟨c, tl, hmro⟩ := ft.mro
 have hmade := ft.made
 have hsub := ft.sub
 refine wpAny_call (codeAny_of_tree (show wpAny _ _ (callAny (.type T) _) _ _ _ from wpAny_pure ⟨Code.quiet_builtin _ (by decide +kernel), codeAny_builtin F.entry_type_call ?_⟩))
 rw [Around.under_plain (weight_type_call_type T xs kw) (units_type_call_type T xs kw)]
 have k1 := ft.notType
 have k2 := ft.canCreate
 repeat (any_goals (first | assumption | wp_step))
 refine codeAny_mono (codeAny_call_builtin ft.plain eN (wpAny_of_eq c2 (mt prog w A.in1 _ s h))) fun r z hr => ?_
 match r, hr with
 | .error e, hr => exact hr
 | .ok (.ret ob), hr =>
  obtain ⟨hT, hq⟩ := hr
  have l1 := ft.init.lookup
  have l2 := ft.init.bind ob
  repeat (any_goals (first | assumption | wp_step))
  refine codeAny_mono (codeAny_call_builtin ft.init.plain F.entry_object_init (ft.init.check _ _ _ _ _ _ _ _ hT (c3 ob) (initKw ft.init.lookup ft.made hne prog w A.in1 (wants (fun v z' => v = .none ∧ Q ob z') E) z ⟨hT, rfl, hq⟩))) fun r2 z2 hr2 => ?_
  match r2, hr2 with
  | .error e, hr2 => exact hr2
  | .ok (.ret v), hr2 =>
   obtain ⟨rfl, hq2⟩ := hr2
   repeat (any_goals (first | assumption | wp_step))
  | .ok .next, hr2 => exact hr2.elim
  | .ok .brk, hr2 => exact hr2.elim
  | .ok .cont, hr2 => exact hr2.elim
 | .ok .next, hr => exact hr.elim
 | .ok .brk, hr => exact hr.elim
 | .ok .cont, hr => exact hr.elim
end
end L2
end
section
namespace L2
open PySem PySem.Spec PyProof.Rows
open AutoSeq1 (wpAny_loadPart')
section
variable {prog : Program} {w : World} {A : Around} {E : Value → Shared → Prop} {s : Shared}
theorem tupNext1 {it t : Addr} {j : Nat} {its : Array Value} {y : Value} {Q : Value → Shared → Prop} (a1 : s.heap.IsTupleIter it t j) (a2 : s.heap.IsTuple t its) (a3 : its[j]? = some y)
  (k : ∀ h', h'.IsTupleIter it t (j + 1) → Heap.SameBut it s.heap h' → Q y { s with heap := h' }) : wpAny (model prog w) A (Builtin.SmallTypes.nextOf (.ref it)) Q E s := by
 obtain ⟨ob, b1, b2, b3⟩ := id a1
 obtain ⟨ot, d1, _, nt, d2⟩ := a2
 unfold Builtin.SmallTypes.nextOf
 refine wpAny_bind (wpAny_callSpecial?_slot (name := Str.ofString "__next__") a1.typeIs F.slot_tuple_iterator_next (wpAny_call_entry F.slot_tuple_iterator_next a1.typeIs F.entry_tuple_iterator_next ?_ (F.args_tuple_iterator_next_1 _)))
 show wpAny _ _ (field (.ref it) 0 >>= _) _ _ s; refine wpAny_bind (wpAny_field b1 b3 (x := .ref t) rfl ?_)
 show wpAny _ _ (if (Value.ref t == Value.none) = true then _ else _) _ _ s; rw [if_neg (show ¬ (Value.ref t == Value.none) = true from fun z => nomatch (show false = true from z))]
 show wpAny _ _ (field (.ref it) 1 >>= _) _ _ s; refine wpAny_bind (wpAny_field b1 b3 (x := .int j 0) rfl ?_)
 show wpAny _ _ (seqItems? (.ref t) >>= _) _ _ s; refine wpAny_bind (wpAny_seqItems d1 d2 ?_); simp only [Int.toNat_natCast, a3]
 refine wpAny_bind (wpAny_setField b1 b3 (by simp) (wpAny_pure ⟨y, rfl, wpAny_pure (k _ ⟨_, Heap.get?_update_self _ b1 (Obj.isFreed_of_fields (Obj.data_mapFields b3 _)), (Obj.cls_mapFields ..).trans b2, by rw [Obj.data_mapFields b3]; simp [rawInt]⟩ (Heap.SameBut.update ..))⟩))
theorem tupNext0 {it t : Addr} {j : Nat} {its : Array Value} {Q : Value → Shared → Prop} (hh : A.handled = none) (a1 : s.heap.IsTupleIter it t j) (a2 : s.heap.IsTuple t its) (a3 : its[j]? = none)
  (k : ∀ h' e, Heap.ExtBut it s.heap h' → (∃ o, h'.get? e = some o ∧ o.cls = .type "StopIteration") → E (.ref e) { s with heap := h' }) : wpAny (model prog w) A (Builtin.SmallTypes.nextOf (.ref it)) Q E s := by
 obtain ⟨ob, b1, b2, b3⟩ := id a1
 obtain ⟨ot, d1, _, nt, d2⟩ := a2
 unfold Builtin.SmallTypes.nextOf
 refine wpAny_bind (wpAny_callSpecial?_slot (name := Str.ofString "__next__") a1.typeIs F.slot_tuple_iterator_next (wpAny_call_entry F.slot_tuple_iterator_next a1.typeIs F.entry_tuple_iterator_next ?_ (F.args_tuple_iterator_next_1 _)))
 show wpAny _ _ (field (.ref it) 0 >>= _) _ _ s; refine wpAny_bind (wpAny_field b1 b3 (x := .ref t) rfl ?_)
 show wpAny _ _ (if (Value.ref t == Value.none) = true then _ else _) _ _ s; rw [if_neg (show ¬ (Value.ref t == Value.none) = true from fun z => nomatch (show false = true from z))]
 show wpAny _ _ (field (.ref it) 1 >>= _) _ _ s; refine wpAny_bind (wpAny_field b1 b3 (x := .int j 0) rfl ?_)
 show wpAny _ _ (seqItems? (.ref t) >>= _) _ _ s; refine wpAny_bind (wpAny_seqItems d1 d2 ?_); simp only [Int.toNat_natCast, a3]
 refine wpAny_bind (wpAny_rule (wpAny_bind (wpAny_setField b1 b3 (by simp) ?_)))
 show wpAny _ _ (newExc (.type "StopIteration") [] >>= _) _ _ _
 refine wpAny_bind ?_; simp only [newExc, newTuple]; refine wpAny_bind (wpAny_newObj_type ?_ (by size_fits))
 refine wpAny_bind (m := firstArgMember _ _) (wpAny_of_eq (a := Value.none) (by first | rfl | (simp only [firstArgMember]; rfl)) (wpAny_newObj_type ?_ (by size_fits)))
 simp only [raiseNew]; refine wpAny_bind (wpAny_handled ?_)
 first | rw [show A.in1.handled = none from hh] | rw [hh]
 exact wpAny_bind (wpAny_pure (wpAny_throw (k _ _ (((Heap.SameBut.update ..).extBut.push _).push _) ⟨_, Heap.get?_push_size _ rfl, rfl⟩)))
end
section
variable {X : Cx} {pins : List (Addr × Obj)} {σ : St} {H : Hp} {s : Shared}
theorem Inv.turnedNew {h' : Heap} {t' : Nat} {ch : List Addr} {T : Addr} {o : HO} (I : Inv X pins σ H s) (hc : ∀ b ∈ ch, FpOk X pins H b) (hT : s.heap.objs.size ≤ T) (k : ∀ b u, b ∉ ch → s.heap.get? b = some u → h'.get? b = some u)
  (new : ObjOk X.prog X.w (upd H T o) h' T o) : Inv X pins σ (upd H T o) { s with heap := h', toks := t' } := by
 have nT : H T = none := I.hok.fresh hT
 have ne : ∀ b u, s.heap.get? b = some u → b ≠ T := fun b u e z => absurd (Nat.lt_of_lt_of_le (Heap.lt_size e) (z ▸ hT)) (Nat.lt_irrefl _)
 have trk : ∀ b u, H b = some u → b ∉ ch := fun b u e z => by rw [(hc b z).1] at e; cases e
 refine I.step (g' := s.gens) (d' := s.drawn) (ch := ch) (fun b hb => ?_) (fun b u _ _ hn e _ => k b u hn e) (fun b u _ _ hn e _ => ⟨u.slots, k b u hn e⟩) (fun b u hn e n => by rw [upd_ne (ne b u e)]; exact n)
  (fun b u hn e => ⟨u, k b u hn e⟩) (fun b xs e => by rw [upd_ne (ne_of_none e nT)]; exact e) (fun b ob u e => by rw [upd_ne (ne_of_none e nT)]; exact e) (fun b ps e => ⟨#[], by rw [upd_ne (ne_of_none e nT), e]; simp⟩) (fun m hm => ?_) (fun b u e => ?_) I.bare
 · obtain ⟨f0, f1, f2, f3, f4, f5⟩ := hc b hb
   exact ⟨f3, f1, f4, f5⟩
 · obtain ⟨ob, es, ep, ho, r⟩ := hm
   exact ⟨ob, es, ep, k _ ob (fun z => (hc _ z).2.1 rfl) ho, r⟩
 · by_cases hb : b = T
   · subst hb; rw [upd_same] at e; cases e; exact new
   · rw [upd_ne hb] at e
     refine (I.hok b u e).stay (fun c v hc' q => k c v ?_ q) (fun c q => by rw [upd_ne (ne_of_none q nT)]; exact q) fun c xs q => by rw [upd_ne (ne_of_none q nT)]; exact q
     rcases hc' with z | z
     · rw [z]; exact trk b u e
     · exact trk c _ z
end
end L2
end
section
namespace L2
open PySem PySem.Spec PyProof.Rows
section
variable {X : Cx} {tg : Expr} {a b : Expr} {ta tb : TE} {pos : Pos}
def rEqNilL (K : PySem.W.Frag) : R2 := fun x y H Q => ∃ p q xs, x = .ref p ∧ y = .ref q ∧ SqL K H p xs ∧ SqL K H q [] ∧ Q (.bl xs.isEmpty) H
def rNeNilL (K : PySem.W.Frag) : R2 := fun x y H Q => ∃ p q xs, x = .ref p ∧ y = .ref q ∧ SqL K H p xs ∧ SqL K H q [] ∧ Q (.bl (!xs.isEmpty)) H
theorem op_eqNilL (hu : X.A.units < cLine) : OpR X (compareOp .Eq) (rEqNilL X.K) := by
 intro pins s σ H x y v u Q I rx ry h
 obtain ⟨p, q, xs, rfl, rfl, h1, h2, hq⟩ := h
 cases rx; cases ry
 obtain ⟨its, rv, pl, _⟩ := I.list h1
 obtain ⟨its2, rv2, pl2, _⟩ := I.list h2
 cases rv2
 cases rv with
 | nil => exact SeqAt.eq_listAt (e := fun _ => true) pl.isList pl2.isList rfl hu (fun j h1 _ => absurd h1 (by simp)) ⟨.bl true, H, I, rfl, hq⟩
 | cons r rr => exact SeqAt.eq_list_lengthsAt pl.isList pl2.isList (by simp) hu ⟨.bl false, H, I, rfl, hq⟩
def CDivW (i j : Int) : Prop := 0 < j ∧ j < 2 ^ 64
theorem noPy {i j : Int} (h1 : 0 < j) (h2 : j < 2 ^ 64) : Builtin.divisionGoesByPylong i j = false := by
 have e : j.natAbs < 2 ^ 64 := by lia
 have l : j.natAbs.log2 < 64 := by
  rw [Nat.log2_lt (by lia)]; exact e
 unfold Builtin.divisionGoesByPylong
 have : ¬ (if (j == 0) = true then 0 else j.natAbs.log2 / 30 + 1) > 300 := by
  split <;> lia
 simp only [decide_eq_false this, Bool.false_and]
theorem call_divmodW : CallR X (.builtin "divmod") (fun xs H Q => ∃ i j, xs = [.int i, .int j] ∧ CDivW i j ∧ ∀ p, H p = none → Q (.ref p) (upd H p (.tup [.int (i / j), .int (i % j)]))) := by
 intro pins s σ H xs us Q I r h
 obtain ⟨i, j, rfl, ⟨h1, h2⟩, q⟩ := h
 obtain ⟨u, u2, rfl, ⟨t, rfl⟩, ⟨t', rfl⟩⟩ := vals2 r
 refine divmod_int (by lia) ?_ (.inl (noPy h1 h2))
 rw [Int.fdiv_eq_ediv_of_nonneg i (by lia), Int.fmod_eq_emod_of_nonneg i (by lia)]
 refine ⟨.ref s.heap.objs.size, _, I.laid (o := .tup [.int (i / j), .int (i % j)]) (fun b o e => Heap.get?_push_of_some _ e) (Nat.le_refl _) ⟨by show 2 ≤ sizeLine; decide, [.int (i / j) s.toks, .int (i % j) (s.toks + 1)], .cons ⟨_, rfl⟩ (.cons ⟨_, rfl⟩ .nil), _, Heap.get?_push_size s.heap rfl, rfl, rfl, 0, rfl⟩, rfl, q _ (I.hok.fresh (Nat.le_refl _))⟩
noncomputable def isTy (T : String) (H : Hp) : V → Option Bool
 | .non => some false
 | .bl _ => some (T == "bool" || T == "int")
 | .int _ => some (T == "int")
 | .str _ => some (T == "str")
 | .ref a => match H a with
  | some (.lst _) => some (T == "list")
  | some (.tup _) => some (T == "tuple")
  | _ => none
 | _ => none
theorem isi_ok {T : String} (hT : T = "int" ∨ T = "bool" ∨ T = "tuple" ∨ T = "list" ∨ T = "str") : CallR X (.builtin "isinstance") (fun xs H Q => ∃ x b, xs = [x, .ty T] ∧ isTy T H x = some b ∧ Q (.bl b) H) := by
 intro pins s σ H xs us Q I r h
 obtain ⟨x, b, rfl, e, q⟩ := h
 obtain ⟨u, u2, rfl, ru, ru2⟩ := vals2 r
 cases (show u2 = Value.type T from ru2)
 have fin : ∀ tk : Nat, EP X pins σ Q (.bool b) { s with toks := tk } := fun tk => ⟨.bl b, H, I.tok _, rfl, q⟩
 cases x with
 | non => cases e; rcases hT with rfl | rfl | rfl | rfl | rfl <;> exact isinst_ok I ru .non rfl fin
 | bl y => cases e; rcases hT with rfl | rfl | rfl | rfl | rfl <;> exact isinst_ok I ru (.bl y) rfl fin
 | int y => cases e; rcases hT with rfl | rfl | rfl | rfl | rfl <;> exact isinst_ok I ru (.int y) rfl fin
 | str y => cases e; rcases hT with rfl | rfl | rfl | rfl | rfl <;> exact isinst_ok I ru (.str y) rfl fin
 | ref a =>
  cases ha : H a with
  | none => simp only [isTy, ha] at e; cases e
  | some o =>
   cases o with
   | lst xs => simp only [isTy, ha] at e; cases e; rcases hT with rfl | rfl | rfl | rfl | rfl <;> exact isinst_ok I ru (.lst ha) rfl fin
   | tup xs => simp only [isTy, ha] at e; cases e; rcases hT with rfl | rfl | rfl | rfl | rfl <;> exact isinst_ok I ru (.tup ha) rfl fin
   | _ => simp only [isTy, ha] at e; cases e
 | _ => cases e
end
end L2
end
section
namespace L2
open PySem PySem.Spec PyProof.Rows
inductive BlsAre : List Value → List Bool → Prop
 | nil : BlsAre [] []
 | cons (b : Bool) {vs : List Value} {bs : List Bool} : BlsAre vs bs → BlsAre (.bool b :: vs) (b :: bs)
theorem BlsAre.of : ∀ {bs : List Bool} {us : List Value}, Vals (bs.map V.bl) us → BlsAre us bs
 | [], _, .nil => .nil
 | b :: bs, _, .cons r rr => by
  cases (show _ = Value.bool b from r)
  exact .cons b (BlsAre.of rr)
theorem BlsAre.get {vs : List Value} {bs : List Bool} (h : BlsAre vs bs) : ∀ (i : Nat) (v : Value), vs[i]? = some v → ∃ b, bs[i]? = some b ∧ v = .bool b := by
 induction h with
 | nil => intro i v e; simp at e
 | cons b _ ih =>
  intro i v e
  cases i with
  | zero => simp at e; subst e; exact ⟨b, rfl, rfl⟩
  | succ i => simpa using ih i v (by simpa using e)
theorem rangeAll (bs : List Bool) : ((List.range bs.length).all fun i => (bs[i]?).getD true) = bs.all id := by
 rw [Bool.eq_iff_iff, List.all_eq_true, List.all_eq_true]
 constructor
 · intro h b hb
   obtain ⟨i, hi, e⟩ := List.getElem_of_mem hb
   have := h i (List.mem_range.mpr hi)
   simp only [List.getElem?_eq_getElem hi, Option.getD_some, e] at this
   exact this
 · intro h i hi
   have hi' := List.mem_range.mp hi
   simp only [List.getElem?_eq_getElem hi', Option.getD_some]
   exact h _ (List.getElem_mem hi')
theorem boot_all' : bootBuiltins "all" = some (.builtin "all") := by decide +kernel
theorem call_all {X : Cx} (hc : X.calm = true) : CallR X (.builtin "all") (fun xs H Q => ∃ a bs, xs = [.ref a] ∧ SqL X.K H a (List.map V.bl bs) ∧ Q (.bl (bs.all id)) H) := by
 intro pins s σ H xs us Q I r h
 obtain ⟨a, bs, rfl, hq, q⟩ := h
 obtain ⟨u, rfl, ru⟩ := vals1 r
 cases ru
 obtain ⟨its, rv, pl, _⟩ := I.list hq
 have hl := pl.isList
 have hb := BlsAre.of rv
 have hlen : its.length = bs.length := by rw [← rv.length, List.length_map]
 have hlt : a < s.heap.objs.size := by obtain ⟨_, e, _⟩ := hl; exact Heap.lt_size e
 refine call_all_walk (wpAny_pyIter_list hl ?_)
 refine ⟨s.heap.objs.size, [s.heap.objs.size, a], [s.heap.objs.size], its.toArray.size, _, _, fun i => (bs[i]?).getD true, rfl, Walks.list (A := X.A.in1) (I.ok.hd hc) _ a (Nat.ne_of_lt hlt) its.toArray,
  ⟨⟨_, Heap.get?_push_size _ rfl, rfl, rfl⟩, hl.push _⟩, fun i v s' Q' E' hP hQ => ?_, fun h' tk hk => ?_⟩
 · obtain ⟨b, e, rfl⟩ := hb.get i v (by simpa using hP)
   simp only [e, Option.getD_some] at hQ
   exact wpAny_truthy_bool hQ
 · have e : ((List.range its.toArray.size).all fun i => (bs[i]?).getD true) = bs.all id := by
     rw [List.size_toArray, hlen]; exact rangeAll bs
   rw [e]
   exact ⟨.bl (bs.all id), H, I.kept fun b x e => hk b x (fun hm => by rw [List.mem_singleton.mp hm] at e; exact Nat.lt_irrefl _ (Heap.lt_size e)) (Heap.get?_push_of_some _ e), rfl, q⟩
end L2
end
section
namespace L2
open PySem PySem.Spec PyProof.Rows HT
def NewT (H : Hp) (zs : List V) (p : Addr) (H' : Hp) : Prop := (H' = H ∧ H p = some (.tup zs)) ∨ (H p = none ∧ H' = upd H p (.tup zs))
theorem NewT.at {H H' : Hp} {zs : List V} {p : Addr} (h : NewT H zs p H') : H' p = some (.tup zs) := by
 rcases h with ⟨rfl, h⟩ | ⟨_, rfl⟩
 · exact h
 · exact upd_same
theorem NewT.keep {H H' : Hp} {zs : List V} {p : Addr} (h : NewT H zs p H') : Same H H' := by
 rcases h with ⟨rfl, h⟩ | ⟨h, rfl⟩
 · exact fun _ _ e => e
 · exact fun b o e => by rw [upd_ne (ne_of_none e h)]; exact e
section
variable {prog : Program} {w : World} {A : Around} {E : Value → Shared → Prop} {s : Shared}
theorem cat_tup0 {t b : Addr} {vs ws : List Value} {Q : Value → Shared → Prop} (ht : IsTup s.heap t vs.toArray) (hb : IsTup s.heap b ws.toArray) (hv : vs = []) (h : Q (.ref b) s) : wpAny (model prog w) A (binaryOp .Add (.ref t) (.ref b)) Q E s := by
 obtain ⟨⟨c1, d1, t1, l1⟩, a1, a2, n1, a3⟩ := id ht
 obtain ⟨⟨c2, d2, t2, l2⟩, b1, b2, n2, b3⟩ := id hb
 simp only at a2 a3 b2 b3
 subst a2 a3 b2 b3
 exact concat_meets ⟨_, a1, rfl⟩ ⟨_, b1, rfl⟩ noFill_tuple_add seq_tuple_add PySem.F.slot_tuple_add PySem.F.entry_tuple_add (PySem.F.args_tuple_add_2 _ _) (tuple_addW0 t b vs.toArray ws.toArray n1 n2 d1 d2 l1 l2 (by simp [hv])) ⟨a1, b1, h⟩
theorem getItem_tuple_all {t sl : Addr} {items : Array Value} {vl vu : Value} {lo hi : Option Int} {Q : Value → Shared → Prop} (ht : IsTup s.heap t items) (hs : s.heap.IsSliceOf sl vl vu .none) (pl : IsPart vl lo) (pu : IsPart vu hi)
  (hw : sIx items.size 0 lo = 0 ∧ sIx items.size items.size hi = items.size) (h : Q (.ref t) s) : wpAny (model prog w) A (getItem (.ref t) (.ref sl)) Q E s := by
 obtain ⟨os, hos, hcs, hds⟩ := id hs
 have hTs : s.TypeIs (.ref sl) "slice" := ⟨os, hos, hcs⟩
 unfold getItem
 try with_reducible refine wpAny_holding ?_
 first | refine wpAny_bind (wpAny_pure ?_) | skip
 refine wpAny_bind (wpAny_sequenceKey ht.typeIs (by decide) ?_)
 refine wpAny_bind (wpAny_callSpecial?_slot (name := Str.ofString "__getitem__") ht.typeIs PyProof.Rows.slot_tuple_getitem
  (wpAny_call_entry PyProof.Rows.slot_tuple_getitem ht.typeIs entry_tuple_getitem ?_ (args_tuple_getitem _ _)))
 show wpAny _ _ (Builtin.Tuple.tupleItemsOf (.ref t) >>= _) _ _ s
 refine wpAny_bind (tupleItemsOf_ ht ?_)
 refine wpAny_bind (wpAny_typeOf hTs ?_)
 rw [if_pos (by decide)]
 refine wpAny_bind (sliceApplied_gen hs pl pu ?_)
 rw [hw.1, hw.2]
 obtain ⟨ob, k1, k2, k3⟩ := id ht
 show wpAny _ _ (if (((0 : Nat) : Int) == 0 && (1 : Int) == 1 && (items.size - 0) == items.size) = true then _ else _) _ _ s
 rw [if_pos (by simp)]
 wp_walk using AutoSeq1.wpAny_loadPart' k1
 all_goals exact ⟨_, rfl, wpAny_pure h⟩
end
section
variable {X : Cx} {e : Expr} {te : TE} {pos p2 : Pos}
def rCatA : R2 := fun x y H Q => ∃ a b xs ys, x = .ref a ∧ y = .ref b ∧ H a = some (.tup xs) ∧ H b = some (.tup ys) ∧ xs.length + ys.length ≤ sizeLine ∧ ∀ p H', NewT H (xs ++ ys) p H' → Q (.ref p) H'
theorem op_catA : OpR X (binaryOp .Add) rCatA := by
 intro pins s σ H x y v u Q I rx ry h
 obtain ⟨a, b, xs, ys, rfl, rfl, h1, h2, hz, q⟩ := h
 cases rx; cases ry
 obtain ⟨its, r1, p1, _⟩ := I.tuple (SqT.of h1)
 obtain ⟨its2, r2, p2, _⟩ := I.tuple (SqT.of h2)
 by_cases e1 : its = []
 · have ex : xs = [] := r1.nil_iff.mp e1
   refine cat_tup0 p1 p2 e1 ⟨.ref b, H, I, rfl, q b H (.inl ⟨rfl, ?_⟩)⟩
   rw [ex]; exact h2
 · refine cat_tup p1 p2 e1 (fun e2 => ⟨.ref a, H, I, rfl, q a H (.inl ⟨rfl, ?_⟩)⟩) (fun e2 => ?_) (by rw [← r1.length, ← r2.length]; exact hz)
   · have ey : ys = [] := r2.nil_iff.mp e2
     rw [ey, List.append_nil]; exact h1
   · refine ⟨.ref s.heap.objs.size, _, I.laid (t' := s.toks) (o := .tup (xs ++ ys)) (fun b ob q => Heap.get?_push_of_some _ q) (Nat.le_refl _) ⟨by rw [List.length_append]; exact hz, _, r1.append r2, IsTp.new _ _⟩, rfl, q _ _ (.inr ⟨I.hok.fresh (Nat.le_refl _), rfl⟩)⟩
def rSlA : V → Option Int → Option Int → Hp → VK → Prop := fun x lo hi H Q => ∃ a xs, x = .ref a ∧ H a = some (.tup xs) ∧ ∀ p H', NewT H (cutV xs lo hi) p H' → Q (.ref p) H'
theorem sl_tupA : SlR X rSlA := by
 intro pins s σ H x v vl vu lo hi sl Q I rx hs pl pu h
 obtain ⟨a, xs, rfl, hx, q⟩ := h
 cases rx
 obtain ⟨its, r, ht, hz⟩ := I.tuple (SqT.of hx)
 have hlen : its.toArray.size = xs.length := by rw [List.size_toArray]; exact r.length.symm
 refine ⟨"tuple", _, PyProof.Rows.slot_tuple_getitem.lookup, ht.typeIs, ?_⟩
 by_cases hw : sIx xs.length 0 lo = 0 ∧ sIx xs.length xs.length hi = xs.length
 · refine getItem_tuple_all ht hs pl pu (by rw [hlen]; exact hw) ⟨.ref a, H, I, rfl, q a H (.inl ⟨rfl, ?_⟩)⟩
   unfold cutV
   rw [hw.1, hw.2, List.drop_zero, Nat.sub_zero, List.take_length]
   exact hx
 · refine HT.getItem_tuple_cut ht hs pl pu (by rw [hlen]; exact hw) ?_ (by rw [hlen]; exact hz)
   rw [hlen]
   refine ⟨.ref s.heap.objs.size, _, I.laid (t' := s.toks) (o := .tup (cutV xs lo hi)) (fun b ob q => Heap.get?_push_of_some _ q) (Nat.le_refl _) ?_, rfl, q _ _ (.inr ⟨I.hok.fresh (Nat.le_refl _), rfl⟩)⟩
   exact ⟨Nat.le_trans (cutV_length xs lo hi) hz, _, (r.drop (HT.sIx xs.length 0 lo)).take (HT.sIx xs.length xs.length hi - HT.sIx xs.length 0 lo), IsTp.new _ _⟩
end
end L2
end
section
namespace L2
open PySem PySem.Spec PyProof.Rows
theorem atI_int {α : Type} {xs : List α} {i : Int} {v : α} (h : 0 ≤ i) (e : xs[i.toNat]? = some v) : atI xs i = some v := by
 have : i = ((i.toNat : Nat) : Int) := by lia
 rw [this]; exact atI_nat e
theorem ixN_int {n : Nat} {i : Int} (h : 0 ≤ i) (hl : i < n) : ixN n i = some i.toNat := by
 unfold ixN
 rw [if_pos h, if_pos hl]
def Has (P : Program) (w : World) (K : PySem.W.Frag) (mg : Str → Option Value) (base : Heap) (x : Str) (k : Nat) (ps : List Str) (sp : Sp) : Prop :=
 ∃ f fd, mg x = some (.ref f) ∧ PySem.W.keepIn K (.ref f) = true ∧ Binds K fd ps [] ∧ FnOk P w K mg base CX0 k f fd ps sp
theorem pe_has {X : Cx} {x : Str} {k : Nat} {ps : List Str} {sp : Sp} {e : Expr} {es : List Expr} {t : TA} {p pos : Pos} (h : Has X.prog X.w X.K X.mg X.base x k ps sp) (hr : Room k X.A) (hg : Gl X x) (ha : PA X (e :: es) t)
  (hdb : autoParam ((x == ("__debug__" : Str)) = false) au2._auto_1) (he : autoParam (starEach (e :: es) X.env = (false, eval e X.env) :: starEach es X.env) au5._auto_1) (hpl : autoParam ((backTo pos (starEach es X.env)).any (·.1) = false) au5._auto_1) :
  PE X (.Call (.Name x p) (e :: es) [] pos) (tCall sp [] E0 t) := by
 obtain ⟨f, fd, h1, h2, h3, h4⟩ := h
 exact pe_call h4 hr hg h1 h2 h3 .nil pass0 ha hdb he hpl
end L2
namespace LB
open PySem L2 PyProof.Rows
theorem boot_int' : bootBuiltins "int" = some (.type "int") := by decide +kernel
theorem boot_tuple' : bootBuiltins "tuple" = some (.type "tuple") := by decide +kernel
theorem boot_bool' : bootBuiltins "bool" = some (.type "bool") := by decide +kernel
theorem boot_str' : bootBuiltins "str" = some (.type "str") := by decide +kernel
theorem boot_list' : bootBuiltins "list" = some (.type "list") := by decide +kernel
theorem boot_divmod' : bootBuiltins "divmod" = some (.builtin "divmod") := by decide +kernel
theorem kct : ¬ (("cells" : Str) = "turn") := by decide +kernel
noncomputable def bx (c : Addr) (t : Int) : List (Key × V) := [(Sum.inr "cells", .ref c), (Sum.inr "turn", .int t)]
theorem bx_cells (c : Addr) (t : Int) : valV (bx c t) (Sum.inr "cells" : Key) = some (.ref c) := by
 simp [valV, bx]
theorem bx_turn (c : Addr) (t : Int) : valV (bx c t) (Sum.inr "turn" : Key) = some (.int t) := by
 simp [valV, bx, kct]
theorem bx_put (c : Addr) (t u : Int) : putK (bx c t) (Sum.inr "turn" : Key) (.int u) = bx c u := by
 simp [putK, bx, kct]
structure Box (H : Hp) (d c : Addr) (t : Int) : Prop where
 dc : H d = some (.dK (bx c t))
 cs : ∃ ns : List Int, H c = some (.lst (ns.map V.int)) ∧ 0 < ns.length ∧ ns.length ≤ 63
 t0 : 0 ≤ t
 t1 : t ≤ 1000000
theorem Box.ne {H : Hp} {d c : Addr} {t : Int} (b : Box H d c t) : d ≠ c := let ⟨_, h, _⟩ := b.cs; ne_of b.dc h (by intro z; cases z)
def Kp (d c : Addr) (H H' : Hp) : Prop := ∀ b o, H b = some o → b ≠ d → b ≠ c → H' b = some o
theorem Box.same {H H' : Hp} {d c : Addr} {t : Int} (b : Box H d c t) (s : Same H H') : Box H' d c t := ⟨s _ _ b.dc, let ⟨ns, h, r⟩ := b.cs; ⟨ns, s _ _ h, r⟩, b.t0, b.t1⟩
def spTake : Sp := fun vs H Q _ => ∃ (d c : Addr) (t m : Int), vs = [.ref d, .int m] ∧ Box H d c t ∧ t < 1000000 ∧ 0 < m ∧ m < 2 ^ 64 ∧ ∀ (r : Int) (H' : Hp), 0 ≤ r → r < m → Box H' d c (t + 1) → Kp d c H H' → Q (.int r) H'
def spBegin (K : PySem.W.Frag) : Sp := fun vs H Q _ => ∃ (a : Addr) (ns : List Int), vs = [.ref a] ∧ SqL K H a (ns.map V.int) ∧ ns.length ≤ 63 ∧ ∀ (d c : Addr) (H' : Hp), Box H' d c 0 → Same H H' → Q (.ref d) H'
theorem Same.new {p : Addr} {H : Hp} {o : HO} (h : H p = none) : Same H (upd H p o) := fun b u e => by rw [upd_ne (ne_of_none e h)]; exact e
end LB
end
section
namespace L2
open PySem PySem.Spec PyProof.Rows
section
variable {X : Cx} {pins : List (Addr × Obj)} {σ : St} {H : Hp} {s s' : Shared}
theorem hasObj {P : Program} {w : World} {H : Hp} {h : Heap} {a : Addr} {o : HO} (x : ObjOk P w H h a o) : ∃ u, h.get? a = some u := by
 cases o with
 | lst xs => obtain ⟨_, _, _, _, e⟩ := x; exact ⟨_, e⟩
 | tup xs => obtain ⟨_, _, _, o, e, _⟩ := x; exact ⟨o, e⟩
 | dK kvs => obtain ⟨_, _, _, _, o, _, _, e, _⟩ := x; exact ⟨o, e⟩
 | dT kvs => obtain ⟨_, _, _, _, o, _, _, e, _⟩ := x; exact ⟨o, e⟩
 | set S n => obtain ⟨o, _, _, _, e, _⟩ := x; exact ⟨o, e⟩
 | ins C dx fs => obtain ⟨_, _, _, e, _⟩ := x; exact ⟨_, e⟩
 | own y => exact x
 | xd fs => obtain ⟨_, ⟨o, _, _, e, _⟩, _⟩ := x; exact ⟨o, e⟩
 | rng lo hi => obtain ⟨_, _, _, e⟩ := x; exact ⟨_, e⟩
 | frz o u => exact ⟨_, x.1⟩
 | tbl ps => exact ⟨_, x⟩
 | met f y => exact ⟨_, x⟩
 | ext φ => exact x.2.1
end
end L2
end
section
namespace L2
open PySem PySem.Spec PyProof.Rows
section
variable {P : Program} {w : World} {K : PySem.W.Frag} {mg : Str → Option Value} {base : Heap}
theorem Fun.okX {CX : CXT} {x qual : Str} {st : Stmt} {f : Addr} {fd : FuncData} {N ps : List Str} {k : Nat} {sp : Sp} (F : Fun K x qual st f fd) (S : FnScope N ps (defScope st)) (len : ∀ vs H Q E, sp vs H Q E → vs.length = ps.length)
  (hbody : ∀ (cdv : Value) (A : Around) (outer : List Env) (s : Shared) (H : Hp) (vs : List V) (Q : VK) (E : XK), Room k (A.deeper (envOfC qual (defScope st) s.heap.objs.size f cdv)) → sp vs H Q E →
   ∃ t, PSs (cxOf CX P w K mg base N qual (defScope st) f cdv A outer s H E) (defBody st) t ∧ t { nx := fun _ H' => Q .non H', rt := Q } (start N vs) H) : FnOk P w K mg base CX (k + 1) f fd ps sp := by
 obtain ⟨oc, od, kV, doc, pm, an, cdv, ct, osl, rfl, lk, hcd⟩ := F.ex
 exact fn_of lk hcd S len fun A outer s H vs Q E hr h => hbody cdv A outer s H vs Q E hr h
end
end L2
end
section
namespace L2
open PySem PySem.Spec PyProof.Rows
def Cov (fs : List Addr) (H' : Hp) (h h' B : Heap) : Prop := ∀ b o, h'.get? b = some o → b ∉ fs → ((H' b).isSome = true ∨ (h.get? b).isSome = true) → B.get? b = some o
section
variable {P : Program} {w : World} {fs : List Addr} {H H' : Hp} {h h' h2 B : Heap}
theorem hok_on (x : HOk P w H' h') (cv : Cov fs H' h h' B) (st : B.StaysIn h2) (fr : ∀ b ∈ fs, H' b = none) : HOk P w H' h2 := fun a o e => (x a o e).stay (fun b u hb qb => by
 have sm : (H' b).isSome = true := by
  rcases hb with rfl | hb
  · rw [e]; rfl
  · rw [hb]; rfl
 refine st b u (cv b u qb (fun z => ?_) (.inl sm))
 rw [fr b z] at sm; cases sm) (fun _ q => q) fun _ _ q => q
theorem un_on (u : Un fs [] H H' h h') (cv : Cov fs H' h h' B) (st : B.StaysIn h2) (sl : h'.UpToSlots h2) (nf : ∀ b ∈ fs, ∀ o, h.get? b = some o → ∀ vs, o.data ≠ .fields vs) (th : ∀ b ∈ fs, ∀ o, h'.get? b = some o → ∃ o', h2.get? b = some o') : Un fs [] H H' h h2 := by
 refine ⟨fun b o e n hb hx => st b o (cv b o (u.keep b o e n hb hx) hb (.inr (by rw [e]; rfl))), fun b o e n hb hx => ?_, u.free, fun b o e hx => ?_, u.tups, u.frzs, u.tbls⟩
 · obtain ⟨s0, k⟩ := u.slot b o e n hb hx
   obtain ⟨s1, k1⟩ := sl b _ k (nf b hb o e)
   exact ⟨s1, k1⟩
 · obtain ⟨o', k⟩ := u.there b o e hx
   by_cases hb : b ∈ fs
   · exact th b hb o' k
   · exact ⟨o', st b o' (cv b o' k hb (.inr (by rw [e]; rfl)))⟩
end
end L2
end
section
namespace L2
open PySem PySem.Spec PyProof.Rows
section
variable {X : Cx} {pins : List (Addr × Obj)} {σ : St} {H H' : Hp} {s s2 : Shared} {ea t : Addr} {cls : Value} {B : Heap}
noncomputable abbrev Cx.marked (X : Cx) (ea : Addr) : Cx := { X with A := X.A.mark (some (.ref ea)), calm := false, xe := fun _ _ => False }
theorem Inv.marked (I : Inv X pins σ H s) (ea : Addr) : Inv (X.marked ea) pins σ H s :=
 let ok := I.ok
 ⟨⟨ok.mod, ok.kind, ok.glob, ok.blt, ok.above, ok.inj, ok.has, ok.cab, fun z => (by cases z), ok.frames, ok.stk, ok.exf, ok.bs, ok.bsz, ok.noex, ok.exfs, ok.funs, ok.frf⟩, I.os, I.bare, I.base, I.loc, I.cell, I.free, I.freeC, I.pin, I.hok, I.len⟩
theorem Inv.unmarked (hX : X.Ok) {ea : Addr} (I : Inv (X.marked ea) pins σ H s) : Inv X pins σ H s :=
 ⟨hX, I.os, I.bare, I.base, I.loc, I.cell, I.free, I.freeC, I.pin, I.hok, I.len⟩
theorem goes_ok {A : Around} {E : Value → Shared → Prop} {i : Nat} {n : Str} {pos : Pos} {Q : Unit → Shared → Prop} (I : Inv X pins σ H s) (hN : X.N.Nodup) (hi : X.N[i]? = some n) (hk : X.env.scope.names.lookup n = some .local)
  (h : ∀ s', Inv X pins (σ.set i none) H s' → Q () s') : wpAny (model X.prog X.w) A (do bindName X.env n .none; unbindBehindTheSuite X.env n pos) Q E s := by
 obtain ⟨m, hn, hl⟩ := id I.loc
 have hcls : (X.env.scope.kind == .class || (X.env.scope.kind == .module && X.env.locals != X.env.globals)) = false := by rw [I.ok.kind]; rfl
 have hiσ : i < σ.length := by rw [I.len]; exact (List.getElem?_eq_some_iff.mp hi).1
 refine wpAny_nameGoes_keeps hk hn hcls fun h' v hn' hs => h _ ?_
 obtain ⟨oL, _, _, hoL, _⟩ := id hn
 have far : ∀ b o, X.s₀.heap.get? b = some o → b ≠ X.env.locals := fun b o e => Nat.ne_of_lt (Nat.lt_of_lt_of_le (Heap.lt_size e) I.ok.above)
 refine ⟨I.ok, I.os, I.bare, ⟨fun b o e n hb hx => (hs.2 b (far b o e)).trans (I.base.keep b o e n hb hx), fun b o e n hb hx => ?_, I.base.free, fun b o e hx => ?_, I.base.tups, I.base.frzs, I.base.tbls⟩, ⟨_, hn', fun j y v' e1 e2 e3 => ?_⟩, fun y c e => ?_, I.free, I.freeC, fun p hp => ?_, fun b ob e => ?_, by simpa using I.len⟩
 · obtain ⟨sl, e1⟩ := I.base.slot b o e n hb hx
   exact ⟨sl, (hs.2 b (far b o e)).trans e1⟩
 · obtain ⟨o', e1⟩ := I.base.there b o e hx
   exact ⟨o', (hs.2 b (far b o e)).trans e1⟩
 · have hj : j ≠ i := fun z => by
     subst z
     rw [List.getElem?_set_self hiσ] at e2
     cases e2
   rw [List.getElem?_set_ne (Ne.symm hj)] at e2
   obtain ⟨u', r', q⟩ := hl j y v' e1 e2 e3
   refine ⟨u', r', ?_⟩
   rcases q with ⟨k, e⟩ | ⟨k, c, e, z⟩
   · have : y ≠ n := fun e => hj (nodup_ix hN e1 (e ▸ hi))
     exact .inl ⟨k, by simp [this, e]⟩
   · exact .inr ⟨k, c, e, z.sameBut hs (I.cne y c e)⟩
 · obtain ⟨w', z⟩ := I.cell y c e
   exact ⟨w', z.sameBut hs (I.cne y c e)⟩
 · obtain ⟨e, n, ne, nf, d⟩ := I.pin p hp
   exact ⟨(hs.2 p.1 ne).trans e, n, ne, nf, d⟩
 · refine (I.hok b ob e).stay (fun c w' hc q => (hs.2 c ?_).trans q) (fun _ q => q) fun _ _ q => q
   rintro rfl
   rcases hc with z | hc
   · rw [← z, I.free] at e; cases e
   · rw [I.free] at hc; cases hc
noncomputable def endsAs (D : Ends) (ie : Nat) : Ends := { nx := fun σ' H' => D.nx (σ'.set ie none) H', bk := fun σ' H' => D.bk (σ'.set ie none) H', ct := fun σ' H' => D.ct (σ'.set ie none) H', rt := D.rt }
end
end L2
end
section
namespace L2
open PySem PySem.Spec PyProof.Rows LXi
def CX2 (P : Program) (w : World) : CXT := fun outer H s E e s' => ∃ (ea t dx : Addr) (cls : Value) (args : List Value) (H' : Hp) (B : Heap), e = .ref ea ∧ s'.os = s.os ∧ AllBare s'.gens ∧ Un (frs outer) [] H H' s.heap s'.heap ∧ HOk P w H' s'.heap ∧
 FlyX B outer ea cls (.ref t) (some dx) .none s'.heap ∧ (∀ b o, s'.heap.get? b = some o → b ∉ frs outer → ((H' b).isSome = true ∨ (s.heap.get? b).isSome = true) → B.get? b = some o) ∧ s'.heap.TupAt t args ∧ B.get? t = none ∧ H' ea = none ∧ E cls (some dx) H'
section
variable {X : Cx} {pins : List (Addr × Obj)} {σ : St} {H : Hp} {s s' : Shared}
theorem leave_dict {ea t dx : Addr} {cls : Value} {args : List Value} {oe : Obj} {E : XK} {E' : Value → Shared → Prop} (I : Inv X pins σ H s) (hst : X.stack = X.env :: X.outer) (hfr : X.env.frame = some X.env.locals) (hex : X.ex = [])
  (he : s.heap.get? ea = some oe) (hcl : oe.cls = cls) (hdc : oe.dict = some dx) (hda : oe.data = .fields #[.ref t, .none, .none, .none, .bool false, .none]) (ht : s.heap.TupAt t args) (nea : H ea = none) (nt : H t = none) (fea : X.s₀.heap.get? ea = none) (ft : X.s₀.heap.get? t = none)
  (q : E cls (some dx) H) :
  wpAny (model X.prog X.w) X.A (leaving X.env (.ref ea)) (fun _ s'' => CX2 X.prog X.w X.outer X.H₀ X.s₀ E (.ref ea) s'') E' s := by
 have hS : s.heap.FunFrames X.base (X.env :: X.outer) := by have := I.stack; rwa [hst] at this
 have hfree : ∀ b ∈ frs (X.env :: X.outer), H b = none := by have := I.stkFree; rwa [hst] at this
 have hin : ∀ env ∈ (X.env :: X.outer), ∀ b, env.frame = some b → b ∈ ea :: t :: frs (X.env :: X.outer) := fun env he b hb => List.mem_cons_of_mem _ (List.mem_cons_of_mem _ (List.mem_filterMap.mpr ⟨env, he, hb⟩))
 have hid : ∀ b, b ∈ ea :: t :: frs (X.env :: X.outer) → H b = none := fun b hb => by
  rcases List.mem_cons.mp hb with rfl | hb
  · exact nea
  rcases List.mem_cons.mp hb with rfl | hb
  · exact nt
  · exact hfree b hb
 have hh : ∀ b ∈ ea :: t :: frs (X.env :: X.outer), (PySem.W.hideAll s.heap (ea :: t :: frs (X.env :: X.outer))).get? b = none := fun b hb => PySem.W.hideAll_none _ hb
 refine leave1X (base := PySem.W.hideAll s.heap (ea :: t :: frs (X.env :: X.outer))) (a0 := .ref t) (by rw [← hst]; exact I.ok.frames) hfr (PySem.W.funFrames_hide hS hin) he (fun b o e => PySem.W.of_hideAll _ e) (hh ea List.mem_cons_self) hda rfl rfl fun h' fl sl => ?_
 rw [hcl, hdc] at fl
 have stay : ∀ b o, s.heap.get? b = some o → b ∉ ea :: t :: frs (X.env :: X.outer) → h'.get? b = some o := fun b o e n => fl.st b o (PySem.W.hideAll_get _ e n)
 have notL : ∀ b o, X.s₀.heap.get? b = some o → b ∉ frs X.outer → b ∉ ea :: t :: frs (X.env :: X.outer) := fun b o e n z => by
  rcases List.mem_cons.mp z with rfl | z
  · rw [fea] at e; cases e
  rcases List.mem_cons.mp z with rfl | z
  · rw [ft] at e; cases e
  rcases List.mem_filterMap.mp z with ⟨env, he, hf⟩
  rcases List.mem_cons.mp he with rfl | he
  · rw [hfr] at hf
    have l1 := Heap.lt_size e
    have l2 := I.ok.above
    have l3 : X.env.locals = b := Option.some.inj hf
    rw [l3] at l2
    exact absurd l1 (Nat.not_lt.mpr l2)
  · exact n (List.mem_filterMap.mpr ⟨env, he, hf⟩)
 have hok : HOk X.prog X.w H h' := fun a o e => (I.hok a o e).stay (fun b u hb qb => stay b u qb fun z => by
   rcases hb with rfl | hb
   · rw [hid b z] at e; cases e
   · rw [hid b z] at hb; cases hb) (fun _ q => q) fun _ _ q => q
 refine ⟨ea, t, dx, cls, args, H, PySem.W.hideAll s.heap (ea :: t :: frs (X.env :: X.outer)), rfl, I.os, I.bare, ?_, hok, fl, fun b o e n hb => ?_, ht.of_slots sl, hh t (List.mem_cons_of_mem _ List.mem_cons_self), nea, q⟩
 · have nx : ∀ b : Addr, b ∉ X.ex := fun b z => by rw [hex] at z; cases z
   refine ⟨fun b o e n hb _ => stay b o (I.base.keep b o e n hb (nx b)) (notL b o e hb), fun b o e n hb _ => ?_, fun b o e n _ => I.base.free b o e n (nx b), fun b o e _ => ?_, I.base.tups, I.base.frzs, I.base.tbls⟩
   · obtain ⟨sl0, k⟩ := I.base.slot b o e n hb (nx b)
     obtain ⟨_, o2, ho2, hd2⟩ := I.ok.funs.mem hb
     rw [e] at ho2
     cases ho2
     obtain ⟨sl', k2⟩ := sl b _ k hd2
     exact ⟨sl', k2⟩
   · by_cases hb : b ∈ frs X.outer
     · obtain ⟨_, o2, ho2, _⟩ := fl.ff.mem hb
       exact ⟨o2, ho2⟩
     · obtain ⟨o', k⟩ := I.base.there b o e (nx b)
       exact ⟨o', stay b o' k (notL b o e hb)⟩
 · have fin : ∀ u, s.heap.get? b = some u → b ∉ ea :: t :: frs (X.env :: X.outer) → (PySem.W.hideAll s.heap (ea :: t :: frs (X.env :: X.outer))).get? b = some o := fun u k m => by
     have := stay b u k m
     rw [e] at this
     cases this
     exact PySem.W.hideAll_get _ k m
   rcases hb with hb | hb
   · obtain ⟨z, hz⟩ := Option.isSome_iff_exists.mp hb
     obtain ⟨u, k⟩ := hasObj (I.hok b z hz)
     exact fin u k fun y => by rw [hid b y] at hz; cases hz
   · obtain ⟨z, hz⟩ := Option.isSome_iff_exists.mp hb
     have hz : X.s₀.heap.get? b = some z := hz
     obtain ⟨u, k⟩ := I.base.there b z hz (by rw [hex]; simp)
     exact fin u k (notL b z hz n)
end
end L2
end
section
namespace LX
open PySem
def excD (x C dx : Addr) (h : Heap) : Prop := ∃ ox fs, h.get? x = some ox ∧ ox.cls = .ref C ∧ ox.dict = some dx ∧ ox.data = .fields fs
end LX
namespace L2
open PySem PySem.Spec PyProof.Rows LXi
structure Air2 (X : Cx) (H : Hp) (s : Shared) (ea t dx : Addr) (cls : Value) (H' : Hp) (B : Heap) (s2 : Shared) : Prop where
 un : Un (frs X.stack) [] H H' s.heap s2.heap
 hok : HOk X.prog X.w H' s2.heap
 cov : Cov (frs X.stack) H' s.heap s2.heap B
 fl : FlyX B X.stack ea cls (.ref t) (some dx) .none s2.heap
 os : s2.os = s.os
 bare : AllBare s2.gens
section
variable {X : Cx} {pins : List (Addr × Obj)} {σ : St} {H H' : Hp} {s s2 : Shared} {ea t dx : Addr} {cls : Value} {B : Heap}
theorem Air2.free (I : Inv X pins σ H s) (a : Air2 X H s ea t dx cls H' B s2) : ∀ b ∈ frs X.stack, H' b = none := fun b hb => by
 obtain ⟨_, o, ho, _⟩ := I.stack.mem hb
 exact a.un.free b o ho (I.stkFree b hb) (by simp)
theorem Air2.move (I : Inv X pins σ H s) (a : Air2 X H s ea t dx cls H' B s2) {h' : Heap} (fl : FlyX B X.stack ea cls (.ref t) (some dx) .none h') (sl : s2.heap.UpToSlots h') : Air2 X H s ea t dx cls H' B { s2 with heap := h' } := by
 refine ⟨un_on a.un a.cov fl.st sl (fun b hb o e vs => ?_) (fun b hb o _ => ?_), hok_on a.hok a.cov fl.st (a.free I), fun b o e n hb => ?_, fl, a.os, a.bare⟩
 · obtain ⟨_, o2, ho2, hd2⟩ := I.stack.mem hb
   rw [e] at ho2
   cases ho2
   exact hd2 vs
 · obtain ⟨_, o2, ho2, _⟩ := fl.ff.mem hb
   exact ⟨o2, ho2⟩
 · have hb' : ∃ o', s2.heap.get? b = some o' := by
     rcases hb with hb | hb
     · obtain ⟨z, hz⟩ := Option.isSome_iff_exists.mp hb
       exact hasObj (a.hok b z hz)
     · obtain ⟨z, hz⟩ := Option.isSome_iff_exists.mp hb
       exact a.un.there b z hz (by simp)
   obtain ⟨o', ho'⟩ := hb'
   have cb := a.cov b o' ho' n hb
   have k := fl.st b o' cb
   have e : h'.get? b = some o := e
   rw [e] at k
   cases k
   exact cb
theorem Air2.apart (a : Air2 X H s ea t dx cls H' B s2) : ea ∉ frs X.stack := fun hb => by
 obtain ⟨_, o2, ho2, hd2⟩ := a.fl.ff.mem hb
 obtain ⟨oe, vs, _, _, _, he, _, _, _, hd, _⟩ := a.fl.tr
 rw [he] at ho2
 cases ho2
 exact hd2 vs hd
theorem Air2.new (a : Air2 X H s ea t dx cls H' B s2) : s.heap.get? ea = none := by
 cases e : s.heap.get? ea with
 | none => rfl
 | some o =>
  obtain ⟨o', ho'⟩ := a.un.there ea o e (by simp)
  have := a.cov ea o' ho' a.apart (.inr (by rw [e]; rfl))
  rw [a.fl.nw] at this
  cases this
theorem Air2.none (a : Air2 X H s ea t dx cls H' B s2) : H' ea = .none := by
 cases e : H' ea with
 | none => rfl
 | some z =>
  obtain ⟨o', ho'⟩ := hasObj (a.hok ea z e)
  have := a.cov ea o' ho' a.apart (.inl (by rw [e]; rfl))
  rw [a.fl.nw] at this
  cases this
theorem Air2.inv {C : Addr} (I : Inv X pins σ H s) (a : Air2 X H s ea t dx (.ref C) H' B s2) : Inv X pins σ (upd H' ea (.ext (LX.excD ea C dx))) s2 := by
 obtain ⟨hp, g, d, tk, os'⟩ := s2
 obtain rfl : os' = s.os := a.os
 have hn := a.none
 have ne : ∀ b z, H' b = some z → b ≠ ea := fun b z e q => by rw [q, hn] at e; cases e
 refine I.call (h' := hp) (g' := g) (d' := d) (t' := tk) (ch := []) ⟨a.un.keep, a.un.slot, fun b o e n x => ?_, a.un.there, fun b xs e => ?_, fun b o u e => ?_, fun b ps e => ?_⟩ (fun b o e => ?_) a.bare fun b z => absurd z (by simp)
 · have hb : b ≠ ea := fun q => by rw [q] at e; rw [a.new] at e; cases e
   rw [upd_ne hb]
   exact a.un.free b o e n x
 · have := a.un.tups b xs e
   rw [upd_ne (ne b _ this)]; exact this
 · have := a.un.frzs b o u e
   rw [upd_ne (ne b _ this)]; exact this
 · obtain ⟨more, this⟩ := a.un.tbls b ps e
   exact ⟨more, by rw [upd_ne (ne b _ this)]; exact this⟩
 · by_cases q : b = ea
   · subst q
     rw [upd_same] at e
     cases e
     obtain ⟨ob, vs, _, _, _, h1, h2, h3, _, h4, _⟩ := a.fl.tr
     exact ⟨⟨ob, vs, h1, h2, h3, h4⟩, ⟨ob, h1⟩, fun h1 h2 zz1 k => (by obtain ⟨o, fs, e1, e2⟩ := zz1; exact (⟨o, fs, k o e1, e2⟩))⟩
   · rw [upd_ne q] at e
     refine (a.hok b o e).stay (fun _ _ _ z => z) (fun c z => ?_) fun c xs z => ?_
     · rw [upd_ne (ne c _ z)]; exact z
     · rw [upd_ne (ne c _ z)]; exact z
def exWish2 (K : PySem.W.Frag) (C0 : Addr) (ts : TS) (D : Ends) (ie : Nat) (σ : St) : XK := fun cls oe H2 => ∃ dx C, cls = .ref C ∧ oe = some dx ∧ PySem.W.exmOne K (.ref C) (.ref C0) = some true ∧ (∀ ea, H2 ea = none → ts (endsAs D ie) (σ.set ie (some (.ref ea))) (upd H2 ea (.ext (LX.excD ea C dx))))
theorem caught_ok2 {D : Ends} {ie : Nat} {n c : Str} {cp hp : Pos} {b₀ : Stmt} {suite : List Stmt} {rest : List ExceptHandler} {C0 : Addr} {ts : TS} {e : Value} {E' : Value → Shared → Prop} (I : Inv X pins σ H s) (hN : X.N.Nodup) (hst : X.stack = X.env :: X.outer) (hfr : X.env.frame = some X.env.locals) (hi : X.N[ie]? = some n) (hk : X.env.scope.names.lookup n = some .local)
  (hgc : Gl X c) (hmc : X.mg c = some (.ref C0)) (hs : ∀ ea, PSs (X.marked ea) (b₀ :: suite) ts) (q : CX2 X.prog X.w X.stack H s (exWish2 X.K C0 ts D ie σ) e s2) (hdb : (c == ("__debug__" : Str)) = false) :
  wpAny (model X.prog X.w) X.A (noteFrame e X.env) (fun _ s₂ => wpAny (model X.prog X.w) X.A (setFlight e none) (fun _ s₃ => wpAny (model X.prog X.w) X.A (handleBy e X.env (.ExceptHandler (some (.Name c cp)) (some n) (b₀ :: suite) hp :: rest)) (SP X pins D) E' s₃) E' s₂) E' s2 := by
 obtain ⟨ea, t, dx, cls, args, H', B, rfl, os, bare, un, hok, fl, cv, tp, bt, nea, dx', C, rfl, e2, hex, q⟩ := q
 cases e2
 have fl0 : FlyX B (X.env :: X.outer) ea (.ref C) (.ref t) (some dx) .none s2.heap := by rw [← hst]; exact fl
 have a0 : Air2 X H s ea t dx (.ref C) H' B s2 := ⟨un, hok, cv, fl, os, bare⟩
 refine lookX (by rw [← hst]; exact I.ok.frames) hfr fl0 fun h2 hd2 sl2 => ?_
 refine landX hd2 fun h3 fl3 sl3 => ?_
 have a3 : Air2 X H s ea t dx (.ref C) H' B { s2 with heap := h3 } := a0.move I (by rw [hst]; exact fl3) (sl2.trans sl3)
 have I3 := a3.inv I
 have Im := I3.marked ea
 refine wpAny_handleBy_cons (codeAny_handlers_test (ld_glob Im hgc hmc ?_ hdb)) (by intro z; cases z)
 obtain ⟨ob, _, _, _, _, ho1, ho2, _⟩ := a3.fl.tr
 refine (PySem.W.exm_one (M := model X.prog X.w) I3.kIn (LX.ty_of ho1 ho2) hex).at ?_
 refine codeAny_handlers_suite_as ?_
 refine landX a3.fl fun h6 fl6 sl6 => ?_
 have I6 := (a3.move I fl6 sl6).inv I
 refine store_ok I6 hN hi (.inl hk) (v := .ref ea) rfl (fun s7 I7 => ?_) (.inr hk)
 refine wpAny_mono (hs ea pins s7 _ _ (endsAs D ie) (I7.marked ea) (q ea a0.none)) (fun f s8 q8 => ?_) fun _ _ z => z.elim
 cases f with
 | next =>
  obtain ⟨σ', Hx, Ix, qx⟩ := q8
  exact goes_ok (Ix.unmarked I.ok) hN hi hk fun s9 I9 => ⟨_, _, I9, qx⟩
 | brk =>
  obtain ⟨σ', Hx, Ix, qx⟩ := q8
  exact goes_ok (Ix.unmarked I.ok) hN hi hk fun s9 I9 => ⟨_, _, I9, qx⟩
 | cont =>
  obtain ⟨σ', Hx, Ix, qx⟩ := q8
  exact goes_ok (Ix.unmarked I.ok) hN hi hk fun s9 I9 => ⟨_, _, I9, qx⟩
 | ret u =>
  obtain ⟨v, σ', Hx, Ix, rx, qx⟩ := q8
  exact goes_ok (Ix.unmarked I.ok) hN hi hk fun s9 I9 => ⟨v, _, _, I9, rx, qx⟩
end
end L2
end
section
namespace L2
open PySem PySem.Spec PyProof.Rows
section
variable {X : Cx}
def rNeNilT (K : PySem.W.Frag) : R2 := fun x y H Q => ∃ p q xs, x = .ref p ∧ y = .ref q ∧ SqT K H p xs ∧ SqT K H q [] ∧ Q (.bl (!xs.isEmpty)) H
theorem op_neNilL (hu : X.A.units < cLine) : OpR X (compareOp .NotEq) (rNeNilL X.K) := by
 intro pins s σ H x y v u Q I rx ry h
 obtain ⟨p, q, xs, rfl, rfl, h1, h2, hq⟩ := h
 cases rx; cases ry
 obtain ⟨its, rv, pl, _⟩ := I.list h1
 obtain ⟨its2, rv2, pl2, _⟩ := I.list h2
 cases rv2
 cases rv with
 | nil => exact SeqAt.RcNeAt.lists (e := fun _ => true) pl.isList pl2.isList rfl hu (fun j h1 _ => absurd h1 (by simp)) _ _ _ _ ⟨.bl false, H, I, rfl, hq⟩
 | cons r rr => exact SeqAt.RcNeAt.lists_lengths pl.isList pl2.isList (by simp) hu _ _ _ _ ⟨.bl true, H, I, rfl, hq⟩
theorem op_neNilT (hu : X.A.units < cLine) : OpR X (compareOp .NotEq) (rNeNilT X.K) := by
 intro pins s σ H x y v u Q I rx ry h
 obtain ⟨p, q, xs, rfl, rfl, h1, h2, hq⟩ := h
 cases rx; cases ry
 obtain ⟨its, rv, pl, _⟩ := I.tuple h1
 obtain ⟨its2, rv2, pl2, _⟩ := I.tuple h2
 cases rv2
 cases rv with
 | nil => exact SeqAt.RcNeAt.tuples (e := fun _ => true) (show s.heap.IsTuple p _ from pl) (show s.heap.IsTuple q _ from pl2) hu (fun j h1 _ => absurd h1 (by simp)) _ _ _ _ ⟨.bl false, H, I, by simp [RelV], hq⟩
 | cons r rr => exact SeqAt.RcNeAt.tuples (e := fun _ => true) (show s.heap.IsTuple p _ from pl) (show s.heap.IsTuple q _ from pl2) hu (fun j _ h2 => absurd h2 (by simp)) _ _ _ _ ⟨.bl true, H, I, by simp [RelV], hq⟩
end
end L2
end
section
namespace L2
open PySem PySem.Spec PyProof.Rows
def SIt (h : Heap) (it a : Addr) (xs : Array Value) (k : Nat) : Prop := (h.IsListIter it a k ∧ h.IsList a xs) ∨ (h.IsTupleIter it a k ∧ h.IsTuple a xs)
theorem SIt.ext {h h' : Heap} {it a : Addr} {xs : Array Value} {k : Nat} (z : SIt h it a xs k) (e1 : ∀ o, h.get? it = some o → h'.get? it = some o) (e2 : ∀ o, h.get? a = some o → h'.get? a = some o) : SIt h' it a xs k := by
 rcases z with ⟨z1, z2⟩ | ⟨z1, z2⟩
 · exact .inl ⟨let ⟨o, q, r⟩ := z1; ⟨o, e1 o q, r⟩, let ⟨o, q, r⟩ := z2; ⟨o, e2 o q, r⟩⟩
 · exact .inr ⟨let ⟨o, q, r⟩ := z1; ⟨o, e1 o q, r⟩, let ⟨o, q, r⟩ := z2; ⟨o, e2 o q, r⟩⟩
section
variable {prog : Program} {w : World} {A : Around} {E : Value → Shared → Prop} {s : Shared}
theorem nextS1 {it a : Addr} {xs : Array Value} {k : Nat} {y : Value} {Q : Value → Shared → Prop} (z : SIt s.heap it a xs k) (hne : a ≠ it) (hy : xs[k]? = some y)
  (hQ : ∀ h', SIt h' it a xs (k + 1) → Heap.SameBut it s.heap h' → Q y { s with heap := h' }) : wpAny (model prog w) A (Builtin.SmallTypes.nextOf (.ref it)) Q E s := by
 rcases z with ⟨z1, z2⟩ | ⟨z1, z2⟩
 · exact wpAny_nextOf_list_item z1 z2 hy fun h' q sb => hQ h' (.inl ⟨q, let ⟨o, e, r⟩ := z2; ⟨o, (sb.2 a hne).trans e, r⟩⟩) sb
 · exact tupNext1 z1 z2 hy fun h' q sb => hQ h' (.inr ⟨q, let ⟨o, e, r⟩ := z2; ⟨o, (sb.2 a hne).trans e, r⟩⟩) sb
theorem nextS0 {it a : Addr} {xs : Array Value} {k : Nat} {Q : Value → Shared → Prop} (hh : A.handled = none) (z : SIt s.heap it a xs k) (hy : xs[k]? = none)
  (hE : ∀ h' e, Heap.ExtBut it s.heap h' → (∃ o, h'.get? e = some o ∧ o.cls = .type "StopIteration") → E (.ref e) { s with heap := h' }) : wpAny (model prog w) A (Builtin.SmallTypes.nextOf (.ref it)) Q E s := by
 rcases z with ⟨z1, z2⟩ | ⟨z1, z2⟩
 · exact wpAny_nextOf_list_end hh z1 z2 hy hE
 · exact tupNext0 hh z1 z2 hy hE
theorem zipS_body {z TI TO i1 i2 l1 l2 : Addr} {k1 k2 : Nat} {xs ys : Array Value} {x y a b : Value} {Q : Value → Shared → Prop} (D : ZipApart z TI TO i1 i2 l1 l2) (hz : IsZip s.heap z TI TO .none) (hTI : IsPair s.heap TI (.ref i1) (.ref i2)) (hTO : IsPair s.heap TO a b)
  (h1 : SIt s.heap i1 l1 xs k1) (h2 : SIt s.heap i2 l2 ys k2) (hx : xs[k1]? = some x) (hy : ys[k2]? = some y)
  (hQ : ∀ h', IsZip h' z TI TO (rawInt s.heap.objs.size) → IsPair h' TO x y → SIt h' i1 l1 xs (k1 + 1) → SIt h' i2 l2 ys (k2 + 1) → IsPair h' s.heap.objs.size x y → h'.objs.size = s.heap.objs.size + 1 →
   (∀ c o, c ≠ z → c ≠ TO → c ≠ i1 → c ≠ i2 → s.heap.get? c = some o → h'.get? c = some o) → Q (.ref s.heap.objs.size) { s with heap := h' }) : wpAny (model prog w) A (Builtin.«zip.__next__» ⟨[.ref z], []⟩) (fun fin s' => ∃ v, fin = .done (.ret v) ∧ Q v s') E s := by
 show wpAny _ _ (field (.ref z) 2 >>= _) _ _ _; refine wpAny_bind (wpAny_field hz rfl (x := .bool false) rfl ?_)
 show wpAny _ _ (field (.ref z) 3 >>= _) _ _ _; refine wpAny_bind (wpAny_field hz rfl (x := .ref TI) rfl ?_); refine wpAny_bind (wpAny_seqItems hTI rfl ?_)
 show wpAny _ _ (Builtin.SmallTypes.ownedTupleIsFree (.ref z) >>= _) _ _ _; refine wpAny_bind ?_; unfold Builtin.SmallTypes.ownedTupleIsFree
 refine wpAny_bind (wpAny_field hz rfl (x := .none) rfl (wpAny_pure ?_)); simp only [if_true]; refine wpAny_bind (wpAny_rule ?_)
 refine wpAny_bind (wpAny_field hz rfl (x := .ref TO) rfl ?_); refine wpAny_bind (wpAny_setField_rec hz (by simp) fun h₁ hz₁ hs₁ => ?_)
 replace hz₁ : IsZip h₁ z TI TO .ellipsis := hz₁; refine wpAny_bind ?_; simp only [List.zipIdx_cons, List.zipIdx_nil, List.forIn_cons, List.forIn_nil]
 refine wpAny_bind (wpAny_bind (wpAny_onRaise ?_)); show wpAny _ _ (Builtin.SmallTypes.nextOf (.ref i1) >>= _) _ _ _
 refine wpAny_bind (nextS1 (h1.ext (fun o e => hs₁.extBut _ _ D.i1z e) fun o e => hs₁.extBut _ _ D.l1z e) D.l1i1 hx fun h₂ h1₂ hs₂ => wpAny_pure ?_)
 have hTO₂ : IsPair h₂ TO a b := hs₂.extBut _ _ D.TOi1 (hs₁.extBut _ _ D.TOz hTO); refine wpAny_bind (wpAny_seqItems hTO₂ rfl ?_)
 refine wpAny_bind (wpAny_updateSeq_pair hTO₂ fun h₃ hTO₃ hs₃ => ?_); replace hTO₃ : IsPair h₃ TO x b := hTO₃; refine wpAny_bind (wpAny_letGo (wpAny_pure ?_))
 refine wpAny_bind (wpAny_bind (wpAny_onRaise ?_)); show wpAny _ _ (Builtin.SmallTypes.nextOf (.ref i2) >>= _) _ _ _
 have k3 : ∀ c o, c ≠ z → c ≠ i1 → c ≠ TO → s.heap.get? c = some o → h₃.get? c = some o := fun c o c1 c2 c3 e => hs₃.extBut _ _ c3 (hs₂.extBut _ _ c2 (hs₁.extBut _ _ c1 e))
 refine wpAny_bind (nextS1 (h2.ext (fun o e => k3 _ o D.i2z D.i12.symm D.TOi2.symm e) fun o e => k3 _ o D.l2z D.l2i1 D.l2TO e) D.l2i2 hy fun h₄ h2₄ hs₄ => wpAny_pure ?_)
 have hTO₄ : IsPair h₄ TO x b := hs₄.extBut _ _ D.TOi2 hTO₃; refine wpAny_bind (wpAny_seqItems hTO₄ rfl ?_)
 refine wpAny_bind (wpAny_updateSeq_pair hTO₄ fun h₅ hTO₅ hs₅ => ?_); replace hTO₅ : IsPair h₅ TO x y := hTO₅; refine wpAny_bind (wpAny_letGo (wpAny_pure (wpAny_pure ?_)))
 refine wpAny_bind (wpAny_seqItems hTO₅ rfl ?_); refine wpAny_bind (wpAny_newTuple ?_)
 have hsz : h₅.objs.size = s.heap.objs.size := by rw [hs₅.1, hs₄.1, hs₃.1, hs₂.1, hs₁.1]
 have k5 : ∀ c o, c ≠ z → c ≠ TO → c ≠ i1 → c ≠ i2 → s.heap.get? c = some o → h₅.get? c = some o := fun c o c1 c2 c3 c4 e => hs₅.extBut _ _ c2 (hs₄.extBut _ _ c4 (k3 c o c1 c3 c2 e))
 have hz₅ : IsZip h₅ z TI TO .ellipsis := hs₅.extBut _ _ D.TOz.symm (hs₄.extBut _ _ D.i2z.symm (hs₃.extBut _ _ D.TOz.symm (hs₂.extBut _ _ D.i1z.symm hz₁)))
 have f1 : SIt h₅ i1 l1 xs (k1 + 1) := h1₂.ext (fun o e => hs₅.extBut _ _ D.TOi1.symm (hs₄.extBut _ _ D.i12 (hs₃.extBut _ _ D.TOi1.symm e))) fun o e => hs₅.extBut _ _ D.l1TO (hs₄.extBut _ _ D.l1i2 (hs₃.extBut _ _ D.l1TO e))
 have f2 : SIt h₅ i2 l2 ys (k2 + 1) := h2₄.ext (fun o e => hs₅.extBut _ _ D.TOi2.symm e) fun o e => hs₅.extBut _ _ D.l2TO e
 have zlt : z < h₅.objs.size := Heap.lt_size hz₅
 show wpAny _ _ (Builtin.SmallTypes.ownedTupleHandOut (.ref z) (.ref h₅.objs.size) >>= _) _ _ _; refine wpAny_bind ?_; unfold Builtin.SmallTypes.ownedTupleHandOut
 have hz₆ : IsZip (h₅.push { cls := .type "tuple", data := .seq #[x, y] }) z TI TO .ellipsis := Heap.get?_push_of_some _ hz₅; refine wpAny_bind (wpAny_setField_rec hz₆ (by simp) fun h₇ hz₇ hs₇ => ?_)
 replace hz₇ : IsZip h₇ z TI TO (rawInt h₅.objs.size) := hz₇; refine wpAny_setField_rec hz₇ (by simp) fun h₈ hz₈ hs₈ => ?_
 replace hz₈ : IsZip h₈ z TI TO (rawInt h₅.objs.size) := hz₈
 have up : ∀ c o, c ≠ z → h₅.get? c = some o → h₈.get? c = some o := fun c o c1 e => hs₈.extBut _ _ c1 (hs₇.extBut _ _ c1 (Heap.get?_push_of_some _ e))
 have pT : IsPair h₈ h₅.objs.size x y := hs₈.extBut _ _ (Nat.ne_of_gt zlt) (hs₇.extBut _ _ (Nat.ne_of_gt zlt) (Heap.get?_push_size _ rfl))
 have s8 : h₈.objs.size = h₅.objs.size + 1 := by rw [hs₈.1, hs₇.1, Heap.size_push]
 rw [hsz] at hz₈ pT s8; refine wpAny_pure ⟨_, rfl, ?_⟩; show Q (.ref h₅.objs.size) _; rw [hsz]
 exact hQ h₈ hz₈ (up _ _ D.TOz hTO₅) (f1.ext (fun o e => up _ o D.i1z e) fun o e => up _ o D.l1z e) (f2.ext (fun o e => up _ o D.i2z e) fun o e => up _ o D.l2z e) pT s8 fun c o c1 c2 c3 c4 e => up c o c1 (k5 c o c1 c2 c3 c4 e)
theorem zipS_over {z TI TO i1 i2 l1 l2 : Addr} {k1 k2 : Nat} {xs ys : Array Value} {a b : Value} {Q : Fin → Shared → Prop} (hh : A.handled = none) (D : ZipApart z TI TO i1 i2 l1 l2) (hz : IsZip s.heap z TI TO .none) (hTI : IsPair s.heap TI (.ref i1) (.ref i2)) (hTO : IsPair s.heap TO a b)
  (h1 : SIt s.heap i1 l1 xs k1) (h2 : SIt s.heap i2 l2 ys k2) (hend : xs[k1]? = none ∨ ys[k2]? = none)
  (hE : ∀ h' e, (∀ c o, c ≠ z → c ≠ TO → c ≠ i1 → c ≠ i2 → s.heap.get? c = some o → h'.get? c = some o) → (∃ o, h'.get? e = some o ∧ o.cls = .type "StopIteration") → E (.ref e) { s with heap := h' }) : wpAny (model prog w) A (Builtin.«zip.__next__» ⟨[.ref z], []⟩) Q E s := by
 show wpAny _ _ (field (.ref z) 2 >>= _) _ _ _; refine wpAny_bind (wpAny_field hz rfl (x := .bool false) rfl ?_)
 show wpAny _ _ (field (.ref z) 3 >>= _) _ _ _; refine wpAny_bind (wpAny_field hz rfl (x := .ref TI) rfl ?_); refine wpAny_bind (wpAny_seqItems hTI rfl ?_)
 show wpAny _ _ (Builtin.SmallTypes.ownedTupleIsFree (.ref z) >>= _) _ _ _; refine wpAny_bind ?_; unfold Builtin.SmallTypes.ownedTupleIsFree
 refine wpAny_bind (wpAny_field hz rfl (x := .none) rfl (wpAny_pure ?_)); simp only [if_true]; refine wpAny_bind (wpAny_rule ?_)
 refine wpAny_bind (wpAny_field hz rfl (x := .ref TO) rfl ?_); refine wpAny_bind (wpAny_setField_rec hz (by simp) fun h₁ hz₁ hs₁ => ?_)
 replace hz₁ : IsZip h₁ z TI TO .ellipsis := hz₁; refine wpAny_bind ?_; simp only [List.zipIdx_cons, List.zipIdx_nil, List.forIn_cons, List.forIn_nil]
 refine wpAny_bind (wpAny_bind (wpAny_onRaise ?_)); show wpAny _ _ (Builtin.SmallTypes.nextOf (.ref i1) >>= _) _ _ _
 have g1 : SIt h₁ i1 l1 xs k1 := h1.ext (fun o e => hs₁.extBut _ _ D.i1z e) fun o e => hs₁.extBut _ _ D.l1z e
 cases hx : xs[k1]? with
 | none =>
  refine wpAny_bind (nextS0 hh g1 hx fun h₂ e hs₂ he => ?_); obtain ⟨oe, hoe, hce⟩ := he
  have hz₂ : IsZip h₂ z TI TO .ellipsis := hs₂ _ _ D.i1z.symm hz₁
  have hez : e ≠ z := fun y => by subst y; rw [hz₂] at hoe; cases hoe; simp at hce
  exact wpAny_setField_rec hz₂ (by simp) fun h₃ _ hs₃ => hE h₃ e (fun c o c1 _ c3 _ y => hs₃.extBut _ _ c1 (hs₂ _ _ c3 (hs₁.extBut _ _ c1 y))) ⟨oe, hs₃.extBut _ _ hez hoe, hce⟩
 | some x =>
  have hy : ys[k2]? = none := hend.resolve_left fun q => by rw [hx] at q; cases q
  refine wpAny_bind (nextS1 g1 D.l1i1 hx fun h₂ h1₂ hs₂ => wpAny_pure ?_)
  have hTO₂ : IsPair h₂ TO a b := hs₂.extBut _ _ D.TOi1 (hs₁.extBut _ _ D.TOz hTO); refine wpAny_bind (wpAny_seqItems hTO₂ rfl ?_)
  refine wpAny_bind (wpAny_updateSeq_pair hTO₂ fun h₃ hTO₃ hs₃ => ?_); refine wpAny_bind (wpAny_letGo (wpAny_pure ?_))
  refine wpAny_bind (wpAny_bind (wpAny_onRaise ?_)); show wpAny _ _ (Builtin.SmallTypes.nextOf (.ref i2) >>= _) _ _ _
  have k3 : ∀ c o, c ≠ z → c ≠ i1 → c ≠ TO → s.heap.get? c = some o → h₃.get? c = some o := fun c o c1 c2 c3 e => hs₃.extBut _ _ c3 (hs₂.extBut _ _ c2 (hs₁.extBut _ _ c1 e))
  refine wpAny_bind (nextS0 hh (h2.ext (fun o e => k3 _ o D.i2z D.i12.symm D.TOi2.symm e) fun o e => k3 _ o D.l2z D.l2i1 D.l2TO e) hy fun h₄ e hs₄ he => ?_); obtain ⟨oe, hoe, hce⟩ := he
  have hz₄ : IsZip h₄ z TI TO .ellipsis := hs₄ _ _ D.i2z.symm (hs₃.extBut _ _ D.TOz.symm (hs₂.extBut _ _ D.i1z.symm hz₁))
  have hez : e ≠ z := fun y => by subst y; rw [hz₄] at hoe; cases hoe; simp at hce
  exact wpAny_setField_rec hz₄ (by simp) fun h₅ _ hs₅ => hE h₅ e (fun c o c1 c2 c3 c4 y => hs₅.extBut _ _ c1 (hs₄ _ _ c4 (k3 c o c1 c3 c2 y))) ⟨oe, hs₅.extBut _ _ hez hoe, hce⟩
theorem zipS_item {z TI TO i1 i2 l1 l2 : Addr} {k1 k2 : Nat} {xs ys : Array Value} {x y a b : Value} {Q : Option Value → Shared → Prop} (D : ZipApart z TI TO i1 i2 l1 l2) (hz : IsZip s.heap z TI TO .none) (hTI : IsPair s.heap TI (.ref i1) (.ref i2)) (hTO : IsPair s.heap TO a b)
  (h1 : SIt s.heap i1 l1 xs k1) (h2 : SIt s.heap i2 l2 ys k2) (hx : xs[k1]? = some x) (hy : ys[k2]? = some y)
  (hQ : ∀ h', IsZip h' z TI TO (rawInt s.heap.objs.size) → IsPair h' TO x y → SIt h' i1 l1 xs (k1 + 1) → SIt h' i2 l2 ys (k2 + 1) → IsPair h' s.heap.objs.size x y → h'.objs.size = s.heap.objs.size + 1 →
   (∀ c o, c ≠ z → c ≠ TO → c ≠ i1 → c ≠ i2 → s.heap.get? c = some o → h'.get? c = some o) → Q (some (.ref s.heap.objs.size)) { s with heap := h' }) : wpAny (model prog w) A (pyNext (.ref z)) Q E s := by
 have hT : s.TypeIs (.ref z) "zip" := ⟨_, hz, rfl⟩; unfold pyNext
 exact wpAny_bind (wpAny_attempt (wpAny_callSpecial?_slot (name := Str.ofString "__next__") hT F.slot_zip_next (wpAny_call_entry F.slot_zip_next hT F.entry_zip_next
   (zipS_body D hz hTI hTO h1 h2 hx hy fun h' a1 a2 a3 a4 a5 a6 a7 => wpAny_pure (hQ h' a1 a2 a3 a4 a5 a6 a7)) (F.args_zip_next_1 _))))
theorem zipS_end {z TI TO i1 i2 l1 l2 : Addr} {k1 k2 : Nat} {xs ys : Array Value} {a b : Value} {Q : Option Value → Shared → Prop} (hh : A.handled = none) (D : ZipApart z TI TO i1 i2 l1 l2) (hz : IsZip s.heap z TI TO .none) (hTI : IsPair s.heap TI (.ref i1) (.ref i2)) (hTO : IsPair s.heap TO a b)
  (h1 : SIt s.heap i1 l1 xs k1) (h2 : SIt s.heap i2 l2 ys k2) (hend : xs[k1]? = none ∨ ys[k2]? = none)
  (hQ : ∀ h', (∀ c o, c ≠ z → c ≠ TO → c ≠ i1 → c ≠ i2 → s.heap.get? c = some o → h'.get? c = some o) → Q none { s with heap := h' }) : wpAny (model prog w) A (pyNext (.ref z)) Q E s := by
 have hT : s.TypeIs (.ref z) "zip" := ⟨_, hz, rfl⟩; unfold pyNext
 refine wpAny_bind (wpAny_attempt (wpAny_callSpecial?_slot (name := Str.ofString "__next__") hT F.slot_zip_next (wpAny_call_entry F.slot_zip_next hT F.entry_zip_next (zipS_over hh D hz hTI hTO h1 h2 hend fun h' e hk he => ?_) (F.args_zip_next_1 _))))
 obtain ⟨o, ho, hc⟩ := he; refine wpAny_bind (wpAny_isInstance (T := "StopIteration") (b := true) ⟨o, ho, hc⟩ isSubtype_stop ?_)
 exact wpAny_pure (hQ _ hk)
end
end L2
end
section
namespace L2
open PySem PySem.Spec PyProof.Rows
open AutoSeq1 (wpAny_loadPart')
noncomputable def itO (b : Bool) (a : Addr) : Obj := { cls := .type (if b then "tuple_iterator" else "list_iterator"), data := .fields #[.ref a, .int 0 0] }
def IsSq (b : Bool) (h : Heap) (a : Addr) (xs : Array Value) : Prop := match b with
 | true => h.IsTuple a xs
 | false => h.IsList a xs
noncomputable def zipL2 (h : Heap) (b1 b2 : Bool) (a1 a2 : Addr) : Heap := (h.push (itO b1 a1)).push (itO b2 a2)
noncomputable def zipL4 (h : Heap) (b1 b2 : Bool) (a1 a2 : Addr) : Heap := ((zipL2 h b1 b2 a1 a2).push { cls := .type "tuple", data := .seq #[.ref h.objs.size, .ref (h.push (itO b1 a1)).objs.size] }).push { cls := .type "tuple", data := .seq #[.none, .none] }
noncomputable def zipL5 (h : Heap) (b1 b2 : Bool) (a1 a2 : Addr) : Heap :=
 (zipL4 h b1 b2 a1 a2).push { cls := .type "zip", data := .fields #[.none, .bool false, .bool false, .ref (zipL2 h b1 b2 a1 a2).objs.size, .ref ((zipL2 h b1 b2 a1 a2).push { cls := .type "tuple", data := .seq #[.ref h.objs.size, .ref (h.push (itO b1 a1)).objs.size] }).objs.size] }
theorem zipNew (b1 b2 : Bool) (a1 a2 : Addr) (xs ys : Array Value) :
  Meets (Builtin.«zip.__new__» ⟨[.type "zip", .ref a1, .ref a2], []⟩) (fun _ R s => IsSq b1 s.heap a1 xs ∧ IsSq b2 s.heap a2 ys ∧ R (.ok (.ret (.ref (zipL4 s.heap b1 b2 a1 a2).objs.size))) { s with heap := zipL5 s.heap b1 b2 a1 a2 }) :=
 .of_wp fun prog w A R s h => by
  obtain ⟨hp, g, d, tk, os⟩ := s
  obtain ⟨h1, h2, h⟩ := h
  have hsub := sub_zip
  cases b1 <;> cases b2
  · have q1 : Heap.IsList (Shared.heap ⟨hp, g, d, tk, os⟩) a1 xs := h1
    have q2 : Heap.IsList (Shared.heap ⟨hp.push { cls := .type "list_iterator", data := .fields #[.ref a1, .int 0 0] }, g, d, tk, os⟩) a2 ys := Heap.IsList.push h2 _
    wp_walk using wpAny_pyIter_list q1, wpAny_pyIter_list q2
    exact ⟨_, rfl, h⟩
  · have q1 : Heap.IsList (Shared.heap ⟨hp, g, d, tk, os⟩) a1 xs := h1
    have q2 : Heap.IsTuple (Shared.heap ⟨hp.push { cls := .type "list_iterator", data := .fields #[.ref a1, .int 0 0] }, g, d, tk, os⟩) a2 ys := let ⟨o, e, r⟩ := h2; ⟨o, Heap.get?_push_of_some _ e, r⟩
    wp_walk using wpAny_pyIter_list q1, wpAny_pyIter_tuple q2
    exact ⟨_, rfl, h⟩
  · have q1 : Heap.IsTuple (Shared.heap ⟨hp, g, d, tk, os⟩) a1 xs := h1
    have q2 : Heap.IsList (Shared.heap ⟨hp.push { cls := .type "tuple_iterator", data := .fields #[.ref a1, .int 0 0] }, g, d, tk, os⟩) a2 ys := Heap.IsList.push h2 _
    wp_walk using wpAny_pyIter_tuple q1, wpAny_pyIter_list q2
    exact ⟨_, rfl, h⟩
  · have q1 : Heap.IsTuple (Shared.heap ⟨hp, g, d, tk, os⟩) a1 xs := h1
    have q2 : Heap.IsTuple (Shared.heap ⟨hp.push { cls := .type "tuple_iterator", data := .fields #[.ref a1, .int 0 0] }, g, d, tk, os⟩) a2 ys := let ⟨o, e, r⟩ := h2; ⟨o, Heap.get?_push_of_some _ e, r⟩
    wp_walk using wpAny_pyIter_tuple q1, wpAny_pyIter_tuple q2
    exact ⟨_, rfl, h⟩
end L2
end
section
namespace L2
open PySem PySem.Spec PyProof.Rows
def Sqb (b : Bool) (H : Hp) (a : Addr) (xs : List V) : Prop := match b with
 | true => H a = some (.tup xs)
 | false => H a = some (.lst xs)
theorem Sqb.inj {b : Bool} {H : Hp} {a : Addr} {xs ys : List V} (h : Sqb b H a xs) (k : Sqb b H a ys) : xs = ys := by
 cases b
 · have h : H a = some (.lst xs) := h
   have k : H a = some (.lst ys) := k
   rw [h] at k; cases k; rfl
 · have h : H a = some (.tup xs) := h
   have k : H a = some (.tup ys) := k
   rw [h] at k; cases k; rfl
theorem Sqb.some {b : Bool} {H : Hp} {a : Addr} {xs : List V} (h : Sqb b H a xs) : ∃ o, H a = some o := by
 cases b
 · exact ⟨_, h⟩
 · exact ⟨_, h⟩
def Itb (b : Bool) (h : Heap) (it a : Addr) (k : Nat) : Prop := match b with
 | true => h.IsTupleIter it a k
 | false => h.IsListIter it a k
theorem Itb.obj {b : Bool} {h : Heap} {it a : Addr} {k : Nat} (z : Itb b h it a k) : ∃ o, h.get? it = Option.some o ∧ ∀ v, o.data ≠ .cell v := by
 cases b
 · obtain ⟨o, q, _, d⟩ := (show h.IsListIter it a k from z); exact ⟨o, q, fun v y => by rw [d] at y; cases y⟩
 · obtain ⟨o, q, _, d⟩ := (show h.IsTupleIter it a k from z); exact ⟨o, q, fun v y => by rw [d] at y; cases y⟩
theorem Itb.keep {b : Bool} {h h' : Heap} {it a : Addr} {k : Nat} (z : Itb b h it a k) (e : ∀ o, h.get? it = Option.some o → h'.get? it = Option.some o) : Itb b h' it a k := by
 cases b
 · obtain ⟨o, q, r⟩ := (show h.IsListIter it a k from z); exact (show h'.IsListIter it a k from ⟨o, e o q, r⟩)
 · obtain ⟨o, q, r⟩ := (show h.IsTupleIter it a k from z); exact (show h'.IsTupleIter it a k from ⟨o, e o q, r⟩)
theorem Itb.sit {b : Bool} {h : Heap} {it a : Addr} {k : Nat} {xs : Array Value} (z : Itb b h it a k) (q : IsSq b h a xs) : SIt h it a xs k := by
 cases b
 · exact .inl ⟨z, q⟩
 · exact .inr ⟨z, q⟩
theorem itb_of {b : Bool} {h : Heap} {it a : Addr} {k : Nat} {xs : Array Value} (z : SIt h it a xs k) (q : IsSq b h a xs) : Itb b h it a k := by
 cases b
 · rcases z with ⟨z1, _⟩ | ⟨_, o, e1, e2, _⟩
   · exact z1
   · obtain ⟨o', f1, f2, _⟩ := (show h.IsList a xs from q)
     rw [f1] at e1; cases e1; rw [f2] at e2; injection e2 with y; exact absurd y (by decide)
 · rcases z with ⟨_, o, e1, e2, _⟩ | ⟨z1, _⟩
   · obtain ⟨o', f1, f2, _⟩ := (show h.IsTuple a xs from q)
     rw [f1] at e1; cases e1; rw [f2] at e2; injection e2 with y; exact absurd y (by decide)
   · exact z1
section
variable {X : Cx} {pins : List (Addr × Obj)} {σ : St} {H : Hp} {s : Shared}
theorem Inv.sqb {b : Bool} {a : Addr} {xs : List V} (I : Inv X pins σ H s) (h : Sqb b H a xs) : ∃ its : List Value, Vals xs its ∧ IsSq b s.heap a its.toArray := by
 cases b
 · obtain ⟨its, rv, pl, _⟩ := I.list (SqL.of (show H a = Option.some (.lst xs) from h))
   exact ⟨its, rv, pl.isList⟩
 · obtain ⟨its, rv, pl, _⟩ := I.tuple (SqT.of (show H a = Option.some (.tup xs) from h))
   exact ⟨its, rv, pl⟩
end
section
variable {X : Cx} {pins : List (Addr × Obj)} {σ : St} {H : Hp} {s : Shared}
theorem Inv.turnedAll {h' : Heap} {t' : Nat} {ch : List Addr} (I : Inv X pins σ H s) (hc : ∀ b ∈ ch, FpOk X pins H b) (k : ∀ b u, b ∉ ch → s.heap.get? b = some u → h'.get? b = some u) : Inv X pins σ H { s with heap := h', toks := t' } := by
 have trk : ∀ b u, H b = some u → b ∉ ch := fun b u e z => by rw [(hc b z).1] at e; cases e
 refine I.step (g' := s.gens) (d' := s.drawn) (ch := ch) (fun b hb => ?_) (fun b u _ _ hn e _ => k b u hn e) (fun b u _ _ hn e _ => ⟨u.slots, k b u hn e⟩) (fun _ _ _ _ n => n)
  (fun b u hn e => ⟨u, k b u hn e⟩) (fun _ _ e => e) (fun _ _ _ e => e) (fun b ps e => ⟨#[], by rw [e]; simp⟩) (fun m hm => ?_) (fun b u e => ?_) I.bare
 · obtain ⟨f0, f1, f2, f3, f4, f5⟩ := hc b hb
   exact ⟨f3, f1, f4, f5⟩
 · obtain ⟨ob, es, ep, ho, r⟩ := hm
   exact ⟨ob, es, ep, k _ ob (fun z => (hc _ z).2.1 rfl) ho, r⟩
 · refine (I.hok b u e).stay (fun c v hc' q => k c v ?_ q) (fun c q => q) fun c xs q => q
   rcases hc' with z | z
   · rw [z]; exact trk b u e
   · exact trk c _ z
end
structure Z5 (n : Nat) : Prop where
 a : n + 2 ≠ n + 4
 b : n + 3 ≠ n + 4
 c : n ≠ n + 4
 d : n + 1 ≠ n + 4
 e : n + 2 ≠ n + 3
 f : n + 2 ≠ n
 g : n + 2 ≠ n + 1
 h : n + 3 ≠ n
 i : n + 3 ≠ n + 1
 j : n ≠ n + 1
theorem fiveZ (n : Nat) : Z5 n := ⟨by lia, by lia, by lia, by lia, by lia, by lia, by lia, by lia, by lia, by lia⟩
noncomputable def Itz (b1 b2 : Bool) (a1 a2 : Addr) : It :=
 ⟨fun i H => ∃ xs x ys y, Sqb b1 H a1 xs ∧ xs[i]? = some x ∧ Sqb b2 H a2 ys ∧ ys[i]? = some y,
  fun i H v H' => ∃ p x y, v = .ref p ∧ H p = none ∧ H' = upd H p (.tup [x, y]) ∧ (∀ xs, Sqb b1 H a1 xs → xs[i]? = some x) ∧ ∀ ys, Sqb b2 H a2 ys → ys[i]? = some y,
  fun i H => ∃ xs ys, Sqb b1 H a1 xs ∧ Sqb b2 H a2 ys ∧ (xs.length ≤ i ∨ ys.length ≤ i)⟩
theorem turn_zip {P : Program} {w : World} {K : PySem.W.Frag} {es : List Expr} {x1} {tp : Pos} (b1 b2 : Bool) (a1 a2 : Addr) (n : Nat) :
  Turn P w K (.Tuple es x1 tp) (Itz b1 b2 a1 a2) [n + 4, n + 2, n + 3, n, n + 1] (n + 4) (fun i h => IsZip h (n + 4) (n + 2) (n + 3) .none ∧ IsPair h (n + 2) (.ref n) (.ref (n + 1)) ∧ (∃ a b, IsPair h (n + 3) a b) ∧ Itb b1 h n a1 i ∧ Itb b2 h (n + 1) a2 i) where
 mem := by simp
 obj := fun i h st b hb => by
  obtain ⟨z1, z2, ⟨u, v, z3⟩, z4, z5⟩ := st
  simp only [List.mem_cons, List.not_mem_nil, or_false] at hb
  rcases hb with rfl | rfl | rfl | rfl | rfl
  · exact ⟨_, z1, fun v y => nomatch (show Data.fields _ = Data.cell v from y)⟩
  · exact ⟨_, z2, fun v y => nomatch (show Data.seq _ _ = Data.cell v from y)⟩
  · exact ⟨_, z3, fun v y => nomatch (show Data.seq _ _ = Data.cell v from y)⟩
  · exact z4.obj
  · exact z5.obj
 keep := fun i h h' st kk => by
  obtain ⟨z1, z2, ⟨u, v, z3⟩, z4, z5⟩ := st
  exact ⟨kk _ (by simp) _ z1, kk _ (by simp) _ z2, ⟨u, v, kk _ (by simp) _ z3⟩, z4.keep fun o q => kk _ (by simp) o q, z5.keep fun o q => kk _ (by simp) o q⟩
 item := by
  intro X hP hw hK hc i pins s σ H E I hf st hg
  subst hP hw hK
  obtain ⟨xs, x, ys, y, q1, hx, q2, hy⟩ := hg
  obtain ⟨its, rv, p1⟩ := I.sqb q1
  obtain ⟨its2, rv2, p2⟩ := I.sqb q2
  obtain ⟨u, hu, ru⟩ := rv.get hx
  obtain ⟨u2, hu2, ru2⟩ := rv2.get hy
  obtain ⟨z1, z2, ⟨c1, c2, z3⟩, z4, z5⟩ := st
  have ap : ∀ {b : Bool} {a : Addr} {zs : List V}, Sqb b H a zs → ∀ f ∈ [n + 4, n + 2, n + 3, n, n + 1], a ≠ f := fun hq f hfm e => by
   obtain ⟨o, q⟩ := hq.some
   have := (hf f hfm).1
   rw [← e, q] at this; cases this
  have D : ZipApart (n + 4) (n + 2) (n + 3) n (n + 1) a1 a2 := ⟨(fiveZ n).a, (fiveZ n).b, (fiveZ n).c, (fiveZ n).d, (fiveZ n).e, (fiveZ n).f, (fiveZ n).g, (fiveZ n).h, (fiveZ n).i, (fiveZ n).j, ap q1 _ (by simp), ap q1 _ (by simp), ap q1 _ (by simp), ap q1 _ (by simp), ap q2 _ (by simp), ap q2 _ (by simp), ap q2 _ (by simp), ap q2 _ (by simp)⟩
  refine zipS_item D z1 z2 z3 (z4.sit p1) (z5.sit p2) (x := u) (y := u2) (by simpa using hu) (by simpa using hu2) fun h' e1 e2 e3 e4 e5 e6 e7 => ⟨_, rfl, ?_⟩
  refine wpAny_letOwnedTupleGo_zip e1 fun h2 g1 sb => ?_
  have zlt : n + 4 < s.heap.objs.size := Heap.lt_size z1
  have I1 : Inv X pins σ (upd H s.heap.objs.size (.tup [x, y])) { s with heap := h2, toks := s.toks } := by
   refine I.turnedNew (ch := [n + 4, n + 2, n + 3, n, n + 1]) hf (Nat.le_refl _) (fun b o hb q => ?_) ⟨by show 2 ≤ sizeLine; decide, [u, u2], .cons ru (.cons ru2 .nil), ?_⟩
   · have m : ∀ f, f ∈ [n + 4, n + 2, n + 3, n, n + 1] → b ≠ f := fun f hfm e => hb (e ▸ hfm)
     exact (sb.2 b (m _ (by simp))).trans (e7 b o (m _ (by simp)) (m _ (by simp)) (m _ (by simp)) (m _ (by simp)) q)
   · exact ⟨_, (sb.2 _ (Nat.ne_of_gt zlt)).trans e5, rfl, rfl, _, rfl⟩
  have up : ∀ b o, b ≠ n + 4 → h'.get? b = some o → h2.get? b = some o := fun b o hb q => (sb.2 b hb).trans q
  have keepS : ∀ {b : Bool} {a : Addr} {zs : Array Value} {ws : List V}, Sqb b H a ws → IsSq b s.heap a zs → IsSq b h' a zs := fun {b a zs ws} hq hs => by
   have k : ∀ o, s.heap.get? a = some o → h'.get? a = some o := fun o q => e7 a o (ap hq _ (by simp)) (ap hq _ (by simp)) (ap hq _ (by simp)) (ap hq _ (by simp)) q
   cases b
   · obtain ⟨o, f1, f2⟩ := (show s.heap.IsList a zs from hs); exact (show h'.IsList a zs from ⟨o, k o f1, f2⟩)
   · obtain ⟨o, f1, f2⟩ := (show s.heap.IsTuple a zs from hs); exact (show h'.IsTuple a zs from ⟨o, k o f1, f2⟩)
  refine ⟨.ref s.heap.objs.size, _, I1, rfl, ⟨_, x, y, rfl, I.hok.fresh (Nat.le_refl _), rfl, fun zs hz => by rw [hz.inj q1]; exact hx, fun zs hz => by rw [hz.inj q2]; exact hy⟩, ⟨g1, ?_, ⟨u, u2, up _ _ (fiveZ n).b e2⟩, ?_, ?_⟩, fun b hb => ?_⟩
  · exact up _ _ (fiveZ n).a (e7 _ _ (fiveZ n).a (fiveZ n).e (fiveZ n).f (fiveZ n).g z2)
  · exact (itb_of e3 (keepS q1 p1)).keep fun o q => up _ o (fiveZ n).c q
  · exact (itb_of e4 (keepS q2 p2)).keep fun o q => up _ o (fiveZ n).d q
  · rw [upd_ne (fun z => ?_)]
    · exact (hf b hb).1
    · have zlt' : n + 4 < s.heap.objs.size := zlt
      have : ∀ f : Nat, f ∈ [n + 4, n + 2, n + 3, n, n + 1] → f < s.heap.objs.size := fun f hfm => by
       simp only [List.mem_cons, List.not_mem_nil, or_false] at hfm
       lia
      exact absurd (z ▸ this b hb) (Nat.lt_irrefl _)
 done := by
  intro X hP hw hK hc i pins s σ H E I hf st hg
  subst hP hw hK
  obtain ⟨xs, ys, q1, q2, hx⟩ := hg
  obtain ⟨its, rv, p1⟩ := I.sqb q1
  obtain ⟨its2, rv2, p2⟩ := I.sqb q2
  have l1 := rv.length
  have l2 := rv2.length
  obtain ⟨z1, z2, ⟨c1, c2, z3⟩, z4, z5⟩ := st
  have ap : ∀ {b : Bool} {a : Addr} {zs : List V}, Sqb b H a zs → ∀ f ∈ [n + 4, n + 2, n + 3, n, n + 1], a ≠ f := fun hq f hfm e => by
   obtain ⟨o, q⟩ := hq.some
   have := (hf f hfm).1
   rw [← e, q] at this; cases this
  have D : ZipApart (n + 4) (n + 2) (n + 3) n (n + 1) a1 a2 := ⟨(fiveZ n).a, (fiveZ n).b, (fiveZ n).c, (fiveZ n).d, (fiveZ n).e, (fiveZ n).f, (fiveZ n).g, (fiveZ n).h, (fiveZ n).i, (fiveZ n).j, ap q1 _ (by simp), ap q1 _ (by simp), ap q1 _ (by simp), ap q1 _ (by simp), ap q2 _ (by simp), ap q2 _ (by simp), ap q2 _ (by simp), ap q2 _ (by simp)⟩
  refine zipS_end (I.ok.hd hc) D z1 z2 z3 (z4.sit p1) (z5.sit p2) (hx.elim (fun h => .inl (by rw [List.getElem?_toArray]; exact List.getElem?_eq_none (by lia))) fun h => .inr (by rw [List.getElem?_toArray]; exact List.getElem?_eq_none (by lia))) fun h' kk => ⟨rfl, ?_⟩
  refine I.turnedAll (ch := [n + 4, n + 2, n + 3, n, n + 1]) hf fun b o hb q => ?_
  have m : ∀ f, f ∈ [n + 4, n + 2, n + 3, n, n + 1] → b ≠ f := fun f hfm e => hb (e ▸ hfm)
  exact kk b o (m _ (by simp)) (m _ (by simp)) (m _ (by simp)) (m _ (by simp)) q
 self := fun A i s Q E st h => wpAny_pyIter_zip st.1 h
end L2
end
section
namespace L2
open PySem PySem.Spec PyProof.Rows
theorem boot_zip' : bootBuiltins "zip" = some (.type "zip") := by decide +kernel
def iZip (ta : TA) : TI := fun σ H R => ta σ H fun vs H1 => ∃ b1 b2 a1 a2 xs ys, vs = [.ref a1, .ref a2] ∧ Sqb b1 H1 a1 xs ∧ Sqb b2 H1 a2 ys ∧ R (Itz b1 b2 a1 a2) H1
section
variable {X : Cx} {pos : Pos}
theorem zipLaid_it {pins : List (Addr × Obj)} {σ : St} {H : Hp} {s : Shared} {R : It → Hp → Prop} {E : Value → Shared → Prop} {es : List Expr} {x1} {tp : Pos} {b1 b2 : Bool} {a1 a2 : Addr} {tk : Nat} (I : Inv X pins σ H s) (q : R (Itz b1 b2 a1 a2) H) :
  wpAny (model X.prog X.w) X.A (pyIter (.ref (zipL4 s.heap b1 b2 a1 a2).objs.size)) (PIE X pins σ (.Tuple es x1 tp) R) E { s with heap := zipL5 s.heap b1 b2 a1 a2, toks := tk } := by
 have z1 : (s.heap.push (itO b1 a1)).objs.size = s.heap.objs.size + 1 := Heap.size_push ..
 have z2 : (zipL2 s.heap b1 b2 a1 a2).objs.size = s.heap.objs.size + 2 := by unfold zipL2; rw [Heap.size_push, z1]
 have z3 : ((zipL2 s.heap b1 b2 a1 a2).push { cls := .type "tuple", data := .seq #[.ref s.heap.objs.size, .ref (s.heap.push (itO b1 a1)).objs.size] }).objs.size = s.heap.objs.size + 3 := by rw [Heap.size_push, z2]
 have z4 : (zipL4 s.heap b1 b2 a1 a2).objs.size = s.heap.objs.size + 4 := by unfold zipL4; rw [Heap.size_push, z3]
 have keep : ∀ c o, s.heap.get? c = some o → (zipL5 s.heap b1 b2 a1 a2).get? c = some o := fun c o e => by
  unfold zipL5 zipL4 zipL2
  exact Heap.get?_push_of_some _ (Heap.get?_push_of_some _ (Heap.get?_push_of_some _ (Heap.get?_push_of_some _ (Heap.get?_push_of_some _ e))))
 have g5 : IsZip (zipL5 s.heap b1 b2 a1 a2) (s.heap.objs.size + 4) (s.heap.objs.size + 2) (s.heap.objs.size + 3) .none := by
  have := Heap.get?_push_size (zipL4 s.heap b1 b2 a1 a2) (o := { cls := .type "zip", data := .fields #[.none, .bool false, .bool false, .ref (zipL2 s.heap b1 b2 a1 a2).objs.size, .ref ((zipL2 s.heap b1 b2 a1 a2).push { cls := .type "tuple", data := .seq #[.ref s.heap.objs.size, .ref (s.heap.push (itO b1 a1)).objs.size] }).objs.size] }) rfl
  rw [z4, z2, z3] at this
  unfold zipL5
  rw [z2, z3]
  exact this
 have g3 : IsPair (zipL5 s.heap b1 b2 a1 a2) (s.heap.objs.size + 2) (.ref s.heap.objs.size) (.ref (s.heap.objs.size + 1)) := by
  have := Heap.get?_push_size (zipL2 s.heap b1 b2 a1 a2) (o := { cls := .type "tuple", data := .seq #[.ref s.heap.objs.size, .ref (s.heap.push (itO b1 a1)).objs.size] }) rfl
  rw [z2] at this
  have h2 : (zipL5 s.heap b1 b2 a1 a2).get? (s.heap.objs.size + 2) = some { cls := .type "tuple", data := .seq #[.ref s.heap.objs.size, .ref (s.heap.push (itO b1 a1)).objs.size] } := by
   unfold zipL5 zipL4
   exact Heap.get?_push_of_some _ (Heap.get?_push_of_some _ this)
  rw [z1] at h2
  exact h2
 have g4 : IsPair (zipL5 s.heap b1 b2 a1 a2) (s.heap.objs.size + 3) .none .none := by
  have := Heap.get?_push_size ((zipL2 s.heap b1 b2 a1 a2).push { cls := .type "tuple", data := .seq #[.ref s.heap.objs.size, .ref (s.heap.push (itO b1 a1)).objs.size] }) (o := { cls := .type "tuple", data := .seq #[.none, .none] }) rfl
  rw [z3] at this
  unfold zipL5 zipL4
  exact Heap.get?_push_of_some _ this
 have i1 : Itb b1 (zipL5 s.heap b1 b2 a1 a2) s.heap.objs.size a1 0 := by
  have h : (zipL5 s.heap b1 b2 a1 a2).get? s.heap.objs.size = some (itO b1 a1) := by
   unfold zipL5 zipL4 zipL2
   refine Heap.get?_push_of_some _ (Heap.get?_push_of_some _ (Heap.get?_push_of_some _ (Heap.get?_push_of_some _ (Heap.get?_push_size _ ?_))))
   cases b1 <;> rfl
  cases b1
  · exact (show Heap.IsListIter _ _ _ _ from ⟨_, h, rfl, rfl⟩)
  · exact (show Heap.IsTupleIter _ _ _ _ from ⟨_, h, rfl, rfl⟩)
 have i2 : Itb b2 (zipL5 s.heap b1 b2 a1 a2) (s.heap.objs.size + 1) a2 0 := by
  have h : (zipL5 s.heap b1 b2 a1 a2).get? (s.heap.push (itO b1 a1)).objs.size = some (itO b2 a2) := by
   unfold zipL5 zipL4 zipL2
   refine Heap.get?_push_of_some _ (Heap.get?_push_of_some _ (Heap.get?_push_of_some _ (Heap.get?_push_size _ ?_)))
   cases b2 <;> rfl
  rw [z1] at h
  cases b2
  · exact (show Heap.IsListIter _ _ _ _ from ⟨_, h, rfl, rfl⟩)
  · exact (show Heap.IsTupleIter _ _ _ _ from ⟨_, h, rfl, rfl⟩)
 rw [z4]
 refine wpAny_pyIter_zip g5 ?_
 refine ⟨s.heap.objs.size + 4, _, _, Itz b1 b2 a1 a2, H, rfl, I.kept keep, turn_zip b1 b2 a1 a2 s.heap.objs.size, ⟨g5, g3, ⟨_, _, g4⟩, i1, i2⟩, fun c hc => ?_, q⟩
 have hle : s.heap.objs.size ≤ c := by
  have : ∀ n f : Nat, f ∈ [n + 4, n + 2, n + 3, n, n + 1] → n ≤ f := fun n f hf => by
   simp only [List.mem_cons, List.not_mem_nil, or_false] at hf
   omega
  exact this _ _ hc
 exact I.fpOk hle (I.hok.fresh hle)
theorem pi_zip {e f : Expr} {t : TA} {es : List Expr} {x1} {tp p : Pos} (hg : Gl X "zip") (hm : X.mg "zip" = none) (ha : PA X [e, f] t) (hs : autoParam (starEach [e, f] X.env = [(false, eval e X.env), (false, eval f X.env)]) au5._auto_1) (hs2 : autoParam (starEach [f] X.env = [(false, eval f X.env)]) au5._auto_1) :
  PI X (.Tuple es x1 tp) (.Call (.Name "zip" p) [e, f] [] pos) (iZip t) := by
 intro pins s σ H R I h
 refine Call_ (ld_blt I hg hm boot_zip' (PyProof.Rows.callWith_type1 (thn (ha pos pins s σ H _ I h) fun us s1 zz1 => ?_) (by rw [hs, hs2]) (by rw [hs2]; rfl)))
 obtain ⟨vs, H1, I1, r1, q1⟩ := zz1
 obtain ⟨b1, b2, a1, a2, xs, ys, rfl, k1, k2, q⟩ := q1
 obtain ⟨u, u2, rfl, ru, ru2⟩ := vals2 r1
 cases ru; cases ru2
 obtain ⟨its, rv, p1⟩ := I1.sqb k1
 obtain ⟨its2, rv2, p2⟩ := I1.sqb k2
 exact callTyKw F.called_zip (by decide) (F.typeCall_zip_2 _ _) (F.newCall_zip_2 _ _) (fun obj => F.args_object_init_3 obj _ _) F.entry_zip_new (zipNew b1 b2 a1 a2 its.toArray its2.toArray) ⟨p1, p2, ⟨_, Heap.get?_push_size _ rfl, rfl⟩, zipLaid_it I1 q⟩
end
end L2
end
section
namespace LW
open PySem L2 LB PyProof.Rows
theorem Same.none {H H' : Hp} {a : Addr} (s : Same H H') (h : H' a = none) : H a = none := by
 cases e : H a with
 | none => rfl
 | some o => rw [s _ _ e] at h; cases h
end LW
end
section
namespace LD
open PySem PySem.Spec L2 LB PyProof.Rows
inductive Dt where
 | non | bl (b : Bool) | int (i : Int) | str (x : Str) | lst (ds : List Dt) | tup (ds : List Dt) | dic (ks : List Key) (ds : List Dt) | dit (ks : List (List Key)) (ds : List Dt)
noncomputable def Dt.isN : Dt → Bool
 | .non => true
 | _ => false
inductive Rep (M : Addr → Prop) (H : Hp) : V → Dt → Prop where
 | non : Rep M H .non .non
 | bl (b : Bool) : Rep M H (.bl b) (.bl b)
 | int (i : Int) : Rep M H (.int i) (.int i)
 | str (x : Str) : Rep M H (.str x) (.str x)
 | lst {a : Addr} {xs : List V} {ds : List Dt} : H a = some (.lst xs) → ¬ M a → xs.length = ds.length → (∀ (i : Nat) x d, xs[i]? = some x → ds[i]? = some d → Rep M H x d) → Rep M H (.ref a) (.lst ds)
 | tup {a : Addr} {xs : List V} {ds : List Dt} : H a = some (.tup xs) → ¬ M a → xs.length = ds.length → (∀ (i : Nat) x d, xs[i]? = some x → ds[i]? = some d → Rep M H x d) → Rep M H (.ref a) (.tup ds)
 | dic {a : Addr} {vs : List (Key × V)} {ks : List Key} {ds : List Dt} : H a = some (.dK vs) → ¬ M a → vs.map (·.1) = ks → (vs.map (·.2)).length = ds.length → (∀ (i : Nat) x d, (vs.map (·.2))[i]? = some x → ds[i]? = some d → Rep M H x d) → Rep M H (.ref a) (.dic ks ds)
 | dit {a : Addr} {vs : List (List Key × V)} {ks : List (List Key)} {ds : List Dt} : H a = some (.dT vs) → ¬ M a → vs.map (·.1) = ks → (vs.map (·.2)).length = ds.length → (∀ (i : Nat) x d, (vs.map (·.2))[i]? = some x → ds[i]? = some d → Rep M H x d) → Rep M H (.ref a) (.dit ks ds)
def Reps (M : Addr → Prop) (H : Hp) (xs : List V) (ds : List Dt) : Prop := xs.length = ds.length ∧ ∀ (i : Nat) x d, xs[i]? = some x → ds[i]? = some d → Rep M H x d
theorem Rep.mono {M M' : Addr → Prop} {H H' : Hp} {v : V} {d : Dt} (h : Rep M H v d) (m : ∀ a o, H a = some o → ¬ M a → H' a = some o ∧ ¬ M' a) : Rep M' H' v d := by
 induction h with
 | non => exact .non
 | bl b => exact .bl b
 | int i => exact .int i
 | str x => exact .str x
 | lst h n l r ih => exact .lst (m _ _ h n).1 (m _ _ h n).2 l ih
 | tup h n l r ih => exact .tup (m _ _ h n).1 (m _ _ h n).2 l ih
 | dic h n e l r ih => exact .dic (m _ _ h n).1 (m _ _ h n).2 e l ih
 | dit h n e l r ih => exact .dit (m _ _ h n).1 (m _ _ h n).2 e l ih
theorem Reps.mono {M M' : Addr → Prop} {H H' : Hp} {xs : List V} {ds : List Dt} (h : Reps M H xs ds) (m : ∀ a o, H a = some o → ¬ M a → H' a = some o ∧ ¬ M' a) : Reps M' H' xs ds := ⟨h.1, fun i x d h1 h2 => (h.2 i x d h1 h2).mono m⟩
theorem Rep.same {M : Addr → Prop} {H H' : Hp} {v : V} {d : Dt} (h : Rep M H v d) (s : Same H H') : Rep M H' v d := h.mono fun a o e n => ⟨s _ _ e, n⟩
theorem Reps.same {M : Addr → Prop} {H H' : Hp} {xs : List V} {ds : List Dt} (h : Reps M H xs ds) (s : Same H H') : Reps M H' xs ds := h.mono fun a o e n => ⟨s _ _ e, n⟩
theorem Reps.nil {M : Addr → Prop} {H : Hp} : Reps M H [] [] := ⟨rfl, fun i x d h => by simp at h⟩
theorem Reps.cons {M : Addr → Prop} {H : Hp} {x : V} {d : Dt} {xs : List V} {ds : List Dt} (h : Rep M H x d) (r : Reps M H xs ds) : Reps M H (x :: xs) (d :: ds) :=
 ⟨by rw [List.length_cons, List.length_cons, r.1], fun i y e h1 h2 => by
  cases i with
  | zero => cases h1; cases h2; exact h
  | succ j => exact r.2 j y e (by simpa using h1) (by simpa using h2)⟩
theorem Reps.append {M : Addr → Prop} {H : Hp} {xs ys : List V} {ds es : List Dt} (h : Reps M H xs ds) (r : Reps M H ys es) : Reps M H (xs ++ ys) (ds ++ es) :=
 ⟨by rw [List.length_append, List.length_append, h.1, r.1], fun i y e h1 h2 => by
  by_cases hi : i < xs.length
  · rw [List.getElem?_append_left hi] at h1
    rw [List.getElem?_append_left (by rw [← h.1]; exact hi)] at h2
    exact h.2 i y e h1 h2
  · rw [List.getElem?_append_right (by omega)] at h1
    rw [List.getElem?_append_right (by have := h.1; omega), ← h.1] at h2
    exact r.2 _ y e h1 h2⟩
theorem Reps.one {M : Addr → Prop} {H : Hp} {x : V} {d : Dt} (h : Rep M H x d) : Reps M H [x] [d] := .cons h .nil
theorem Reps.get {M : Addr → Prop} {H : Hp} {xs : List V} {ds : List Dt} (h : Reps M H xs ds) {i : Nat} {d : Dt} (e : ds[i]? = some d) : ∃ x, xs[i]? = some x ∧ Rep M H x d := by
 have hi := (List.getElem?_eq_some_iff.mp e).1
 have hx : xs[i]? = some (xs[i]'(by rw [h.1]; exact hi)) := List.getElem?_eq_getElem _
 exact ⟨_, hx, h.2 i _ _ hx e⟩
theorem Reps.take {M : Addr → Prop} {H : Hp} {xs : List V} {ds : List Dt} (h : Reps M H xs ds) (n : Nat) : Reps M H (xs.take n) (ds.take n) :=
 ⟨by rw [List.length_take, List.length_take, h.1], fun i y e h1 h2 => by
  rw [List.getElem?_take] at h1 h2
  split at h1
  · rename_i hi
    rw [if_pos hi] at h2
    exact h.2 i y e h1 h2
  · cases h1⟩
theorem Reps.drop {M : Addr → Prop} {H : Hp} {xs : List V} {ds : List Dt} (h : Reps M H xs ds) (n : Nat) : Reps M H (xs.drop n) (ds.drop n) :=
 ⟨by rw [List.length_drop, List.length_drop, h.1], fun i y e h1 h2 => by
  rw [List.getElem?_drop] at h1 h2
  exact h.2 _ y e h1 h2⟩
theorem Reps.uncons {M : Addr → Prop} {H : Hp} {xs : List V} {d : Dt} {ds : List Dt} (h : Reps M H xs (d :: ds)) : ∃ x ys, xs = x :: ys ∧ Rep M H x d ∧ Reps M H ys ds := by
 cases xs with
 | nil => have := h.1; simp at this
 | cons x ys => exact ⟨x, ys, rfl, h.2 0 x d rfl rfl, ⟨by have := h.1; simpa using this, fun i y e h1 h2 => h.2 (i + 1) y e (by simpa using h1) (by simpa using h2)⟩⟩
theorem Reps.unnil {M : Addr → Prop} {H : Hp} {xs : List V} (h : Reps M H xs []) : xs = [] := List.length_eq_zero_iff.mp (by rw [h.1]; rfl)
theorem Rep.toLst {M : Addr → Prop} {H : Hp} {a : Addr} {xs : List V} {ds : List Dt} (h : H a = some (.lst xs)) (n : ¬ M a) (r : Reps M H xs ds) : Rep M H (.ref a) (.lst ds) := .lst h n r.1 r.2
theorem Rep.toTup {M : Addr → Prop} {H : Hp} {a : Addr} {xs : List V} {ds : List Dt} (h : H a = some (.tup xs)) (n : ¬ M a) (r : Reps M H xs ds) : Rep M H (.ref a) (.tup ds) := .tup h n r.1 r.2
theorem Rep.ofLst {M : Addr → Prop} {H : Hp} {v : V} {ds : List Dt} (h : Rep M H v (.lst ds)) : ∃ a xs, v = .ref a ∧ H a = some (.lst xs) ∧ ¬ M a ∧ Reps M H xs ds := by
 cases h with
 | lst h n l r => exact ⟨_, _, rfl, h, n, l, r⟩
theorem Rep.ofTup {M : Addr → Prop} {H : Hp} {v : V} {ds : List Dt} (h : Rep M H v (.tup ds)) : ∃ a xs, v = .ref a ∧ H a = some (.tup xs) ∧ ¬ M a ∧ Reps M H xs ds := by
 cases h with
 | tup h n l r => exact ⟨_, _, rfl, h, n, l, r⟩
theorem Rep.ofInt {M : Addr → Prop} {H : Hp} {v : V} {i : Int} (h : Rep M H v (.int i)) : v = .int i := by cases h; rfl
theorem Rep.ofBl {M : Addr → Prop} {H : Hp} {v : V} {i : Bool} (h : Rep M H v (.bl i)) : v = .bl i := by cases h; rfl
theorem Rep.ofStr {M : Addr → Prop} {H : Hp} {v : V} {i : Str} (h : Rep M H v (.str i)) : v = .str i := by cases h; rfl
structure ObR where
 rel : (Addr → Prop) → Hp → V → List Addr → Prop
 st : ∀ {M M' : Addr → Prop} {H H' : Hp} {v : V} {as : List Addr}, rel M H v as → (∀ a ∈ as, ∀ o, H a = some o → H' a = some o) → (∀ a o, H a = some o → ¬ M a → H' a = some o ∧ ¬ M' a) → rel M' H' v as
inductive Sl where
 | no | im (d : Dt) | ow (ds : List Dt) | bx (t : Int) | dk (ks : List Key) (ds : List Dt) | ob (R : ObR) | fn (f : Addr)
def SlR (M : Addr → Prop) (H : Hp) (o : Option V) : Sl → List Addr → Prop
 | .no, as => as = []
 | .im d, as => as = [] ∧ ∃ v, o = some v ∧ Rep M H v d
 | .ow ds, as => ∃ a xs, as = [a] ∧ o = some (.ref a) ∧ H a = some (.lst xs) ∧ Reps M H xs ds
 | .bx t, as => ∃ d c, as = [d, c] ∧ o = some (.ref d) ∧ Box H d c t
 | .dk ks ds, as => ∃ a vs, as = [a] ∧ o = some (.ref a) ∧ H a = some (.dK vs) ∧ vs.map (·.1) = ks ∧ Reps M H (vs.map (·.2)) ds
 | .ob R, as => ∃ v, o = some v ∧ R.rel M H v as
 | .fn f, as => as = [] ∧ o = some (.ref f)
structure Wd where
 H0 : Hp
 A0 : Addr → Prop
 M0 : Addr → Prop
 M1 : Addr → Prop
 box : Option (Addr × Addr)
noncomputable def Sl.isBx : Sl → Bool
 | .bx _ => true
 | _ => false
structure WOk (W : Wd) (M : Addr → Prop) (α : List (List Addr)) (H : Hp) (δ : List Sl) : Prop where
 bs : ∀ b o, W.H0 b = some o → ¬ W.A0 b → H b = some o
 ex : ∀ b, W.H0 b ≠ none → H b ≠ none
 fr : ∀ a ∈ α.flatten, W.A0 a ∨ W.H0 a = none
 m0 : ∀ a, W.M0 a → M a
 m1 : ∀ a, M a → W.M1 a ∨ W.H0 a = none
 bx : ∀ d c, W.box = some (d, c) → ∃ t, δ[0]? = some (.bx t) ∧ α[0]? = some [d, c]
 fz : ∀ (i : Nat) s as, δ[i]? = some s → α[i]? = some as → s.isBx = false → ∀ a ∈ as, ¬ W.M0 a
def MOk (M : Addr → Prop) (H : Hp) : Prop := ∀ a, M a → ∃ o, H a = some o ∧ ∀ xs, o ≠ .tup xs
structure EnvR (Ws : List Wd) (M : Addr → Prop) (α : List (List Addr)) (H : Hp) (σ : L2.St) (δ : List Sl) : Prop where
 ls : σ.length = δ.length
 la : α.length = δ.length
 sl : ∀ (i : Nat) (s : Sl), δ[i]? = some s → ∃ o as, σ[i]? = some o ∧ α[i]? = some as ∧ SlR M H o s as
 nd : α.flatten.Nodup
 mu : ∀ a ∈ α.flatten, M a
 al : MOk M H
 w : ∀ W ∈ Ws, WOk W M α H δ
def Chg (α : List (List Addr)) (H H' : Hp) : Prop := ∀ b o, H b = some o → b ∉ α.flatten → H' b = some o
theorem Chg.rf {α : List (List Addr)} {H : Hp} : Chg α H H := fun _ _ e _ => e
theorem Chg.tr {α : List (List Addr)} {H H1 H2 : Hp} (a : Chg α H H1) (b : Chg α H1 H2) : Chg α H H2 := fun x o e n => b _ _ (a _ _ e n) n
theorem Chg.of {α : List (List Addr)} {H H' : Hp} (s : Same H H') : Chg α H H' := fun x o e _ => s _ _ e
theorem Rep.chg {W : List Wd} {M : Addr → Prop} {α : List (List Addr)} {H H' : Hp} {σ : L2.St} {δ : List Sl} {v : V} {d : Dt} (h : Rep M H v d) (E : EnvR W M α H σ δ) (c : Chg α H H') : Rep M H' v d := h.mono fun a o e n => ⟨c _ _ e fun z => n (E.mu a z), n⟩
theorem SlR.same {M : Addr → Prop} {H H' : Hp} {o : Option V} {s : Sl} {as : List Addr} (h : SlR M H o s as) (z : Same H H') : SlR M H' o s as := by
 cases s with
 | no => exact h
 | im d => exact ⟨h.1, let ⟨v, e, r⟩ := h.2; ⟨v, e, r.same z⟩⟩
 | ow ds => obtain ⟨a, xs, e1, e2, e3, r⟩ := h; exact ⟨a, xs, e1, e2, z _ _ e3, r.same z⟩
 | bx t => obtain ⟨d, c, e1, e2, r⟩ := h; exact ⟨d, c, e1, e2, r.same z⟩
 | dk ks ds => obtain ⟨a, vs, e1, e2, e3, e4, r⟩ := h; exact ⟨a, vs, e1, e2, z _ _ e3, e4, r.same z⟩
 | ob R => obtain ⟨v, e, r⟩ := h; exact ⟨v, e, R.st r (fun a _ o q => z _ _ q) fun a o q n => ⟨z _ _ q, n⟩⟩
 | fn f => exact h
theorem EnvR.same {W : List Wd} {M : Addr → Prop} {α : List (List Addr)} {H H' : Hp} {σ : L2.St} {δ : List Sl} (E : EnvR W M α H σ δ) (z : Same H H') : EnvR W M α H' σ δ := by
 refine ⟨E.ls, E.la, fun i s h => ?_, E.nd, E.mu, fun a h => ?_, fun W hW => let k := E.w W hW; ⟨fun b o e n => z _ _ (k.bs b o e n), fun b n y => k.ex b n (LW.Same.none z y), k.fr, k.m0, k.m1, k.bx, k.fz⟩⟩
 · obtain ⟨o, as, h1, h2, h3⟩ := E.sl i s h
   exact ⟨o, as, h1, h2, h3.same z⟩
 · obtain ⟨o, e, n⟩ := E.al a h
   exact ⟨o, z _ _ e, n⟩
theorem EnvR.fresh {W : List Wd} {M : Addr → Prop} {α : List (List Addr)} {H : Hp} {σ : L2.St} {δ : List Sl} (E : EnvR W M α H σ δ) {p : Addr} (h : H p = none) : ¬ M p := fun z => let ⟨_, e, _⟩ := E.al p z; by rw [h] at e; cases e
theorem MOk.fresh {M : Addr → Prop} {H : Hp} (h : MOk M H) {p : Addr} (e : H p = none) : ¬ M p := fun z => let ⟨_, e', _⟩ := h p z; by rw [e] at e'; cases e'
theorem MOk.tup {M : Addr → Prop} {H : Hp} (h : MOk M H) {p : Addr} {xs : List V} (e : H p = some (.tup xs)) : ¬ M p := fun z => let ⟨_, e', n⟩ := h p z; by rw [e] at e'; cases e'; exact n xs rfl
theorem MOk.newT {M : Addr → Prop} {H H' : Hp} (h : MOk M H) {p : Addr} {xs : List V} (n : NewT H xs p H') : ¬ M p := by
 rcases n with ⟨_, e⟩ | ⟨e, _⟩
 · exact h.tup e
 · exact h.fresh e
abbrev DTE := List Sl → (Dt → List Sl → Prop) → Prop
abbrev DTT := List Sl → (Bool → List Sl → Prop) → Prop
abbrev DTA := List Sl → (List Dt → List Sl → Prop) → Prop
inductive lE (t : DTE) (σ : L2.St) (H : Hp) (Q : VK) : Prop
 | mk (W : List Wd) (M : Addr → Prop) (α : List (List Addr)) (δ : List Sl) (Qd : Dt → List Sl → Prop) (h1 : EnvR W M α H σ δ) (h2 : t δ Qd) (h3 : ∀ d δ' H' v, Qd d δ' → EnvR W M α H' σ δ' → Chg α H H' → Rep M H' v d → Q v H')
inductive lT (t : DTT) (σ : L2.St) (H : Hp) (Q : Bool → Hp → Prop) : Prop
 | mk (W : List Wd) (M : Addr → Prop) (α : List (List Addr)) (δ : List Sl) (Qd : Bool → List Sl → Prop) (h1 : EnvR W M α H σ δ) (h2 : t δ Qd) (h3 : ∀ b δ' H', Qd b δ' → EnvR W M α H' σ δ' → Chg α H H' → Q b H')
inductive lA (t : DTA) (σ : L2.St) (H : Hp) (Q : List V → Hp → Prop) : Prop
 | mk (W : List Wd) (M : Addr → Prop) (α : List (List Addr)) (δ : List Sl) (Qd : List Dt → List Sl → Prop) (h1 : EnvR W M α H σ δ) (h2 : t δ Qd) (h3 : ∀ ds δ' H' vs, Qd ds δ' → EnvR W M α H' σ δ' → Chg α H H' → Reps M H' vs ds → Q vs H')
abbrev DTO := List Sl → (List Dt → List Sl → Prop) → Prop
inductive lO (t : DTO) (σ : L2.St) (H : Hp) (Q : VK) : Prop
 | mk (W : List Wd) (M : Addr → Prop) (α : List (List Addr)) (δ : List Sl) (Qd : List Dt → List Sl → Prop) (h1 : EnvR W M α H σ δ) (h2 : t δ Qd) (h3 : ∀ ds δ' H1 xs a, Qd ds δ' → EnvR W M α H1 σ δ' → Chg α H H1 → Reps M H1 xs ds → H1 a = none → Q (.ref a) (upd H1 a (.lst xs)))
theorem PE.imp {X : Cx} {e : Expr} {t t' : TE} (h : PE X e t) (i : ∀ σ H Q, t' σ H Q → t σ H Q) : PE X e t' := fun pins s σ H Q I q => h pins s σ H Q I (i _ _ _ q)
theorem PT.imp {X : Cx} {e : Expr} {t t' : TT} (h : PT X e t) (i : ∀ σ H Q, t' σ H Q → t σ H Q) : PT X e t' := fun pins s σ H Q I q => h pins s σ H Q I (i _ _ _ q)
theorem PW.imp {X : Cx} {e : Expr} {t t' : TT} (h : PW X e t) (i : ∀ σ H Q, t' σ H Q → t σ H Q) : PW X e t' := fun w pins s σ H Q I q => h w pins s σ H Q I (i _ _ _ q)
theorem PA.imp {X : Cx} {e : List Expr} {t t' : TA} (h : PA X e t) (i : ∀ σ H Q, t' σ H Q → t σ H Q) : PA X e t' := fun pos pins s σ H Q I q => h pos pins s σ H Q I (i _ _ _ q)
theorem PS.imp {X : Cx} {e : Stmt} {t t' : TS} (h : PS X e t) (i : ∀ D σ H, t' D σ H → t D σ H) : PS X e t' := fun pins s σ H D I q => h pins s σ H D I (i _ _ _ q)
theorem PSs.imp {X : Cx} {e : List Stmt} {t t' : TS} (h : PSs X e t) (i : ∀ D σ H, t' D σ H → t D σ H) : PSs X e t' := fun pins s σ H D I q => h pins s σ H D I (i _ _ _ q)
abbrev Ev (X : Cx) (e : Expr) (t : DTE) : Prop := PE X e (lE t)
abbrev Tv (X : Cx) (e : Expr) (t : DTT) : Prop := PT X e (lT t)
abbrev Av (X : Cx) (es : List Expr) (t : DTA) : Prop := PA X es (lA t)
abbrev Ov (X : Cx) (e : Expr) (t : DTO) : Prop := PE X e (lO t)
section
variable {X : Cx} {a b c e : Expr} {es : List Expr} {ta tb t : DTE} {pos : Pos}
inductive dVar (i : Nat) (δ : List Sl) (Q : Dt → List Sl → Prop) : Prop
 | mk (d : _) (h1 : δ[i]? = some (.im d)) (h2 : Q d δ)
theorem EnvR.im {W : List Wd} {M : Addr → Prop} {α : List (List Addr)} {H : Hp} {σ : L2.St} {δ : List Sl} (E : EnvR W M α H σ δ) {i : Nat} {d : Dt} (h : δ[i]? = some (.im d)) : ∃ v, σ[i]? = some (some v) ∧ Rep M H v d := by
 obtain ⟨o, as, h1, _, _, v, rfl, r⟩ := E.sl i _ h
 exact ⟨v, h1, r⟩
theorem EnvR.ow {W : List Wd} {M : Addr → Prop} {α : List (List Addr)} {H : Hp} {σ : L2.St} {δ : List Sl} (E : EnvR W M α H σ δ) {i : Nat} {ds : List Dt} (h : δ[i]? = some (.ow ds)) : ∃ a xs, σ[i]? = some (some (.ref a)) ∧ α[i]? = some [a] ∧ H a = some (.lst xs) ∧ Reps M H xs ds := by
 obtain ⟨o, as, h1, h2, a, xs, rfl, rfl, e, r⟩ := E.sl i _ h
 exact ⟨a, xs, h1, h2, e, r⟩
theorem ev_var (i : Nat) {x : Str} (h : PE X (.Name x pos) (tVar i)) : Ev X (.Name x pos) (dVar i) := PE.imp h fun σ H Q zz1 => (by obtain ⟨W, M, α, δ, Qd, E, ⟨d, hd, q⟩, k⟩ := zz1; exact (by
 obtain ⟨v, h1, r⟩ := E.im hd
 exact ⟨v, h1, k _ _ _ _ q E Chg.rf r⟩))
theorem dv (i : Nat) {x : Str} {pos : Pos} (hN : autoParam (X.N[i]? = some x) au5._auto_1) (hv : autoParam (Vis X.env.scope x) au6._auto_1) (hd : autoParam ((x == ("__debug__" : Str)) = false) au2._auto_1)
  (hcd : autoParam ((x == ("__classdict__" : Str)) = false) au2._auto_1) : Ev X (.Name x pos) (dVar i) := ev_var i (pe_var hN hv hd hcd)
def dC (d : Dt) : DTE := fun δ Q => Q d δ
theorem d_int {i j pos} : Ev X (.Constant (.int i) j pos) (dC (.int i)) := PE.imp pe_int fun σ H Q zz2 => (by obtain ⟨W, M, α, δ, Qd, E, q, k⟩ := zz2; exact (k _ _ _ _ q E Chg.rf (.int i)))
theorem d_bl {i j pos} : Ev X (.Constant (.bool i) j pos) (dC (.bl i)) := PE.imp pe_bl fun σ H Q zz3 => (by obtain ⟨W, M, α, δ, Qd, E, q, k⟩ := zz3; exact (k _ _ _ _ q E Chg.rf (.bl i)))
theorem d_non {j pos} : Ev X (.Constant .none j pos) (dC .non) := PE.imp pe_non fun σ H Q zz4 => (by obtain ⟨W, M, α, δ, Qd, E, q, k⟩ := zz4; exact (k _ _ _ _ q E Chg.rf .non))
theorem d_str {i j pos} : Ev X (.Constant (.str i) j pos) (dC (.str i)) := PE.imp pe_str fun σ H Q zz5 => (by obtain ⟨W, M, α, δ, Qd, E, q, k⟩ := zz5; exact (k _ _ _ _ q E Chg.rf (.str i)))
def dO (t : DTO) : DTE := fun δ Q => t δ fun ds δ' => Q (.lst ds) δ'
theorem Ov.ev {t : DTO} (h : Ov X e t) : Ev X e (dO t) := PE.imp h fun σ H Q zz1 => (by obtain ⟨W, M, α, δ, Qd, E, q, k⟩ := zz1; exact (by
 refine ⟨W, M, α, δ, _, E, q, fun ds δ' H1 xs a q1 E1 c1 r1 h1 => ?_⟩
 have s : Same H1 (upd H1 a (.lst xs)) := Same.new h1
 exact k _ _ _ _ q1 (E1.same s) (c1.tr (Chg.of s)) (Rep.toLst upd_same (E1.fresh h1) (r1.same s))))
abbrev D2 := Dt → Dt → (Dt → Prop) → Prop
def DOp (r : R2) (R : D2) : Prop := ∀ (M : Addr → Prop) (H : Hp) (x y : V) (d1 d2 : Dt) (Qd : Dt → Prop) (Q : VK), MOk M H → Rep M H x d1 → Rep M H y d2 → R d1 d2 Qd → (∀ H' v d, Qd d → Same H H' → Rep M H' v d → Q v H') → r x y H Q
def dOp (R : D2) (ta tb : DTE) : DTE := fun δ Q => ta δ fun d1 δ1 => tb δ1 fun d2 δ2 => R d1 d2 fun d => Q d δ2
theorem op_read {r : R2} {R : D2} (hd : DOp r R) : ∀ σ H Q, lE (dOp R ta tb) σ H Q → tOp r (lE ta) (lE tb) σ H Q := fun σ H Q zz7 => (by obtain ⟨W, M, α, δ, Qd, E, q, k⟩ := zz7; exact (
 ⟨W, M, α, δ, _, E, q, fun d1 δ1 H1 x q1 E1 c1 r1 => ⟨W, M, α, δ1, _, E1, q1, fun d2 δ2 H2 y q2 E2 c2 r2 => hd M H2 x y d1 d2 _ _ E2.al (r1.chg E1 c2) r2 q2 fun H' v d q3 s r3 => k _ _ _ _ q3 (E2.same s) ((c1.tr c2).tr (Chg.of s)) r3⟩⟩))
theorem d_op {op : Operator} {r : R2} {R : D2} (ho : OpR X (binaryOp op) r) (hd : DOp r R) (ha : Ev X a ta) (hb : Ev X b tb) : Ev X (.BinOp a op b pos) (dOp R ta tb) := PE.imp (pe_op ho ha hb) (op_read hd)
theorem d_cmp {op : CmpOp} {r : R2} {R : D2} (ho : OpR X (compareOp op) r) (hd : DOp r R) (ha : Ev X a ta) (hb : Ev X b tb) (hm : behindInMarks op b = false) : Ev X (.Compare a [op] [b] pos) (dOp R ta tb) := PE.imp (pe_cmpR ho ha hb hm) (op_read hd)
inductive dT_i (Q : Bool → List Sl → Prop) (d : Dt) (δ' : List Sl) : Prop
 | mk (c : _) (h1 : d = .bl c) (h2 : Q c δ')
def dT (t : DTE) : DTT := fun δ Q => t δ fun d δ' => dT_i Q d δ'
theorem test_read {t : DTE} : ∀ σ H (Q : Bool → Hp → Prop), lT (dT t) σ H Q → lE t σ H fun x H1 => ∃ c, x = .bl c ∧ Q c H1 := fun σ H Q zz8 => (by obtain ⟨W, M, α, δ, Qd, E, q, k⟩ := zz8; exact (
 ⟨W, M, α, δ, _, E, q, fun d δ' H' v zz9 E1 c1 r1 => (by obtain ⟨c, e, q1⟩ := zz9; exact (⟨c, by subst e; exact r1.ofBl, k _ _ _ q1 E1 c1⟩))⟩))
theorem d_test {op : CmpOp} {r : R2} {R : D2} (ho : OpR X (compareOp op) r) (hd : DOp r R) (ha : Ev X a ta) (hb : Ev X b tb) (hm : behindInMarks op b = false) : Tv X (.Compare a [op] [b] pos) (dT (dOp R ta tb)) :=
 PT.imp (pt_cmpR ho ha hb hm) fun σ H Q h => op_read hd _ _ _ (test_read _ _ _ h |> fun zz10 => (by obtain ⟨W, M, α, δ, Qd, E, q, k⟩ := zz10; exact (⟨W, M, α, δ, Qd, E, q, k⟩)))
theorem d_val (h : Ev X e t) (he : autoParam (∀ whole, isTrue e X.env whole = (do let v ← whole; standAt e.pos; holding [v] (truthy v))) au4._auto_1) : Tv X e (dT t) := PT.imp (pt_val h he) fun σ H Q h => test_read _ _ _ h
def dIsN (ta : DTE) : DTE := fun δ Q => ta δ fun d δ' => Q (.bl d.isN) δ'
def dNotN (ta : DTE) : DTE := fun δ Q => ta δ fun d δ' => Q (.bl (!d.isN)) δ'
theorem isn_of {M : Addr → Prop} {H : Hp} {v : V} {d : Dt} (r : Rep M H v d) : decide (v = .non) = d.isN := by cases r <;> rfl
theorem isn_read : ∀ σ H Q, lE (dIsN ta) σ H Q → tIsN (lE ta) σ H Q := fun σ H Q zz11 => (by obtain ⟨W, M, α, δ, Qd, E, q, k⟩ := zz11; exact (
 ⟨W, M, α, δ, _, E, q, fun d δ' H' v q1 E1 c1 r1 => by show Q (V.bl (decide (v = V.non))) H'; rw [isn_of r1]; exact k _ _ _ _ q1 E1 c1 (.bl _)⟩))
theorem notn_read : ∀ σ H Q, lE (dNotN ta) σ H Q → tNotN (lE ta) σ H Q := fun σ H Q zz12 => (by obtain ⟨W, M, α, δ, Qd, E, q, k⟩ := zz12; exact (
 ⟨W, M, α, δ, _, E, q, fun d δ' H' v q1 E1 c1 r1 => by show Q (V.bl !decide (v = V.non)) H'; rw [isn_of r1]; exact k _ _ _ _ q1 E1 c1 (.bl _)⟩))
theorem d_isN {j pos'} (ha : Ev X a ta) : Ev X (.Compare a [.Is] [.Constant .none j pos'] pos) (dIsN ta) := PE.imp (pe_cmp (pc_isN ha)) isn_read
theorem d_notN {j pos'} (ha : Ev X a ta) : Ev X (.Compare a [.IsNot] [.Constant .none j pos'] pos) (dNotN ta) := PE.imp (pe_cmp (pc_notN ha)) notn_read
theorem t_isN {j pos'} (ha : Ev X a ta) : Tv X (.Compare a [.Is] [.Constant .none j pos'] pos) (dT (dIsN ta)) := PT.imp (pt_cmp (pc_isN ha)) fun σ H Q h => isn_read _ _ _ (test_read _ _ _ h)
end
section
variable {X : Cx} {a b c e : Expr} {es rest : List Expr} {ta tb t : DTE} {u v : DTT} {pos : Pos}
def dAnd (t u : DTT) : DTT := fun δ Q => t δ fun c δ1 => if c = true then u δ1 Q else Q false δ1
def dOr (t u : DTT) : DTT := fun δ Q => t δ fun c δ1 => if c = true then Q true δ1 else u δ1 Q
def dNot (t : DTT) : DTT := fun δ Q => t δ fun c δ1 => Q (!c) δ1
theorem w_and1 (h : Tv X a u) : PW X (.BoolOp .And [a] pos) (lT u) := pw_and1 h
theorem w_or1 (h : Tv X a u) : PW X (.BoolOp .Or [a] pos) (lT u) := pw_or1 h
theorem w_and (ha : Tv X a u) (hb : PW X (.BoolOp .And (b :: rest) pos) (lT v)) : PW X (.BoolOp .And (a :: b :: rest) pos) (lT (dAnd u v)) := PW.imp (pw_and ha hb) fun σ H Q zz13 => (by obtain ⟨W, M, α, δ, Qd, E, q, k⟩ := zz13; exact (
 ⟨W, M, α, δ, _, E, q, fun c δ1 H1 q1 E1 c1 => by
  cases c with
  | true => rw [if_pos rfl] at q1 ⊢; exact ⟨W, M, α, δ1, _, E1, q1, fun c2 δ2 H2 q2 E2 c2' => k _ _ _ q2 E2 (c1.tr c2')⟩
  | false => rw [if_neg Bool.false_ne_true] at q1 ⊢; exact k _ _ _ q1 E1 c1⟩))
theorem w_or (ha : Tv X a u) (hb : PW X (.BoolOp .Or (b :: rest) pos) (lT v)) : PW X (.BoolOp .Or (a :: b :: rest) pos) (lT (dOr u v)) := PW.imp (pw_or ha hb) fun σ H Q zz14 => (by obtain ⟨W, M, α, δ, Qd, E, q, k⟩ := zz14; exact (
 ⟨W, M, α, δ, _, E, q, fun c δ1 H1 q1 E1 c1 => by
  cases c with
  | false => rw [if_neg Bool.false_ne_true] at q1 ⊢; exact ⟨W, M, α, δ1, _, E1, q1, fun c2 δ2 H2 q2 E2 c2' => k _ _ _ q2 E2 (c1.tr c2')⟩
  | true => rw [if_pos rfl] at q1 ⊢; exact k _ _ _ q1 E1 c1⟩))
theorem t_not (ha : Tv X a u) : Tv X (.UnaryOp .Not a pos) (dNot u) := PT.imp (pt_not ha) fun σ H Q zz15 => (by obtain ⟨W, M, α, δ, Qd, E, q, k⟩ := zz15; exact (⟨W, M, α, δ, _, E, q, fun c δ1 H1 q1 E1 c1 => k _ _ _ q1 E1 c1⟩))
inductive dAndV_i (tb : DTE) (Q : Dt → List Sl → Prop) (d : Dt) (δ1 : List Sl) : Prop
 | mk (c : _) (h1 : d = .bl c) (h2 : if c = true then tb δ1 Q else Q (.bl false) δ1)
def dAndV (ta tb : DTE) : DTE := fun δ Q => ta δ fun d δ1 => dAndV_i tb Q d δ1
inductive dNotV_i (Q : Dt → List Sl → Prop) (d : Dt) (δ1 : List Sl) : Prop
 | mk (c : _) (h1 : d = .bl c) (h2 : Q (.bl (!c)) δ1)
def dNotV (ta : DTE) : DTE := fun δ Q => ta δ fun d δ1 => dNotV_i Q d δ1
theorem d_one {op} (h : Ev X a t) : Ev X (.BoolOp op [a] pos) t := pe_one h
theorem d_and (ha : Ev X a ta) (hb : Ev X (.BoolOp .And (b :: rest) pos) tb) : Ev X (.BoolOp .And (a :: b :: rest) pos) (dAndV ta tb) := PE.imp (pe_and ha hb) fun σ H Q zz16 => (by obtain ⟨W, M, α, δ, Qd, E, q, k⟩ := zz16; exact (
 ⟨W, M, α, δ, _, E, q, fun d δ1 H1 x zz17 E1 c1 r1 => (by obtain ⟨c, e, q1⟩ := zz17; exact (⟨c, by subst e; exact r1.ofBl, by
  cases c with
  | true => rw [if_pos rfl] at q1 ⊢; exact ⟨W, M, α, δ1, _, E1, q1, fun d2 δ2 H2 y q2 E2 c2 r2 => k _ _ _ _ q2 E2 (c1.tr c2) r2⟩
  | false => rw [if_neg Bool.false_ne_true] at q1 ⊢; exact k _ _ _ _ q1 E1 c1 (.bl _)⟩))⟩))
theorem d_not (ha : Ev X a ta) : Ev X (.UnaryOp .Not a pos) (dNotV ta) := PE.imp (pe_not ha) fun σ H Q zz20 => (by obtain ⟨W, M, α, δ, Qd, E, q, k⟩ := zz20; exact (
 ⟨W, M, α, δ, _, E, q, fun d δ1 H1 x zz21 E1 c1 r1 => (by obtain ⟨c, e, q1⟩ := zz21; exact (⟨c, by subst e; exact r1.ofBl, k _ _ _ _ q1 E1 c1 (.bl _)⟩))⟩))
def dIf (t : DTT) (ta tb : DTE) : DTE := fun δ Q => t δ fun c δ1 => if c = true then ta δ1 Q else tb δ1 Q
theorem d_ifExp (hc : Tv X c u) (ha : Ev X a ta) (hb : Ev X b tb) : Ev X (.IfExp c a b pos) (dIf u ta tb) := PE.imp (pe_ifExp hc ha hb) fun σ H Q zz22 => (by obtain ⟨W, M, α, δ, Qd, E, q, k⟩ := zz22; exact (
 ⟨W, M, α, δ, _, E, q, fun c δ1 H1 q1 E1 c1 => by
  cases c with
  | true => rw [if_pos rfl] at q1 ⊢; exact ⟨W, M, α, δ1, _, E1, q1, fun d2 δ2 H2 y q2 E2 c2 r2 => k _ _ _ _ q2 E2 (c1.tr c2) r2⟩
  | false => rw [if_neg Bool.false_ne_true] at q1 ⊢; exact ⟨W, M, α, δ1, _, E1, q1, fun d2 δ2 H2 y q2 E2 c2 r2 => k _ _ _ _ q2 E2 (c1.tr c2) r2⟩⟩))
def dNil : DTA := fun δ Q => Q [] δ
def dCons (ta : DTE) (tr : DTA) : DTA := fun δ Q => ta δ fun d δ1 => tr δ1 fun ds δ2 => Q (d :: ds) δ2
theorem a_nil : Av X [] dNil := PA.imp pa_nil fun σ H Q zz23 => (by obtain ⟨W, M, α, δ, Qd, E, q, k⟩ := zz23; exact (k _ _ _ _ q E Chg.rf .nil))
theorem a_cons {tr : DTA} (ha : Ev X e ta) (hr : Av X es tr) (hs : autoParam (starEach (e :: es) X.env = (false, eval e X.env) :: starEach es X.env) au5._auto_1) : Av X (e :: es) (dCons ta tr) := PA.imp (pa_cons ha hr hs) fun σ H Q zz24 => (by obtain ⟨W, M, α, δ, Qd, E, q, k⟩ := zz24; exact (
 ⟨W, M, α, δ, _, E, q, fun d δ1 H1 x q1 E1 c1 r1 => ⟨W, M, α, δ1, _, E1, q1, fun ds δ2 H2 xs q2 E2 c2 r2 => k _ _ _ _ q2 E2 (c1.tr c2) (.cons (r1.chg E1 c2) r2)⟩⟩))
def dTup (t : DTA) : DTE := fun δ Q => t δ fun ds δ' => ds.length ≤ sizeLine ∧ Q (.tup ds) δ'
def dLst (t : DTA) : DTO := fun δ Q => t δ fun ds δ' => ds.length ≤ sizeLine ∧ Q ds δ'
theorem d_tup {x1} {t : DTA} (h : Av X es t) : Ev X (.Tuple es x1 pos) (dTup t) := PE.imp (pe_tup h) fun σ H Q zz25 => (by obtain ⟨W, M, α, δ, Qd, E, q, k⟩ := zz25; exact (
 ⟨W, M, α, δ, _, E, q, fun ds δ1 H1 xs zz26 E1 c1 r1 => (by obtain ⟨l, q1⟩ := zz26; exact (⟨by rw [r1.1]; exact l, fun p hp => by
  have s : Same H1 (upd H1 p (.tup xs)) := Same.new hp
  exact k _ _ _ _ q1 (E1.same s) (c1.tr (Chg.of s)) (Rep.toTup upd_same (E1.fresh hp) (r1.same s))⟩))⟩))
theorem o_lst {t : DTA} (h : Av X es t) : Ov X (.List es pos) (dLst t) := PE.imp (pe_lst h) fun σ H Q zz27 => (by obtain ⟨W, M, α, δ, Qd, E, q, k⟩ := zz27; exact (
 ⟨W, M, α, δ, _, E, q, fun ds δ1 H1 xs zz28 E1 c1 r1 => (by obtain ⟨l, q1⟩ := zz28; exact (⟨by rw [r1.1]; exact l, fun p hp => k _ _ _ _ _ q1 E1 c1 r1 hp⟩))⟩))
theorem d_lst {t : DTA} (h : Av X es t) : Ev X (.List es pos) (dO (dLst t)) := Ov.ev (o_lst h)
abbrev DN := List Dt → (Dt → Prop) → Prop
def DCa (r : List V → Hp → VK → Prop) (R : DN) : Prop := ∀ (M : Addr → Prop) (H : Hp) (xs : List V) (ds : List Dt) (Qd : Dt → Prop) (Q : VK), MOk M H → Reps M H xs ds → R ds Qd → (∀ H' v d, Qd d → Same H H' → Rep M H' v d → Q v H') → r xs H Q
def dCa (R : DN) (t : DTA) : DTE := fun δ Q => t δ fun ds δ' => R ds fun d => Q d δ'
theorem call_read {r : List V → Hp → VK → Prop} {R : DN} {t : DTA} (hd : DCa r R) : ∀ σ H Q, lE (dCa R t) σ H Q → tCB r (lA t) σ H Q := fun σ H Q zz29 => (by obtain ⟨W, M, α, δ, Qd, E, q, k⟩ := zz29; exact (
 ⟨W, M, α, δ, _, E, q, fun ds δ1 H1 xs q1 E1 c1 r1 => hd M H1 xs ds _ _ E1.al r1 q1 fun H' v d q3 s r3 => k _ _ _ _ q3 (E1.same s) (c1.tr (Chg.of s)) r3⟩))
theorem d_callB {id : String} {x : Str} {p : Pos} {r : List V → Hp → VK → Prop} {R : DN} {t : DTA} (hc : CallR X (.builtin id) r) (hd : DCa r R) (hg : Gl X x) (hm : X.mg x = none) (hv : bootBuiltins x = some (.builtin id)) (ha : Av X (e :: es) t) (hn : autoParam (x ≠ "__name__") au2._auto_1) (hdb : autoParam ((x == ("__debug__" : Str)) = false) au2._auto_1)
  (he : autoParam (starEach (e :: es) X.env = (false, eval e X.env) :: starEach es X.env) au5._auto_1) (hpl : autoParam ((backTo pos (starEach es X.env)).any (·.1) = false) au5._auto_1) : Ev X (.Call (.Name x p) (e :: es) [] pos) (dCa R t) :=
 PE.imp (pe_callB hc hg hm hv ha hn hdb he hpl) (call_read hd)
theorem d_callTy {T : String} {x : Str} {p : Pos} {r : List V → Hp → VK → Prop} {R : DN} {t : DTA} (hc : CallR X (.type T) r) (hd : DCa r R) (hg : Gl X x) (hm : X.mg x = none) (hv : bootBuiltins x = some (.type T)) (ha : Av X (e :: es) t) (hn : autoParam (x ≠ "__name__") au2._auto_1) (hdb : autoParam ((x == ("__debug__" : Str)) = false) au2._auto_1)
  (he : autoParam (starEach (e :: es) X.env = (false, eval e X.env) :: starEach es X.env) au5._auto_1) (hpl : autoParam ((backTo pos (starEach es X.env)).any (·.1) = false) au5._auto_1) : Ev X (.Call (.Name x p) (e :: es) [] pos) (dCa R t) :=
 PE.imp (pe_callTy hc hg hm hv ha hn hdb he hpl) (call_read hd)
end
end LD
end
section
namespace LD
open PySem PySem.Spec L2 LB PyProof.Rows
inductive D_i (g : Int → Int → Dt) (d1 : Dt) (d2 : Dt) (Q : Dt → Prop) : Prop
 | mk (i j : _) (h1 : d1 = .int i) (h2 : d2 = .int j) (h3 : Q (g i j))
theorem do_i {g : Int → Int → V} {gd : Int → Int → Dt} (h : ∀ M H i j, Rep M H (g i j) (gd i j)) : DOp (rI0 g) (D_i gd) := fun M H x y d1 d2 Qd Q al r1 r2 zz1 k => (by obtain ⟨i, j, e1, e2, q⟩ := zz1; exact (by
 subst e1; subst e2
 exact ⟨i, j, r1.ofInt, r2.ofInt, k H _ _ q (fun _ _ z => z) (h M H i j)⟩))
section
variable {X : Cx} {a b c e : Expr} {es rest : List Expr} {ta tb tc t : DTE} {pos : Pos}
abbrev dAdd (ta tb : DTE) : DTE := dOp (D_i fun i j => .int (i + j)) ta tb
abbrev dSub (ta tb : DTE) : DTE := dOp (D_i fun i j => .int (i - j)) ta tb
theorem d_add (ha : Ev X a ta) (hb : Ev X b tb) : Ev X (.BinOp a .Add b pos) (dAdd ta tb) := d_op op_add (do_i fun _ _ _ _ => .int _) ha hb
theorem d_sub (ha : Ev X a ta) (hb : Ev X b tb) : Ev X (.BinOp a .Sub b pos) (dSub ta tb) := d_op op_sub (do_i fun _ _ _ _ => .int _) ha hb
abbrev D_lt : D2 := D_i fun i j => .bl (decide (i < j))
abbrev D_le : D2 := D_i fun i j => .bl (decide (i ≤ j))
abbrev D_gt : D2 := D_i fun i j => .bl (decide (j < i))
theorem d_le (ha : Ev X a ta) (hb : Ev X b tb) : Ev X (.Compare a [.LtE] [b] pos) (dOp D_le ta tb) := d_cmp op_le (do_i fun _ _ _ _ => .bl _) ha hb (nomark _)
theorem d_gt (ha : Ev X a ta) (hb : Ev X b tb) : Ev X (.Compare a [.Gt] [b] pos) (dOp D_gt ta tb) := d_cmp op_gt (do_i fun _ _ _ _ => .bl _) ha hb (nomark _)
theorem t_lt (ha : Ev X a ta) (hb : Ev X b tb) : Tv X (.Compare a [.Lt] [b] pos) (dT (dOp D_lt ta tb)) := d_test op_lt (do_i fun _ _ _ _ => .bl _) ha hb (nomark _)
theorem t_le (ha : Ev X a ta) (hb : Ev X b tb) : Tv X (.Compare a [.LtE] [b] pos) (dT (dOp D_le ta tb)) := d_test op_le (do_i fun _ _ _ _ => .bl _) ha hb (nomark _)
theorem t_gt (ha : Ev X a ta) (hb : Ev X b tb) : Tv X (.Compare a [.Gt] [b] pos) (dT (dOp D_gt ta tb)) := d_test op_gt (do_i fun _ _ _ _ => .bl _) ha hb (nomark _)
noncomputable def eq2 : Dt → Dt → Option Bool
 | .non, .non => some true | .non, .int _ => some false | .int _, .non => some false | .non, .bl _ => some false | .bl _, .non => some false | .non, .str _ => some false | .str _, .non => some false
 | .int i, .int j => some (decide (i = j)) | .bl i, .bl j => some (decide (i = j)) | .str i, .str j => some (decide (i = j))
 | .int _, .str _ => some false | .str _, .int _ => some false | .bl _, .str _ => some false | .str _, .bl _ => some false
 | _, _ => none
inductive D_eq (d1 : Dt) (d2 : Dt) (Q : Dt → Prop) : Prop
 | mk (b : _) (h1 : eq2 d1 d2 = some b) (h2 : Q (.bl b))
inductive D_ne (d1 : Dt) (d2 : Dt) (Q : Dt → Prop) : Prop
 | mk (b : _) (h1 : eq2 d1 d2 = some b) (h2 : Q (.bl (!b)))
noncomputable def flV : Dt → Option V
 | .non => some .non | .bl b => some (.bl b) | .int i => some (.int i) | .str x => some (.str x) | _ => none
theorem Rep.fl {M : Addr → Prop} {H : Hp} {v u : V} {d : Dt} (r : Rep M H v d) (h : flV d = some u) : v = u := by
 cases r <;> cases h <;> rfl
theorem dcI {i j : Int} : decide (V.int i = V.int j) = decide (i = j) := by simp
theorem dcB {i j : Bool} : decide (V.bl i = V.bl j) = decide (i = j) := by simp
theorem dcS {i j : Str} : decide (V.str i = V.str j) = decide (i = j) := by simp
inductive E2 (d1 d2 : Dt) (b : Bool) : Prop
 | mk (u1 u2 : V) (h1 : flV d1 = some u1) (h2 : flV d2 = some u2) (h3 : scal u1 u2 = true ∧ decide (u1 = u2) = b)
def E2o (d1 d2 : Dt) : Option Bool → Prop
 | none => True
 | some b => E2 d1 d2 b
theorem eq2_fl {d1 d2 : Dt} : E2o d1 d2 (eq2 d1 d2) := by
 cases d1 with
 | lst _ => trivial
 | tup _ => trivial
 | dic _ _ => trivial
 | dit _ _ => trivial
 | _ => cases d2 with
  | lst _ => trivial
  | tup _ => trivial
  | dic _ _ => trivial
  | dit _ _ => trivial
  | _ => first | trivial | exact ⟨_, _, rfl, rfl, rfl, rfl⟩ | exact ⟨_, _, rfl, rfl, rfl, dcI⟩ | exact ⟨_, _, rfl, rfl, rfl, dcB⟩ | exact ⟨_, _, rfl, rfl, rfl, dcS⟩
theorem eq2_of {M : Addr → Prop} {H : Hp} {x y : V} {d1 d2 : Dt} {b : Bool} (r1 : Rep M H x d1) (r2 : Rep M H y d2) (h : eq2 d1 d2 = some b) : scal x y = true ∧ decide (x = y) = b := by
 have z : E2o d1 d2 (some b) := h ▸ eq2_fl
 obtain ⟨u1, u2, e1, e2, q⟩ := z
 rw [r1.fl e1, r2.fl e2]
 exact q
theorem do_eq : DOp rEq D_eq := fun M H x y d1 d2 Qd Q al r1 r2 zz3 k => (by obtain ⟨b, e, q⟩ := zz3; exact (by
 obtain ⟨h1, h2⟩ := eq2_of r1 r2 e
 exact ⟨h1, by rw [h2]; exact k H _ _ q (fun _ _ z => z) (.bl b)⟩))
theorem do_ne : DOp rNe D_ne := fun M H x y d1 d2 Qd Q al r1 r2 zz4 k => (by obtain ⟨b, e, q⟩ := zz4; exact (by
 obtain ⟨h1, h2⟩ := eq2_of r1 r2 e
 exact ⟨h1, by rw [h2]; exact k H _ _ q (fun _ _ z => z) (.bl _)⟩))
theorem d_eq (ha : Ev X a ta) (hb : Ev X b tb) : Ev X (.Compare a [.Eq] [b] pos) (dOp D_eq ta tb) := d_cmp op_eq do_eq ha hb (nomark _)
theorem t_eq (ha : Ev X a ta) (hb : Ev X b tb) : Tv X (.Compare a [.Eq] [b] pos) (dT (dOp D_eq ta tb)) := d_test op_eq do_eq ha hb (nomark _)
theorem t_ne (ha : Ev X a ta) (hb : Ev X b tb) : Tv X (.Compare a [.NotEq] [b] pos) (dT (dOp D_ne ta tb)) := d_test op_ne do_ne ha hb (nomark _)
inductive D_u_i (g : Int → Dt) (Q : Dt → List Sl → Prop) (d : Dt) (δ' : List Sl) : Prop
 | mk (i : _) (h1 : d = .int i) (h2 : Q (g i) δ')
def D_u (g : Int → Dt) (ta : DTE) : DTE := fun δ Q => ta δ fun d δ' => D_u_i g Q d δ'
theorem d_neg (ha : Ev X a ta) : Ev X (.UnaryOp .USub a pos) (D_u (fun i => .int (-i)) ta) := PE.imp (pe_un un_neg ha) fun σ H Q zz5 => (by obtain ⟨W, M, α, δ, Qd, E, q, k⟩ := zz5; exact (
 ⟨W, M, α, δ, _, E, q, fun d δ1 H1 x zz6 E1 c1 r1 => (by obtain ⟨i, e, q1⟩ := zz6; exact (⟨i, by subst e; exact r1.ofInt, k _ _ _ _ q1 E1 c1 (.int _)⟩))⟩))
theorem atI_rep {M : Addr → Prop} {H : Hp} {xs : List V} {ds : List Dt} {i : Int} {d : Dt} (r : Reps M H xs ds) (h : atI ds i = some d) : ∃ x, atI xs i = some x ∧ Rep M H x d := by
 unfold atI at h ⊢
 rw [r.1]
 cases hn : ixN ds.length i with
 | none => rw [hn] at h; cases h
 | some j => rw [hn] at h; exact r.get h
inductive D_ix (d1 : Dt) (d2 : Dt) (Q : Dt → Prop) : Prop
 | mk (ds i d : _) (h1 : (d1 = .lst ds ∨ d1 = .tup ds)) (h2 : d2 = .int i) (h3 : atI ds i = some d) (h4 : Q d)
theorem do_ix {K : PySem.W.Frag} : DOp (rIx K) D_ix := fun M H x y d1 d2 Qd Q al r1 r2 zz7 k => (by obtain ⟨ds, i, d, e1, e2, h, q⟩ := zz7; exact (by
 subst e2
 rcases e1 with e1 | e1
 · subst e1
   obtain ⟨a, xs, rfl, ha, n, rr⟩ := r1.ofLst
   obtain ⟨v, hv, rv⟩ := atI_rep rr h
   exact .inl ⟨a, xs, i, v, rfl, r2.ofInt, SqL.of ha, hv, k H _ _ q (fun _ _ z => z) rv⟩
 · subst e1
   obtain ⟨a, xs, rfl, ha, n, rr⟩ := r1.ofTup
   obtain ⟨v, hv, rv⟩ := atI_rep rr h
   exact .inr (.inl ⟨a, xs, i, v, rfl, r2.ofInt, SqT.of ha, hv, k H _ _ q (fun _ _ z => z) rv⟩)))
theorem d_ix (ha : Ev X a ta) (hb : Ev X b tb) (hs : autoParam (PlainIx b) au7._auto_1) : Ev X (.Subscript a b pos) (dOp D_ix ta tb) := PE.imp (pe_ix ix_seq ha hb hs) (op_read do_ix)
noncomputable def cutD (ds : List Dt) (lo hi : Option Int) : List Dt := (ds.drop (HT.sIx ds.length 0 lo)).take (HT.sIx ds.length ds.length hi - HT.sIx ds.length 0 lo)
theorem Reps.cut {M : Addr → Prop} {H : Hp} {xs : List V} {ds : List Dt} (r : Reps M H xs ds) (lo hi : Option Int) : Reps M H (cutV xs lo hi) (cutD ds lo hi) := by
 unfold cutV cutD
 rw [r.1]
 exact (r.drop _).take _
abbrev DTP := List Sl → (Option Int → List Sl → Prop) → Prop
inductive lP (t : DTP) (σ : L2.St) (H : Hp) (Q : Option Int → Hp → Prop) : Prop
 | mk (W : List Wd) (M : Addr → Prop) (α : List (List Addr)) (δ : List Sl) (Qd : Option Int → List Sl → Prop) (h1 : EnvR W M α H σ δ) (h2 : t δ Qd) (h3 : ∀ o δ' H', Qd o δ' → EnvR W M α H' σ δ' → Chg α H H' → Q o H')
def dNoP : DTP := fun δ Q => Q none δ
inductive dPart_i (Q : Option Int → List Sl → Prop) (d : Dt) (δ' : List Sl) : Prop
 | mk (i : _) (h1 : d = .int i) (h2 : Q (some i) δ')
def dPart (t : DTE) : DTP := fun δ Q => t δ fun d δ' => dPart_i Q d δ'
abbrev Pv (X : Cx) (o : Option Expr) (t : DTP) : Prop := PO X o (lP t)
theorem PO.imp {X : Cx} {e : Option Expr} {t t' : L2.TO} (h : PO X e t) (i : ∀ σ H Q, t' σ H Q → t σ H Q) : PO X e t' := fun pins s σ H Q I q => h pins s σ H Q I (i _ _ _ q)
theorem p_none : Pv X none dNoP := PO.imp po_none fun σ H Q zz8 => (by obtain ⟨W, M, α, δ, Qd, E, q, k⟩ := zz8; exact (k _ _ _ q E Chg.rf))
theorem p_some (h : Ev X e t) : Pv X (some e) (dPart t) := PO.imp (po_some h) fun σ H Q zz9 => (by obtain ⟨W, M, α, δ, Qd, E, q, k⟩ := zz9; exact (
 ⟨W, M, α, δ, _, E, q, fun d δ1 H1 x zz10 E1 c1 r1 => (by obtain ⟨i, e, q1⟩ := zz10; exact (⟨i, by subst e; exact r1.ofInt, k _ _ _ q1 E1 c1⟩))⟩))
inductive dSlT_i (Q : Dt → List Sl → Prop) (d : Dt) (lo : Option Int) (hi : Option Int) (δ3 : List Sl) : Prop
 | mk (ds : _) (h1 : d = .tup ds) (h2 : Q (.tup (cutD ds lo hi)) δ3)
def dSlT (ta : DTE) (tl th : DTP) : DTE := fun δ Q => ta δ fun d δ1 => tl δ1 fun lo δ2 => th δ2 fun hi δ3 => dSlT_i Q d lo hi δ3
theorem d_slT {lo hi : Option Expr} {tl th : DTP} {p2 : Pos} (ha : Ev X a ta) (hl : Pv X lo tl) (hh : Pv X hi th) : Ev X (.Subscript a (.Slice lo hi none p2) pos) (dSlT ta tl th) := PE.imp (pe_slice sl_tupA ha hl hh) fun σ H Q zz1 => (by obtain ⟨W, M, α, δ, Qd, E, q, k⟩ := zz1; exact (
 ⟨W, M, α, δ, _, E, q, fun d δ1 H1 x q1 E1 c1 r1 => ⟨W, M, α, δ1, _, E1, q1, fun o2 δ2 H2 q2 E2 c2 => ⟨W, M, α, δ2, _, E2, q2, fun o3 δ3 H3 zz2 E3 c3 => (by obtain ⟨ds, e, q3⟩ := zz2; exact (by
  subst e
  obtain ⟨a, xs, rfl, ha, n, rr⟩ := ((r1.chg E1 c2).chg E2 c3).ofTup
  refine ⟨a, xs, rfl, ha, fun p H' nt => ?_⟩
  have s : Same H3 H' := nt.keep
  exact k _ _ _ _ q3 (E3.same s) (((c1.tr c2).tr c3).tr (Chg.of s)) (Rep.toTup nt.at (E3.al.newT nt) ((rr.cut _ _).same s))))⟩⟩⟩))
inductive D_catT (d1 : Dt) (d2 : Dt) (Q : Dt → Prop) : Prop
 | mk (ds es : _) (h1 : d1 = .tup ds) (h2 : d2 = .tup es) (h3 : ds.length + es.length ≤ sizeLine) (h4 : Q (.tup (ds ++ es)))
inductive D_catL (d1 : Dt) (d2 : Dt) (Q : Dt → Prop) : Prop
 | mk (ds es : _) (h1 : d1 = .lst ds) (h2 : d2 = .lst es) (h3 : ds.length + es.length ≤ sizeLine) (h4 : Q (.lst (ds ++ es)))
theorem do_catT : DOp rCatA D_catT := fun M H x y d1 d2 Qd Q al r1 r2 zz15 k => (by obtain ⟨ds, es, e1, e2, l, q⟩ := zz15; exact (by
 subst e1; subst e2
 obtain ⟨a, xs, rfl, ha, n, rr⟩ := r1.ofTup
 obtain ⟨b, ys, rfl, hb, n2, rr2⟩ := r2.ofTup
 exact ⟨a, b, xs, ys, rfl, rfl, ha, hb, by rw [rr.1, rr2.1]; exact l, fun p H' nt => k H' _ _ q nt.keep (Rep.toTup nt.at (al.newT nt) ((rr.append rr2).same nt.keep))⟩))
theorem do_catL : DOp rCat D_catL := fun M H x y d1 d2 Qd Q al r1 r2 zz5 k => (by obtain ⟨ds, es, e1, e2, l, q⟩ := zz5; exact (by
 subst e1; subst e2
 obtain ⟨a, xs, rfl, ha, n, rr⟩ := r1.ofLst
 obtain ⟨b, ys, rfl, hb, n2, rr2⟩ := r2.ofLst
 refine ⟨a, b, xs, ys, rfl, rfl, ha, hb, by rw [rr.1, rr2.1]; exact l, fun p hp => ?_⟩
 have s : Same H (upd H p (.lst (xs ++ ys))) := Same.new hp
 exact k _ _ _ q s (Rep.toLst upd_same (al.fresh hp) ((rr.append rr2).same s))))
theorem d_catT (ha : Ev X a ta) (hb : Ev X b tb) : Ev X (.BinOp a .Add b pos) (dOp D_catT ta tb) := d_op op_catA do_catT ha hb
theorem d_catL (ha : Ev X a ta) (hb : Ev X b tb) : Ev X (.BinOp a .Add b pos) (dOp D_catL ta tb) := d_op op_cat do_catL ha hb
inductive D_repL (d1 : Dt) (d2 : Dt) (Q : Dt → Prop) : Prop
 | mk (ds k : _) (h1 : d1 = .lst ds) (h2 : d2 = .int k) (h3 : -(2 ^ 63) ≤ k) (h4 : k < 2 ^ 63) (h5 : ds.length * k.toNat ≤ sizeLine) (h6 : Q (.lst (List.replicate k.toNat ds).flatten))
theorem Reps.rep {M : Addr → Prop} {H : Hp} {xs : List V} {ds : List Dt} (r : Reps M H xs ds) : ∀ n : Nat, Reps M H (List.replicate n xs).flatten (List.replicate n ds).flatten
 | 0 => .nil
 | n + 1 => by
  rw [List.replicate_succ, List.replicate_succ, List.flatten_cons, List.flatten_cons]
  exact r.append (r.rep n)
theorem do_repL : DOp rRep D_repL := fun M H x y d1 d2 Qd Q al r1 r2 zz6 k => (by obtain ⟨ds, n, e1, e2, h1, h2, l, q⟩ := zz6; exact (by
 subst e1; subst e2
 obtain ⟨a, xs, rfl, ha, nn, rr⟩ := r1.ofLst
 refine ⟨a, n, xs, rfl, r2.ofInt, ha, h1, h2, by rw [rr.1]; exact l, fun p hp => ?_⟩
 have s : Same H (upd H p (.lst (List.replicate n.toNat xs).flatten)) := Same.new hp
 exact k _ _ _ q s (Rep.toLst upd_same (al.fresh hp) ((rr.rep _).same s))))
theorem d_repL (ha : Ev X a ta) (hb : Ev X b tb) : Ev X (.BinOp a .Mult b pos) (dOp D_repL ta tb) := d_op op_rep do_repL ha hb
noncomputable def flatD : Dt → Bool
 | .lst _ => false
 | .tup _ => false
 | .dic _ _ => false
 | .dit _ _ => false
 | _ => true
noncomputable def eqD : Dt → Dt → Bool
 | .non, .non => true
 | .bl a, .bl b => a == b
 | .bl a, .int b => (if a then 1 else 0) == b
 | .int a, .bl b => a == (if b then 1 else 0)
 | .int a, .int b => a == b
 | .str a, .str b => a == b
 | _, _ => false
noncomputable def inD (d : Dt) (ds : List Dt) : Bool := ds.any fun e => eqD e d
theorem flat_rep {M : Addr → Prop} {H : Hp} {v : V} {d : Dt} (r : Rep M H v d) (h : flatD d = true) : flatV v = true := by cases r <;> first | rfl | cases h
def EVo (d e : Dt) : Option V → Option V → Prop
 | some u, some v => eqV u v = eqD d e
 | _, _ => False
theorem eqV_fl {d e : Dt} (h : flatD d = true) (h2 : flatD e = true) : EVo d e (flV d) (flV e) := by
 cases d with
 | lst _ => cases h
 | tup _ => cases h
 | dic _ _ => cases h
 | dit _ _ => cases h
 | _ => cases e with
  | lst _ => cases h2
  | tup _ => cases h2
  | dic _ _ => cases h2
  | dit _ _ => cases h2
  | _ => exact (rfl : _ = _)
theorem eqV_rep {M : Addr → Prop} {H : Hp} {v w : V} {d e : Dt} (r : Rep M H v d) (r2 : Rep M H w e) (h : flatD d = true) (h2 : flatD e = true) : eqV v w = eqD d e := by
 have z := eqV_fl h h2
 cases e1 : flV d with
 | none => rw [e1] at z; exact z.elim
 | some u =>
  cases e2 : flV e with
  | none => rw [e1, e2] at z; exact z.elim
  | some u2 =>
   rw [e1, e2] at z
   rw [r.fl e1, r2.fl e2]
   exact z
theorem flats_rep {M : Addr → Prop} {H : Hp} {xs : List V} {ds : List Dt} (r : Reps M H xs ds) (h : ds.all flatD = true) : xs.all flatV = true := List.all_eq_true.mpr fun x hx => by
 obtain ⟨i, hi, e⟩ := List.getElem_of_mem hx
 have h1 : xs[i]? = some x := by rw [List.getElem?_eq_getElem hi, e]
 have h2 : ds[i]? = some (ds[i]'(by rw [← r.1]; exact hi)) := List.getElem?_eq_getElem _
 exact flat_rep (r.2 i _ _ h1 h2) (List.all_eq_true.mp h _ (List.mem_of_getElem? h2))
theorem inV_rep {M : Addr → Prop} {H : Hp} {v : V} {d : Dt} (r : Rep M H v d) (hd : flatD d = true) : ∀ {xs : List V} {ds : List Dt}, Reps M H xs ds → ds.all flatD = true → inV v xs = inD d ds
 | [], [], _, _ => rfl
 | [], _ :: _, h, _ => by have := h.1; simp at this
 | _ :: _, [], h, _ => by have := h.1; simp at this
 | x :: xs, e :: ds, h, hf => by
  obtain ⟨y, ys, e1, e2, e3⟩ := h.uncons
  cases e1
  rw [List.all_cons, Bool.and_eq_true] at hf
  have ih := inV_rep r hd e3 hf.2
  unfold inV inD at ih ⊢
  rw [List.any_cons, List.any_cons, ih, eqV_rep e2 r hf.1 hd]
inductive D_in (neg : Bool) (d1 : Dt) (d2 : Dt) (Q : Dt → Prop) : Prop
 | mk (ds : _) (h1 : (d2 = .lst ds ∨ d2 = .tup ds)) (h2 : flatD d1 = true) (h3 : ds.all flatD = true) (h4 : Q (.bl (if neg then !inD d1 ds else inD d1 ds)))
theorem do_in {K : PySem.W.Frag} {neg : Bool} : DOp (rIn K neg) (D_in neg) := fun M H x y d1 d2 Qd Q al r1 r2 zz19 k => (by obtain ⟨ds, e2, f1, f2, q⟩ := zz19; exact (by
 have fin : ∀ xs, Reps M H xs ds → flatV x = true ∧ xs.all flatV = true ∧ Q (.bl (if neg then !inV x xs else inV x xs)) H := fun xs rr => ⟨flat_rep r1 f1, flats_rep rr f2, by rw [inV_rep r1 f1 rr f2]; exact k H _ _ q (fun _ _ z => z) (.bl _)⟩
 rcases e2 with e2 | e2
 · subst e2
   obtain ⟨a, xs, rfl, ha, n, rr⟩ := r2.ofLst
   exact ⟨a, xs, rfl, .inl (SqL.of ha), fin xs rr⟩
 · subst e2
   obtain ⟨a, xs, rfl, ha, n, rr⟩ := r2.ofTup
   exact ⟨a, xs, rfl, .inr (SqT.of ha), fin xs rr⟩))
theorem t_notin (ha : Ev X a ta) (hb : Ev X b tb) (hm : autoParam (behindInMarks .NotIn b = false) au5._auto_1) : Tv X (.Compare a [.NotIn] [b] pos) (dT (dOp (D_in true) ta tb)) := d_test op_notIn_seq do_in ha hb hm
inductive D_len (ds : List Dt) (Q : Dt → Prop) : Prop
 | mk (es : _) (h1 : (ds = [.lst es] ∨ ds = [.tup es])) (h2 : Q (.int es.length))
theorem dc_len {K : PySem.W.Frag} : DCa (fun xs H Q => ∃ p ys, xs = [.ref p] ∧ (SqL K H p ys ∨ SqT K H p ys) ∧ Q (.int ys.length) H) D_len := fun M H xs ds Qd Q al r zz20 k => (by obtain ⟨es, e, q⟩ := zz20; exact (by
 rcases e with e | e <;> subst e <;> obtain ⟨x, ys, rfl, r1, r2⟩ := r.uncons <;> cases r2.unnil
 · obtain ⟨a, zs, rfl, ha, n, rr⟩ := r1.ofLst
   exact ⟨a, zs, rfl, .inl (SqL.of ha), by rw [rr.1]; exact k H _ _ q (fun _ _ z => z) (.int _)⟩
 · obtain ⟨a, zs, rfl, ha, n, rr⟩ := r1.ofTup
   exact ⟨a, zs, rfl, .inr (SqT.of ha), by rw [rr.1]; exact k H _ _ q (fun _ _ z => z) (.int _)⟩))
theorem d_len {p : Pos} {tA : DTA} (hm : X.mg "len" = none) (ha : Av X [e] tA) (hg : autoParam (Gl X "len") au5._auto_1) (he : autoParam (starEach [e] X.env = (false, eval e X.env) :: starEach [] X.env) au5._auto_1) (hpl : autoParam ((backTo pos (starEach [] X.env)).any (·.1) = false) au5._auto_1) :
  Ev X (.Call (.Name "len" p) [e] [] pos) (dCa D_len tA) := d_callB call_len_seq dc_len hg hm PySem.boot_len ha (by decide) (by decide) he hpl
inductive D_tuple (ds : List Dt) (Q : Dt → Prop) : Prop
 | mk (es : _) (h1 : (ds = [.lst es] ∨ ds = [.tup es])) (h2 : Q (.tup es))
theorem dc_tuple {K : PySem.W.Frag} : DCa (fun xs H Q => ∃ p ys, xs = [.ref p] ∧ ((SqL K H p ys ∧ ∀ l, H l = none → Q (.ref l) (upd H l (.tup ys))) ∨ (SqT K H p ys ∧ Q (.ref p) H))) D_tuple := fun M H xs ds Qd Q al r zz7 k => (by obtain ⟨es, e, q⟩ := zz7; exact (by
 rcases e with e | e <;> subst e <;> obtain ⟨x, ys, rfl, r1, r2⟩ := r.uncons <;> cases r2.unnil
 · obtain ⟨a, zs, rfl, ha, n, rr⟩ := r1.ofLst
   refine ⟨a, zs, rfl, .inl ⟨SqL.of ha, fun l hl => ?_⟩⟩
   have s : Same H (upd H l (.tup zs)) := Same.new hl
   exact k _ _ _ q s (Rep.toTup upd_same (al.fresh hl) (rr.same s))
 · obtain ⟨a, zs, rfl, ha, n, rr⟩ := r1.ofTup
   exact ⟨a, zs, rfl, .inr ⟨SqT.of ha, k H _ _ q (fun _ _ z => z) r1⟩⟩))
theorem d_tuple {p : Pos} {tA : DTA} (hm : X.mg "tuple" = none) (ha : Av X [e] tA) (hg : autoParam (Gl X "tuple") au5._auto_1) (he : autoParam (starEach [e] X.env = (false, eval e X.env) :: starEach [] X.env) au5._auto_1) (hpl : autoParam ((backTo pos (starEach [] X.env)).any (·.1) = false) au5._auto_1) :
  Ev X (.Call (.Name "tuple" p) [e] [] pos) (dCa D_tuple tA) := d_callTy call_tuple_of dc_tuple hg hm boot_tuple' ha (by decide) (by decide) he hpl
end
end LD
end
section
namespace LD
open PySem PySem.Spec L2 LB PyProof.Rows
theorem flat_set {α : List (List Addr)} {i : Nat} {as : List Addr} {x : Addr} (h : x ∈ (α.set i as).flatten) : x ∈ α.flatten ∨ x ∈ as := by
 obtain ⟨l, hl, hx⟩ := List.mem_flatten.mp h
 rcases List.mem_or_eq_of_mem_set hl with y | y
 · exact .inl (List.mem_flatten.mpr ⟨l, y, hx⟩)
 · exact .inr (y ▸ hx)
theorem flat_get {α : List (List Addr)} {i : Nat} {as : List Addr} {x : Addr} (h : α[i]? = some as) (hx : x ∈ as) : x ∈ α.flatten := List.mem_flatten.mpr ⟨as, List.mem_of_getElem? h, hx⟩
theorem flat_nd_set : ∀ {α : List (List Addr)} {i : Nat} {as : List Addr}, α.flatten.Nodup → as.Nodup → (∀ x ∈ as, x ∉ α.flatten) → (α.set i as).flatten.Nodup
 | [], _, _, _, _, _ => by simp
 | l :: r, 0, as, h, ha, hx => by
  rw [List.set_cons_zero, List.flatten_cons]
  rw [List.flatten_cons] at h
  refine List.nodup_append.mpr ⟨ha, (List.nodup_append.mp h).2.1, fun x h1 y h2 e => ?_⟩
  subst e
  exact hx x h1 (by rw [List.flatten_cons]; exact List.mem_append_right _ h2)
 | l :: r, i + 1, as, h, ha, hx => by
  rw [List.set_cons_succ, List.flatten_cons]
  rw [List.flatten_cons] at h
  obtain ⟨h1, h2, h3⟩ := List.nodup_append.mp h
  refine List.nodup_append.mpr ⟨h1, flat_nd_set h2 ha fun x z y => hx x z (by rw [List.flatten_cons]; exact List.mem_append_right _ y), fun x z y w e => ?_⟩
  subst e
  rcases flat_set w with q | q
  · exact h3 x z x q rfl
  · exact hx x q (by rw [List.flatten_cons]; exact List.mem_append_left _ z)
theorem flat_apart : ∀ {α : List (List Addr)} {i j : Nat} {as bs : List Addr} {x : Addr}, α.flatten.Nodup → α[i]? = some as → α[j]? = some bs → i ≠ j → x ∈ as → x ∉ bs
 | [], i, j, as, bs, x, _, h1, _, _, _ => by simp at h1
 | l :: r, i, j, as, bs, x, h, h1, h2, hij, hx => by
  rw [List.flatten_cons] at h
  obtain ⟨n1, n2, n3⟩ := List.nodup_append.mp h
  cases i with
  | zero =>
   cases j with
   | zero => exact absurd rfl hij
   | succ j =>
    simp at h1 h2
    subst h1
    exact fun y => n3 x hx x (flat_get h2 y) rfl
  | succ i =>
   cases j with
   | zero =>
    simp at h1 h2
    subst h2
    exact fun y => n3 x y x (flat_get h1 hx) rfl
   | succ j => exact flat_apart n2 (by simpa using h1) (by simpa using h2) (by lia) hx
section
variable {Ws : List Wd} {M : Addr → Prop} {α : List (List Addr)} {H H' : Hp} {σ : L2.St} {δ : List Sl} {i : Nat} {v : V} {d : Dt} {s : Sl}
def okSet (δ : List Sl) (i : Nat) : Prop := ∃ s, δ[i]? = some s ∧ s.isBx = false
theorem okSet.lt (h : okSet δ i) : i < δ.length := let ⟨s, e, _⟩ := h; (List.getElem?_eq_some_iff.mp e).1
theorem EnvR.setIm (E : EnvR Ws M α H σ δ) (r : Rep M H v d) (ok : okSet δ i) : EnvR Ws M (α.set i []) H (σ.set i (some v)) (δ.set i (.im d)) := by
 have hi := ok.lt
 obtain ⟨s0, hs0, nb⟩ := ok
 refine ⟨by rw [List.length_set, List.length_set, E.ls], by rw [List.length_set, List.length_set, E.la], fun j s hj => ?_, flat_nd_set E.nd List.nodup_nil (fun x hx => absurd hx List.not_mem_nil), fun a ha => (flat_set ha).elim (E.mu a) fun z => absurd z List.not_mem_nil, E.al, fun W hW => ?_⟩
 · by_cases hij : i = j
   · subst hij
     rw [List.getElem?_set_self hi] at hj
     cases hj
     exact ⟨some v, [], by rw [List.getElem?_set_self (by rw [E.ls]; exact hi)], by rw [List.getElem?_set_self (by rw [E.la]; exact hi)], rfl, v, rfl, r⟩
   · rw [List.getElem?_set_ne hij] at hj
     obtain ⟨o, as, h1, h2, h3⟩ := E.sl j s hj
     exact ⟨o, as, by rw [List.getElem?_set_ne hij]; exact h1, by rw [List.getElem?_set_ne hij]; exact h2, h3⟩
 · have k := E.w W hW
   refine ⟨k.bs, k.ex, fun a ha => (flat_set ha).elim (k.fr a) fun z => absurd z List.not_mem_nil, k.m0, k.m1, fun d c e => ?_, fun j s as h1 h2 nb' => ?_⟩
   · obtain ⟨t, e1, e2⟩ := k.bx d c e
     have : i ≠ 0 := fun z => by subst z; rw [hs0] at e1; cases e1; cases nb
     exact ⟨t, by rw [List.getElem?_set_ne this]; exact e1, by rw [List.getElem?_set_ne this]; exact e2⟩
   · by_cases hij : i = j
     · subst hij
       rw [List.getElem?_set_self (by rw [E.la]; exact hi)] at h2
       cases h2
       exact fun a ha => absurd ha List.not_mem_nil
     · rw [List.getElem?_set_ne hij] at h1 h2
       exact k.fz j s as h1 h2 nb'
theorem Reps.grow {p : Addr} {xs : List V} {ds : List Dt} {o : HO} (r : Reps M H xs ds) (hp : H p = none) : Reps (fun b => M b ∨ b = p) (upd H p o) xs ds := r.mono fun a u e n => ⟨by rw [upd_ne (ne_of_none e hp)]; exact e, fun z => z.elim n (ne_of_none e hp)⟩
theorem Rep.grow {p : Addr} {x : V} {d : Dt} {o : HO} (r : Rep M H x d) (hp : H p = none) : Rep (fun b => M b ∨ b = p) (upd H p o) x d := r.mono fun a u e n => ⟨by rw [upd_ne (ne_of_none e hp)]; exact e, fun z => z.elim n (ne_of_none e hp)⟩
theorem SlR.grow {p : Addr} {u : HO} {o : Option V} {as : List Addr} (h : SlR M H o s as) (hp : H p = none) : SlR (fun b => M b ∨ b = p) (upd H p u) o s as := by
 have sm : Same H (upd H p u) := Same.new hp
 cases s with
 | no => exact h
 | im d => exact ⟨h.1, let ⟨v, e, r⟩ := h.2; ⟨v, e, r.grow hp⟩⟩
 | ow ds => obtain ⟨a, xs, e1, e2, e3, r⟩ := h; exact ⟨a, xs, e1, e2, sm _ _ e3, r.grow hp⟩
 | bx t => obtain ⟨d, c, e1, e2, r⟩ := h; exact ⟨d, c, e1, e2, r.same sm⟩
 | dk ks ds => obtain ⟨a, vs, e1, e2, e3, e4, r⟩ := h; exact ⟨a, vs, e1, e2, sm _ _ e3, e4, r.grow hp⟩
 | ob R => obtain ⟨v, e, r⟩ := h; exact ⟨v, e, R.st r (fun a _ o q => sm _ _ q) fun a u q n => ⟨sm _ _ q, fun z => z.elim n (ne_of_none q hp)⟩⟩
 | fn f => exact h
theorem EnvR.setNew (E : EnvR Ws M α H σ δ) {p : Addr} {u : HO} (hp : H p = none) (hu : ∀ xs, u ≠ .tup xs) (ok : okSet δ i) (nb : s.isBx = false) (hs : SlR (fun b => M b ∨ b = p) (upd H p u) (some (.ref p)) s [p]) :
  EnvR Ws (fun b => M b ∨ b = p) (α.set i [p]) (upd H p u) (σ.set i (some (.ref p))) (δ.set i s) := by
 have hi := ok.lt
 have sm : Same H (upd H p u) := Same.new hp
 have np : p ∉ α.flatten := fun z => E.fresh hp (E.mu p z)
 obtain ⟨s0, hs0, nb0⟩ := ok
 refine ⟨by rw [List.length_set, List.length_set, E.ls], by rw [List.length_set, List.length_set, E.la], fun j s' hj => ?_, flat_nd_set E.nd (by simp) (fun x hx => by rw [List.mem_singleton.mp hx]; exact np), fun a ha => (flat_set ha).elim (fun z => .inl (E.mu a z)) fun z => .inr (List.mem_singleton.mp z), fun a ha => ?_, fun W hW => ?_⟩
 · by_cases hij : i = j
   · subst hij
     rw [List.getElem?_set_self hi] at hj
     cases hj
     exact ⟨_, _, by rw [List.getElem?_set_self (by rw [E.ls]; exact hi)], by rw [List.getElem?_set_self (by rw [E.la]; exact hi)], hs⟩
   · rw [List.getElem?_set_ne hij] at hj
     obtain ⟨o, as, h1, h2, h3⟩ := E.sl j s' hj
     exact ⟨o, as, by rw [List.getElem?_set_ne hij]; exact h1, by rw [List.getElem?_set_ne hij]; exact h2, h3.grow hp⟩
 · rcases ha with ha | ha
   · obtain ⟨o, e, n⟩ := E.al a ha
     exact ⟨o, sm _ _ e, n⟩
   · subst ha
     exact ⟨u, upd_same, hu⟩
 · have k := E.w W hW
   have hW0 : W.A0 p ∨ W.H0 p = none := by
    by_cases z : W.A0 p
    · exact .inl z
    · right
      cases e : W.H0 p with
      | none => rfl
      | some o => have := k.bs p o e z; rw [hp] at this; cases this
   refine ⟨fun b o e n => sm _ _ (k.bs b o e n), fun b n y => k.ex b n (LW.Same.none sm y), fun a ha => (flat_set ha).elim (k.fr a) fun z => by rw [List.mem_singleton.mp z]; exact hW0, fun a h => .inl (k.m0 a h), fun a h => ?_, fun d c e => ?_, fun j s' as h1 h2 nb' => ?_⟩
   · rcases h with h | h
     · exact k.m1 a h
     · subst h
       by_cases z : W.H0 a = none
       · exact .inr z
       · exact absurd hp (k.ex a z)
   · obtain ⟨t, e1, e2⟩ := k.bx d c e
     have : i ≠ 0 := fun z => by subst z; rw [hs0] at e1; cases e1; cases nb0
     exact ⟨t, by rw [List.getElem?_set_ne this]; exact e1, by rw [List.getElem?_set_ne this]; exact e2⟩
   · by_cases hij : i = j
     · subst hij
       rw [List.getElem?_set_self (by rw [E.la]; exact hi)] at h2
       cases h2
       exact fun a ha z => by rw [List.mem_singleton.mp ha] at z; exact E.fresh hp (k.m0 _ z)
     · rw [List.getElem?_set_ne hij] at h1 h2
       exact k.fz j s' as h1 h2 nb'
theorem EnvR.mod (E : EnvR Ws M α H σ δ) {o : Option V} {as : List Addr} {s s' : Sl} (hi : δ[i]? = some s) (ho : σ[i]? = some o) (ha : α[i]? = some as) (hb : s'.isBx = s.isBx) (hs : SlR M H' o s' as)
  (keep : ∀ b u, H b = some u → b ∉ as → H' b = some u) (ex : ∀ a ∈ as, ∃ u, H' a = some u ∧ ∀ xs, u ≠ .tup xs) : EnvR Ws M α H' σ (δ.set i s') ∧ Chg α H H' := by
 have hlt := (List.getElem?_eq_some_iff.mp hi).1
 have asM : ∀ a ∈ as, M a := fun a h => E.mu a (flat_get ha h)
 have rep : ∀ {v : V} {d : Dt}, Rep M H v d → Rep M H' v d := fun r => r.mono fun a u e n => ⟨keep a u e fun z => n (asM a z), n⟩
 have reps : ∀ {v : List V} {d : List Dt}, Reps M H v d → Reps M H' v d := fun r => r.mono fun a u e n => ⟨keep a u e fun z => n (asM a z), n⟩
 refine ⟨⟨by rw [List.length_set, E.ls], by rw [List.length_set, E.la], fun j s2 hj => ?_, E.nd, E.mu, fun a h => ?_, fun W hW => ?_⟩, fun b u e n => keep b u e fun z => n (flat_get ha z)⟩
 · by_cases hij : i = j
   · subst hij
     rw [List.getElem?_set_self hlt] at hj
     cases hj
     exact ⟨o, as, ho, ha, hs⟩
   · rw [List.getElem?_set_ne hij] at hj
     obtain ⟨o2, as2, h1, h2, h3⟩ := E.sl j s2 hj
     have ap : ∀ x ∈ as2, x ∉ as := fun x hx => flat_apart E.nd h2 ha (Ne.symm hij) hx
     refine ⟨o2, as2, h1, h2, ?_⟩
     cases s2 with
     | no => exact h3
     | im d => exact ⟨h3.1, let ⟨v, e, r⟩ := h3.2; ⟨v, e, rep r⟩⟩
     | ow ds => obtain ⟨a, xs, e1, e2, e3, r⟩ := h3; subst e1; exact ⟨a, xs, rfl, e2, keep _ _ e3 (ap a (by simp)), reps r⟩
     | bx t =>
      obtain ⟨d, c, e1, e2, r⟩ := h3
      subst e1
      refine ⟨d, c, rfl, e2, keep _ _ r.dc (ap d (by simp)), ?_, r.t0, r.t1⟩
      obtain ⟨ns, h, q⟩ := r.cs
      exact ⟨ns, keep _ _ h (ap c (by simp)), q⟩
     | dk ks ds => obtain ⟨a, vs, e1, e2, e3, e4, r⟩ := h3; subst e1; exact ⟨a, vs, rfl, e2, keep _ _ e3 (ap a (by simp)), e4, reps r⟩
     | ob R => obtain ⟨v, e, r⟩ := h3; exact ⟨v, e, R.st r (fun a ha u q => keep _ _ q (ap a ha)) fun a u q n => ⟨keep a u q fun z => n (asM a z), n⟩⟩
     | fn f => exact h3
 · by_cases z : a ∈ as
   · exact ex a z
   · obtain ⟨u, e, n⟩ := E.al a h
     exact ⟨u, keep _ _ e z, n⟩
 · have k := E.w W hW
   have inA : ∀ a ∈ as, W.A0 a ∨ W.H0 a = none := fun a z => k.fr a (flat_get ha z)
   refine ⟨fun b u e n => keep _ _ (k.bs b u e n) fun z => ?_, fun b n y => ?_, k.fr, k.m0, k.m1, fun d c e => ?_, fun j s2 as2 h1 h2 nb => ?_⟩
   · rcases inA b z with q | q
     · exact n q
     · rw [q] at e; cases e
   · by_cases z : b ∈ as
     · obtain ⟨u, e, _⟩ := ex b z
       rw [e] at y; cases y
     · cases e : H b with
       | none => exact k.ex b n e
       | some u => rw [keep _ _ e z] at y; cases y
   · obtain ⟨t, e1, e2⟩ := k.bx d c e
     by_cases hij : i = 0
     · subst hij
       rw [hi] at e1
       cases e1
       cases s' with
       | bx t' => exact ⟨t', by rw [List.getElem?_set_self hlt], e2⟩
       | _ => cases hb
     · exact ⟨t, by rw [List.getElem?_set_ne hij]; exact e1, e2⟩
   · by_cases hij : i = j
     · subst hij
       rw [List.getElem?_set_self hlt] at h1
       cases h1
       exact k.fz i s as2 hi h2 (by rw [← hb]; exact nb)
     · rw [List.getElem?_set_ne hij] at h1
       exact k.fz j s2 as2 h1 h2 nb
theorem EnvR.frzOa {Ws : List Wd} {M : Addr → Prop} {α : List (List Addr)} {H : Hp} {σ : L2.St} {δ : List Sl} {i : Nat} (E : EnvR Ws M α H σ δ) {ds : List Dt} (hi : δ[i]? = some (.ow ds)) {a : Addr} (ha : α[i]? = some [a]) : EnvR Ws (fun b => M b ∧ b ≠ a) (α.set i []) H σ (δ.set i (.im (.lst ds))) := by
 have hlt := (List.getElem?_eq_some_iff.mp hi).1
 obtain ⟨a', xs, h1, h2, h3, r⟩ := E.ow hi
 rw [ha] at h2
 cases h2
 have mono : ∀ {v : V} {d : Dt}, Rep M H v d → Rep (fun b => M b ∧ b ≠ a) H v d := fun r => r.mono fun b u e n => ⟨e, fun z => n z.1⟩
 have monos : ∀ {v : List V} {d : List Dt}, Reps M H v d → Reps (fun b => M b ∧ b ≠ a) H v d := fun r => r.mono fun b u e n => ⟨e, fun z => n z.1⟩
 refine ⟨by rw [List.length_set, E.ls], by rw [List.length_set, List.length_set, E.la], fun j s hj => ?_, flat_nd_set E.nd List.nodup_nil (fun x hx => absurd hx List.not_mem_nil), fun b hb => ?_, fun b hb => E.al b hb.1, fun W hW => ?_⟩
 · by_cases hij : i = j
   · subst hij
     rw [List.getElem?_set_self hlt] at hj
     cases hj
     exact ⟨some (.ref a), [], h1, by rw [List.getElem?_set_self (by rw [E.la]; exact hlt)], rfl, _, rfl, Rep.toLst h3 (fun z => z.2 rfl) (monos r)⟩
   · rw [List.getElem?_set_ne hij] at hj
     obtain ⟨o2, as2, g1, g2, g3⟩ := E.sl j s hj
     refine ⟨o2, as2, g1, by rw [List.getElem?_set_ne hij]; exact g2, ?_⟩
     cases s with
     | no => exact g3
     | im d => exact ⟨g3.1, let ⟨v, e, r⟩ := g3.2; ⟨v, e, mono r⟩⟩
     | ow ds => obtain ⟨b, xs, e1, e2, e3, r⟩ := g3; exact ⟨b, xs, e1, e2, e3, monos r⟩
     | bx t => exact g3
     | dk ks ds => obtain ⟨b, vs, e1, e2, e3, e4, r⟩ := g3; exact ⟨b, vs, e1, e2, e3, e4, monos r⟩
     | ob R => obtain ⟨v, e, r⟩ := g3; exact ⟨v, e, R.st r (fun _ _ _ q => q) fun b u q n => ⟨q, fun z => n z.1⟩⟩
     | fn f => exact g3
 · obtain ⟨l, hl, hx⟩ := List.mem_flatten.mp hb
   obtain ⟨j, hj, e⟩ := List.getElem_of_mem hl
   have ej : (α.set i [])[j]? = some l := by rw [List.getElem?_eq_getElem hj, e]
   by_cases hij : i = j
   · subst hij
     rw [List.getElem?_set_self (by rw [E.la]; exact hlt)] at ej
     cases ej
     exact absurd hx List.not_mem_nil
   · rw [List.getElem?_set_ne hij] at ej
     refine ⟨E.mu b (flat_get ej hx), fun z => ?_⟩
     subst z
     exact flat_apart E.nd ej ha (Ne.symm hij) hx (by simp)
 · have k := E.w W hW
   refine ⟨k.bs, k.ex, fun b hb => (flat_set hb).elim (k.fr b) fun z => absurd z List.not_mem_nil, fun b z => ⟨k.m0 b z, fun y => ?_⟩, fun b z => k.m1 b z.1, fun d c e => ?_, fun j s as g1 g2 nb => ?_⟩
   · subst y
     exact k.fz i _ _ hi ha rfl b (by simp) z
   · obtain ⟨t, e1, e2⟩ := k.bx d c e
     have : i ≠ 0 := fun z => by subst z; rw [hi] at e1; cases e1
     exact ⟨t, by rw [List.getElem?_set_ne this]; exact e1, by rw [List.getElem?_set_ne this]; exact e2⟩
   · by_cases hij : i = j
     · subst hij
       rw [List.getElem?_set_self (by rw [E.la]; exact hlt)] at g2
       cases g2
       exact fun b hb => absurd hb List.not_mem_nil
     · rw [List.getElem?_set_ne hij] at g1 g2
       exact k.fz j s as g1 g2 nb
theorem EnvR.frz (E : EnvR Ws M α H σ δ) {ds : List Dt} (hi : δ[i]? = some (.ow ds)) : ∃ M' α', EnvR Ws M' α' H σ (δ.set i (.im (.lst ds))) ∧ ∀ a, M' a → M a := by
 obtain ⟨a, xs, h1, h2, h3, r⟩ := E.ow hi
 exact ⟨_, _, E.frzOa hi h2, fun b z => z.1⟩
theorem EnvR.drop {W : Wd} (E : EnvR (W :: Ws) M α H σ δ) : EnvR Ws M α H σ δ := ⟨E.ls, E.la, E.sl, E.nd, E.mu, E.al, fun W' h => E.w W' (List.mem_cons_of_mem _ h)⟩
theorem EnvR.loop (E : EnvR Ws M α H σ δ) : EnvR (⟨H, M, fun _ => False, M, none⟩ :: Ws) M α H σ δ := ⟨E.ls, E.la, E.sl, E.nd, E.mu, E.al, fun W h => by
 rcases List.mem_cons.mp h with e | e
 · subst e
   exact ⟨fun b o e _ => e, fun b n => n, fun a h => .inl (E.mu a h), fun a h => h.elim, fun a h => .inl h, fun d c e => (by cases e), fun j s as _ _ _ a _ z => z⟩
 · exact E.w W e⟩
end
end LD
end
section
namespace LD
open PySem PySem.Spec L2 LB PyProof.Rows
structure DEnds where
 nx : List Sl → Prop
 rt : Dt → List Sl → Prop
 bk : List Sl → Prop := fun _ => False
 ct : List Sl → Prop := fun _ => False
abbrev DTS := DEnds → List Sl → Prop
structure Lk (Ws : List Wd) (D : Ends) (Δ : DEnds) : Prop where
 nx : ∀ M α H σ δ, EnvR Ws M α H σ δ → Δ.nx δ → D.nx σ H
 rt : ∀ M α H σ δ v d, EnvR Ws M α H σ δ → Rep M H v d → Δ.rt d δ → D.rt v H
 bk : ∀ M α H σ δ, EnvR Ws M α H σ δ → Δ.bk δ → D.bk σ H
 ct : ∀ M α H σ δ, EnvR Ws M α H σ δ → Δ.ct δ → D.ct σ H
inductive lS (T : DTS) (D : L2.Ends) (σ : L2.St) (H : Hp) : Prop
 | mk (Ws : List Wd) (M : Addr → Prop) (α : List (List Addr)) (δ : List Sl) (Δ : DEnds) (h1 : EnvR Ws M α H σ δ) (h2 : Lk Ws D Δ) (h3 : T Δ δ)
abbrev Ex (X : Cx) (s : Stmt) (T : DTS) : Prop := PS X s (lS T)
abbrev Exs (X : Cx) (s : List Stmt) (T : DTS) : Prop := PSs X s (lS T)
section
variable {X : Cx} {st : Stmt} {rest : List Stmt} {T U : DTS} {e a b c : Expr} {es : List Expr} {t ta tb : DTE} {u : DTT} {pos : Pos}
def dNext : DTS := fun Δ δ => Δ.nx δ
def dSeq (T U : DTS) : DTS := fun Δ δ => T { Δ with nx := U Δ } δ
theorem s_nil : Exs X [] dNext := PSs.imp pss_nil fun D σ H zz1 => (by obtain ⟨Ws, M, α, δ, Δ, E, L, q⟩ := zz1; exact (L.nx _ _ _ _ _ E q))
theorem s_cons (h1 : Ex X st T) (h2 : Exs X rest U) : Exs X (st :: rest) (dSeq T U) := PSs.imp (pss_cons h1 h2) fun D σ H zz2 => (by obtain ⟨Ws, M, α, δ, Δ, E, L, q⟩ := zz2; exact (
 ⟨Ws, M, α, δ, { Δ with nx := U Δ }, E, ⟨fun M α H σ δ E q => ⟨Ws, M, α, δ, Δ, E, L, q⟩, L.rt, L.bk, L.ct⟩, q⟩))
theorem s_one (h1 : Ex X st T) : Exs X [st] T := pss_one h1
def dRet (t : DTE) : DTS := fun Δ δ => t δ Δ.rt
theorem s_ret (h : Ev X e t) : Ex X (.Return (some e) pos) (dRet t) := PS.imp (ps_ret h) fun D σ H zz4 => (by obtain ⟨Ws, M, α, δ, Δ, E, L, q⟩ := zz4; exact (⟨Ws, M, α, δ, _, E, q, fun d δ' H' v q1 E1 c1 r1 => L.rt _ _ _ _ _ _ _ E1 r1 q1⟩))
def dIfS (u : DTT) (T U : DTS) : DTS := fun Δ δ => u δ fun b δ' => if b = true then T Δ δ' else U Δ δ'
theorem s_if {sa sb : List Stmt} (hc : Tv X c u) (ha : Exs X sa T) (hb : Exs X sb U) : Ex X (.If c sa sb pos) (dIfS u T U) := PS.imp (ps_if hc ha hb) fun D σ H zz5 => (by obtain ⟨Ws, M, α, δ, Δ, E, L, q⟩ := zz5; exact (
 ⟨Ws, M, α, δ, _, E, q, fun b δ' H' q1 E1 c1 => by
  cases b with
  | true => rw [if_pos rfl] at q1 ⊢; exact ⟨Ws, M, α, δ', Δ, E1, L, q1⟩
  | false => rw [if_neg Bool.false_ne_true] at q1 ⊢; exact ⟨Ws, M, α, δ', Δ, E1, L, q1⟩⟩))
def dDrop (t : DTE) : DTS := fun Δ δ => t δ fun _ δ' => Δ.nx δ'
theorem s_expr (h : Ev X e t) (hs : autoParam (swapsWith e none pos.line X.env = pure false) au5._auto_1) : Ex X (.Expr e pos) (dDrop t) := PS.imp (ps_expr h hs) fun D σ H zz6 => (by obtain ⟨Ws, M, α, δ, Δ, E, L, q⟩ := zz6; exact (⟨Ws, M, α, δ, _, E, q, fun d δ' H' v q1 E1 c1 r1 => L.nx _ _ _ _ _ E1 q1⟩))
def dSet (i : Nat) (t : DTE) : DTS := fun Δ δ => t δ fun d δ' => okSet δ' i ∧ Δ.nx (δ'.set i (.im d))
theorem s_set (i : Nat) {x : Str} {pos' : Pos} (hN : X.N.Nodup) (he : Ev X e t) (hi : autoParam (X.N[i]? = some x) au5._auto_1) (hx : autoParam (Loc X.env.scope x) au8._auto_1) (hs : autoParam (swapsWith e (some (.Name x pos')) pos.line X.env = pure false) au5._auto_1) (hf : autoParam (X.fn x = true ∨ X.env.scope.names.lookup x = some .local) au1._auto_1) :
  Ex X (.Assign [.Name x pos'] e pos) (dSet i t) := PS.imp (ps_set hN hi hx he hs hf) fun D σ H zz7 => (by obtain ⟨Ws, M, α, δ, Δ, E, L, q⟩ := zz7; exact (⟨Ws, M, α, δ, _, E, q, fun d δ' H' v zz8 E1 c1 r1 => (by obtain ⟨ok, q1⟩ := zz8; exact (L.nx _ _ _ _ _ (E1.setIm r1 ok) q1))⟩))
def dSetO (i : Nat) (t : DTO) : DTS := fun Δ δ => t δ fun ds δ' => okSet δ' i ∧ Δ.nx (δ'.set i (.ow ds))
theorem seto_read {i : Nat} {t : DTO} : ∀ D σ H, lS (dSetO i t) D σ H → tAsg (lO t) (gName i) D σ H := fun D σ H zz9 => (by obtain ⟨Ws, M, α, δ, Δ, E, L, q⟩ := zz9; exact (⟨Ws, M, α, δ, _, E, q, fun ds δ' H1 xs a zz10 E1 c1 r1 h1 => (by obtain ⟨ok, q1⟩ := zz10; exact (
 L.nx _ _ _ _ _ (E1.setNew (s := .ow ds) h1 (fun xs z => by cases z) ok rfl ⟨a, xs, rfl, rfl, upd_same, r1.grow h1⟩) q1))⟩))
theorem s_setO (i : Nat) {x : Str} {pos' : Pos} {t : DTO} (hN : X.N.Nodup) (he : Ov X e t) (hi : autoParam (X.N[i]? = some x) au5._auto_1) (hx : autoParam (Loc X.env.scope x) au8._auto_1) (hs : autoParam (swapsWith e (some (.Name x pos')) pos.line X.env = pure false) au5._auto_1) (hf : autoParam (X.fn x = true ∨ X.env.scope.names.lookup x = some .local) au1._auto_1) :
  Ex X (.Assign [.Name x pos'] e pos) (dSetO i t) := PS.imp (ps_set hN hi hx he hs hf) seto_read
inductive dFrz (i : Nat) (T : DTS) (Δ : DEnds) (δ : List Sl) : Prop
 | mk (ds : _) (h1 : δ[i]? = some (.ow ds)) (h2 : T Δ (δ.set i (.im (.lst ds))))
theorem frz_read {i : Nat} : ∀ D σ H, lS (dFrz i T) D σ H → lS T D σ H := fun D σ H zz11 => (by obtain ⟨Ws, M, α, δ, Δ, E, L, ds, h, q⟩ := zz11; exact (by
 obtain ⟨M', α', E', _⟩ := E.frz h
 exact ⟨Ws, M', α', _, Δ, E', L, q⟩))
theorem s_frz (i : Nat) (h : Ex X st T) : Ex X st (dFrz i T) := PS.imp h frz_read
theorem own_mod {Ws : List Wd} {M : Addr → Prop} {α : List (List Addr)} {H : Hp} {σ : L2.St} {δ : List Sl} {i : Nat} {ds ds' : List Dt} {a : Addr} {xs' : List V} (E : EnvR Ws M α H σ δ) (h : δ[i]? = some (.ow ds)) (h1 : σ[i]? = some (some (.ref a))) (h2 : α[i]? = some [a]) (r : Reps M H xs' ds') :
  EnvR Ws M α (upd H a (.lst xs')) σ (δ.set i (.ow ds')) ∧ Chg α H (upd H a (.lst xs')) :=
 E.mod h h1 h2 rfl ⟨a, xs', rfl, rfl, upd_same, r.mono fun b u e n => ⟨by rw [upd_ne (fun z => n (by rw [z]; exact E.mu a (flat_get h2 (by simp))))]; exact e, n⟩⟩ (fun b u e n => by rw [upd_ne (fun z => n (by rw [z]; simp))]; exact e) (fun b hb => by rw [List.mem_singleton.mp hb]; exact ⟨_, upd_same, fun xs z => by cases z⟩)
inductive dApp_i (i : Nat) (Q : Dt → List Sl → Prop) (es : List Dt) (δ' : List Sl) : Prop
 | mk (ds d : _) (h1 : es = [d]) (h2 : δ'[i]? = some (.ow ds)) (h3 : ds.length < sizeLine) (h4 : Q .non (δ'.set i (.ow (ds ++ [d]))))
def dApp (i : Nat) (t : DTA) : DTE := fun δ Q => (∃ ds0, δ[i]? = some (.ow ds0)) ∧ t δ fun es δ' => dApp_i i Q es δ'
theorem d_append (i : Nat) {x : Str} {xp apos cpos : Pos} {tA : DTA} (ho : PE X (.Name x xp) (tVar i)) (ha : Av X [e] tA)
  (hbase : autoParam (attributeBase (.Name x xp) "append" X.env (eval (.Name x xp) X.env) = eval (.Name x xp) X.env) au5._auto_1)
  (hfew : autoParam (((backTo cpos (starEach [e] X.env)).all (fun x => !x.1) && (backToKw cpos (keywordEach [] X.env)).all (fun x => x.1.isSome) && decide ([e].length + ([] : List Keyword).length + (if ([] : List Keyword).isEmpty then 0 else 1) < 30)) = true) au5._auto_1)
  (hline : autoParam ((apos.endLine == cpos.line) = true) au5._auto_1) (hs : autoParam (starEach [e] X.env = (false, eval e X.env) :: starEach [] X.env) au5._auto_1) (hplain : autoParam ((backTo cpos (starEach [] X.env)).any (·.1) = false) au5._auto_1) :
  Ev X (.Call (.Attribute (.Name x xp) "append" apos) [e] [] cpos) (dApp i tA) :=
 PE.imp (pe_bm PySem.F.plainAttrs_list PySem.F.slot_list_append PySem.F.type_list_append mt_append ho ha hbase hfew hline hs hplain) fun σ H Q zz1 => (by obtain ⟨W, M, α, δ, Qd, E, ⟨⟨ds0, h0⟩, q⟩, k⟩ := zz1; exact (by
  obtain ⟨a, xs0, h1, h2, h3, r3⟩ := E.ow h0
  refine ⟨_, h1, .inl ⟨rfl, _, SqL.of h3⟩, W, M, α, δ, _, E, q, fun es δ' H' vs zz13 E1 c1 r1 => ?_⟩
  obtain ⟨ds, d, e, hd, l, q1⟩ := zz13
  subst e
  obtain ⟨y, ys, rfl, ry, rn⟩ := r1.uncons
  cases rn.unnil
  obtain ⟨a', xs, h1', h2', h3', r3'⟩ := E1.ow hd
  rw [h1] at h1'
  cases h1'
  refine ⟨a, xs, y, rfl, rfl, h3', by rw [r3'.1]; exact l, ?_⟩
  obtain ⟨E2, c2⟩ := own_mod E1 hd h1 h2' (r3'.append (.one ry))
  exact k _ _ _ _ q1 E2 (c1.tr c2) .non))
inductive dPop (i : Nat) (δ : List Sl) (Q : Dt → List Sl → Prop) : Prop
 | mk (ds d : _) (h1 : δ[i]? = some (.ow ds)) (h2 : ds[ds.length - 1]? = some d) (h3 : Q d (δ.set i (.ow ds.dropLast)))
theorem d_pop (i : Nat) {x : Str} {xp apos cpos : Pos} (ho : PE X (.Name x xp) (tVar i))
  (hbase : autoParam (attributeBase (.Name x xp) "pop" X.env (eval (.Name x xp) X.env) = eval (.Name x xp) X.env) au5._auto_1) (hline : autoParam ((apos.endLine == cpos.line) = true) au5._auto_1) :
  Ev X (.Call (.Attribute (.Name x xp) "pop" apos) [] [] cpos) (dPop i) :=
 PE.imp (pe_bm0 PySem.F.plainAttrs_list PySem.F.slot_list_pop PySem.F.type_list_pop mt_pop ho hbase hline) fun σ H Q zz2 => (by obtain ⟨W, M, α, δ, Qd, E, ⟨ds, d, hd, hl, q⟩, k⟩ := zz2; exact (by
  obtain ⟨a, xs, h1, h2, h3, r3⟩ := E.ow hd
  obtain ⟨y, hy, ry⟩ := r3.get hl
  refine ⟨_, h1, .inl ⟨rfl, _, SqL.of h3⟩, a, xs, y, rfl, rfl, h3, by rw [r3.1]; exact hy, ?_⟩
  have rd : Reps M H xs.dropLast ds.dropLast := by rw [List.dropLast_eq_take, List.dropLast_eq_take, r3.1]; exact r3.take _
  obtain ⟨E2, c2⟩ := own_mod E hd h1 h2 rd
  exact k _ _ _ _ q E2 c2 (ry.chg E c2)))
inductive dIxO_i (i : Nat) (Q : Dt → List Sl → Prop) (d2 : Dt) (δ' : List Sl) : Prop
 | mk (ds k d : _) (h1 : δ'[i]? = some (.ow ds)) (h2 : d2 = .int k) (h3 : atI ds k = some d) (h4 : Q d δ')
def dIxO (i : Nat) (tb : DTE) : DTE := fun δ Q => (∃ ds0, δ[i]? = some (.ow ds0)) ∧ tb δ fun d2 δ' => dIxO_i i Q d2 δ'
theorem d_ixO (i : Nat) {x : Str} {xp : Pos} (ho : PE X (.Name x xp) (tVar i)) (hb : Ev X b tb) (hs : autoParam (PlainIx b) au7._auto_1) : Ev X (.Subscript (.Name x xp) b pos) (dIxO i tb) :=
 PE.imp (pe_ix ix_list ho hb hs) fun σ H Q zz4 => (by obtain ⟨W, M, α, δ, Qd, E, ⟨⟨ds0, h0⟩, q⟩, k⟩ := zz4; exact (by
  obtain ⟨a, xs0, h1, h2, h3, r3⟩ := E.ow h0
  refine ⟨_, h1, W, M, α, δ, _, E, q, fun d2 δ' H' v zz18 E1 c1 r1 => ?_⟩
  obtain ⟨ds, n, d, hd, e, hg, q1⟩ := zz18
  subst e
  obtain ⟨a', xs, h1', h2', h3', r3'⟩ := E1.ow hd
  rw [h1] at h1'
  cases h1'
  obtain ⟨y, hy, ry⟩ := atI_rep r3' hg
  exact ⟨a, xs, n, y, rfl, r1.ofInt, SqL.of h3', hy, k _ _ _ _ q1 E1 c1 ry⟩))
inductive dLenO (i : Nat) (δ : List Sl) (Q : Dt → List Sl → Prop) : Prop
 | mk (ds : _) (h1 : δ[i]? = some (.ow ds)) (h2 : Q (.int ds.length) δ)
theorem d_lenO (i : Nat) {x : Str} {xp p : Pos} (hm : X.mg "len" = none) (ho : PE X (.Name x xp) (tVar i)) (hg : autoParam (Gl X "len") au5._auto_1) (he : autoParam (starEach [.Name x xp] X.env = (false, eval (.Name x xp) X.env) :: starEach [] X.env) au5._auto_1) (hpl : autoParam ((backTo pos (starEach [] X.env)).any (·.1) = false) au5._auto_1) :
  Ev X (.Call (.Name "len" p) [.Name x xp] [] pos) (dLenO i) := PE.imp (pe_callB call_len_seq hg hm PySem.boot_len (pa_cons ho pa_nil he) (by decide) (by decide) he hpl) fun σ H Q zz19 => (by obtain ⟨W, M, α, δ, Qd, E, ⟨ds, hd, q⟩, k⟩ := zz19; exact (by
  obtain ⟨a, xs, h1, h2, h3, r3⟩ := E.ow hd
  exact ⟨_, h1, a, xs, rfl, .inl (SqL.of h3), by rw [r3.1]; exact k _ _ _ _ q E Chg.rf (.int _)⟩))
theorem empty_rep {M : Addr → Prop} {H : Hp} {xs : List V} {ds : List Dt} (r : Reps M H xs ds) : xs.isEmpty = ds.isEmpty := by
 have := r.1
 cases xs <;> cases ds <;> simp at this ⊢
noncomputable def truD : Dt → Option Bool
 | .non => some false
 | .bl b => some b
 | .int i => some (i != 0)
 | .lst ds => some (!ds.isEmpty)
 | .tup ds => some (!ds.isEmpty)
 | _ => none
inductive dTru_i (Q : Bool → List Sl → Prop) (d : Dt) (δ' : List Sl) : Prop
 | mk (b : _) (h1 : truD d = some b) (h2 : Q b δ')
def dTru (t : DTE) : DTT := fun δ Q => t δ fun d δ' => dTru_i Q d δ'
theorem t_tru (h : Ev X e t) (he : autoParam (∀ whole, isTrue e X.env whole = (do let v ← whole; standAt e.pos; holding [v] (truthy v))) au4._auto_1) : Tv X e (dTru t) :=
 PT.imp (pt_truth h he) fun σ H Q zz29 => (by obtain ⟨W, M, α, δ, Qd, E, q, k⟩ := zz29; exact (⟨W, M, α, δ, _, E, q, fun d δ' H' v zz30 E1 c1 r1 => (by obtain ⟨b, hb, q1⟩ := zz30; exact (⟨b, by
  cases r1 with
  | non => cases hb; rfl
  | bl c => cases hb; rfl
  | int c => cases hb; rfl
  | str c => cases hb
  | lst h n l r => cases hb; exact .inl ⟨_, SqL.of h, by rw [empty_rep ⟨l, r⟩]⟩
  | dic h n e l r => cases hb
  | dit h n e l r => cases hb
  | tup h n l r => cases hb; exact .inr (.inl ⟨_, SqT.of h, by rw [empty_rep ⟨l, r⟩]⟩), k _ _ _ q1 E1 c1⟩))⟩))
end
end LD
end
section
namespace LD
open PySem PySem.Spec L2 LB PyProof.Rows
def spA (S : DN) : Sp := fun vs H Q _ => ∃ M ds Qd, MOk M H ∧ Reps M H vs ds ∧ S ds Qd ∧ ∀ r H' v', Qd r → Same H H' → Rep M H' v' r → Q v' H'
abbrev DB := Int → List Dt → (Dt → Int → Prop) → Prop
def spB (S : DB) : Sp := fun vs H Q _ => ∃ M d c t ws ds Qd, vs = .ref d :: ws ∧ MOk M H ∧ M d ∧ M c ∧ Box H d c t ∧ Reps M H ws ds ∧ S t ds Qd ∧ ∀ r t' H' v', Qd r t' → Kp d c H H' → Box H' d c t' → Rep M H' v' r → Q v' H'
section
variable {X : Cx} {e : Expr} {es : List Expr} {pos p : Pos} {x : Str} {k : Nat} {ps : List Str}
theorem d_fnA {S : DN} {t : DTA} (h : Has X.prog X.w X.K X.mg X.base x k ps (spA S)) (hr : Room k X.A) (ha : Av X (e :: es) t) (hg : autoParam (Gl X x) au5._auto_1)
  (hdb : autoParam ((x == ("__debug__" : Str)) = false) au2._auto_1) (he : autoParam (starEach (e :: es) X.env = (false, eval e X.env) :: starEach es X.env) au5._auto_1) (hpl : autoParam ((backTo pos (starEach es X.env)).any (·.1) = false) au5._auto_1) :
  Ev X (.Call (.Name x p) (e :: es) [] pos) (dCa S t) := PE.imp (pe_has h hr hg ha hdb he hpl) fun σ H Q zz1 => (by obtain ⟨W, M, α, δ, Qd, E, q, k⟩ := zz1; exact (
 ⟨W, M, α, δ, _, E, q, fun ds δ' H' vs q1 E1 c1 r1 => by
  show spA S (vs ++ []) H' Q E0
  rw [List.append_nil]
  exact ⟨M, ds, _, E1.al, r1, q1, fun r H2 v2 q2 s r2 => k _ _ _ _ q2 (E1.same s) (c1.tr (Chg.of s)) r2⟩⟩))
theorem EnvR.box {Ws : List Wd} {M : Addr → Prop} {α : List (List Addr)} {H : Hp} {σ : L2.St} {δ : List Sl} {i : Nat} {t : Int} (E : EnvR Ws M α H σ δ) (h : δ[i]? = some (.bx t)) : ∃ d c, σ[i]? = some (some (.ref d)) ∧ α[i]? = some [d, c] ∧ Box H d c t := by
 obtain ⟨o, as, h1, h2, d, c, rfl, rfl, r⟩ := E.sl i _ h
 exact ⟨d, c, h1, h2, r⟩
theorem box_mod {Ws : List Wd} {M : Addr → Prop} {α : List (List Addr)} {H H' : Hp} {σ : L2.St} {δ : List Sl} {i : Nat} {t t' : Int} {d c : Addr} (E : EnvR Ws M α H σ δ) (h : δ[i]? = some (.bx t)) (h1 : σ[i]? = some (some (.ref d))) (h2 : α[i]? = some [d, c]) (k : Kp d c H H') (B : Box H' d c t') :
  EnvR Ws M α H' σ (δ.set i (.bx t')) ∧ Chg α H H' :=
 E.mod h h1 h2 rfl ⟨d, c, rfl, rfl, B⟩ (fun b u e n => k b u e (fun z => n (by rw [z]; simp)) (fun z => n (by rw [z]; simp))) (fun b hb => by
  simp only [List.mem_cons, List.not_mem_nil, or_false] at hb
  rcases hb with rfl | rfl
  · exact ⟨_, B.dc, fun xs z => by cases z⟩
  · obtain ⟨ns, h, _⟩ := B.cs
    exact ⟨_, h, fun xs z => by cases z⟩)
def dFnB (S : DB) (i : Nat) (t : DTA) : DTE := fun δ Q => (∃ t0, δ[i]? = some (.bx t0)) ∧ t δ fun ds δ' => ∃ t, δ'[i]? = some (.bx t) ∧ S t ds fun r t' => Q r (δ'.set i (.bx t'))
theorem d_fnB (i : Nat) {S : DB} {t : DTA} {y : Str} {yp : Pos} (h : Has X.prog X.w X.K X.mg X.base x k ps (spB S)) (hr : Room k X.A) (ho : PE X (.Name y yp) (tVar i)) (ha : Av X es t) (hg : autoParam (Gl X x) au5._auto_1)
  (hdb : autoParam ((x == ("__debug__" : Str)) = false) au2._auto_1) (he : autoParam (starEach (.Name y yp :: es) X.env = (false, eval (.Name y yp) X.env) :: starEach es X.env) au5._auto_1) (hpl : autoParam ((backTo pos (starEach es X.env)).any (·.1) = false) au5._auto_1) :
  Ev X (.Call (.Name x p) (.Name y yp :: es) [] pos) (dFnB S i t) := PE.imp (pe_has h hr hg (pa_cons ho ha he) hdb he hpl) fun σ H Q zz1 => (by obtain ⟨W, M, α, δ, Qd, E, ⟨⟨t0, h0⟩, q⟩, k⟩ := zz1; exact (by
  obtain ⟨d, c, h1, h2, B⟩ := E.box h0
  refine ⟨_, h1, W, M, α, δ, _, E, q, fun ds δ' H' vs zz3 E1 c1 r1 => ?_⟩
  obtain ⟨t, hd, q1⟩ := zz3
  obtain ⟨d', c', h1', h2', B'⟩ := E1.box hd
  rw [h1] at h1'
  cases h1'
  show spB S ((V.ref d :: vs) ++ []) H' Q E0
  rw [List.append_nil]
  refine ⟨M, d, c', t, vs, ds, _, rfl, E1.al, E1.mu d (flat_get h2' (by simp)), E1.mu c' (flat_get h2' (by simp)), B', r1, q1, fun r t' H2 v2 q2 kp B2 r2 => ?_⟩
  obtain ⟨E2, c2⟩ := box_mod E1 hd h1 h2' kp B2
  exact k _ _ _ _ q2 E2 (c1.tr c2) r2))
end
section
variable {P : Program} {w : World} {K : PySem.W.Frag} {mg : Str → Option Value} {base : Heap}
theorem env_start {Ws : List Wd} {M : Addr → Prop} {H : Hp} {vs : List V} {ds : List Dt} {n : Nat} (al : MOk M H) (r : Reps M H vs ds) (w : ∀ W ∈ Ws, WOk W M (List.replicate (ds.length + n) []) H (ds.map .im ++ List.replicate n .no)) :
  EnvR Ws M (List.replicate (ds.length + n) []) H (vs.map some ++ List.replicate n none) (ds.map .im ++ List.replicate n .no) := by
 have hflat : (List.replicate (ds.length + n) ([] : List Addr)).flatten = [] := by simp
 refine ⟨by simp [r.1], by simp, fun i s h => ?_, by rw [hflat]; exact List.nodup_nil, fun a ha => by rw [hflat] at ha; exact absurd ha List.not_mem_nil, al, w⟩
 have hi := (List.getElem?_eq_some_iff.mp h).1
 rw [List.length_append, List.length_map, List.length_replicate] at hi
 have ha : (List.replicate (ds.length + n) ([] : List Addr))[i]? = some [] := by rw [List.getElem?_replicate, if_pos hi]
 by_cases hl : i < ds.length
 · rw [List.getElem?_append_left (by rw [List.length_map]; exact hl), List.getElem?_map, List.getElem?_eq_getElem hl] at h
   cases h
   obtain ⟨v, hv, rv⟩ := r.get (List.getElem?_eq_getElem hl)
   exact ⟨some v, [], by rw [List.getElem?_append_left (by rw [List.length_map, r.1]; exact hl), List.getElem?_map, hv]; rfl, ha, rfl, v, rfl, rv⟩
 · rw [List.getElem?_append_right (by rw [List.length_map]; omega), List.getElem?_replicate] at h
   split at h
   · rename_i hn
     cases h
     rw [List.length_map] at hn
     exact ⟨none, [], by rw [List.getElem?_append_right (by rw [List.length_map, r.1]; omega), List.getElem?_replicate, if_pos (by rw [List.length_map, r.1]; exact hn)], ha, rfl⟩
   · cases h
theorem fnA {x qual : Str} {st : Stmt} {f : Addr} {fd : FuncData} {N ps : List Str} {k : Nat} {S : DN} (F : Fun K x qual st f fd) (sc : FnScope N ps (defScope st)) (len : ∀ ds Qd, S ds Qd → ds.length = ps.length)
  (hbody : ∀ (cdv : Value) (A : Around) (outer : List Env) (s : Shared) (H : Hp) (E : XK), Room k (A.deeper (envOfC qual (defScope st) s.heap.objs.size f cdv)) →
   ∃ T, Exs (cxOf CX0 P w K mg base N qual (defScope st) f cdv A outer s H E).nox (defBody st) T ∧ ∀ ds Qd, S ds Qd → T { nx := fun _ => Qd .non, rt := fun d _ => Qd d } (ds.map .im ++ List.replicate (N.length - ps.length) .no)) :
  FnOk P w K mg base CX0 (k + 1) f fd ps (spA S) := by
 refine F.ok sc (fun vs H Q E h => ?_) (fun cdv A outer s H vs Q E hr h => ?_)
 · obtain ⟨M, ds, Qd, al, r, q, _⟩ := h
   rw [r.1]; exact len ds Qd q
 · obtain ⟨M, ds, Qd, al, r, q, kk⟩ := h
   obtain ⟨T, hT, hq⟩ := hbody cdv A outer s H E hr
   refine ⟨lS T, hT, [⟨H, fun _ => False, M, M, none⟩], M, List.replicate (ds.length + (N.length - ps.length)) [], ds.map .im ++ List.replicate (N.length - ps.length) .no, _, ?_, ?_, hq ds Qd q⟩
   · have e : L2.start N vs = vs.map some ++ List.replicate (N.length - ps.length) none := by unfold L2.start; rw [r.1, len ds Qd q]
     rw [e]
     refine env_start al r fun W hW => ?_
     rw [List.mem_singleton.mp hW]
     have hflat : (List.replicate (ds.length + (N.length - ps.length)) ([] : List Addr)).flatten = [] := by simp
     refine ⟨fun b o e _ => e, fun b n => n, fun a ha => by rw [hflat] at ha; exact absurd ha List.not_mem_nil, fun a h => h, fun a h => .inl h, fun d c e => (by cases e), fun j s as h1 h2 _ a ha => ?_⟩
     rw [List.getElem?_replicate] at h2
     split at h2
     · cases h2; exact absurd ha List.not_mem_nil
     · cases h2
   · have same : ∀ {M' α' H' σ' δ'}, EnvR [⟨H, fun _ => False, M, M, none⟩] M' α' H' σ' δ' → Same H H' ∧ ∀ a, M a → M' a := fun E' => by
       have k := E'.w _ (List.mem_singleton.mpr rfl)
       exact ⟨fun b o e => k.bs b o e (fun z => z), k.m0⟩
     refine ⟨fun M' α' H' σ' δ' E' q => kk _ _ _ q (same E').1 .non, fun M' α' H' σ' δ' v d E' r' q => kk _ _ _ q (same E').1 (r'.mono fun a o e n => ⟨e, fun z => n ((same E').2 a z)⟩), fun _ _ _ _ _ _ z => z.elim, fun _ _ _ _ _ _ z => z.elim⟩
end
end LD
end
section
namespace LD
open PySem PySem.Spec L2 LB PyProof.Rows
def Kf (M : Addr → Prop) (H H1 : Hp) : Prop := ∀ b o, H b = some o → ¬ M b → H1 b = some o
structure Yl (M : Addr → Prop) (H : Hp) (J : It) (its : List Dt) : Prop where
 go : ∀ i H1 M', Kf M H H1 → MOk M' H1 → (∀ b, H b ≠ none → ¬ M b → ¬ M' b) → i < its.length → J.go i H1 ∧ ∀ x H2, J.yld i H1 x H2 → Same H1 H2 ∧ ∃ d, its[i]? = some d ∧ Rep M' H2 x d
 stop : ∀ H1, Kf M H H1 → J.stop its.length H1
abbrev DTI := List Sl → (List Dt → List Sl → Prop) → Prop
inductive lI (t : DTI) (σ : L2.St) (H : Hp) (R : It → Hp → Prop) : Prop
 | mk (W : List Wd) (M : Addr → Prop) (α : List (List Addr)) (δ : List Sl) (Qd : List Dt → List Sl → Prop) (h1 : EnvR W M α H σ δ) (h2 : t δ Qd) (h3 : ∀ its δ' H' J, Qd its δ' → EnvR W M α H' σ δ' → Chg α H H' → Yl M H' J its → R J H')
theorem PI.imp {X : Cx} {tg iter : Expr} {t t' : TI} (h : PI X tg iter t) (i : ∀ σ H R, t' σ H R → t σ H R) : PI X tg iter t' := fun pins s σ H R I q => h pins s σ H R I (i _ _ _ q)
abbrev Iv (X : Cx) (tg iter : Expr) (t : DTI) : Prop := PI X tg iter (lI t)
section
variable {X : Cx} {tg e a b : Expr} {ta t : DTE} {tA : DTA} {p pos : Pos}
theorem yl_range {M : Addr → Prop} {H : Hp} {lo : Int} {n : Nat} : Yl M H (Itr lo n) ((List.range n).map fun k => .int (lo + (k : Nat))) := by
 refine ⟨fun i H1 M' kf mo hb hi => ⟨?_, fun x H2 zz1 => ?_⟩, fun H1 _ => ?_⟩
 · rw [List.length_map, List.length_range] at hi; exact hi
 · obtain ⟨e1, e2⟩ := zz1
   rw [List.length_map, List.length_range] at hi
   subst e1; subst e2
   exact ⟨fun _ _ z => z, .int (lo + i), by rw [List.getElem?_map, List.getElem?_range hi]; rfl, .int _⟩
 · show n ≤ _
   rw [List.length_map, List.length_range]; exact Nat.le_refl _
inductive dRng1_i (Q : List Dt → List Sl → Prop) (ds : List Dt) (δ' : List Sl) : Prop
 | mk (j : Int) (h1 : ds = [.int j]) (h2 : -(2 ^ 62) ≤ j) (h3 : j < 2 ^ 62) (h4 : Q ((List.range j.toNat).map fun k => .int (0 + (k : Nat))) δ')
def dRng1 (t : DTA) : DTI := fun δ Q => t δ fun ds δ' => dRng1_i Q ds δ'
theorem i_rng1 (hm : X.mg "range" = none) (ha : Av X [a] tA) (hg : autoParam (Gl X "range") au5._auto_1) (hs : autoParam (starEach [a] X.env = [(false, eval a X.env)]) au5._auto_1) : Iv X tg (.Call (.Name "range" p) [a] [] pos) (dRng1 tA) := PI.imp (pi_range1 hg hm ha hs) fun σ H R zz2 => (by obtain ⟨W, M, α, δ, Qd, E, q, k⟩ := zz2; exact (
 ⟨W, M, α, δ, _, E, q, fun ds δ' H' vs zz3 E1 c1 r1 => (by obtain ⟨j, e, l1, l2, q1⟩ := zz3; exact (by
  subst e
  obtain ⟨x, ys, rfl, r2, r3⟩ := r1.uncons
  cases r3.unnil
  cases r2.ofInt
  exact ⟨j, rfl, l1, l2, k _ _ _ _ q1 E1 c1 yl_range⟩))⟩))
theorem get_of {M M' : Addr → Prop} {H H1 : Hp} {xs : List V} {ds : List Dt} (r : Reps M H xs ds) (kf : Kf M H H1) (hb : ∀ b, H b ≠ none → ¬ M b → ¬ M' b) : Reps M' H1 xs ds := r.mono fun a o e n => ⟨kf a o e n, hb a (by rw [e]; intro z; cases z) n⟩
theorem yl_list {K : PySem.W.Frag} {M : Addr → Prop} {H : Hp} {a : Addr} {xs : List V} {ds : List Dt} (h : H a = some (.lst xs)) (n : ¬ M a) (r : Reps M H xs ds) : Yl M H (Itl K a) ds := by
 refine ⟨fun i H1 M' kf mo hb hi => ?_, fun H1 kf => ⟨xs, SqL.of (kf _ _ h n), by rw [r.1]; exact Nat.le_refl _⟩⟩
 have rr := get_of r kf hb
 have hx : xs[i]? = some (xs[i]'(by rw [r.1]; exact hi)) := List.getElem?_eq_getElem _
 refine ⟨⟨xs, _, SqL.of (kf _ _ h n), hx⟩, fun x H2 zz6 => ?_⟩
 obtain ⟨e, y⟩ := zz6
 subst e
 have := y xs (SqL.of (kf _ _ h n))
 exact ⟨fun _ _ z => z, _, List.getElem?_eq_getElem hi, rr.2 i x _ this (List.getElem?_eq_getElem hi)⟩
theorem yl_tup {K : PySem.W.Frag} {M : Addr → Prop} {H : Hp} {a : Addr} {xs : List V} {ds : List Dt} (h : H a = some (.tup xs)) (n : ¬ M a) (r : Reps M H xs ds) : Yl M H (Itt K a) ds := by
 refine ⟨fun i H1 M' kf mo hb hi => ?_, fun H1 kf => ⟨xs, SqT.of (kf _ _ h n), by rw [r.1]; exact Nat.le_refl _⟩⟩
 have rr := get_of r kf hb
 have hx : xs[i]? = some (xs[i]'(by rw [r.1]; exact hi)) := List.getElem?_eq_getElem _
 refine ⟨⟨xs, _, SqT.of (kf _ _ h n), hx⟩, fun x H2 zz7 => ?_⟩
 obtain ⟨e, y⟩ := zz7
 subst e
 have := y xs (SqT.of (kf _ _ h n))
 exact ⟨fun _ _ z => z, _, List.getElem?_eq_getElem hi, rr.2 i x _ this (List.getElem?_eq_getElem hi)⟩
inductive dItL_i (Q : List Dt → List Sl → Prop) (d : Dt) (δ' : List Sl) : Prop
 | mk (ds : _) (h1 : d = .lst ds) (h2 : Q ds δ')
def dItL (t : DTE) : DTI := fun δ Q => t δ fun d δ' => dItL_i Q d δ'
inductive dItT_i (Q : List Dt → List Sl → Prop) (d : Dt) (δ' : List Sl) : Prop
 | mk (ds : _) (h1 : d = .tup ds) (h2 : Q ds δ')
def dItT (t : DTE) : DTI := fun δ Q => t δ fun d δ' => dItT_i Q d δ'
theorem i_list (h : Ev X e t) : Iv X tg e (dItL t) := PI.imp (pi_list h) fun σ H R zz8 => (by obtain ⟨W, M, α, δ, Qd, E, q, k⟩ := zz8; exact (⟨W, M, α, δ, _, E, q, fun d δ' H' v zz9 E1 c1 r1 => (by obtain ⟨ds, e, q1⟩ := zz9; exact (by
 subst e
 obtain ⟨a, xs, rfl, ha, n, rr⟩ := r1.ofLst
 exact ⟨a, rfl, ⟨xs, SqL.of ha⟩, k _ _ _ _ q1 E1 c1 (yl_list ha n rr)⟩))⟩))
theorem i_tup (h : Ev X e t) : Iv X tg e (dItT t) := PI.imp (pi_tup h) fun σ H R zz10 => (by obtain ⟨W, M, α, δ, Qd, E, q, k⟩ := zz10; exact (⟨W, M, α, δ, _, E, q, fun d δ' H' v zz11 E1 c1 r1 => (by obtain ⟨ds, e, q1⟩ := zz11; exact (by
 subst e
 obtain ⟨a, xs, rfl, ha, n, rr⟩ := r1.ofTup
 exact ⟨a, rfl, ⟨xs, SqT.of ha⟩, k _ _ _ _ q1 E1 c1 (yl_tup ha n rr)⟩))⟩))
noncomputable def zipD (xs ys : List Dt) : List Dt := List.zipWith (fun x y => .tup [x, y]) xs ys
noncomputable def sqD (b : Bool) (ds : List Dt) : Dt := if b then .tup ds else .lst ds
theorem Rep.ofSq {M : Addr → Prop} {H : Hp} {v : V} {b : Bool} {ds : List Dt} (h : Rep M H v (sqD b ds)) : ∃ a xs, v = .ref a ∧ Sqb b H a xs ∧ ¬ M a ∧ Reps M H xs ds ∧ ∀ H1, Kf M H H1 → Sqb b H1 a xs := by
 cases b with
 | true => obtain ⟨a, xs, e, ha, n, r⟩ := Rep.ofTup h; exact ⟨a, xs, e, ha, n, r, fun H1 k => k _ _ ha n⟩
 | false => obtain ⟨a, xs, e, ha, n, r⟩ := Rep.ofLst h; exact ⟨a, xs, e, ha, n, r, fun H1 k => k _ _ ha n⟩
theorem yl_zip {M : Addr → Prop} {H : Hp} {b1 b2 : Bool} {a1 a2 : Addr} {xs ys : List V} {ds es : List Dt} (k1 : ∀ H1, Kf M H H1 → Sqb b1 H1 a1 xs) (k2 : ∀ H1, Kf M H H1 → Sqb b2 H1 a2 ys) (r : Reps M H xs ds) (r2 : Reps M H ys es) : Yl M H (Itz b1 b2 a1 a2) (zipD ds es) := by
 have hl : (zipD ds es).length = min ds.length es.length := by unfold zipD; rw [List.length_zipWith]
 refine ⟨fun i H1 M' kf mo hb hi => ?_, fun H1 kf => ⟨xs, ys, k1 _ kf, k2 _ kf, by rw [hl, r.1, r2.1]; grind⟩⟩
 rw [hl] at hi
 have rr := get_of r kf hb
 have rr2 := get_of r2 kf hb
 have hd : ds[i]? = some (ds[i]'(by grind)) := List.getElem?_eq_getElem _
 have he : es[i]? = some (es[i]'(by grind)) := List.getElem?_eq_getElem _
 obtain ⟨x, hx, rx⟩ := rr.get hd
 obtain ⟨y, hy, ry⟩ := rr2.get he
 refine ⟨⟨xs, x, ys, y, k1 _ kf, hx, k2 _ kf, hy⟩, fun v H2 zz17 => ?_⟩
 obtain ⟨pp, x', y', e1, e2, e3, e4, e5⟩ := zz17
 subst e1; subst e3
 have h1 := e4 xs (k1 _ kf)
 have h2 := e5 ys (k2 _ kf)
 rw [hx] at h1; cases h1
 rw [hy] at h2; cases h2
 have s : Same H1 (upd H1 pp (.tup [x, y])) := Same.new e2
 exact ⟨s, _, by unfold zipD; rw [List.getElem?_zipWith, hd, he], Rep.toTup upd_same (mo.fresh e2) (.cons (rx.same s) (.one (ry.same s)))⟩
inductive dZip_i (Q : List Dt → List Sl → Prop) (es : List Dt) (δ' : List Sl) : Prop
 | mk (b1 b2 ds1 ds2 : _) (h1 : es = [sqD b1 ds1, sqD b2 ds2]) (h2 : Q (zipD ds1 ds2) δ')
def dZip (t : DTA) : DTI := fun δ Q => t δ fun es δ' => dZip_i Q es δ'
theorem i_zip {f : Expr} {es : List Expr} {x1} {tp : Pos} (ha : Av X [e, f] tA) (hp : ∀ {t : TA}, PA X [e, f] t → PI X (.Tuple es x1 tp) (.Call (.Name "zip" p) [e, f] [] pos) (iZip t)) : Iv X (.Tuple es x1 tp) (.Call (.Name "zip" p) [e, f] [] pos) (dZip tA) := PI.imp (hp ha) fun σ H R zz18 => (by obtain ⟨W, M, α, δ, Qd, E, q, k⟩ := zz18; exact (
 ⟨W, M, α, δ, _, E, q, fun es δ' H' vs zz19 E1 c1 r1 => (by obtain ⟨b1, b2, ds1, ds2, e, q1⟩ := zz19; exact (by
  subst e
  obtain ⟨x, ys, rfl, r2, r3⟩ := r1.uncons
  obtain ⟨y, zs, rfl, r4, r5⟩ := r3.uncons
  cases r5.unnil
  obtain ⟨a, xs, rfl, ha, n, rr, kk⟩ := r2.ofSq
  obtain ⟨a2, xs2, rfl, ha2, n2, rr2, kk2⟩ := r4.ofSq
  exact ⟨b1, b2, a, a2, xs, xs2, rfl, ha, ha2, k _ _ _ _ q1 E1 c1 (yl_zip kk kk2 rr rr2)⟩))⟩))
abbrev DTG := Dt → List Sl → (List Sl → Prop) → Prop
inductive lG (g : DTG) (v : V) (σ : L2.St) (H : Hp) (Q : L2.St → Hp → Prop) : Prop
 | mk (W : List Wd) (M : Addr → Prop) (α : List (List Addr)) (δ : List Sl) (d : Dt) (Qd : List Sl → Prop) (h1 : EnvR W M α H σ δ) (h2 : Rep M H v d) (h3 : g d δ Qd) (h4 : ∀ α' δ' σ', Qd δ' → EnvR W M α' H σ' δ' → (∀ x ∈ α'.flatten, x ∈ α.flatten) → Q σ' H)
theorem PG.imp {X : Cx} {tg : Expr} {t t' : TG} (h : PG X tg t) (i : ∀ v σ H Q, t' v σ H Q → t v σ H Q) : PG X tg t' := fun pins s σ H v u Q I r q => h pins s σ H v u Q I r (i _ _ _ _ q)
abbrev Gv (X : Cx) (tg : Expr) (g : DTG) : Prop := PG X tg (lG g)
def dgName (i : Nat) : DTG := fun d δ Q => okSet δ i ∧ Q (δ.set i (.im d))
theorem flat_sub {α : List (List Addr)} {i : Nat} : ∀ x ∈ (α.set i []).flatten, x ∈ α.flatten := fun x h => (flat_set h).elim id fun z => absurd z List.not_mem_nil
theorem gname_read {i : Nat} : ∀ v σ H Q, lG (dgName i) v σ H Q → gName i v σ H Q := fun v σ H Q zz20 => (by obtain ⟨W, M, α, δ, d, Qd, E, r, ⟨ok, q⟩, k⟩ := zz20; exact (k _ _ _ q (E.setIm r ok) flat_sub))
theorem g_name (i : Nat) {x : Str} (hN : X.N.Nodup) (hi : autoParam (X.N[i]? = some x) au5._auto_1) (hx : autoParam (Loc X.env.scope x) au8._auto_1) (hf : autoParam (X.fn x = true ∨ X.env.scope.names.lookup x = some .local) au1._auto_1) : Gv X (.Name x pos) (dgName i) := PG.imp (pg_name hN hi hx hf) gname_read
inductive dgPair (i : Nat) (j : Nat) (d : Dt) (δ : List Sl) (Q : List Sl → Prop) : Prop
 | mk (d1 d2 : _) (h1 : d = .tup [d1, d2]) (h2 : okSet δ i) (h3 : okSet (δ.set i (.im d1)) j) (h4 : Q ((δ.set i (.im d1)).set j (.im d2)))
theorem gpair_read {i j : Nat} {K : PySem.W.Frag} : ∀ v σ H Q, lG (dgPair i j) v σ H Q → gTup K 2 (gCons (gName i) (gCons (gName j) gNil)) v σ H Q := fun v σ H Q zz21 => (by obtain ⟨W, M, α, δ, d, Qd, E, r, ⟨d1, d2, e, ok1, ok2, q⟩, k⟩ := zz21; exact (by
 subst e
 obtain ⟨a, xs, rfl, ha, n, rr⟩ := r.ofTup
 obtain ⟨x, ys, rfl, r2, r3⟩ := rr.uncons
 obtain ⟨y, zs, rfl, r4, r5⟩ := r3.uncons
 cases r5.unnil
 exact ⟨a, _, rfl, SqT.of ha, rfl, x, _, rfl, y, _, rfl, rfl, k _ _ _ q ((E.setIm r2 ok1).setIm r4 ok2) fun x h => flat_sub x (flat_sub x h)⟩))
end
section
variable {X : Cx} {tg iter c : Expr} {body : List Stmt} {ti : DTI} {g : DTG} {tb : DTS} {u : DTT} {pos : Pos}
def dFor (ti : DTI) (g : DTG) (tb : DTS) : DTS := fun Δ δ => ti δ fun its δ1 => ∃ P : Nat → List Sl → Prop, P 0 δ1 ∧ (∀ i d δ2, its[i]? = some d → P i δ2 → g d δ2 fun δ3 => tb { Δ with nx := P (i + 1), ct := P (i + 1), bk := Δ.nx } δ3) ∧ ∀ δ2, P its.length δ2 → Δ.nx δ2
theorem s_for (hc : X.calm = true) (hi : Iv X tg iter ti) (hg : Gv X tg g) (hb : Exs X body tb) (hp : PassesOwn (model X.prog X.w) X.A X.env X.xe) (hs : autoParam (∀ x, foldedSetIterable iter X.env x = pure x) au4._auto_1) : Ex X (.For tg iter body [] pos) (dFor ti g tb) :=
 PS.imp (ps_for hp hc hi hg hb hs) fun D σ H zz1 => (by obtain ⟨Ws, M, α, δ, Δ, E, L, q⟩ := zz1; exact (⟨Ws, M, α, δ, _, E, q, fun its δ1 H1 J zz2 E1 c1 yl => (by obtain ⟨P, p0, step, fin⟩ := zz2; exact (by
  refine ⟨fun i m σ' H' => m = its.length - i ∧ i ≤ its.length ∧ ∃ M' α' δ', EnvR (⟨H1, M, fun _ => False, M, none⟩ :: Ws) M' α' H' σ' δ' ∧ P i δ', ⟨its.length, by simp, Nat.zero_le _, M, α, δ1, E1.loop, p0⟩, ?_⟩
  rintro i m σ' H' ⟨rfl, hi, M', α', δ', E', p'⟩
  have w := E'.w _ List.mem_cons_self
  have kf : Kf M H1 H' := w.bs
  have hb : ∀ b, H1 b ≠ none → ¬ M b → ¬ M' b := fun b n z y => (w.m1 b y).elim z n
  by_cases hlt : i < its.length
  · obtain ⟨go, yld⟩ := yl.go i H' M' kf E'.al hb hlt
    refine .inr ⟨go, fun σ2 H2 => ∃ M2 α2 δ2, EnvR (⟨H1, M, fun _ => False, M, none⟩ :: Ws) M2 α2 H2 σ2 δ2 ∧ P (i + 1) δ2, fun σ2 H2 z => ⟨its.length - (i + 1), by grind, rfl, hlt, z⟩, fun x H2 y => ?_⟩
    obtain ⟨s, d, hd, rx⟩ := yld x H2 y
    refine ⟨_, M', α', δ', d, _, E'.same s, rx, step i d δ' hd p', fun α3 δ3 σ3 q3 E3 _ => ?_⟩
    refine ⟨_, M', α3, δ3, { Δ with nx := P (i + 1), ct := P (i + 1), bk := Δ.nx }, E3, ⟨fun M4 α4 H4 σ4 δ4 E4 q4 => ⟨M4, α4, δ4, E4, q4⟩, fun M4 α4 H4 σ4 δ4 v d E4 r4 q4 => L.rt _ _ _ _ _ _ _ E4.drop r4 q4, fun M4 α4 H4 σ4 δ4 E4 q4 => L.nx _ _ _ _ _ E4.drop q4, fun M4 α4 H4 σ4 δ4 E4 q4 => ⟨M4, α4, δ4, E4, q4⟩⟩, q3⟩
  · have e : i = its.length := by grind
    subst e
    exact .inl ⟨yl.stop H' kf, L.nx _ _ _ _ _ E'.drop (fin _ p')⟩))⟩))
def dWhile (u : DTT) (tb : DTS) : DTS := fun Δ δ => ∃ P : Nat → List Sl → Prop, (∃ m, P m δ) ∧ ∀ m δ1, P m δ1 → u δ1 fun b δ2 => if b = true then tb { Δ with nx := fun δ3 => ∃ m', m' < m ∧ P m' δ3, ct := fun δ3 => ∃ m', m' < m ∧ P m' δ3, bk := Δ.nx } δ2 else Δ.nx δ2
theorem s_while (hc : Tv X c u) (hb : Exs X body tb) (hp : PassesOwn (model X.prog X.w) X.A X.env X.xe) : Ex X (.While c body [] pos) (dWhile u tb) :=
 PS.imp (ps_while hp hc hb) fun D σ H zz3 => (by obtain ⟨Ws, M, α, δ, Δ, E, L, P, ⟨m0, p0⟩, turn⟩ := zz3; exact (by
  refine ⟨fun m σ' H' => ∃ M' α' δ', EnvR Ws M' α' H' σ' δ' ∧ P m δ', ⟨m0, M, α, δ, E, p0⟩, ?_⟩
  rintro m σ' H' ⟨M', α', δ', E', p'⟩
  refine ⟨Ws, M', α', δ', _, E', turn m δ' p', fun b δ2 H2 q2 E2 c2 => ?_⟩
  cases b with
  | true =>
   rw [if_pos rfl] at q2 ⊢
   refine ⟨fun σ3 H3 => ∃ m', m' < m ∧ ∃ M3 α3 δ3, EnvR Ws M3 α3 H3 σ3 δ3 ∧ P m' δ3, fun σ3 H3 z => z, ?_⟩
   exact ⟨Ws, M', α', δ2, { Δ with nx := fun δ3 => ∃ m', m' < m ∧ P m' δ3, ct := fun δ3 => ∃ m', m' < m ∧ P m' δ3, bk := Δ.nx }, E2, ⟨fun M4 α4 H4 σ4 δ4 E4 zz25 => (by obtain ⟨m', l, q4⟩ := zz25; exact (⟨m', l, M4, α4, δ4, E4, q4⟩)), L.rt, fun M4 α4 H4 σ4 δ4 E4 q4 => L.nx _ _ _ _ _ E4 q4, fun M4 α4 H4 σ4 δ4 E4 zz26 => (by obtain ⟨m', l, q4⟩ := zz26; exact (⟨m', l, M4, α4, δ4, E4, q4⟩))⟩, q2⟩
  | false =>
   rw [if_neg Bool.false_ne_true] at q2 ⊢
   exact L.nx _ _ _ _ _ E2 q2))
end
end LD
end
section
namespace LD
open PySem PySem.Spec L2 LB PyProof.Rows
noncomputable def seen : Sl → Sl
 | .im d => .im d
 | .fn f => .fn f
 | _ => .no
noncomputable def cin (nt : Nat) (js : List Nat) (δ : List Sl) : List Sl := List.replicate nt .no ++ js.map fun j => seen (δ.getD j .no)
theorem cin_env {Ws : List Wd} {M : Addr → Prop} {α : List (List Addr)} {H : Hp} {σ : L2.St} {δ : List Sl} {nt : Nat} {js : List Nat} (E : EnvR Ws M α H σ δ) : EnvR [] M (List.replicate (nt + js.length) []) H (st0 nt js σ) (cin nt js δ) := by
 have hflat : (List.replicate (nt + js.length) ([] : List Addr)).flatten = [] := by simp
 refine ⟨by simp [st0, cin], by simp [cin], fun i s h => ?_, by rw [hflat]; exact List.nodup_nil, fun a ha => by rw [hflat] at ha; exact absurd ha List.not_mem_nil, E.al, fun W hW => absurd hW List.not_mem_nil⟩
 have hi := (List.getElem?_eq_some_iff.mp h).1
 have hi' : i < nt + js.length := by simpa [cin] using hi
 have ha : (List.replicate (nt + js.length) ([] : List Addr))[i]? = some [] := by rw [List.getElem?_replicate, if_pos hi']
 unfold cin at h
 unfold st0
 by_cases hl : i < nt
 · rw [List.getElem?_append_left (by simpa using hl), List.getElem?_replicate, if_pos hl] at h
   cases h
   exact ⟨none, [], by rw [List.getElem?_append_left (by simpa using hl), List.getElem?_replicate, if_pos hl], ha, rfl⟩
 · rw [List.getElem?_append_right (by simpa using hl), List.length_replicate, List.getElem?_map] at h
   cases hj : js[i - nt]? with
   | none => rw [hj] at h; cases h
   | some j =>
    rw [hj] at h
    have hs : seen (δ.getD j .no) = s := Option.some.inj h
    refine ⟨(σ[j]?).join, [], by rw [List.getElem?_append_right (by simpa using hl), List.length_replicate, List.getElem?_map, hj]; rfl, ha, ?_⟩
    cases hd : δ[j]? with
    | none =>
     have : δ.getD j .no = .no := by rw [List.getD, hd]; rfl
     rw [this] at hs
     subst hs
     rfl
    | some s' =>
     have e : δ.getD j .no = s' := by rw [List.getD, hd]; rfl
     rw [e] at hs
     cases s' with
     | im d =>
      subst hs
      obtain ⟨v, h1, r⟩ := E.im hd
      exact ⟨rfl, v, by rw [h1]; rfl, r⟩
     | fn f =>
      subst hs
      obtain ⟨o2, as2, h1, _, _, h3⟩ := E.sl j _ hd
      exact ⟨rfl, by rw [h1, h3]; rfl⟩
     | _ => subst hs; rfl
section
variable {X : Cx} {N : List Str} {nt : Nat} {js : List Nat} {scope : Scope} {elt tg iter : Expr} {ifs : List Expr} {pos : Pos} {ti : DTI} {g : DTG} {tc : DTT} {te : DTE}
def dComp (nt : Nat) (js : List Nat) (ti : DTI) (g : DTG) (tc : DTT) (te : DTE) : DTO := fun δ Q => ti δ fun its δ1 => its.length ≤ sizeLine ∧ ∃ (p : Dt → Bool) (f : Dt → Dt), (∀ d ∈ its, g d (cin nt js δ1) fun δ2 => tc δ2 fun b δ3 => b = p d ∧ (b = true → te δ3 fun r _ => r = f d)) ∧ Q ((its.filter p).map f) δ1
theorem comp_read {gh : TG} (hgr : ∀ v σ H Q, lG g v σ H Q → gh v σ H Q) : ∀ σ H Q, lO (dComp nt js ti g tc te) σ H Q → tComp nt js (lI ti) gh (lT tc) (lE te) σ H Q := fun σ H Q zz1 => (by obtain ⟨W, M, α, δ, Qd, E, q, k⟩ := zz1; exact (by
 refine ⟨W, M, α, δ, _, E, q, fun its δ1 H1 J zz2 E1 c1 yl D hD => ?_⟩
 obtain ⟨hsz, p, f, step, q1⟩ := zz2
 have s0 : Same H1 (upd H1 D (.lst [])) := Same.new hD
 refine ⟨fun i m acc H2 => m = its.length - i ∧ i ≤ its.length ∧ H2 D = some (.lst acc) ∧ Reps (fun b => M b ∨ b = D) H2 acc (((its.take i).filter p).map f) ∧ Same H1 H2 ∧ MOk (fun b => M b ∨ b = D) H2, ⟨its.length, by simp, Nat.zero_le _, upd_same, .nil, s0, fun a ha => ?_⟩, ?_⟩
 · rcases ha with ha | ha
   · obtain ⟨o, e, n⟩ := E1.al a ha
     exact ⟨o, s0 _ _ e, n⟩
   · subst ha
     exact ⟨_, upd_same, fun xs z => by cases z⟩
 rintro i m acc H2 ⟨rfl, hi, hD2, racc, s2, mo2⟩
 have kf : Kf M H1 H2 := fun b o e _ => s2 _ _ e
 by_cases hlt : i < its.length
 · have hb : ∀ b, H1 b ≠ none → ¬ M b → ¬ (fun b => M b ∨ b = D) b := fun b n z y => y.elim z fun w => n (by rw [w]; exact hD)
   obtain ⟨go, yld⟩ := yl.go i H2 (fun b => M b ∨ b = D) kf mo2 hb hlt
   have hlen : acc.length < sizeLine := by
    rw [racc.1, List.length_map]
    exact Nat.lt_of_le_of_lt (Nat.le_trans (List.length_filter_le _ _) (by rw [List.length_take]; omega)) (Nat.lt_of_lt_of_le hlt hsz)
   refine .inr ⟨go, hlen, fun acc' H' => H' D = some (.lst acc') ∧ Reps (fun b => M b ∨ b = D) H' acc' (((its.take (i + 1)).filter p).map f) ∧ Same H1 H' ∧ MOk (fun b => M b ∨ b = D) H', fun acc' H' zz3 => (by obtain ⟨z1, z2, z3, z4⟩ := zz3; exact (⟨its.length - (i + 1), by omega, rfl, hlt, z1, z2, z3, z4⟩)), fun x H3 y => ?_⟩
   obtain ⟨s3, d, hd, rx⟩ := yld x H3 y
   have E2 : EnvR [] (fun b => M b ∨ b = D) (List.replicate (nt + js.length) []) H2 (st0 nt js σ) (cin nt js δ1) := by
    have su : Same (upd H1 D (.lst acc)) H2 := fun b o e => by
     by_cases hb : b = D
     · subst hb; rw [upd_same] at e; cases e; exact hD2
     · rw [upd_ne hb] at e; exact s2 _ _ e
    have Ea : EnvR [] (fun b => M b ∨ b = D) α H2 σ δ1 := ⟨E1.ls, E1.la, fun i s h => let ⟨o, as, h1, h2, h3⟩ := E1.sl i s h; ⟨o, as, h1, h2, (h3.grow (u := .lst acc) hD).same su⟩, E1.nd, fun a h => .inl (E1.mu a h), mo2, fun W hW => absurd hW List.not_mem_nil⟩
    exact cin_env Ea
   have E3 := E2.same s3
   have hflat : (List.replicate (nt + js.length) ([] : List Addr)).flatten = [] := by simp
   refine hgr _ _ _ _ ⟨[], _, _, _, d, _, E3, rx, step d (List.mem_of_getElem? hd), fun α4 δ4 σ4 q4 E4 hα => ?_⟩
   have fl4 : α4.flatten = [] := List.eq_nil_iff_forall_not_mem.mpr fun x hx => by have := hα x hx; rw [hflat] at this; exact absurd this List.not_mem_nil
   refine ⟨[], _, α4, δ4, _, E4, q4, fun b δ5 H5 zz4 E5 c5 => ?_⟩
   obtain ⟨hp, q5⟩ := zz4
   have s5 : Same H3 H5 := fun b o e => c5 b o e (by rw [fl4]; exact List.not_mem_nil)
   have s25 : Same H2 H5 := fun b o e => s5 _ _ (s3 _ _ e)
   have tk : its.take (i + 1) = its.take i ++ [d] := by rw [List.take_add_one, hd]; rfl
   cases b with
   | false =>
    refine iteF ⟨s25 _ _ hD2, ?_, fun b o e => s25 _ _ (s2 _ _ e), E5.al⟩
    rw [tk, List.filter_append, List.map_append]
    simp [← hp]
    exact racc.same s25
   | true =>
    refine iteT ⟨[], _, α4, δ5, _, E5, q5 rfl, fun r δ6 H6 v e6 E6 c6 r6 => ?_⟩
    subst e6
    have s6 : Same H5 H6 := fun b o e => c6 b o e (by rw [fl4]; exact List.not_mem_nil)
    have s26 : Same H2 H6 := fun b o e => s6 _ _ (s25 _ _ e)
    have hD6 := s26 _ _ hD2
    have up : ∀ {zs : List V} {ds : List Dt}, Reps (fun b => M b ∨ b = D) H6 zs ds → Reps (fun b => M b ∨ b = D) (upd H6 D (.lst (acc ++ [v]))) zs ds := fun r => r.mono fun a o e n => ⟨by rw [upd_ne (fun z => n (.inr z))]; exact e, n⟩
    refine ⟨hD6, upd_same, ?_, fun b o e => by rw [upd_ne (ne_of_none e hD)]; exact s26 _ _ (s2 _ _ e), fun a ha => ?_⟩
    · rw [tk, List.filter_append, List.map_append]
      have e1 : List.filter p [d] = [d] := by simp [← hp]
      rw [e1]
      exact up ((racc.same s26).append (.one r6))
    · by_cases hb : a = D
      · subst hb; exact ⟨_, upd_same, fun xs z => by cases z⟩
      · rw [upd_ne hb]; exact E6.al a ha
 · have e : i = its.length := by omega
   subst e
   refine .inl ⟨yl.stop H2 kf, ?_⟩
   rw [List.take_length] at racc
   have eH : upd (fun b => if b = D then none else H2 b) D (.lst acc) = H2 := by
    funext b
    by_cases hb : b = D
    · subst hb; rw [upd_same, hD2]
    · rw [upd_ne hb, if_neg hb]
   rw [← eH]
   have sH : Same H1 (fun b => if b = D then none else H2 b) := fun b o e => by
    show (if b = D then none else H2 b) = some o
    rw [if_neg (ne_of_none e hD)]; exact s2 _ _ e
   refine k _ _ _ _ _ q1 (E1.same sH) (c1.tr (Chg.of sH)) (racc.mono fun a o e n => ⟨?_, fun z => n (.inl z)⟩) (by show (if D = D then none else H2 D) = none; rw [if_pos rfl])
   show (if a = D then none else H2 a) = some o
   rw [if_neg (fun z => n (.inr z))]; exact e))
theorem o_comp {gh : TG} (S : CpOk X N nt js scope) (hc : X.calm = true) (hi : Iv X tg iter ti) (hg : ∀ s H cl C ex, PG (blk X N scope s H cl C ex) tg gh) (hlow : GLow nt gh) (hgr : ∀ v σ H Q, lG g v σ H Q → gh v σ H Q) (hf : ∀ s H cl C ex, PF (blk X N scope s H cl C ex) ifs (lT tc)) (he : ∀ s H cl C ex, Ev (blk X N scope s H cl C ex) elt te)
  (hs : autoParam (∀ x, foldedSetIterable iter X.env x = pure x) au4._auto_1) : Ov X (.ListComp elt [⟨tg, iter, ifs, 0⟩] scope pos) (dComp nt js ti g tc te) := PE.imp (pe_comp S hc hi hg hlow hf he hs) (comp_read hgr)
def dTrue : DTT := fun δ Q => Q true δ
theorem f_nil : PF X [] (lT dTrue) := fun pins s σ H Q I zz6 => (by obtain ⟨W, M, α, δ, Qd, E, q, k⟩ := zz6; exact (pf_nil pins s σ H Q I (k _ _ _ q E Chg.rf)))
theorem f_one {c : Expr} {t : DTT} (h : Tv X c t) : PF X [c] (lT t) := pf_one h
theorem glow_pair {nt i j : Nat} {K : PySem.W.Frag} (hi : autoParam (i < nt) au2._auto_1) (hj : autoParam (j < nt) au2._auto_1) : GLow nt (gTup K 2 (gCons (gName i) (gCons (gName j) gNil))) := glow_tup (glow_cons hi (gmono_name gmono_nil) (glow_cons hj gmono_nil glow_nil))
end
end LD
end
section
namespace LD
open PySem PySem.Spec L2 LB PyProof.Rows
structure Held (Ws : List Wd) (M : Addr → Prop) (α : List (List Addr)) (a : Addr) : Prop where
 m : M a
 n : a ∉ α.flatten
 w : ∀ W ∈ Ws, (W.A0 a ∨ W.H0 a = none) ∧ ¬ W.M0 a
def HeR (M : Addr → Prop) (H : Hp) (v : V) (s : Sl) (as : List Addr) : Prop := s.isBx = false ∧ SlR M H (some v) s as
inductive HeRs (Ws : List Wd) (M : Addr → Prop) (α : List (List Addr)) (H : Hp) : List V → List Sl → List Addr → Prop where
 | nil : HeRs Ws M α H [] [] []
 | cons {v : V} {s : Sl} {as bs : List Addr} {vs : List V} {ss : List Sl} : HeR M H v s as → (∀ a ∈ as, Held Ws M α a) → as.Nodup → (∀ a ∈ as, a ∉ bs) → HeRs Ws M α H vs ss bs → HeRs Ws M α H (v :: vs) (s :: ss) (as ++ bs)
abbrev DTH := List Sl → (List Sl → List Sl → Prop) → Prop
inductive lH (t : DTH) (σ : L2.St) (H : Hp) (Q : List V → Hp → Prop) : Prop
 | mk (W : List Wd) (M : Addr → Prop) (α : List (List Addr)) (δ : List Sl) (Qd : List Sl → List Sl → Prop) (h1 : EnvR W M α H σ δ) (h2 : t δ Qd) (h3 : ∀ ss δ' H' vs M' bs, Qd ss δ' → EnvR W M' α H' σ δ' → Chg α H H' → (∀ a, M a → M' a) → (∀ a, M' a → M a ∨ H a = none) → HeRs W M' α H' vs ss bs → (∀ a ∈ bs, ¬ M a) → Q vs H')
abbrev Hv (X : Cx) (es : List Expr) (t : DTH) : Prop := PA X es (lH t)
theorem SlR.keep {M M' : Addr → Prop} {H H' : Hp} {o : Option V} {s : Sl} {as : List Addr} (h : SlR M H o s as) (k : ∀ b u, H b = some u → ¬ M b → H' b = some u ∧ ¬ M' b) (k2 : ∀ a ∈ as, ∀ u, H a = some u → H' a = some u) (nb : s.isBx = false) : SlR M' H' o s as := by
 cases s with
 | no => exact h
 | im d => exact ⟨h.1, let ⟨v, e, r⟩ := h.2; ⟨v, e, r.mono k⟩⟩
 | ow ds => obtain ⟨a, xs, e1, e2, e3, r⟩ := h; subst e1; exact ⟨a, xs, rfl, e2, k2 a (by simp) _ e3, r.mono k⟩
 | bx t => cases nb
 | dk ks ds => obtain ⟨a, vs, e1, e2, e3, e4, r⟩ := h; subst e1; exact ⟨a, vs, rfl, e2, k2 a (by simp) _ e3, e4, r.mono k⟩
 | ob R => obtain ⟨v, e, r⟩ := h; exact ⟨v, e, R.st r (fun a ha u q => k2 a ha _ q) k⟩
 | fn f => exact h
section
variable {X : Cx} {e : Expr} {es : List Expr} {t : DTE} {th : DTH}
def hNil : DTH := fun δ Q => Q [] δ
def hOw (t : DTO) (th : DTH) : DTH := fun δ Q => t δ fun ds δ1 => th δ1 fun ss δ2 => Q (.ow ds :: ss) δ2
theorem h_nil : Hv X [] hNil := PA.imp pa_nil fun σ H Q zz1 => (by obtain ⟨W, M, α, δ, Qd, E, q, k⟩ := zz1; exact (k _ _ _ _ _ _ q E Chg.rf (fun _ z => z) (fun _ z => .inl z) .nil (fun a ha => absurd ha List.not_mem_nil)))
theorem EnvR.hold {W : List Wd} {M : Addr → Prop} {α : List (List Addr)} {H : Hp} {σ : L2.St} {δ : List Sl} (E : EnvR W M α H σ δ) {p : Addr} {u : HO} (hp : H p = none) (hu : ∀ xs, u ≠ .tup xs) : EnvR W (fun b => M b ∨ b = p) α (upd H p u) σ δ ∧ Held W (fun b => M b ∨ b = p) α p := by
 have sm : Same H (upd H p u) := Same.new hp
 have np : p ∉ α.flatten := fun z => E.fresh hp (E.mu p z)
 have h0 : ∀ W' ∈ W, W'.H0 p = none := fun W' hW => by
  cases e : W'.H0 p with
  | none => rfl
  | some o => exact absurd hp ((E.w W' hW).ex p (by rw [e]; intro z; cases z))
 refine ⟨⟨E.ls, E.la, fun j s hj => let ⟨o, as, h1, h2, h3⟩ := E.sl j s hj; ⟨o, as, h1, h2, h3.grow hp⟩, E.nd, fun a h => .inl (E.mu a h), fun a ha => ?_, fun W' hW => ?_⟩, ⟨.inr rfl, np, fun W' hW => ⟨.inr (h0 W' hW), fun z => E.fresh hp ((E.w W' hW).m0 p z)⟩⟩⟩
 · rcases ha with ha | ha
   · obtain ⟨o, e, n⟩ := E.al a ha
     exact ⟨o, sm _ _ e, n⟩
   · subst ha
     exact ⟨u, upd_same, hu⟩
 · have k := E.w W' hW
   exact ⟨fun b o e n => sm _ _ (k.bs b o e n), fun b n y => k.ex b n (LW.Same.none sm y), k.fr, fun a h => .inl (k.m0 a h), fun a h => h.elim (k.m1 a) fun z => .inr (by rw [z]; exact h0 W' hW), k.bx, k.fz⟩
theorem held_cons {W : List Wd} {M : Addr → Prop} {α : List (List Addr)} {H1 H2 : Hp} {σ : L2.St} {δ1 δ2 : List Sl} {p : Addr} {u : HO} {s : Sl} {vs : List V} {ss : List Sl} {M' : Addr → Prop} {bs : List Addr}
  (hp : H1 p = none) (E1 : EnvR W M α H1 σ δ1) (hd : Held W (fun b => M b ∨ b = p) α p) (hs : SlR (fun b => M b ∨ b = p) (upd H1 p u) (some (.ref p)) s [p]) (nb : s.isBx = false) (E2 : EnvR W M' α H2 σ δ2) (c2 : Chg α (upd H1 p u) H2)
  (m1 : ∀ a, (M a ∨ a = p) → M' a) (m2 : ∀ a, M' a → (M a ∨ a = p) ∨ (upd H1 p u) a = none) (hh : HeRs W M' α H2 vs ss bs) (hb : ∀ a ∈ bs, ¬ (M a ∨ a = p)) : HeRs W M' α H2 (.ref p :: vs) (s :: ss) ([p] ++ bs) :=
 HeRs.cons ⟨nb, hs.keep (fun b w e n => ⟨c2 _ _ e fun z => n (.inl (E1.mu b z)), fun z => (m2 b z).elim n fun y => by rw [e] at y; cases y⟩) (fun a ha w e => c2 _ _ e (by rw [List.mem_singleton.mp ha]; exact hd.n)) nb⟩
  (fun a ha => by rw [List.mem_singleton.mp ha]; exact ⟨m1 p (.inr rfl), hd.n, hd.w⟩) (by simp) (fun a ha => by rw [List.mem_singleton.mp ha]; exact fun z => hb p z (.inr rfl)) hh
theorem m2_of {α : List (List Addr)} {M M' : Addr → Prop} {H H1 : Hp} {p : Addr} {u : HO} {a : Addr} (mu : ∀ a ∈ α.flatten, M a) (c1 : Chg α H H1) (h1 : H1 p = none) (m2 : M' a → (M a ∨ a = p) ∨ (upd H1 p u) a = none) (z : M' a) : M a ∨ H a = none := by
 cases e : H a with
 | none => exact .inr rfl
 | some o =>
  by_cases hf : a ∈ α.flatten
  · exact .inl (mu a hf)
  · have e1 := c1 _ _ e hf
    rcases m2 z with (y | y) | y
    · exact .inl y
    · subst y; rw [h1] at e1; cases e1
    · rw [upd_ne (ne_of_none e1 h1), e1] at y; cases y
theorem h_ow {t : DTO} (ha : Ov X e t) (hr : Hv X es th) (hs : autoParam (starEach (e :: es) X.env = (false, eval e X.env) :: starEach es X.env) au5._auto_1) : Hv X (e :: es) (hOw t th) := PA.imp (pa_cons ha hr hs) fun σ H Q zz1 => (by obtain ⟨W, M, α, δ, Qd, E, q, k⟩ := zz1; exact (
 ⟨W, M, α, δ, _, E, q, fun ds δ1 H1 xs p q1 E1 c1 r1 h1 => by
  have sm : Same H1 (upd H1 p (.lst xs)) := Same.new h1
  obtain ⟨E1', hd⟩ := E1.hold (u := .lst xs) h1 (fun xs z => by cases z)
  refine ⟨W, _, α, δ1, _, E1', q1, fun ss δ2 H2 vs M' bs q2 E2 c2 m1 m2 hh hb => ?_⟩
  exact k _ _ _ _ _ _ q2 E2 ((c1.tr (Chg.of sm)).tr c2) (fun a z => m1 a (.inl z)) (fun a z => m2_of E.mu c1 h1 (m2 a) z) (held_cons (s := .ow ds) h1 E1 hd ⟨p, xs, rfl, rfl, upd_same, r1.grow h1⟩ rfl E2 c2 m1 m2 hh hb)
   (fun a ha => by
    rcases List.mem_append.mp ha with y | y
    · rw [List.mem_singleton.mp y]; exact E1.fresh h1
    · exact fun z => hb a y (.inl z))⟩))
end
theorem EnvR.setHe {Ws : List Wd} {M : Addr → Prop} {α : List (List Addr)} {H : Hp} {σ : L2.St} {δ : List Sl} {i : Nat} {v : V} {s : Sl} {as : List Addr} (E : EnvR Ws M α H σ δ) (h : HeR M H v s as) (hh : ∀ a ∈ as, Held Ws M α a) (nd : as.Nodup) (ok : okSet δ i) : EnvR Ws M (α.set i as) H (σ.set i (some v)) (δ.set i s) := by
 have hi := ok.lt
 obtain ⟨s0, hs0, nb⟩ := ok
 refine ⟨by rw [List.length_set, List.length_set, E.ls], by rw [List.length_set, List.length_set, E.la], fun j s' hj => ?_, flat_nd_set E.nd nd (fun x hx => (hh x hx).n), fun a ha => (flat_set ha).elim (E.mu a) fun z => (hh a z).m, E.al, fun W hW => ?_⟩
 · by_cases hij : i = j
   · subst hij
     rw [List.getElem?_set_self hi] at hj
     cases hj
     exact ⟨some v, as, by rw [List.getElem?_set_self (by rw [E.ls]; exact hi)], by rw [List.getElem?_set_self (by rw [E.la]; exact hi)], h.2⟩
   · rw [List.getElem?_set_ne hij] at hj
     obtain ⟨o, as, h1, h2, h3⟩ := E.sl j s' hj
     exact ⟨o, as, by rw [List.getElem?_set_ne hij]; exact h1, by rw [List.getElem?_set_ne hij]; exact h2, h3⟩
 · have k := E.w W hW
   refine ⟨k.bs, k.ex, fun a ha => (flat_set ha).elim (k.fr a) fun z => ((hh a z).w W hW).1, k.m0, k.m1, fun d c e => ?_, fun j s as' h1 h2 nb' => ?_⟩
   · obtain ⟨t, e1, e2⟩ := k.bx d c e
     have : i ≠ 0 := fun z => by subst z; rw [hs0] at e1; cases e1; cases nb
     exact ⟨t, by rw [List.getElem?_set_ne this]; exact e1, by rw [List.getElem?_set_ne this]; exact e2⟩
   · by_cases hij : i = j
     · subst hij
       rw [List.getElem?_set_self (by rw [E.la]; exact hi)] at h2
       cases h2
       exact fun a ha => ((hh a ha).w W hW).2
     · rw [List.getElem?_set_ne hij] at h1 h2
       exact k.fz j s as' h1 h2 nb'
end LD
end
section
namespace LD
open PySem PySem.Spec L2 LB PyProof.Rows
instance {k : Key} {ks : List Key} : Decidable (k ∈ ks) := decidable_of_iff ((ks.any fun x => decide (x = k)) = true) (by simp)
end LD
end
section
namespace LD
open PySem PySem.Spec L2 LB PyProof.Rows
section
variable {X : Cx} {N : List Str} {nt : Nat} {js : List Nat} {scope : Scope} {elt tg iter e f a b : Expr} {ifs : List Expr} {pos : Pos} {ti : DTI} {g : DTG} {tc : DTT} {te t tv tb : DTE} {ib jb : Nat} {gh : TG}
def dAsg (t : DTE) (g : DTG) : DTS := fun Δ δ => t δ fun d δ' => g d δ' Δ.nx
theorem s_asg (he : Ev X e t) (hg : Gv X tg g) (hs : autoParam (swapsWithSole [tg] e pos.line X.env = pure false) au5._auto_1) (hw : autoParam (swappedStores [tg] e X.env = pure none) au5._auto_1) (h1 : autoParam ((assignEach [tg] X.env).map (·.2) = [assign tg X.env]) au5._auto_1) : Ex X (.Assign [tg] e pos) (dAsg t g) :=
 PS.imp (ps_asg he hg hs hw h1) fun D σ H zz2 => (by obtain ⟨Ws, M, α, δ, Δ, E, L, q⟩ := zz2; exact (⟨Ws, M, α, δ, _, E, q, fun d δ' H' v q1 E1 c1 r1 => ⟨Ws, M, α, δ', d, _, E1, r1, q1, fun α' δ2 σ2 q2 E2 _ => L.nx _ _ _ _ _ E2 q2⟩⟩))
end
def spLaw (K : PySem.W.Frag) : Sp := fun vs H Q _ => ∃ (a : Addr) (ns : List Int), vs = [.ref a] ∧ SqL K H a (ns.map V.int) ∧ ns.length ≤ 63 ∧ ∀ H', Q (.bl true) H'
def takeS : DB := fun t ds Q => ∃ m, ds = [.int m] ∧ t < 1000000 ∧ 0 < m ∧ m < 2 ^ 64 ∧ ∀ r, 0 ≤ r → r < m → Q (.int r) (t + 1)
theorem take_of {vs : List V} {H : Hp} {Q : VK} {E : XK} (h : spB takeS vs H Q E) : spTake vs H Q E := by
 obtain ⟨M, d, c, t, ws, ds, Qd, rfl, al, md, mc, B, r, ⟨m, rfl, t1, m0, m1, q⟩, k⟩ := h
 obtain ⟨x, ys, rfl, r1, r2⟩ := r.uncons
 cases r2.unnil
 cases r1.ofInt
 exact ⟨d, c, t, m, rfl, B, t1, m0, m1, fun r H' r0 r1 B' kp => k _ _ _ _ (q r r0 r1) kp B' (.int r)⟩
section
variable {P : Program} {w : World} {K : PySem.W.Frag} {mg : Str → Option Value} {base : Heap}
theorem lawOk {st : Stmt} {f : Addr} {fd : FuncData} {N : List Str} {k : Nat} (F : Fun K "law" "law" st f fd) (sc : FnScope N ["_law_script"] (defScope st)) (hN : 2 ≤ N.length)
  (hbody : ∀ (cdv : Value) (A : Around) (outer : List Env) (s : Shared) (H : Hp) (E : XK), Room k (A.deeper (envOfC "law" (defScope st) s.heap.objs.size f cdv)) →
   ∃ s1 rest T, defBody st = s1 :: rest ∧ PS (cxOf CX0 P w K mg base N "law" (defScope st) f cdv A outer s H E).nox s1 (tAsg (tCall (spBegin K) [] E0 (tCons (tVar 0) tNil)) (gName 1)) ∧ Exs (cxOf CX0 P w K mg base N "law" (defScope st) f cdv A outer s H E).nox rest T ∧
    T { nx := fun _ => False, rt := fun d _ => d = .bl true } (.no :: .bx 0 :: List.replicate (N.length - 2) .no)) : FnOk P w K mg base CX0 (k + 1) f fd ["_law_script"] (spLaw K) := by
 refine F.ok sc (fun vs H Q E h => ?_) (fun cdv A outer s H vs Q E hr h => ?_)
 · obtain ⟨a, ns, rfl, _⟩ := h; rfl
 · obtain ⟨a, ns, rfl, hS, hlen, q⟩ := h
   obtain ⟨s1, rest, T, e, h1, h2, hT⟩ := hbody cdv A outer s H E hr
   rw [e]
   refine ⟨_, pss_cons h1 h2, ?_⟩
   have es : L2.start N [V.ref a] = some (.ref a) :: none :: List.replicate (N.length - 2) none := by
    unfold L2.start
    rw [show N.length - [V.ref a].length = (N.length - 2) + 1 by show N.length - 1 = _; omega, List.replicate_succ]
    rfl
   rw [es]
   refine ⟨_, rfl, a, ns, rfl, hS, hlen, fun d c H1 B1 s1' => ?_⟩
   have hflat : (([] : List Addr) :: [d, c] :: List.replicate (N.length - 2) []).flatten = [d, c] := by simp
   refine ⟨[], fun b => b = d ∨ b = c, [] :: [d, c] :: List.replicate (N.length - 2) [], .no :: .bx 0 :: List.replicate (N.length - 2) .no, _, ?_, ?_, hT⟩
   · refine ⟨by simp, by simp, fun i s' hi => ?_, by rw [hflat]; simp [B1.ne], fun b hb => by rw [hflat] at hb; simpa using hb, fun b hb => ?_, fun W hW => absurd hW List.not_mem_nil⟩
     · match i with
       | 0 => cases hi; exact ⟨_, _, rfl, rfl, rfl⟩
       | 1 => cases hi; exact ⟨_, _, rfl, rfl, d, c, rfl, rfl, B1⟩
       | i + 2 =>
        have hi' : (List.replicate (N.length - 2) Sl.no)[i]? = some s' := by simpa using hi
        rw [List.getElem?_replicate] at hi'
        split at hi'
        · rename_i hlt
          cases hi'
          refine ⟨none, [], ?_, ?_, rfl⟩
          · show (List.replicate (N.length - 2) (none : Option V))[i]? = _
            rw [List.getElem?_replicate, if_pos hlt]
          · show (List.replicate (N.length - 2) ([] : List Addr))[i]? = _
            rw [List.getElem?_replicate, if_pos hlt]
        · cases hi'
     · rcases hb with rfl | rfl
       · exact ⟨_, B1.dc, fun xs z => by cases z⟩
       · obtain ⟨ns, h, _⟩ := B1.cs
         exact ⟨_, h, fun xs z => by cases z⟩
   · exact ⟨fun _ _ _ _ _ _ z => z.elim, fun M' α' H' σ' δ' v dd E' r' z => by subst z; rw [r'.ofBl]; exact q H', fun _ _ _ _ _ _ z => z.elim, fun _ _ _ _ _ _ z => z.elim⟩
end
end LD
end
section
namespace LD
open PySem PySem.Spec L2 LB PyProof.Rows
section
variable {X : Cx} {a b c e : Expr} {es : List Expr} {ta tb tc t : DTE} {tA : DTA} {pos p : Pos}
theorem boot_all' : bootBuiltins "all" = some (.builtin "all") := by decide +kernel
theorem one_arg {M : Addr → Prop} {H : Hp} {xs : List V} {d : Dt} (h : Reps M H xs [d]) : ∃ x, xs = [x] ∧ Rep M H x d := by
 obtain ⟨x, ys, rfl, r1, r2⟩ := h.uncons
 cases r2.unnil
 exact ⟨x, rfl, r1⟩
theorem bools_rep {M : Addr → Prop} {H : Hp} : ∀ {xs : List V} {ns : List Bool}, Reps M H xs (ns.map .bl) → xs = ns.map V.bl
 | [], [], _ => rfl
 | [], _ :: _, h => by have := h.1; simp at this
 | _ :: _, [], h => by have := h.1; simp at this
 | x :: xs, n :: ns, h => by
  rw [List.map_cons] at h
  obtain ⟨y, ys, e, r1, r2⟩ := h.uncons
  cases e
  rw [r1.ofBl, bools_rep r2, List.map_cons]
inductive D_all (ds : List Dt) (Q : Dt → Prop) : Prop
 | mk (bs : List Bool) (h1 : ds = [.lst (bs.map .bl)]) (h2 : Q (.bl (bs.all id)))
theorem d_all (hc : X.calm = true) (hm : X.mg "all" = none) (ha : Av X [e] tA) (hg : autoParam (Gl X "all") au5._auto_1) (he : autoParam (starEach [e] X.env = (false, eval e X.env) :: starEach [] X.env) au5._auto_1) (hpl : autoParam ((backTo pos (starEach [] X.env)).any (·.1) = false) au5._auto_1) :
  Ev X (.Call (.Name "all" p) [e] [] pos) (dCa D_all tA) := d_callB (call_all hc) (fun M H xs ds Qd Q al r zz6 k => (by obtain ⟨bs, e, q⟩ := zz6; exact (by
 subst e
 obtain ⟨x, rfl, r1⟩ := one_arg r
 obtain ⟨a, zs, rfl, ha, n, rr⟩ := r1.ofLst
 rw [bools_rep rr] at ha
 exact ⟨a, bs, rfl, SqL.of ha, k H _ _ q (fun _ _ z => z) (.bl _)⟩))) hg hm boot_all' ha (by decide) (by decide) he hpl
end
end LD
end
section
namespace LD
open PySem PySem.Spec L2 LB PyProof.Rows
section
variable {X : Cx} {a b c e : Expr} {es : List Expr} {ta tb tc t : DTE} {tA : DTA} {pos p apos cpos : Pos}
inductive dNilL_i (neg : Bool) (Q : Dt → List Sl → Prop) (d : Dt) (δ' : List Sl) : Prop
 | mk (ds : _) (h1 : d = .lst ds) (h2 : Q (.bl (if neg then !ds.isEmpty else ds.isEmpty)) δ')
def dNilL (neg : Bool) (ta : DTE) : DTE := fun δ Q => ta δ fun d δ' => dNilL_i neg Q d δ'
inductive dNilT_i (neg : Bool) (Q : Dt → List Sl → Prop) (d : Dt) (δ' : List Sl) : Prop
 | mk (ds : _) (h1 : d = .tup ds) (h2 : Q (.bl (if neg then !ds.isEmpty else ds.isEmpty)) δ')
def dNilT (neg : Bool) (ta : DTE) : DTE := fun δ Q => ta δ fun d δ' => dNilT_i neg Q d δ'
inductive dNilO (neg : Bool) (i : Nat) (δ : List Sl) (Q : Dt → List Sl → Prop) : Prop
 | mk (ds : _) (h1 : δ[i]? = some (.ow ds)) (h2 : Q (.bl (if neg then !ds.isEmpty else ds.isEmpty)) δ)
theorem nilL_read {neg : Bool} {r : R2} (hr : ∀ (H : Hp) (Q : VK) (p q : Addr) (xs : List V), H p = some (.lst xs) → H q = some (.lst []) → Q (.bl (if neg then !xs.isEmpty else xs.isEmpty)) H → r (.ref p) (.ref q) H Q) : ∀ σ H Q, lE (dNilL neg ta) σ H Q → tOp r (lE ta) (tLst tNil) σ H Q := fun σ H Q zz10 => (by obtain ⟨W, M, α, δ, Qd, E, q, k⟩ := zz10; exact (
 ⟨W, M, α, δ, _, E, q, fun d δ1 H1 x zz11 E1 c1 r1 => (by obtain ⟨ds, e, q1⟩ := zz11; exact (⟨Nat.zero_le _, fun p hp => by
  subst e
  obtain ⟨a, xs, rfl, ha, n, rr⟩ := r1.ofLst
  have s : Same H1 (upd H1 p (.lst [])) := Same.new hp
  exact hr _ _ _ _ xs (s _ _ ha) upd_same (by rw [empty_rep rr]; exact k _ _ _ _ q1 (E1.same s) (c1.tr (Chg.of s)) (.bl _))⟩))⟩))
theorem nilT_read {neg : Bool} {r : R2} (hr : ∀ (H : Hp) (Q : VK) (p q : Addr) (xs : List V), H p = some (.tup xs) → H q = some (.tup []) → Q (.bl (if neg then !xs.isEmpty else xs.isEmpty)) H → r (.ref p) (.ref q) H Q) : ∀ σ H Q, lE (dNilT neg ta) σ H Q → tOp r (lE ta) (tTup tNil) σ H Q := fun σ H Q zz12 => (by obtain ⟨W, M, α, δ, Qd, E, q, k⟩ := zz12; exact (
 ⟨W, M, α, δ, _, E, q, fun d δ1 H1 x zz13 E1 c1 r1 => (by obtain ⟨ds, e, q1⟩ := zz13; exact (⟨Nat.zero_le _, fun p hp => by
  subst e
  obtain ⟨a, xs, rfl, ha, n, rr⟩ := r1.ofTup
  have s : Same H1 (upd H1 p (.tup [])) := Same.new hp
  exact hr _ _ _ _ xs (s _ _ ha) upd_same (by rw [empty_rep rr]; exact k _ _ _ _ q1 (E1.same s) (c1.tr (Chg.of s)) (.bl _))⟩))⟩))
theorem nilO_read {neg : Bool} {r : R2} {i : Nat} (hr : ∀ (H : Hp) (Q : VK) (p q : Addr) (xs : List V), H p = some (.lst xs) → H q = some (.lst []) → Q (.bl (if neg then !xs.isEmpty else xs.isEmpty)) H → r (.ref p) (.ref q) H Q) : ∀ σ H Q, lE (dNilO neg i) σ H Q → tOp r (tVar i) (tLst tNil) σ H Q := fun σ H Q zz5 => (by obtain ⟨W, M, α, δ, Qd, E, ⟨ds, hd, q⟩, k⟩ := zz5; exact (by
 obtain ⟨a, xs, h1, h2, h3, r3⟩ := E.ow hd
 refine ⟨_, h1, Nat.zero_le _, fun p hp => ?_⟩
 have s : Same H (upd H p (.lst [])) := Same.new hp
 exact hr _ _ _ _ xs (s _ _ h3) upd_same (by rw [empty_rep r3]; exact k _ _ _ _ q (E.same s) (Chg.of s) (.bl _))))
theorem neL_hr {K : PySem.W.Frag} : ∀ (H : Hp) (Q : VK) (p q : Addr) (xs : List V), H p = some (.lst xs) → H q = some (.lst []) → Q (.bl (if true = true then !xs.isEmpty else xs.isEmpty)) H → rNeNilL K (.ref p) (.ref q) H Q := fun H Q p q xs h1 h2 z => ⟨p, q, xs, rfl, rfl, SqL.of h1, SqL.of h2, z⟩
theorem neT_hr {K : PySem.W.Frag} : ∀ (H : Hp) (Q : VK) (p q : Addr) (xs : List V), H p = some (.tup xs) → H q = some (.tup []) → Q (.bl (if true = true then !xs.isEmpty else xs.isEmpty)) H → rNeNilT K (.ref p) (.ref q) H Q := fun H Q p q xs h1 h2 z => ⟨p, q, xs, rfl, rfl, SqT.of h1, SqT.of h2, z⟩
variable {p2 : Pos} {x1 : Nat}
theorem t_neNilL (hu : X.A.units < cLine) (ha : Ev X a ta) : Tv X (.Compare a [.NotEq] [.List [] p2] pos) (dT (dNilL true ta)) := PT.imp (pt_cmpR (op_neNilL hu) ha (pe_lst pa_nil) (nomark _)) fun σ H Q h => nilL_read neL_hr _ _ _ (test_read _ _ _ h)
theorem t_neNilO (hu : X.A.units < cLine) (i : Nat) {x : Str} {xp : Pos} (ho : PE X (.Name x xp) (tVar i)) : Tv X (.Compare (.Name x xp) [.NotEq] [.List [] p2] pos) (dT (dNilO true i)) := PT.imp (pt_cmpR (op_neNilL hu) ho (pe_lst pa_nil) (nomark _)) fun σ H Q h => nilO_read neL_hr _ _ _ (test_read _ _ _ h)
theorem d_neNilT (hu : X.A.units < cLine) (ha : Ev X a ta) : Ev X (.Compare a [.NotEq] [.Tuple [] x1 p2] pos) (dNilT true ta) := PE.imp (pe_cmpR (op_neNilT hu) ha (pe_tup pa_nil) (nomark _)) (nilT_read neT_hr)
end
end LD
end
section
namespace LD
open PySem PySem.Spec L2 LB PyProof.Rows
section
variable {X : Cx} {a b e f : Expr} {ta tb t : DTE} {tA : DTA} {pos p p2 : Pos}
noncomputable def isD (T : String) : Dt → Option Bool
 | .non => some false
 | .bl _ => some (T == "bool" || T == "int")
 | .int _ => some (T == "int")
 | .str _ => some (T == "str")
 | .lst _ => some (T == "list")
 | .tup _ => some (T == "tuple")
 | _ => none
theorem isD_rep {T : String} {M : Addr → Prop} {H : Hp} {v : V} {d : Dt} {b : Bool} (r : Rep M H v d) (h : isD T d = some b) : isTy T H v = some b := by
 cases r with
 | non => exact h
 | bl c => exact h
 | int c => exact h
 | str c => exact h
 | lst e n l r => simp only [isTy, e]; exact h
 | tup e n l r => simp only [isTy, e]; exact h
 | dic e n k l r => cases h
 | dit e n k l r => cases h
inductive dIsi_i (T : String) (Q : Dt → List Sl → Prop) (d : Dt) (δ' : List Sl) : Prop
 | mk (b : _) (h1 : isD T d = some b) (h2 : Q (.bl b) δ')
def dIsi (T : String) (t : DTE) : DTE := fun δ Q => t δ fun d δ' => dIsi_i T Q d δ'
theorem boot_isi' : bootBuiltins "isinstance" = some (.builtin "isinstance") := by decide +kernel
theorem d_isi {T : String} (hT : T = "int" ∨ T = "bool" ∨ T = "tuple" ∨ T = "list" ∨ T = "str") (hm : X.mg "isinstance" = none) (ha : PA X [e, f] (tCons (lE t) (tCons (tC (.ty T)) tNil))) (hg : autoParam (Gl X "isinstance") au5._auto_1) (he : autoParam (starEach [e, f] X.env = (false, eval e X.env) :: starEach [f] X.env) au5._auto_1) (hpl : autoParam ((backTo pos (starEach [f] X.env)).any (·.1) = false) au5._auto_1) :
  Ev X (.Call (.Name "isinstance" p) [e, f] [] pos) (dIsi T t) := PE.imp (pe_callB (isi_ok hT) hg hm boot_isi' ha (by decide) (by decide) he hpl) fun σ H Q zz5 => (by obtain ⟨W, M, α, δ, Qd, E, q, k⟩ := zz5; exact (
 ⟨W, M, α, δ, _, E, q, fun d δ' H' v zz6 E1 c1 r1 => (by obtain ⟨b, hb, q1⟩ := zz6; exact (⟨v, b, rfl, isD_rep r1 hb, k _ _ _ _ q1 E1 c1 (.bl _)⟩))⟩))
end
end LD
end
section
namespace L2
open PySem PySem.Spec PyProof.Rows
section
variable {X : Cx}
noncomputable def isTy4 (H : Hp) : V → Option Bool
 | .non => some false
 | .bl _ => some false
 | .int _ => some false
 | .str _ => some false
 | .ref a => match H a with
  | some (.lst _) => some true
  | some (.tup _) => some true
  | _ => none
 | _ => none
def tIsi4 (te : TE) : TE := fun σ H Q => te σ H fun x H1 => ∃ b, isTy4 H1 x = some b ∧ Q (.bl b) H1
theorem pe_isi4 {e : Expr} {te : TE} {p p1 p2 pt pos : Pos} {k} (he : PE X e te) (hgi : Gl X "isinstance") (hmi : X.mg "isinstance" = none) (hgl : Gl X "list") (hml : X.mg "list" = none) (hgt : Gl X "tuple") (hmt : X.mg "tuple" = none)
  (hs : autoParam (starEach [e, .Tuple [.Name "list" p1, .Name "tuple" p2] k pt] X.env = (false, eval e X.env) :: starEach [.Tuple [.Name "list" p1, .Name "tuple" p2] k pt] X.env) au5._auto_1) :
  PE X (.Call (.Name "isinstance" p) [e, .Tuple [.Name "list" p1, .Name "tuple" p2] k pt] [] pos) (tIsi4 te) := by
 intro pins s σ H Q I h
 refine wpAny_Call_Name_kw (ld_blt I hgi hmi boot_isinstance ?_)
 refine PyProof.Rows.callWith_builtin1 ?_ hs rfl
 rw [hs]
 show wpAny _ _ (spliced ((false, eval e X.env) :: backTo pos (starEach [.Tuple [.Name "list" p1, .Name "tuple" p2] k pt] X.env))) _ _ s
 refine Calls.spliced_cons (thn (he pins s σ H _ I h) fun u s1 zz1 => ?_)
 obtain ⟨x, H1, I1, r1, b0, ex, q1⟩ := zz1
 have h2 : starEach [Expr.Tuple [.Name "list" p1, .Name "tuple" p2] k pt] X.env = (false, eval (.Tuple [.Name "list" p1, .Name "tuple" p2] k pt) X.env) :: starEach [] X.env := rfl
 rw [h2]
 show wpAny _ _ (spliced ((false, eval (.Tuple [.Name "list" p1, .Name "tuple" p2] k pt) X.env) :: backTo pos (starEach [] X.env))) _ _ s1
 refine Calls.spliced_cons (wpAny_Tuple_spliced ?_)
 have h3 : starEach [Expr.Name "list" p1, .Name "tuple" p2] X.env = (false, eval (.Name "list" p1) X.env) :: starEach [.Name "tuple" p2] X.env := rfl
 rw [h3]
 show wpAny _ _ (spliced ((false, eval (.Name "list" p1) X.env) :: backTo pt (starEach [.Name "tuple" p2] X.env))) _ _ s1
 refine Calls.spliced_cons (ld_blt I1 hgl hml LB.boot_list' ?_)
 have h4 : starEach [Expr.Name "tuple" p2] X.env = (false, eval (.Name "tuple" p2) X.env) :: starEach [] X.env := rfl
 rw [h4]
 show wpAny _ _ (spliced ((false, eval (.Name "tuple" p2) X.env) :: backTo pt (starEach [] X.env))) _ _ s1
 refine Calls.spliced_cons (ld_blt I1 hgt hmt LB.boot_tuple' ?_)
 refine Calls.spliced_nil ⟨by show 2 ≤ sizeLine; decide, ?_⟩
 refine Calls.spliced_nil ?_
 have fin : ∀ (s' : Shared), s' = { s1 with heap := s1.heap.push { cls := .type "tuple", data := .seq [Value.type "list", Value.type "tuple"].toArray } } → ∀ tk, EP X pins σ Q (.bool b0) { s' with toks := tk } := fun s' e tk => by
  subst e
  exact ⟨.bl b0, H1, I1.kept fun b o e => Heap.get?_push_of_some _ e, rfl, q1⟩
 cases x with
 | non =>
  cases ex
  cases (show u = Value.none from r1)
  exact IsiPair.tupleOf (Tx := "NoneType") (cs := [.type "list", .type "tuple"]) (vs := [false, false]) ⟨Answers.of_false_none (by decide) (by rfl) (by rfl), Answers.of_false_none (by decide) (by rfl) (by rfl), True.intro⟩ rfl (Heap.get?_push_size _ rfl) (fin _ rfl)
 | bl i =>
  cases ex
  cases (show u = Value.bool i from r1)
  exact IsiPair.tupleOf (Tx := "bool") (cs := [.type "list", .type "tuple"]) (vs := [false, false]) ⟨Answers.of_false_bool (by decide) (by rfl) (by rfl), Answers.of_false_bool (by decide) (by rfl) (by rfl), True.intro⟩ rfl (Heap.get?_push_size _ rfl) (fin _ rfl)
 | int i =>
  cases ex
  obtain ⟨t, rfl⟩ := (show ∃ t, u = Value.int i t from r1)
  exact IsiPair.tupleOf (Tx := "int") (cs := [.type "list", .type "tuple"]) (vs := [false, false]) ⟨Answers.of_false_int (by decide) (by rfl) (by rfl), Answers.of_false_int (by decide) (by rfl) (by rfl), True.intro⟩ rfl (Heap.get?_push_size _ rfl) (fin _ rfl)
 | str i =>
  cases ex
  obtain ⟨t, rfl⟩ := (show ∃ t, u = Value.str i t from r1)
  exact IsiPair.tupleOf (Tx := "str") (cs := [.type "list", .type "tuple"]) (vs := [false, false]) ⟨Answers.of_false_str (by decide) (by rfl) (by rfl), Answers.of_false_str (by decide) (by rfl) (by rfl), True.intro⟩ rfl (Heap.get?_push_size _ rfl) (fin _ rfl)
 | ref a =>
  cases (show u = Value.ref a from r1)
  cases ha : H1 a with
  | none => simp only [isTy4, ha] at ex; cases ex
  | some o =>
   cases o with
   | lst xs =>
    simp only [isTy4, ha] at ex; cases ex
    obtain ⟨_, _, n, _, h1⟩ := (show ObjOk X.prog X.w H1 s1.heap a (.lst xs) from I1.hok a _ ha)
    exact IsiPair.tupleOf (Tx := "list") (cs := [.type "list", .type "tuple"]) (vs := [true, false]) ⟨Answers.of_true (by rfl) (by rfl), Answers.of_false_list (by decide) (by rfl) (by rfl), True.intro⟩ ⟨_, Heap.get?_push_of_some _ h1, rfl⟩ (Heap.get?_push_size _ rfl) (fin _ rfl)
   | tup xs =>
    simp only [isTy4, ha] at ex; cases ex
    obtain ⟨_, _, _, o, ho, hc, _⟩ := (show ObjOk X.prog X.w H1 s1.heap a (.tup xs) from I1.hok a _ ha)
    exact IsiPair.tupleOf (Tx := "tuple") (cs := [.type "list", .type "tuple"]) (vs := [false, true]) ⟨Answers.of_false_tuple (by decide) (by rfl) (by rfl), Answers.of_true (by rfl) (by rfl), True.intro⟩ ⟨_, Heap.get?_push_of_some _ ho, hc⟩ (Heap.get?_push_size _ rfl) (fin _ rfl)
   | _ => simp only [isTy4, ha] at ex; cases ex
 | _ => cases ex
end
end L2
namespace LD
open PySem PySem.Spec L2 LB PyProof.Rows LW
section
variable {X : Cx} {a b e f : Expr} {ta tb t t' : DTE} {tA : DTA} {pos p p2 : Pos}
noncomputable def isSq : Dt → Option Bool
 | .dic _ _ => none
 | .dit _ _ => none
 | .lst _ => some true
 | .tup _ => some true
 | _ => some false
theorem isSq_rep {M : Addr → Prop} {H : Hp} {v : V} {d : Dt} {b : Bool} (r : Rep M H v d) (h : isSq d = some b) : isTy4 H v = some b := by
 cases r with
 | non => exact h
 | bl c => exact h
 | int c => exact h
 | str c => exact h
 | lst e n l r => simp only [isTy4, e]; exact h
 | tup e n l r => simp only [isTy4, e]; exact h
 | dic e n k l r => cases h
 | dit e n k l r => cases h
inductive dIsi4_i (Q : Dt → List Sl → Prop) (d : Dt) (δ' : List Sl) : Prop
 | mk (b : _) (h1 : isSq d = some b) (h2 : Q (.bl b) δ')
def dIsi4 (t : DTE) : DTE := fun δ Q => t δ fun d δ' => dIsi4_i Q d δ'
theorem d_isi4 {p1 p2 pt : Pos} {k} (he : Ev X e t) (hmi : X.mg "isinstance" = none) (hml : X.mg "list" = none) (hmt : X.mg "tuple" = none) (hgi : autoParam (Gl X "isinstance") au5._auto_1) (hgl : autoParam (Gl X "list") au5._auto_1) (hgt : autoParam (Gl X "tuple") au5._auto_1)
  (hs : autoParam (starEach [e, .Tuple [.Name "list" p1, .Name "tuple" p2] k pt] X.env = (false, eval e X.env) :: starEach [.Tuple [.Name "list" p1, .Name "tuple" p2] k pt] X.env) au5._auto_1) :
  Ev X (.Call (.Name "isinstance" p) [e, .Tuple [.Name "list" p1, .Name "tuple" p2] k pt] [] pos) (dIsi4 t) := PE.imp (pe_isi4 he hgi hmi hgl hml hgt hmt hs) fun σ H Q zz9 => (by obtain ⟨W, M, α, δ, Qd, E, q, k⟩ := zz9; exact (
 ⟨W, M, α, δ, _, E, q, fun d δ' H' v zz10 E1 c1 r1 => (by obtain ⟨b, hb, q1⟩ := zz10; exact (⟨b, isSq_rep r1 hb, k _ _ _ _ q1 E1 c1 (.bl _)⟩))⟩))
end
end LD
end
section
namespace LD
open PySem PySem.Spec L2 LB PyProof.Rows LW
section
variable {X : Cx} {tg a b c e : Expr} {es : List Expr} {ta tb tc t : DTE} {tA : DTA} {pos p apos cpos : Pos}
inductive D_intB (ds : List Dt) (Q : Dt → Prop) : Prop
 | mk (c : _) (h1 : ds = [.bl c]) (h2 : Q (.int (if c then 1 else 0)))
theorem d_intB (hm : X.mg "int" = none) (ha : Av X [e] tA) (hg : autoParam (Gl X "int") au5._auto_1) (he : autoParam (starEach [e] X.env = (false, eval e X.env) :: starEach [] X.env) au5._auto_1) (hpl : autoParam ((backTo pos (starEach [] X.env)).any (·.1) = false) au5._auto_1) :
  Ev X (.Call (.Name "int" p) [e] [] pos) (dCa D_intB tA) := d_callTy call_int1 (fun M H xs ds Qd Q al r zz9 k => (by obtain ⟨c, e, q⟩ := zz9; exact (by
 subst e
 obtain ⟨x, rfl, r1⟩ := one_arg r
 exact .inr ⟨c, by rw [r1.ofBl], k H _ _ q (fun _ _ z => z) (.int _)⟩))) hg hm boot_int' ha (by decide) (by decide) he hpl
theorem d_never : Ev X e (fun _ _ => False) := fun pins s σ H Q I zz15 => (by obtain ⟨_, _, _, _, _, _, q, _⟩ := zz15; exact (q.elim))
theorem s_never {st : Stmt} : Ex X st (fun _ _ => False) := fun pins s σ H D I zz16 => (by obtain ⟨_, _, _, _, _, _, _, q⟩ := zz16; exact (q.elim))
end
end LD
end
section
namespace LX
open PySem
theorem bexc_ga : Slot "BaseException" "__getattribute__" "BaseException.__getattribute__" :=
 .of (owner := "BaseException") (n := "__getattribute__") (by rw [typeLookup_type, builtinLookup_eq_fast]; kernel_rfl) (by decide +kernel) (by decide +kernel) (by decide +kernel) (by first | exact .inl (by decide +kernel) | exact .inr (by decide +kernel)) (by rw [isSubtype_type]; kernel_rfl)
end LX
namespace L2
open PySem PySem.Spec PyProof.Rows
section
variable {X : Cx}
theorem vals_refs : ∀ {cs : List Addr} {its : List Value}, Vals (cs.map V.ref) its → its = cs.map Value.ref
 | [], _, .nil => rfl
 | _ :: _, _, .cons r t => by rw [vals_refs t]; cases r; rfl
end
end L2
end
section
namespace L2
open PySem PySem.Spec PyProof.Rows LXi
section
variable {X : Cx} {e : Expr} {f : Str} {pos : Pos} {ta : TE}
structure ExcF (K : PySem.W.Frag) (D : Addr) (f : Str) : Prop where
 cl : PySem.W.findIn K (.ref D) f = some none
 cd : ∃ cd, PySem.W.clsIn K D = some cd ∧ cd.hasDict = true
 be : PySem.W.mroIn K D (.type "BaseException") = some true
 ga : PySem.W.findIn K (.ref D) "__getattribute__" = some (some (.builtin "BaseException.__getattribute__"))
 gx : PySem.W.findIn K (.ref D) "__getattr__" = some none
def tPlace (K : PySem.W.Frag) (f : Str) (ta : TE) : TE := fun σ H Q => ta σ H fun x H1 => ∃ ea D dx fs v, x = .ref ea ∧ H1 ea = some (.ext (LX.excD ea D dx)) ∧ H1 dx = some (.xd fs) ∧ fs.lookup f = some v ∧ ExcF K D f ∧ Q v H1
theorem pe_place (he : PE X e ta) (hb : attributeBase e f X.env (eval e X.env) = eval e X.env) : PE X (.Attribute e f pos) (tPlace X.K f ta) := by
 intro pins s σ H Q I h
 refine attr_of hb (thn (he pins s σ H _ I h) fun u s1 zz => ?_)
 obtain ⟨x, H1, I1, rx, ea, D, dx, fs, v, ex, h1, h2, l, F, q⟩ := zz
 subst ex
 obtain rfl : u = Value.ref ea := rx
 obtain ⟨⟨ox, as, o1, o2, o3, o4⟩, _⟩ := I1.hok ea _ h1
 obtain ⟨mA, n1, r⟩ := I1.hok dx _ h2
 obtain ⟨u', hu, ru⟩ := RelO.some_of (v := v) (o := mA f) (by rw [← l]; exact r f)
 obtain ⟨cd, hcd, hh⟩ := F.cd
 obtain ⟨hp, g, d, tk, os⟩ := s1
 refine LX.place_get I1.kIn o1 o2 o3 n1 hu F.cl hcd hh o4 F.be LX.bexc_ga F.ga F.gx (fun id z => ?_) ⟨v, H1, I1.tok _, ru, q⟩
 rw [z] at ru
 cases v <;> first | (obtain ⟨_, e⟩ := ru; cases e) | cases ru
def rIsx2 (K : PySem.W.Frag) : List V → Hp → VK → Prop := fun xs H Q => ∃ ea D dx c b, xs = [.ref ea, c] ∧ H ea = some (.ext (LX.excD ea D dx)) ∧ LX.ExcK K D ∧
 ((∃ C, c = .ref C ∧ PySem.W.kitOne K (.ref D) (.ref C) = some b) ∨ (∃ T, c = .ty T ∧ PySem.W.kitOne K (.ref D) (.type T) = some b) ∨ (∃ (p : Addr) (cs : List Addr), c = .ref p ∧ H p = some (.tup (cs.map .ref)) ∧ PySem.W.kitAny K (.ref D) (cs.map .ref) = some b)) ∧ Q (.bl b) H
theorem call_isx2 : CallR X (.builtin "isinstance") (rIsx2 X.K) := by
 intro pins s σ H xs us Q I r h
 obtain ⟨ea, D, dx, c, b, rfl, he, Y, hc, q⟩ := h
 cases r with
 | cons r1 r2 =>
  cases r2 with
  | cons r2 r3 =>
   cases r3
   cases r1
   have Z : PySem.W.KitX X.K (.ref ea) (.ref D) (LX.excAt ea D) := LX.kitx_exc Y LX.bexc_ga
   obtain ⟨⟨ox, _, p1, p2, _⟩, _⟩ := (show ObjOk X.prog X.w H s.heap ea (.ext (LX.excD ea D dx)) from I.hok ea _ he)
   have p : LX.excAt ea D s.heap := ⟨ox, p1, p2⟩
   rcases hc with ⟨C, rfl, hk⟩ | ⟨T, rfl, hk⟩ | ⟨tp, cs, rfl, ht, hk⟩
   · cases r2
     exact PySem.W.kia_one Z I.kIn p hk (fun z => by cases z) fun tk => ⟨.bl b, H, I.tok _, rfl, q⟩
   · cases r2
     exact PySem.W.kia_one Z I.kIn p hk (fun z => by cases z) fun tk => ⟨.bl b, H, I.tok _, rfl, q⟩
   · cases r2
     obtain ⟨_, its, rv, o, ho, hcl, hdn, n, hdt⟩ := (show ObjOk X.prog X.w H s.heap tp (.tup (cs.map .ref)) from I.hok tp _ ht)
     cases vals_refs rv
     obtain ⟨oc, od, oda, osl⟩ := o
     cases (show oc = .type "tuple" from hcl)
     cases (show oda = .seq (cs.map Value.ref).toArray n from hdt)
     exact PySem.W.kia_tup Z I.kIn p ho hk (fun z => by cases z) fun tk => ⟨.bl b, H, I.tok _, rfl, q⟩
end
end L2
end
section
namespace LXi
open PySem PySem.Spec
section
variable {prog : Program} {w : World} {A : Around} {E : Value → Shared → Prop} {h : Heap} {g : Array GenState} {d : Drawn} {t : Nat} {os : OsState}
variable {nm q : Str} {C N : Addr} {bs bm bmB bmN : List Value} {hdct : Bool} {sn : List Str} {sub : List Value} {ab : Bool} {col : Option Bool} {dd : Option Addr} {k0 k1 k2 k3 k5 : Option Value} {B Bn newId nid inN initId : String}
theorem type_call_init (Fn : ExcBaseFacts Bn newId inN bmN) (hBn : bmB.contains (.type Bn) = true) (F : ExcBaseFacts B nid initId bmB) (T : OwnTail h bmB bm) {mN : Str → Option Value} {rest : List Value} {fI : Addr} {oI : Obj} {Q : Fin → Shared → Prop}
  (hC : h.get? C = some (excClassObj nm q C N bs bm hdct sn sub ab col dd k0 k1 k2 k3 k5 newId)) (hn : h.Ns N mN) (hi : mN "__init__" = some (.ref fI)) (hfI : h.get? fI = some oI) (hfc : oI.cls = .type "function")
  (hq : ∀ h' e, Heap.MadeExcOf h h' e (.ref C) rest → wpAny (model prog w) A (call (.ref fI) (.ref e :: rest)) (fun r s' => r = .none ∧ Q (.done (.ret (.ref e))) s') E ⟨h', g, d, t, os⟩) (hrest : rest.length ≤ sizeLine) :
  wpAny (model prog w) A (Builtin.«type.__call__» ⟨.ref C :: rest, []⟩) Q E ⟨h, g, d, t, os⟩ := by
 repeat (first | with_reducible refine wpAny_loadPart_at hC ?_ | with_reducible refine wpAny_madeBy_exc hC ?_ | wp_step)
 refine codeAny_call_builtin_code (Code.quiet_builtin _ Fn.quiet) (wpAny_check_new_subU Fn hBn T hC ?_)
 refine codeAny_exc_new_subU Fn hBn F T hC ?_ hrest
 show wpAny _ _ _ _ _ _
 have up : ∀ b o, h.get? b = some o → ((h.push { cls := .type "tuple", data := .seq rest.toArray }).push { cls := .ref C, data := .fields #[.ref h.objs.size, .none, .none, .none, .bool false, .none] }).get? b = some o := fun b o e => Heap.get?_push_of_some _ (Heap.get?_push_of_some _ e)
 have hC₁ := up _ _ hC
 have hfI₁ := up _ _ hfI
 have hn₁ : ((h.push { cls := .type "tuple", data := .seq rest.toArray }).push { cls := .ref C, data := .fields #[.ref h.objs.size, .none, .none, .none, .bool false, .none] }).Ns N mN :=
  let ⟨o, es, ep, e, r⟩ := hn; ⟨o, es, ep, up _ _ e, r⟩
 have hget : ((h.push { cls := .type "tuple", data := .seq rest.toArray }).push
   { cls := .ref C, data := .fields #[.ref h.objs.size, .none, .none, .none, .bool false, .none] }).get? (h.objs.size + 1) = some
   { cls := .ref C, data := .fields #[.ref h.objs.size, .none, .none, .none, .bool false, .none] } := by heap_get
 have hcC : (Value.ref C :: bm).contains (.ref C) = true := by simp
 have T₁ := T.keeps up
 unfold isInstance
 repeat (first | with_reducible refine wpAny_loadPart_at hget ?_ | (with_reducible refine wpAny_isSubtype_exc hC₁ ?_; rw [hcC]) | wp_step)
 show wpAny _ _ (typeLookup (.ref C) _) _ _ _
 refine wpAny_typeLookup_tail hC₁ hn₁ T₁ F.mroIs F.init.lookup ?_
 rw [hi]
 refine wpAny_holding (wpAny_bind ?_)
 unfold bindSpecial
 refine wpAny_bind (wpAny_typeOf (T := "function") ⟨_, hfI₁, hfc⟩ ?_)
 rw [if_pos (by decide)]
 refine wpAny_pure (wpAny_bind (wpAny_mono (hq _ (h.objs.size + 1) ⟨up, Heap.get?_none_of_le (Nat.le_succ _), h.objs.size, hget, Heap.get?_none_of_le (Nat.le_refl _), ?_⟩) (fun r s' hr => ?_) fun _ _ x => x))
 · exact Heap.get?_push_of_some _ (Heap.get?_push_at rfl rfl)
 · obtain ⟨rfl, hQ⟩ := hr
   wp_walk
   exact hQ
theorem call_init (Fn : ExcBaseFacts Bn newId inN bmN) (hBn : bmB.contains (.type Bn) = true) (F : ExcBaseFacts B nid initId bmB) (T : OwnTail h bmB bm) {mN : Str → Option Value} {rest : List Value} {fI : Addr} {oI : Obj} {Q : Value → Shared → Prop}
  (hC : h.get? C = some (excClassObj nm q C N bs bm hdct sn sub ab col dd k0 k1 k2 k3 k5 newId)) (hn : h.Ns N mN) (hi : mN "__init__" = some (.ref fI)) (hfI : h.get? fI = some oI) (hfc : oI.cls = .type "function")
  (hq : ∀ h' e, Heap.MadeExcOf h h' e (.ref C) rest → wpAny (model prog w) (A.under (.builtin "type.__call__" ⟨.ref C :: rest, []⟩)) (call (.ref fI) (.ref e :: rest)) (fun r s' => r = .none ∧ Q (.ref e) s') E ⟨h', g, d, t, os⟩) (hrest : rest.length ≤ sizeLine) :
  wpAny (model prog w) A (call (.ref C) rest) Q E ⟨h, g, d, t, os⟩ := by
 have f1 := tc_lookup
 have f2 := tc_bind (.ref C)
 have hT : (⟨h, g, d, t, os⟩ : Shared).TypeIs (.ref C) "type" := ⟨_, hC, rfl⟩
 refine wpAny_call (codeAny_of_tree ?_)
 show wpAny _ _ (callAny (.ref C) _) _ _ _
 repeat (any_goals (first | assumption | with_reducible refine wpAny_loadPart_at hC ?_ | wp_step))
 refine ⟨rfl, ?_⟩
 refine codeAny_call_builtin_at (Code.quiet_builtin _ (by decide +kernel)) entry_typeCall (wpAny_check_type_call_sub hC (type_call_init Fn hBn F T hC hn hi hfI hfc (fun h' e hm => ?_) hrest))
 exact hq h' e hm
end
end LXi
end
section
namespace LXi
open PySem PySem.Spec
section
variable {M : Model} {A : Around} {E : Value → Shared → Prop} {env : Env}
variable {nm q : Str} {C N : Addr} {bs bm : List Value} {hdct : Bool} {sn : List Str} {sub : List Value} {ab : Bool} {col : Option Bool} {dd : Option Addr} {k0 k1 k2 k3 k5 : Option Value} {newId : String}
theorem raise_any {s : Shared} {x : Sem Value} {Q : Flow → Shared → Prop} (hbase : bm.contains (.type "BaseException") = true) (hh : A.handled = none)
  (h : wpAny M A x (fun v s₁ => ∃ e oe t, v = .ref e ∧ s₁.heap.get? C = some (excClassObj nm q C N bs bm hdct sn sub ab col dd k0 k1 k2 k3 k5 newId) ∧ s₁.heap.get? e = some oe ∧ oe.cls = .ref C ∧ oe.data = .fields #[.ref t, .none, .none, .none, .bool false, .none] ∧ E (.ref e) s₁) E s) :
  wpAny M A (raiseStmt env (some x) none) Q E s := by
 have hcB : (Value.ref C :: bm).contains (.type "BaseException") = true := by rw [List.contains_cons, hbase, Bool.or_true]
 unfold raiseStmt
 refine wpAny_bind (wpAny_mono h (fun v s₁ h₁ => ?_) fun _ _ x => x)
 obtain ⟨e, oe, tt, rfl, hC, he, hc, hd, hE⟩ := h₁
 cases oe
 cases hc
 cases hd
 obtain ⟨hp, g, d, t, os⟩ := s₁
 repeat (first | with_reducible refine wpAny_loadPart_at he ?_ | with_reducible refine wpAny_loadPart_at hC ?_ | (with_reducible refine wpAny_isSubtype_exc hC ?_; rw [hcB]) | wp_step)
 exact wpAny_raiseNew_none hh hE
end
section
variable {prog : Program} {w : World} {A : Around} {E : Value → Shared → Prop} {s : Shared} {env : Env}
variable {nm q : Str} {C N : Addr} {bs bm bmB : List Value} {hdct : Bool} {sn : List Str} {sub : List Value} {ab : Bool} {col : Option Bool} {dd : Option Addr} {k0 k1 k2 k3 k5 : Option Value} {B Bn newId nid initId inN : String} {bmN : List Value}
theorem Raise_init (Fn : ExcBaseFacts Bn newId inN bmN) (hBn : bmB.contains (.type Bn) = true) (F : ExcBaseFacts B nid initId bmB) {mN : Str → Option Value} {x : Str} {np cpos pos : Pos} {args : List Expr} {fI : Addr} {oI : Obj} {Q : Flow → Shared → Prop}
  (hbase : bm.contains (.type "BaseException") = true) (hh : A.handled = none) (hplain : (backTo cpos (starEach args env)).any (·.1) = false) (hi : mN "__init__" = some (.ref fI)) (hfc : oI.cls = .type "function")
  (h : wpAny (model prog w) A (eval (.Name x np) env) (fun f s₁ => f = .ref C ∧ wpAny (model prog w) A (evalArgs (.ref C) true (backTo cpos (starEach args env)) [])
   (fun a s₂ => a.kw = [] ∧ a.pos.length ≤ sizeLine ∧ s₂.heap.get? C = some (excClassObj nm q C N bs bm hdct sn sub ab col dd k0 k1 k2 k3 k5 newId) ∧ s₂.heap.Ns N mN ∧ s₂.heap.get? fI = some oI ∧ OwnTail s₂.heap bmB bm ∧
    ∀ h' e, Heap.MadeExcOf s₂.heap h' e (.ref C) a.pos → wpAny (model prog w) (A.under (.builtin "type.__call__" ⟨.ref C :: a.pos, []⟩)) (call (.ref fI) (.ref e :: a.pos))
     (fun r s' => r = .none ∧ s'.heap.get? C = some (excClassObj nm q C N bs bm hdct sn sub ab col dd k0 k1 k2 k3 k5 newId) ∧ (∃ oe t, s'.heap.get? e = some oe ∧ oe.cls = .ref C ∧ oe.data = .fields #[.ref t, .none, .none, .none, .bool false, .none]) ∧ E (.ref e) s') E { s₂ with heap := h' }) E s₁) E s) :
  wpAny (model prog w) A (exec (.Raise (some (.Call (.Name x np) args [] cpos)) none pos) env) Q E s := by
 rw [arm_exec_Raise]
 refine wpAny_bind (wpAny_standAt (raise_any (C := C) (nm := nm) (q := q) (N := N) (bs := bs) (bm := bm) (hdct := hdct) (sn := sn) (sub := sub) (ab := ab) (col := col) (dd := dd) (k0 := k0) (k1 := k1) (k2 := k2) (k3 := k3) (k5 := k5) (newId := newId) hbase hh (wpAny_bind (wpAny_mono (wpAny_Call_ofName (wpAny_mono h (fun f s₁ h₁ => ?_) fun _ _ x => x)) (fun v s₃ h₃ => wpAny_bind (wpAny_standAt (wpAny_pure h₃))) fun _ _ x => x))))
 obtain ⟨rfl, h₁⟩ := h₁
 unfold callWith
 refine wpAny_bind (wpAny_holding (wpAny_mono h₁ (fun a s₂ h₂ => wpAny_bind (wpAny_standAt ?_)) fun _ _ x => x))
 obtain ⟨apos, akw⟩ := a
 obtain ⟨hkw, hlen, hC, hn, hfI, T, h₂⟩ := h₂
 obtain rfl : akw = [] := hkw
 obtain ⟨hp, g, d, tk, os⟩ := s₂
 simp only [hplain]
 refine wpAny_bind (wpAny_keeperOf_exc hC ?_)
 refine wpAny_bind (call_init Fn hBn F T hC hn hi hfI hfc (fun h' e hm => wpAny_mono (h₂ h' e hm) (fun r s' z => ?_) fun _ _ x => x) hlen)
 obtain ⟨z1, z2, ⟨oe, fs, z3, z4, z6⟩, z5⟩ := z
 refine ⟨z1, wpAny_bind (wpAny_holding (wpAny_point (wpAny_pure ⟨e, oe, fs, rfl, z2, z3, z4, z6, z5⟩)))⟩
end
end LXi
end
section
namespace LXi
open PySem PySem.Spec PySem.W PySem.Builtin PySem.Builtin.ObjectAttr
theorem refuse_exc (self : Value) (C1 C2 : Addr) : refuseLoop self "__setattr__" [.ref C1, .ref C2, .type "ValueError", .type "Exception", .type "BaseException", .type "object"] = pure () := by
 rw [refuseLoop_ref, refuseLoop_ref]
 kernel_rfl
section
variable {prog : Program} {w : World} {A : Around} {K : Frag} {s : Shared} {x C : Addr} {R : Result → Shared → Prop}
theorem exc_osa {ox : Obj} {od : Option Obj} {name : Str} {tk : Tok} {v : Value} {cd : ClassData} (X : K.In s.heap) (I : InstAt s.heap x ox C od) (hc : clsIn K C = some cd) (hm : mroIn K C (.type "object") = some true) (ho : refuseLoop (.ref x) "__setattr__" cd.mro = pure ()) (ht : takerIn K C name = some none)
  (h : ∀ b, wpAny (model prog w) A.in1 (storeInOwnDict (.ref x) (.ref C) (.str name tk) name v b)
   (fun fin s' => match fin with | .done f => R (.ok f) s' | .again c' => c'.quiet = true ∧ codeAny (model prog w) A c' R s') (fun e s' => R (.error e) s') s) :
  codeAny (model prog w) A (.call (.builtin "object.__setattr__") ⟨[.ref x, .str name tk, v], []⟩) R s := by
 have SF := PySem.F.store_object
 have sub : Looks (model prog w) s.heap (isInstance (.ref x) (.type "object")) true := I.type.andThen (looks_mroIn X hm)
 refine codeAny_call_builtin SF.slot.plain SF.entry (@check_slot (model prog w) _ _ s "object.__setattr__" "object" "__setattr__" (.ref x) [.str name tk, v] [] _ SF.kind SF.split sub (SF.args (.ref x) (.str name tk) v) ?_)
 obtain ⟨attr, ha, hr⟩ := Option.bind_eq_some_iff.mp ht
 have hmr : Looks (model prog w) s.heap (mroOf (.ref C)) cd.mro := (looks_clsIn X hc).andThen .now
 have L3 : Looks (model prog w) s.heap (storeTaker? attr) none := by
  cases attr with
  | none => cases hr; exact .now
  | some a =>
   obtain ⟨b, hb, e⟩ := Option.map_eq_some_iff.mp hr
   refine (looks_takesIn X hb).andThen ?_
   cases b with
   | true => cases e
   | false => exact .now
 rw [osa_eq, refuse_eq]
 refine wpAny_bind (wpAny_bind (I.type.here (wpAny_bind (hmr.here ?_))))
 rw [ho]
 refine wpAny_pure (wpAny_bind (I.type.here (wpAny_bind ((looks_findIn X ha).here (wpAny_bind (L3.here ?_))))))
 exact h _
theorem exc_store {E : Value → Shared → Prop} {o : Obj} {name : Str} {tk : Tok} {v : Value} {cd : ClassData} {b : Bool} {Q : Fin → Shared → Prop} (X : K.In s.heap) (hx : s.heap.get? x = some o) (hc : o.cls = .ref C) (hdn : o.dict = none) (hnc : ∀ c, o.data ≠ .cls c) (hcd : clsIn K C = some cd) (hh : cd.hasDict = true)
  (hq : ∀ h' tk', h'.get? x = some { o with dict := some s.heap.objs.size } → h'.Ns1 s.heap.objs.size (fun y => if y = name then some v else none) → (∀ b ob, b ≠ x → s.heap.get? b = some ob → h'.get? b = some ob) → Q (.done (.ret .none)) { s with heap := h', toks := tk' }) :
  wpAny (model prog w) A (storeInOwnDict (.ref x) (.ref C) (.str name tk) name v b) Q E s := by
 obtain ⟨h, g, d, t, os⟩ := s
 obtain ⟨oc, odi, oda, osl⟩ := o
 dsimp only at hc hdn
 subst hc hdn
 refine wpAny_bind (wpAny_pure (wpAny_bind (wpAny_bind (wpAny_loadPart hx (wpAny_bind ((looks_clsIn X hcd).here ?_))))))
 rw [hh]
 have hx₁ : (h.push { cls := .type "dict", data := .dict #[] }).get? x = some ⟨.ref C, none, oda, osl⟩ := Heap.get?_push_of_some _ hx
 have hxs : x ≠ h.objs.size := Nat.ne_of_lt (Heap.lt_size hx)
 dsimp only
 rw [if_neg (by decide), if_neg (by simp [typeHasDict])]
 have hgd : ((h.push { cls := .type "dict", data := .dict #[] }).update x fun o => { cls := o.cls, dict := some h.objs.size, data := o.data, slots := o.slots }).get? h.objs.size = some { cls := .type "dict", data := .dict #[] } :=
  (Heap.get?_update_ne _ _ _ _ hxs.symm).trans (Heap.get?_push_at rfl rfl)
 have hnd : ((h.push { cls := .type "dict", data := .dict #[] }).update x fun o => { cls := o.cls, dict := some h.objs.size, data := o.data, slots := o.slots }).Ns h.objs.size (fun _ => none) :=
  ⟨_, #[], _, hgd, rfl, fun e he => absurd he (by simp), fun _ => rfl⟩
 split
 · rename_i c
   exact absurd rfl (hnc c)
 refine wpAny_bind (wpAny_alloc' ?_)
 refine wpAny_bind (wpAny_update' hx₁ ?_)
 refine wpAny_pure ?_
 show wpAny _ _ (storeInDict h.objs.size (.str name tk) name v) _ _ _
 unfold storeInDict newKeyGuard
 refine wpAny_bind (wpAny_pure (wpAny_bind (wpAny_nsSet1 (Heap.Ns1.of_empty hnd) fun h' hn' hs => ?_)))
 obtain ⟨oD, esD, epD, hoD, hdD, hcD⟩ := hn'.count (Within.cons name v Within.nil)
 refine wpAny_bind (wpAny_lookBehind hoD (by rw [hdD]; exact pastItsLine_dict (Nat.le_trans hcD (by rw [List.length_cons, List.length_nil, sizeLine_eq]; omega))) ?_)
 refine wpAny_pure (hq h' _ ?_ hn' fun b ob hbx hb => (hs.2 b (Nat.ne_of_lt (Heap.lt_size hb))).trans ((Heap.get?_update_ne _ _ _ _ hbx).trans (Heap.get?_push_of_some _ hb)))
 refine (hs.2 x hxs).trans (Heap.get?_update_self _ hx₁ ?_)
 have hfr := (Heap.get?_some_iff.mp hx).2
 cases oda <;> first | rfl | exact hfr
theorem exc_set {E : Value → Shared → Prop} {o : Obj} {name : Str} {v : Value} {cd : ClassData} {Q : Unit → Shared → Prop} (X : K.In s.heap) (hx : s.heap.get? x = some o) (hc : o.cls = .ref C) (hdn : o.dict = none) (hnc : ∀ c, o.data ≠ .cls c) (hno : notCls o = true)
  (hs : findIn K (.ref C) "__setattr__" = some (some (.builtin "object.__setattr__"))) (hcd : clsIn K C = some cd) (hh : cd.hasDict = true) (hm : mroIn K C (.type "object") = some true) (ho : refuseLoop (.ref x) "__setattr__" cd.mro = pure ()) (ht : takerIn K C name = some none)
  (hq : ∀ h' tk', h'.get? x = some { o with dict := some s.heap.objs.size } → h'.Ns1 s.heap.objs.size (fun y => if y = name then some v else none) → (∀ b ob, b ≠ x → s.heap.get? b = some ob → h'.get? b = some ob) → Q () { s with heap := h', toks := tk' }) :
  wpAny (model prog w) A (setAttr (.ref x) name v) Q E s := by
 have I : InstAt s.heap x o C none := ⟨hx, hc, hno, by rw [hdn]; trivial⟩
 refine set_plain X I hs (exc_osa (s := { s with toks := s.toks + 1 }) X I hcd hm ho ht fun b => ?_)
 exact exc_store (s := { s with toks := s.toks + 1 }) X hx hc hdn hnc hcd hh fun h' tk' h1 h2 h3 => hq h' tk' h1 h2 h3
end
end LXi
end
section
namespace LX
open PySem
def excB (x C t : Addr) (h : Heap) : Prop := h.get? x = some { cls := .ref C, data := .fields #[.ref t, .none, .none, .none, .bool false, .none] }
def excN (x C t dx : Addr) (h : Heap) : Prop := h.get? x = some { cls := .ref C, dict := some dx, data := .fields #[.ref t, .none, .none, .none, .bool false, .none] }
end LX
namespace L2
open PySem PySem.Spec PyProof.Rows LXi
section
variable {X : Cx} {pins : List (Addr × Obj)} {σ : St} {H : Hp} {s : Shared} {x C t : Addr} {f : Str} {v : V} {u : Value}
theorem Inv.xset (I : Inv X pins σ H s) (e : H x = some (.ext (LX.excB x C t))) (rv : RelV v u) {h' : Heap} {tk : Nat} (h1 : LX.excN x C t s.heap.objs.size h') (h2 : h'.Ns1 s.heap.objs.size (fun y => if y = f then some u else none)) (h3 : ∀ b ob, b ≠ x → s.heap.get? b = some ob → h'.get? b = some ob) :
  Inv X pins σ (upd (upd H s.heap.objs.size (.xd [(f, v)])) x (.ext (LX.excN x C t s.heap.objs.size))) { s with heap := h', toks := tk } := by
 have old : ∀ b z, H b = some z → b ≠ s.heap.objs.size := fun b z hb q => by
  obtain ⟨o, ho⟩ := hasObj (I.hok b z hb)
  have := Heap.lt_size ho
  rw [q] at this
  exact absurd this (Nat.lt_irrefl _)
 have off : ∀ b o, s.heap.get? b = some o → b ≠ s.heap.objs.size := fun b o ho q => by
  have := Heap.lt_size ho
  rw [q] at this
  exact absurd this (Nat.lt_irrefl _)
 have nx : ∀ b, H b = none → b ≠ x := fun b hb q => by rw [q, e] at hb; cases hb
 have get : ∀ b z, H b = some z → b ≠ x → upd (upd H s.heap.objs.size (.xd [(f, v)])) x (.ext (LX.excN x C t s.heap.objs.size)) b = some z := fun b z hb hx => by rw [upd_ne hx, upd_ne (old b z hb)]; exact hb
 refine I.call (h' := h') (g' := s.gens) (d' := s.drawn) (t' := tk) (ch := []) ⟨fun b o q n _ _ => h3 b o (nx b n) q, fun b o q n _ _ => ⟨o.slots, h3 b o (nx b n) q⟩, fun b o q n _ => ?_, fun b o q _ => ?_, fun b xs q => get b _ q fun z => ?_, fun b o w q => get b _ q fun z => ?_, fun b ps q => ⟨#[], ?_⟩⟩ (fun b o q => ?_) I.bare fun b z => absurd z (by simp)
 · rw [upd_ne (nx b n), upd_ne (off b o q)]; exact n
 · by_cases z : b = x
   · subst z; exact ⟨_, h1⟩
   · exact ⟨o, h3 b o z q⟩
 · rw [z, e] at q; cases q
 · rw [z, e] at q; cases q
 · rw [Array.append_empty]
   exact get b _ q fun z => by rw [z, e] at q; cases q
 · by_cases z : b = x
   · subst z
     rw [upd_same] at q
     cases q
     exact ⟨h1, ⟨_, h1⟩, fun a c p k => k _ p⟩
   · rw [upd_ne z] at q
     by_cases w : b = s.heap.objs.size
     · subst w
       rw [upd_same] at q
       cases q
       refine ⟨_, h2, fun y => ?_⟩
       by_cases c : y = f
       · subst c; simp [List.lookup, RelO, rv]
       · have : (y == f) = false := beq_eq_false_iff_ne.mpr c
         simp [List.lookup, this, c, RelO]
     · rw [upd_ne w] at q
       refine (I.hok b o q).stay (fun c ob hc k => h3 c ob (fun y => ?_) k) (fun c k => ?_) fun c xs k => ?_
       · rcases hc with hc | hc
         · exact z (hc.symm.trans y)
         · rw [y, e] at hc; cases hc
       · exact get c _ k fun y => by rw [y, e] at k; cases k
       · exact get c _ k fun y => by rw [y, e] at k; cases k
end
structure ExcS (K : PySem.W.Frag) (C : Addr) (f : Str) : Prop where
 sa : PySem.W.findIn K (.ref C) "__setattr__" = some (some (.builtin "object.__setattr__"))
 cd : ∃ cd C1 C2, PySem.W.clsIn K C = some cd ∧ cd.hasDict = true ∧ cd.mro = [.ref C1, .ref C2, .type "ValueError", .type "Exception", .type "BaseException", .type "object"]
 ob : PySem.W.mroIn K C (.type "object") = some true
 tk : PySem.W.takerIn K C f = some none
section
variable {X : Cx} {o value : Expr} {f : Str} {pos pos' : Pos} {ta tv : TE}
def sXset (K : PySem.W.Frag) (f : Str) (ta tv : TE) : TS := fun D σ H => tv σ H fun y H1 => ta σ H1 fun x H2 => ∃ ea C t, x = .ref ea ∧ H2 ea = some (.ext (LX.excB ea C t)) ∧ ExcS K C f ∧ ∀ dx, H2 dx = none → D.nx σ (upd (upd H2 dx (.xd [(f, y)])) ea (.ext (LX.excN ea C t dx)))
theorem ps_xset (ha : PE X o ta) (hv : PE X value tv) (hs : swapsWith value (some (.Attribute o f pos')) pos.line X.env = pure false) : PS X (.Assign [.Attribute o f pos'] value pos) (sXset X.K f ta tv) := by
 intro pins s σ H D I h
 refine plainObj_wpAny_Assign_Attribute (thn (hv pins s σ H _ I h) fun u s1 zz => ?_) hs
 obtain ⟨y, H1, I1, ry, q⟩ := zz
 refine thn (ha pins s1 σ H1 _ I1 q) fun ov s2 zz => ?_
 obtain ⟨x, H2, I2, rx, ea, C, t, ex, h1, F, q2⟩ := zz
 subst ex
 obtain rfl : ov = Value.ref ea := rx
 obtain ⟨b1, _⟩ := I2.hok ea _ h1
 obtain ⟨cd, C1, C2, k1, k2, k3⟩ := F.cd
 have nn : H2 s2.heap.objs.size = none := by
  cases z : H2 s2.heap.objs.size with
  | none => rfl
  | some w =>
   obtain ⟨o, ho⟩ := hasObj (I2.hok _ w z)
   exact absurd (Heap.lt_size ho) (Nat.lt_irrefl _)
 refine exc_set I2.kIn b1 rfl rfl (fun c z => by cases z) rfl F.sa k1 k2 F.ob (by rw [k3]; exact refuse_exc _ _ _) F.tk fun h' tk' e1 e2 e3 => ?_
 exact ⟨σ, _, I2.xset h1 ry e1 e2 e3, q2 _ nn⟩
end
end L2
end
section
namespace L2
open PySem PySem.Spec PyProof.Rows LXi
noncomputable def dropH (H : Hp) (a : Addr) : Hp := fun b => if b = a then none else H b
theorem dropH_ne {H : Hp} {a b : Addr} (h : b ≠ a) : dropH H a b = H b := if_neg h
theorem dropH_same {H : Hp} {a : Addr} : dropH H a a = none := if_pos rfl
theorem dropH_none {H : Hp} {a b : Addr} (h : H b = none) : dropH H a b = none := by
 by_cases z : b = a
 · subst z; exact dropH_same
 · rw [dropH_ne z]; exact h
end L2
end
section
namespace LX
open PySem PySem.W PyProof.Rows
structure Fam (K : Frag) (C C0 : Addr) (others : List Addr) : Prop where
 k : ExcK K C
 up : exmOne K (.ref C) (.ref C0) = some true
 ve : kitOne K (.ref C) (.type "ValueError") = some true
 no : kitAny K (.ref C) (others.map .ref) = some false
end LX
namespace L2
open PySem
theorem kit_self {K : PySem.W.Frag} {C : Addr} : PySem.W.kitOne K (.ref C) (.ref C) = some true := by unfold PySem.W.kitOne; rw [if_pos (by simp)]
end L2
end
section
namespace LX
open PySem PySem.W PyProof.Rows
theorem ns_some_of {K : Frag} {h : Heap} {N : Addr} {mg : Str → Option Value} {n : Str} {v : Value} (X : K.In h) (G : h.Ns N mg) (e : nsIn K N n = some (some v)) : mg n = some v := by
 obtain ⟨o, es, ep, ho, hd, _, hf⟩ := G
 unfold nsIn at e
 split at e
 · rename_i c d es' n' sl q
   have := X _ _ q
   rw [ho] at this
   cases this
   cases hd
   split at e
   · rename_i en he
     cases e
     rw [← hf]
     unfold nsFind findBy
     rw [← Array.find?_toList, he]
     rfl
   · split at e <;> cases e
 · cases e
structure OwnInit (x : Str) (C fI : Addr) (bmB : List Value) (newId : String) (mg : Str → Option Value) (h : Heap) : Prop where
 bound : mg x = some (.ref C)
 obj : ∃ bm N nm q bs hdct sn sub ab col dd k0 k1 k2 k3 k5 mN, h.get? C = some (excClassObj nm q C N bs bm hdct sn sub ab col dd k0 k1 k2 k3 k5 newId) ∧ h.Ns N mN ∧ mN "__init__" = some (.ref fI) ∧ OwnTail h bmB bm
 fn : ∃ oI, h.get? fI = some oI ∧ oI.cls = .type "function"
theorem own_I {K : Frag} {h : Heap} {mg : Str → Option Value} {x nm q : Str} {C N fI : Addr} {bmB bs bm sub : List Value} {newId : String} {hd ab : Bool} {sn : List Str} {col : Option Bool} {dd od : Option Addr} {k0 k1 k2 k3 k5 : Option Value} {fd : FuncData} {osl : Array (Option Value)} (X : K.In h) (G : h.Ns mainGlobals mg) (e : nsIn K mainGlobals x = some (some (.ref C)))
  (l : K.lookup C = some (excClassObj nm q C N bs bm hd sn sub ab col dd k0 k1 k2 k3 k5 newId)) (hok : nsOkIn K N = true) (hni : nsIn K N "__init__" = some (some (.ref fI))) (ht : tailIn K bmB bm = true) (lf : K.lookup fI = some ⟨.type "function", od, .func fd, osl⟩) : OwnInit x C fI bmB newId mg h :=
 ⟨mg_of X G e, ⟨bm, N, nm, q, bs, hd, sn, sub, ab, col, dd, k0, k1, k2, k3, k5, _, X _ _ l, .of_isNs (isNs_of_in X hok), ns_some_of X (.of_isNs (isNs_of_in X hok)) hni, tail_of_in X ht⟩, ⟨_, X _ _ lf, rfl⟩⟩
end LX
namespace L2
open PySem PySem.Spec PyProof.Rows LXi
section
variable {X : Cx} {pins : List (Addr × Obj)} {σ : St} {H : Hp} {s : Shared} {a : Addr} {φ : Heap → Prop}
theorem Inv.drop' (I : Inv X pins σ H s) (e : H a = some (.ext φ)) : Inv X pins σ (dropH H a) s := by
 refine ⟨I.ok, I.os, I.bare, ⟨I.base.keep, I.base.slot, fun b o h1 h2 h3 => dropH_none (I.base.free b o h1 h2 h3), I.base.there, fun b xs h => ?_, fun b o u h => ?_, fun b ps h => ?_⟩, I.loc, I.cell, dropH_none I.free, fun y c h => dropH_none (I.freeC y c h), fun p hp => ?_, fun b o h => ?_, I.len⟩
 · have := I.base.tups b xs h
   rw [dropH_ne fun z => by rw [z, e] at this; cases this]; exact this
 · have := I.base.frzs b o u h
   rw [dropH_ne fun z => by rw [z, e] at this; cases this]; exact this
 · obtain ⟨m, this⟩ := I.base.tbls b ps h
   exact ⟨m, by rw [dropH_ne fun z => by rw [z, e] at this; cases this]; exact this⟩
 · obtain ⟨e1, e2, e3, e4, e5⟩ := I.pin p hp
   exact ⟨e1, dropH_none e2, e3, e4, e5⟩
 · have hb : b ≠ a := fun q => by rw [q, dropH_same] at h; cases h
   rw [dropH_ne hb] at h
   refine (I.hok b o h).stay (fun _ _ _ z => z) (fun c z => ?_) fun c xs z => ?_
   · rw [dropH_ne fun q => by rw [q, e] at z; cases z]; exact z
   · rw [dropH_ne fun q => by rw [q, e] at z; cases z]; exact z
theorem Inv.unt (I : Inv X pins σ H s) (h : s.heap.get? a = none) : H a = none := by
 cases e : H a with
 | none => rfl
 | some z => obtain ⟨o, ho⟩ := hasObj (I.hok a z e); rw [h] at ho; cases ho
theorem Inv.new0 (I : Inv X pins σ H s) (hex : X.ex = []) (h : s.heap.get? a = none) : X.s₀.heap.get? a = none := by
 cases e : X.s₀.heap.get? a with
 | none => rfl
 | some z => obtain ⟨o, ho⟩ := I.base.there a z e (by rw [hex]; simp); rw [h] at ho; cases ho
theorem Inv.exc {C t : Addr} {h' : Heap} {args : List Value} (I : Inv X pins σ H s) (hk : ∀ b o, s.heap.get? b = some o → h'.get? b = some o) (hn : s.heap.get? a = none) (he : h'.get? a = some { cls := .ref C, data := .fields #[.ref t, .none, .none, .none, .bool false, .none] }) :
  Inv X pins σ (upd H a (.ext (LX.excB a C t))) { s with heap := h' } := by
 have ha := I.unt hn
 have ne : ∀ b z, H b = some z → b ≠ a := fun b z h q => by rw [q, ha] at h; cases h
 refine I.call (h' := h') (g' := s.gens) (d' := s.drawn) (t' := s.toks) (ch := []) ⟨fun b o e _ _ _ => hk b o e, fun b o e _ _ _ => ⟨o.slots, hk b o e⟩, fun b o e n _ => ?_, fun b o e _ => ⟨o, hk b o e⟩, fun b xs e => ?_, fun b o u e => ?_, fun b ps e => ⟨#[], ?_⟩⟩ (fun b o e => ?_) I.bare fun b z => absurd z (by simp)
 · rw [upd_ne fun q => by rw [q, hn] at e; cases e]; exact n
 · rw [upd_ne (ne _ _ e)]; exact e
 · rw [upd_ne (ne _ _ e)]; exact e
 · rw [Array.append_empty, upd_ne (ne _ _ e)]; exact e
 · by_cases q : b = a
   · subst q
     rw [upd_same] at e
     cases e
     exact ⟨he, ⟨_, he⟩, fun h1 h2 p k => k _ p⟩
   · rw [upd_ne q] at e
     refine (I.hok b o e).stay (fun c u _ z => hk c u z) (fun c z => ?_) fun c xs z => ?_
     · rw [upd_ne (ne c _ z)]; exact z
     · rw [upd_ne (ne c _ z)]; exact z
end
def spInit (K : PySem.W.Frag) (f : Str) : Sp := fun vs H Q _ => ∃ ea C t v, vs = [.ref ea, v] ∧ H ea = some (.ext (LX.excB ea C t)) ∧ ExcS K C f ∧ ∀ dx, H dx = none → Q .non (upd (upd H dx (.xd [(f, v)])) ea (.ext (LX.excN ea C t dx)))
section
variable {X : Cx}
def Xw2 (X : Cx) (C : Addr) (Ew : Addr → Hp → Prop) : Prop := ∀ (pins : List (Addr × Obj)) (σ : St) (H : Hp) (s : Shared) (ea t dx : Addr) (args : List Value), Inv X pins σ H s → LX.excN ea C t dx s.heap → s.heap.TupAt t args → H ea = none → H t = none → X.s₀.heap.get? ea = none → X.s₀.heap.get? t = none → Ew dx H → X.xe (.ref ea) s
def tRaiseI (f : Str) (Ew : Addr → Hp → Prop) (ta : TA) : TS := fun _ σ H => ta σ H fun vs H1 => ∃ v, vs = [v] ∧ ∀ dx, H1 dx = none → Ew dx (upd H1 dx (.xd [(f, v)]))
theorem ps_raiseI {x f : Str} {C fI : Addr} {fdI : FuncData} {k : Nat} {bmB bmN : List Value} {newId Bn inN B nid initId : String} {e₀ : Expr} {ta : TA} {np cpos pos : Pos} {Ew : Addr → Hp → Prop} (O : LX.OwnInit x C fI bmB newId X.mg X.base) (Fn : ExcBaseFacts Bn newId inN bmN) (hBn : bmB.contains (.type Bn) = true) (FB : ExcBaseFacts B nid initId bmB)
  (FI : FnOk X.prog X.w X.K X.mg X.base CX0 k fI fdI ["self", f] (spInit X.K f)) (hb : Binds X.K fdI ["self", f] []) (S : ExcS X.K C f) (hr : Room (k + 1) X.A)
  (hc : X.calm = true) (hg : Gl X x) (ha : PA X [e₀] ta) (hxe : Xw2 X C Ew) (hex : X.ex = []) (hdb : autoParam ((x == ("__debug__" : Str)) = false) au2._auto_1)
  (he : autoParam (starEach [e₀] X.env = [(false, eval e₀ X.env)]) au5._auto_1) :
  PS X (.Raise (some (.Call (.Name x np) [e₀] [] cpos)) none pos) (tRaiseI f Ew ta) := by
 intro pins s σ H D I h
 obtain ⟨tl, N, nm, q, bs, hdct, sn, sub, ab, col, dd, k0, k1, k2, k3, k5, mN, hC, hN, hni, T⟩ := O.obj
 obtain ⟨oI, hoI, hoc⟩ := O.fn
 refine Raise_init (C := C) (nm := nm) (q := q) (N := N) (bs := bs) (bm := tl) (hdct := hdct) (sn := sn) (sub := sub) (ab := ab) (col := col) (dd := dd) (k0 := k0) (k1 := k1) (k2 := k2) (k3 := k3) (k5 := k5)
  Fn hBn FB (mN := mN) (T.hasType FB.hasBase) (I.ok.hd hc) (by rw [he]; rfl) hni hoc (ld_glob I hg O.bound ⟨rfl, ?_⟩ (hd := hdb))
 have hh := ha cpos pins s σ H _ I h
 rw [he] at hh ⊢
 refine Calls.evalArgs_plain (wpAny_mono hh (fun us s₂ h₂ => ?_) fun _ _ y => y)
 obtain ⟨vs, H1, I1, r1, v, ev, hq⟩ := h₂
 have kp := I1.bk
 subst ev
 refine ⟨rfl, by rw [← r1.length]; show 1 ≤ sizeLine; decide, kp _ _ hC, hN.keeps kp, kp _ _ hoI, T.keeps kp, fun h' e hm => ?_⟩
 obtain ⟨t, he', ht0, ht1⟩ := hm.there
 have I2 := Inv.exc (args := us) I1 hm.keeps hm.new he'
 have et : t ≠ e := fun z => by rw [z, he'] at ht1; cases ht1
 have h1e := I1.unt hm.new
 have h1t := I1.unt ht0
 have n0e := I1.new0 hex hm.new
 have n0t := I1.new0 hex ht0
 have r2 : Vals [V.ref e, v] (Value.ref e :: us) := .cons rfl r1
 have hl : (Value.ref e :: us).length = 2 := by rw [← r2.length]; rfl
 refine wpAny_call (codeAny_mono (FI.run _ X.stack _ _ ⟨Value.ref e :: us, []⟩ (Value.ref e :: us) [V.ref e, v] (fun v' H' => v' = .non ∧ ∃ dx, upd H1 e (.ext (LX.excB e C t)) dx = none ∧ H' = upd (upd (upd H1 e (.ext (LX.excB e C t))) dx (.xd [(f, v)])) e (.ext (LX.excN e C t dx))) (fun _ _ _ => False) (hr.make C us []) (I2.env0.make C us [])
  (by have := hb _ (Value.ref e :: us) I2.kIn (by simpa using hl); simpa using this) r2 ⟨e, C, t, v, rfl, upd_same, S, fun dx hdx => ⟨rfl, dx, hdx, rfl⟩⟩) fun rr s' hq' => ?_)
 cases rr with
 | error ev => exact hq'.elim
 | ok fl =>
  cases fl with
  | next => exact hq'.elim
  | brk => exact hq'.elim
  | cont => exact hq'.elim
  | ret u =>
   have hq2 := hq'
   obtain ⟨v', H', os', bare', un', hok', rv', ⟨e1, dx, hdx, eH⟩⟩ := hq2
   obtain ⟨v2, H2, I3, rv, ⟨e2, dx2, hdx2, eH2⟩⟩ := I2.after (Q := fun v' H'' => v' = .non ∧ ∃ dx, upd H1 e (.ext (LX.excB e C t)) dx = none ∧ H'' = upd (upd (upd H1 e (.ext (LX.excB e C t))) dx (.xd [(f, v)])) e (.ext (LX.excN e C t dx))) ⟨v', H', os', bare', un', hok', rv', ⟨e1, dx, hdx, eH⟩⟩
   subst e2
   subst e1
   have I3 := I2.call' (H' := H') os' un' hok' bare' fun b z => absurd z (by simp)
   have ne : dx ≠ e := fun z => by rw [z, upd_same] at hdx; cases hdx
   have hHe : H' e = some (.ext (LX.excN e C t dx)) := by rw [eH, upd_same]
   have tk : s'.heap.get? t = some { cls := .type "tuple", data := .seq us.toArray } := by
    refine un'.keep t _ ht1 (by rw [upd_ne et]; exact h1t) (fun z => ?_) (by simp)
    obtain ⟨_, o, ho, _⟩ := I1.stack.mem z
    rw [ht0] at ho; cases ho
   have H't : H' t = none := un'.free t _ ht1 (by rw [upd_ne et]; exact h1t) (by simp)
   have I4 := I3.drop' hHe
   have eD : dropH H' e = upd H1 dx (.xd [(f, v)]) := by
    funext b
    by_cases z : b = e
    · subst z
      rw [dropH_same, upd_ne (Ne.symm ne)]; exact h1e.symm
    · rw [dropH_ne z, eH, upd_ne z]
      by_cases y : b = dx
      · subst y; rw [upd_same, upd_same]
      · rw [upd_ne y, upd_ne y, upd_ne z]
   obtain ⟨b1, _⟩ := I3.hok e _ hHe
   refine ⟨?_, I4.bk _ _ hC, ⟨_, t, b1, rfl, rfl⟩, ?_⟩
   · cases rv'; rfl
   · rw [eD] at I4
     have hd1 : H1 dx = none := by rw [upd_ne ne] at hdx; exact hdx
     exact hxe pins σ _ s' e t dx us I4 b1 ⟨_, _, tk, rfl, rfl⟩ (by rw [upd_ne (Ne.symm ne)]; exact h1e) (by
      have : dropH H' e t = none := by rw [dropH_ne et]; exact H't
      rw [eD] at this; exact this) n0e n0t (hq dx hd1)
theorem xw_cx2 {P : Program} {w : World} {K : PySem.W.Frag} {mg : Str → Option Value} {base : Heap} {N : List Str} {qual : Str} {scope : Scope} {f C : Addr} {cd : Value} {A : Around} {outer : List Env} {s : Shared} {H : Hp} {E : XK} :
  Xw2 (cxOf (CX2 P w) P w K mg base N qual scope f cd A outer s H E) C (fun dx H' => E (.ref C) (some dx) H') := fun pins σ H' s' ea t dx args I he ht h1 h2 h3 h4 q =>
 leave_dict (X := cxOf (CX2 P w) P w K mg base N qual scope f cd A outer s H E) I rfl rfl rfl he rfl rfl rfl ht h1 h2 h3 h4 q
end
end L2
end
section
namespace LD
open PySem PySem.Spec L2 LB PyProof.Rows LW
abbrev DTY := DEnds → (Int → List Sl → Prop) → List Sl → Prop
def YLk (f : Str) (Ws : List Wd) (Ew : Addr → Hp → Prop) (Δx : Int → List Sl → Prop) : Prop := ∀ M α H σ δ n dx, EnvR Ws M α H σ δ → Δx n δ → H dx = none → Ew dx (upd H dx (.xd [(f, .int n)]))
def lY (f : Str) (Ew : Addr → Hp → Prop) (T : DTY) : TS := fun D σ H => ∃ Ws M α δ Δ Δx, EnvR Ws M α H σ δ ∧ Lk Ws D Δ ∧ YLk f Ws Ew Δx ∧ T Δ Δx δ
section
variable {X : Cx} {f : Str} {Ew : Addr → Hp → Prop} {st : Stmt} {rest body : List Stmt} {T : DTS} {TX UX : DTY} {c e tg iter : Expr} {es : List Expr} {u : DTT} {tA : DTA} {ti : DTI} {g : DTG} {pos : Pos}
def yOf (T : DTS) : DTY := fun Δ _ δ => T Δ δ
def ySeq (T U : DTY) : DTY := fun Δ Δx δ => T { Δ with nx := U Δ Δx } Δx δ
def yIf (u : DTT) (T U : DTY) : DTY := fun Δ Δx δ => u δ fun b δ' => if b = true then T Δ Δx δ' else U Δ Δx δ'
def yNext : DTY := fun Δ _ δ => Δ.nx δ
def yRaise (t : DTA) : DTY := fun _ Δx δ => t δ fun ds δ' => ∃ n, ds = [.int n] ∧ Δx n δ'
theorem y_of (h : Ex X st T) : PS X st (lY f Ew (yOf T)) := PS.imp h fun D σ H zz1 => (by obtain ⟨Ws, M, α, δ, Δ, Δx, E, L, _, q⟩ := zz1; exact (⟨Ws, M, α, δ, Δ, E, L, q⟩))
theorem y_cons (h1 : PS X st (lY f Ew TX)) (h2 : PSs X rest (lY f Ew UX)) : PSs X (st :: rest) (lY f Ew (ySeq TX UX)) := PSs.imp (pss_cons h1 h2) fun D σ H zz2 => (by obtain ⟨Ws, M, α, δ, Δ, Δx, E, L, LX, q⟩ := zz2; exact (
 ⟨Ws, M, α, δ, { Δ with nx := UX Δ Δx }, Δx, E, ⟨fun M α H σ δ E q => ⟨Ws, M, α, δ, Δ, Δx, E, L, LX, q⟩, L.rt, L.bk, L.ct⟩, LX, q⟩))
theorem y_one (h1 : PS X st (lY f Ew TX)) : PSs X [st] (lY f Ew TX) := pss_one h1
theorem y_nil : PSs X [] (lY f Ew yNext) := PSs.imp pss_nil fun D σ H zz3 => (by obtain ⟨Ws, M, α, δ, Δ, Δx, E, L, _, q⟩ := zz3; exact (L.nx _ _ _ _ _ E q))
theorem y_if {sa sb : List Stmt} (hc : Tv X c u) (ha : PSs X sa (lY f Ew TX)) (hb : PSs X sb (lY f Ew UX)) : PS X (.If c sa sb pos) (lY f Ew (yIf u TX UX)) := PS.imp (ps_if hc ha hb) fun D σ H zz4 => (by obtain ⟨Ws, M, α, δ, Δ, Δx, E, L, LX, q⟩ := zz4; exact (
 ⟨Ws, M, α, δ, _, E, q, fun b δ' H' q1 E1 c1 => by
  cases b with
  | true => rw [if_pos rfl] at q1 ⊢; exact ⟨Ws, M, α, δ', Δ, Δx, E1, L, LX, q1⟩
  | false => rw [if_neg Bool.false_ne_true] at q1 ⊢; exact ⟨Ws, M, α, δ', Δ, Δx, E1, L, LX, q1⟩⟩))
theorem y_raise {x : Str} {C fI : Addr} {fdI : FuncData} {k : Nat} {bmB bmN : List Value} {newId Bn inN B nid initId : String} {np cpos : Pos} (O : LX.OwnInit x C fI bmB newId X.mg X.base) (Fn : ExcBaseFacts Bn newId inN bmN) (hBn : bmB.contains (.type Bn) = true) (FB : ExcBaseFacts B nid initId bmB)
  (FI : FnOk X.prog X.w X.K X.mg X.base CX0 k fI fdI ["self", f] (spInit X.K f)) (hb : Binds X.K fdI ["self", f] []) (S : ExcS X.K C f) (hr : Room (k + 1) X.A)
  (hc : X.calm = true) (ha : Av X [e] tA) (hxe : Xw2 X C Ew) (hex : autoParam (X.ex = []) au5._auto_1) (hg : autoParam (Gl X x) au5._auto_1) (hdb : autoParam ((x == ("__debug__" : Str)) = false) au2._auto_1)
  (he : autoParam (starEach [e] X.env = [(false, eval e X.env)]) au5._auto_1) :
  PS X (.Raise (some (.Call (.Name x np) [e] [] cpos)) none pos) (lY f Ew (yRaise tA)) := PS.imp (ps_raiseI O Fn hBn FB FI hb S hr hc hg ha hxe hex hdb he) fun D σ H zz5 => (by obtain ⟨Ws, M, α, δ, Δ, Δx, E, L, LX, q⟩ := zz5; exact (
 ⟨Ws, M, α, δ, _, E, q, fun ds δ' H' vs zz6 E1 c1 r1 => (by
  obtain ⟨n, e1, q1⟩ := zz6
  subst e1
  obtain ⟨v, ys, rfl, r2, r3⟩ := r1.uncons
  cases r3.unnil
  cases r2.ofInt
  exact ⟨_, rfl, fun dx hdx => LX _ _ _ _ _ _ _ E1 q1 hdx⟩)⟩))
end
end LD
end
section
namespace LD
open PySem PySem.Spec L2 LB PyProof.Rows
inductive FlT : Dt → Prop where
 | non : FlT .non
 | bl (b : Bool) : FlT (.bl b)
 | int (i : Int) : FlT (.int i)
 | str (x : Str) : FlT (.str x)
 | tup {ds : List Dt} : (∀ d ∈ ds, FlT d) → FlT (.tup ds)
theorem Rep.flt {M M' : Addr → Prop} {H : Hp} {v : V} {d : Dt} (r : Rep M H v d) (f : FlT d) (al : MOk M' H) : Rep M' H v d := by
 induction r with
 | non => exact .non
 | bl b => exact .bl b
 | int i => exact .int i
 | str x => exact .str x
 | lst h n l r ih => cases f
 | tup h n l r ih =>
  cases f with
  | tup f => exact .tup h (al.tup h) l fun i x d h1 h2 => ih i x d h1 h2 (f d (List.mem_of_getElem? h2))
 | dic h n e l r ih => cases f
 | dit h n e l r ih => cases f
theorem Reps.flt {M M' : Addr → Prop} {H : Hp} {v : List V} {d : List Dt} (r : Reps M H v d) (f : ∀ x ∈ d, FlT x) (al : MOk M' H) : Reps M' H v d := ⟨r.1, fun i x e h1 h2 => (r.2 i x e h1 h2).flt (f e (List.mem_of_getElem? h2)) al⟩
inductive Atm : Dt → Prop where
 | non : Atm .non
 | bl (b : Bool) : Atm (.bl b)
 | int (i : Int) : Atm (.int i)
 | str (x : Str) : Atm (.str x)
theorem Rep.atm {M M' : Addr → Prop} {H H' : Hp} {v : V} {d : Dt} (r : Rep M H v d) (f : Atm d) : Rep M' H' v d := by
 cases f <;> cases r
 · exact .non
 · exact .bl _
 · exact .int _
 · exact .str _
theorem Reps.atm {M M' : Addr → Prop} {H H' : Hp} {v : List V} {d : List Dt} (r : Reps M H v d) (f : ∀ x ∈ d, Atm x) : Reps M' H' v d := ⟨r.1, fun i x e h1 h2 => (r.2 i x e h1 h2).atm (f e (List.mem_of_getElem? h2))⟩
section
variable {X : Cx} {a b c e : Expr} {es : List Expr} {ta tb t : DTE} {pos p : Pos} {x : Str} {k : Nat} {ps : List Str}
def dCaO (S : DN) (t : DTA) : DTO := fun δ Q => t δ fun ds δ' => (∀ d ∈ ds, FlT d) ∧ S ds fun r => ∃ es, r = .lst es ∧ (∀ d ∈ es, Atm d) ∧ Q es δ'
theorem o_fnA {S : DN} {t : DTA} (h : Has X.prog X.w X.K X.mg X.base x k ps (spA S)) (hr : Room k X.A) (ha : Av X (e :: es) t) (hg : autoParam (Gl X x) au5._auto_1)
  (hdb : autoParam ((x == ("__debug__" : Str)) = false) au2._auto_1) (he : autoParam (starEach (e :: es) X.env = (false, eval e X.env) :: starEach es X.env) au5._auto_1) (hpl : autoParam ((backTo pos (starEach es X.env)).any (·.1) = false) au5._auto_1) :
  Ov X (.Call (.Name x p) (e :: es) [] pos) (dCaO S t) := PE.imp (pe_has h hr hg ha hdb he hpl) fun σ H Q zz1 => (by obtain ⟨W, M, α, δ, Qd, E, q, k⟩ := zz1; exact (
 ⟨W, M, α, δ, _, E, q, fun ds δ' H' vs zz2 E1 c1 r1 => (by obtain ⟨fl, q1⟩ := zz2; exact (by
  show spA S (vs ++ []) H' Q E0
  rw [List.append_nil]
  have al : MOk (fun a => M a ∨ ∃ o, H' a = some o ∧ ∀ xs, o ≠ .tup xs) H' := fun a z => z.elim (E1.al a) id
  refine ⟨_, ds, _, al, r1.flt fl al, q1, fun r H2 v2 zz7 s r2 => ?_⟩
  obtain ⟨es, er, at', q2⟩ := zz7
  subst er
  obtain ⟨a, xs, rfl, h2, n, rr⟩ := r2.ofLst
  have fr : H' a = none := by
   cases e : H' a with
   | none => rfl
   | some o =>
    have := s _ _ e
    rw [h2] at this
    cases this
    exact absurd (.inr ⟨_, e, fun xs z => by cases z⟩) n
  have e2 : H2 = upd (fun b => if b = a then none else H2 b) a (.lst xs) := by
   funext b
   by_cases c : b = a
   · subst c; rw [upd_same]; exact h2
   · rw [upd_ne c, if_neg c]
  have s2 : Same H' (fun b => if b = a then none else H2 b) := fun b o e => by
   have : b ≠ a := fun z => by subst z; rw [fr] at e; cases e
   show (if b = a then none else H2 b) = some o
   rw [if_neg this]
   exact s _ _ e
  rw [e2]
  exact k _ _ _ _ _ q2 (E1.same s2) (c1.tr (Chg.of s2)) (rr.atm at') (if_pos rfl)))⟩))
end
end LD
end
section
namespace LD
open PySem PySem.Spec L2 LB PyProof.Rows LW
noncomputable def FIn (C : Addr) (fs : List (Str × Dt)) : ObR where
 rel := fun M H v as => as = [] ∧ ∃ x dx vs, v = .ref x ∧ H x = some (.ins C dx vs) ∧ ¬ M x ∧ vs.map (·.1) = fs.map (·.1) ∧ Reps M H (vs.map (·.2)) (fs.map (·.2))
 st := fun z _ k => by
  obtain ⟨e, x, dx, vs, ev, hx, n, l, r⟩ := z
  exact ⟨e, x, dx, vs, ev, (k _ _ hx n).1, (k _ _ hx n).2, l, r.mono k⟩
theorem look_rep {M : Addr → Prop} {H : Hp} {f : Str} : ∀ {vs : List (Str × V)} {fs : List (Str × Dt)}, vs.map (·.1) = fs.map (·.1) → Reps M H (vs.map (·.2)) (fs.map (·.2)) → (fs.lookup f = none → vs.lookup f = none) ∧ ∀ d, fs.lookup f = some d → ∃ v, vs.lookup f = some v ∧ Rep M H v d
 | [], [], _, _ => ⟨fun _ => rfl, fun d h => by cases h⟩
 | [], _ :: _, l, _ => by cases l
 | _ :: _, [], l, _ => by cases l
 | (k, v) :: vs, (k', d) :: fs, l, r => by
  rw [List.map_cons, List.map_cons] at l
  injection l with l1 l2
  have l1 : k = k' := l1
  subst l1
  rw [List.map_cons, List.map_cons] at r
  obtain ⟨x, ys, e, rx, ry⟩ := r.uncons
  injection e with e1 e2
  have e1 : v = x := e1
  subst e1 e2
  obtain ⟨a, b⟩ := look_rep (f := f) l2 ry
  by_cases c : f = k
  · subst c
    simp only [List.lookup_cons, beq_self_eq_true]
    exact ⟨(fun z => by cases z), fun d' h => ⟨v, rfl, by cases h; exact rx⟩⟩
  · have : (f == k) = false := beq_eq_false_iff_ne.mpr c
    simp only [List.lookup_cons, this]
    exact ⟨a, b⟩
def SlRs (M : Addr → Prop) (H : Hp) (vs : List V) (ss : List Sl) : Prop := vs.length = ss.length ∧ ∀ (i : Nat) v s, vs[i]? = some v → ss[i]? = some s → SlR M H (some v) s [] ∧ s.isBx = false
theorem SlRs.nil {M : Addr → Prop} {H : Hp} : SlRs M H [] [] := ⟨rfl, fun i v s h => by simp at h⟩
theorem SlRs.cons {M : Addr → Prop} {H : Hp} {v : V} {s : Sl} {vs : List V} {ss : List Sl} (h : SlR M H (some v) s []) (nb : s.isBx = false) (r : SlRs M H vs ss) : SlRs M H (v :: vs) (s :: ss) :=
 ⟨by rw [List.length_cons, List.length_cons, r.1], fun i y t h1 h2 => by
  cases i with
  | zero => cases h1; cases h2; exact ⟨h, nb⟩
  | succ j => exact r.2 j y t (by simpa using h1) (by simpa using h2)⟩
theorem SlRs.im {M : Addr → Prop} {H : Hp} : ∀ {vs : List V} {ds : List Dt}, Reps M H vs ds → SlRs M H vs (ds.map .im)
 | vs, [], r => by cases r.unnil; exact .nil
 | vs, d :: ds, r => by
  obtain ⟨x, ys, rfl, rx, ry⟩ := r.uncons
  exact .cons ⟨rfl, x, rfl, rx⟩ rfl (SlRs.im ry)
abbrev DS := List Sl → (Dt → Prop) → Prop
def spS (S : DS) : Sp := fun vs H Q _ => ∃ M ss Qd, MOk M H ∧ SlRs M H vs ss ∧ S ss Qd ∧ ∀ r H' v', Qd r → Same H H' → Rep M H' v' r → Q v' H'
theorem env_startS {Ws : List Wd} {M : Addr → Prop} {H : Hp} {vs : List V} {ss : List Sl} {n : Nat} (al : MOk M H) (r : SlRs M H vs ss) (w : ∀ W ∈ Ws, WOk W M (List.replicate (ss.length + n) []) H (ss ++ List.replicate n .no)) :
  EnvR Ws M (List.replicate (ss.length + n) []) H (vs.map some ++ List.replicate n none) (ss ++ List.replicate n .no) := by
 have hflat : (List.replicate (ss.length + n) ([] : List Addr)).flatten = [] := by simp
 refine ⟨by simp [r.1], by simp, fun i s h => ?_, by rw [hflat]; exact List.nodup_nil, fun a ha => by rw [hflat] at ha; exact absurd ha List.not_mem_nil, al, w⟩
 have hi := (List.getElem?_eq_some_iff.mp h).1
 rw [List.length_append, List.length_replicate] at hi
 have ha : (List.replicate (ss.length + n) ([] : List Addr))[i]? = some [] := by rw [List.getElem?_replicate, if_pos hi]
 by_cases hl : i < ss.length
 · rw [List.getElem?_append_left hl] at h
   have hv : vs[i]? = some (vs[i]'(by rw [r.1]; exact hl)) := List.getElem?_eq_getElem _
   exact ⟨_, [], by rw [List.getElem?_append_left (by rw [List.length_map, r.1]; exact hl), List.getElem?_map, hv]; rfl, ha, (r.2 i _ s hv h).1⟩
 · rw [List.getElem?_append_right (by omega), List.getElem?_replicate] at h
   split at h
   · rename_i hn
     cases h
     exact ⟨none, [], by rw [List.getElem?_append_right (by rw [List.length_map, r.1]; omega), List.getElem?_replicate, if_pos (by rw [List.length_map, r.1]; exact hn)], ha, rfl⟩
   · cases h
theorem wok_start {M : Addr → Prop} {H : Hp} {δ : List Sl} {k : Nat} : WOk ⟨H, fun _ => False, M, M, none⟩ M (List.replicate k []) H δ := by
 have hflat : (List.replicate k ([] : List Addr)).flatten = [] := by simp
 refine ⟨fun b o e _ => e, fun b n => n, fun a ha => by rw [hflat] at ha; exact absurd ha List.not_mem_nil, fun a h => h, fun a h => .inl h, fun d c e => (by cases e), fun j s as h1 h2 _ a ha => ?_⟩
 rw [List.getElem?_replicate] at h2
 split at h2
 · cases h2; exact absurd ha List.not_mem_nil
 · cases h2
section
variable {P : Program} {w : World} {K : PySem.W.Frag} {mg : Str → Option Value} {base : Heap}
theorem start_of {M : Addr → Prop} {H : Hp} {N ps : List Str} {vs : List V} {ss : List Sl} (r : SlRs M H vs ss) (l : ss.length = ps.length) : L2.start N vs = vs.map some ++ List.replicate (N.length - ps.length) none := by unfold L2.start; rw [r.1, l]
theorem fnS {x qual : Str} {st : Stmt} {f : Addr} {fd : FuncData} {N ps : List Str} {k : Nat} {S : DS} (F : Fun K x qual st f fd) (sc : FnScope N ps (defScope st)) (len : ∀ ss Qd, S ss Qd → ss.length = ps.length)
  (hbody : ∀ (cdv : Value) (A : Around) (outer : List Env) (s : Shared) (H : Hp) (E : XK), Room k (A.deeper (envOfC qual (defScope st) s.heap.objs.size f cdv)) →
   ∃ T, Exs (cxOf CX0 P w K mg base N qual (defScope st) f cdv A outer s H E).nox (defBody st) T ∧ ∀ ss Qd, S ss Qd → T { nx := fun _ => Qd .non, rt := fun d _ => Qd d } (ss ++ List.replicate (N.length - ps.length) .no)) :
  FnOk P w K mg base CX0 (k + 1) f fd ps (spS S) := by
 refine F.ok sc (fun vs H Q E h => ?_) (fun cdv A outer s H vs Q E hr h => ?_)
 · obtain ⟨M, ss, Qd, al, r, q, _⟩ := h
   rw [r.1]; exact len ss Qd q
 · obtain ⟨M, ss, Qd, al, r, q, kk⟩ := h
   obtain ⟨T, hT, hq⟩ := hbody cdv A outer s H E hr
   refine ⟨lS T, hT, [⟨H, fun _ => False, M, M, none⟩], M, List.replicate (ss.length + (N.length - ps.length)) [], ss ++ List.replicate (N.length - ps.length) .no, _, ?_, ?_, hq ss Qd q⟩
   · rw [start_of r (len ss Qd q)]
     exact env_startS al r fun W hW => by rw [List.mem_singleton.mp hW]; exact wok_start
   · have same : ∀ {M' α' H' σ' δ'}, EnvR [⟨H, fun _ => False, M, M, none⟩] M' α' H' σ' δ' → Same H H' ∧ ∀ a, M a → M' a := fun E' => by
       have k := E'.w _ (List.mem_singleton.mpr rfl)
       exact ⟨fun b o e => k.bs b o e (fun z => z), k.m0⟩
     refine ⟨fun M' α' H' σ' δ' E' q => kk _ _ _ q (same E').1 .non, fun M' α' H' σ' δ' v d E' r' q => kk _ _ _ q (same E').1 (r'.mono fun a o e n => ⟨e, fun z => n ((same E').2 a z)⟩), fun _ _ _ _ _ _ z => z.elim, fun _ _ _ _ _ _ z => z.elim⟩
def spSY (f : Str) (C : Addr) (S : List Sl → (Dt → Prop) → (Int → Prop) → Prop) : Sp := fun vs H Q E => ∃ M ss Qd Ed, MOk M H ∧ SlRs M H vs ss ∧ S ss Qd Ed ∧ (∀ r H' v', Qd r → Same H H' → Rep M H' v' r → Q v' H') ∧ (∀ n dx H', Ed n → Same H H' → H' dx = some (.xd [(f, .int n)]) → E (.ref C) (some dx) H')
theorem fnSY {fl : Str} {x qual : Str} {st : Stmt} {f C : Addr} {fd : FuncData} {N ps : List Str} {k : Nat} {S : List Sl → (Dt → Prop) → (Int → Prop) → Prop} (F : Fun K x qual st f fd) (sc : FnScope N ps (defScope st)) (len : ∀ ds Qd Ed, S ds Qd Ed → ds.length = ps.length)
  (hbody : ∀ (cdv : Value) (A : Around) (outer : List Env) (s : Shared) (H : Hp) (E : XK), Room k (A.deeper (envOfC qual (defScope st) s.heap.objs.size f cdv)) → Xw2 (cxOf (CX2 P w) P w K mg base N qual (defScope st) f cdv A outer s H E) C (fun dx H' => E (.ref C) (some dx) H') →
   ∃ T, PSs (cxOf (CX2 P w) P w K mg base N qual (defScope st) f cdv A outer s H E) (defBody st) (lY fl (fun dx H' => E (.ref C) (some dx) H') T) ∧ ∀ ss Qd Ed, S ss Qd Ed → T { nx := fun _ => Qd .non, rt := fun d _ => Qd d } (fun n _ => Ed n) (ss ++ List.replicate (N.length - ps.length) .no)) :
  FnOk P w K mg base (CX2 P w) (k + 1) f fd ps (spSY fl C S) := by
 refine F.okX sc (fun vs H Q E h => ?_) (fun cdv A outer s H vs Q E hr h => ?_)
 · obtain ⟨M, ds, Qd, Ed, al, r, q, _⟩ := h
   rw [r.1]; exact len ds Qd Ed q
 · obtain ⟨M, ss, Qd, Ed, al, r, q, kk, ke⟩ := h
   obtain ⟨T, hT, hq⟩ := hbody cdv A outer s H E hr xw_cx2
   refine ⟨_, hT, [⟨H, fun _ => False, M, M, none⟩], M, List.replicate (ss.length + (N.length - ps.length)) [], ss ++ List.replicate (N.length - ps.length) .no, _, _, ?_, ?_, ?_, hq ss Qd Ed q⟩
   · rw [start_of r (len ss Qd Ed q)]
     exact env_startS al r fun W hW => by rw [List.mem_singleton.mp hW]; exact wok_start
   · have same : ∀ {M' α' H' σ' δ'}, EnvR [⟨H, fun _ => False, M, M, none⟩] M' α' H' σ' δ' → Same H H' ∧ ∀ a, M a → M' a := fun E' => by
       have k := E'.w _ (List.mem_singleton.mpr rfl)
       exact ⟨fun b o e => k.bs b o e (fun z => z), k.m0⟩
     exact ⟨fun M' α' H' σ' δ' E' q => kk _ _ _ q (same E').1 .non, fun M' α' H' σ' δ' v d E' r' q => kk _ _ _ q (same E').1 (r'.mono fun a o e n => ⟨e, fun z => n ((same E').2 a z)⟩), fun _ _ _ _ _ _ z => z.elim, fun _ _ _ _ _ _ z => z.elim⟩
   · intro M' α' H' σ' δ' n dx E' q hdx
     have k := E'.w _ (List.mem_singleton.mpr rfl)
     refine ke n dx _ q (fun b o e => ?_) upd_same
     have := k.bs b o e (fun z => z)
     rw [upd_ne fun z => by rw [z, hdx] at this; cases this]
     exact this
def HasM (P : Program) (w : World) (K : PySem.W.Frag) (mg : Str → Option Value) (base : Heap) (CX : CXT) (C : Addr) (m : Str) (k : Nat) (ps : List Str) (sp : Sp) : Prop :=
 ∃ f fd, Cls K C ∧ Meth K C m f ∧ Binds K fd ps [] ∧ FnOk P w K mg base CX k f fd ps sp
end
section
variable {X : Cx} {y m f : Str} {yp pos apos : Pos}
inductive dFldF (K : PySem.W.Frag) (i : Nat) (f : Str) (δ : List Sl) (Q : Dt → List Sl → Prop) : Prop
 | mk (C : Addr) (fs : List (Str × Dt)) (d : Dt) (h1 : δ[i]? = some (.ob (FIn C fs))) (h2 : fs.lookup f = some d) (h3 : Cls K C) (h4 : NoAttr K C f) (h5 : Q d δ)
theorem d_fldF (i : Nat) (ho : PE X (.Name y yp) (tVar i)) (hb : autoParam (attributeBase (.Name y yp) f X.env (eval (.Name y yp) X.env) = eval (.Name y yp) X.env) au5._auto_1) : Ev X (.Attribute (.Name y yp) f pos) (dFldF X.K i f) := PE.imp (pe_fld ho hb) fun σ H Q zz1 => (by
 obtain ⟨W, M, α, δ, Qd, E, ⟨C, fs, d, h1, h2, h3, h4, q⟩, k⟩ := zz1
 obtain ⟨o, as, s1, s2, v, rfl, ea, x, dx, vs, rfl, hx, n, l, r⟩ := E.sl i _ h1
 obtain ⟨v, hv, rv⟩ := (look_rep (f := f) l r).2 d h2
 exact ⟨_, s1, x, C, dx, vs, v, rfl, hx, h3, h4, hv, k _ _ _ _ q E Chg.rf rv⟩)
inductive dMeF (S : DS) (C : Addr) (i : Nat) (m : Str) (δ : List Sl) (Q : Dt → List Sl → Prop) : Prop
 | mk (fs : List (Str × Dt)) (h1 : δ[i]? = some (.ob (FIn C fs))) (h2 : fs.lookup m = none) (h3 : S [.ob (FIn C fs)] fun r => Q r δ)
theorem d_meF {S : DS} {C : Addr} {k : Nat} {ps : List Str} (i : Nat) (h : HasM X.prog X.w X.K X.mg X.base CX0 C m k ps (spS S)) (hr : Room k X.A) (ho : PE X (.Name y yp) (tVar i))
  {pl : Sem Bool} (ht : autoParam (eval (.Call (.Attribute (.Name y yp) m apos) [] [] pos) X.env = (do
   let ov ← eval (.Name y yp) X.env
   standAt apos.atName
   let (f, first) ← holding [ov] (getMethod ov m pl)
   callWith pos f first (backTo pos (starEach [] X.env)) (backToKw pos (keywordEach [] X.env)))) au5._auto_1) : Ev X (.Call (.Attribute (.Name y yp) m apos) [] [] pos) (dMeF S C i m) := by
 obtain ⟨f, fd, hc, hm, hb, F⟩ := h
 refine PE.imp (pe_meth0 ho hc hm F hr hb .nil pass0 ht) fun σ H Q zz1 => ?_
 obtain ⟨W, M, α, δ, Qd, E, ⟨fs, h1, h2, q⟩, k⟩ := zz1
 obtain ⟨o, as, s1, s2, v, rfl, ea, x, dx, vs, rfl, hx, n, l, r⟩ := E.sl i _ h1
 refine ⟨_, s1, x, dx, vs, rfl, hx, (look_rep (f := m) l r).1 h2, ?_⟩
 show spS S ([V.ref x] ++ []) H Q E0
 exact ⟨M, [.ob (FIn C fs)], _, E.al, .cons ⟨_, rfl, rfl, x, dx, vs, rfl, hx, n, l, r⟩ rfl .nil, q, fun r H' v' q1 s1 r1 => k _ _ _ _ q1 (E.same s1) (Chg.of s1) r1⟩
end
end LD
end
section
namespace PySem
open Sem (wp)
open Builtin
theorem noFill_tuple_mul' : fillsNumberSlot (.type "tuple") "mul" = pure false :=
 fillsNumberSlot_seq (id := "tuple.__mul__") (r := some (.builtin "tuple.__rmul__")) F.slot_tuple_mul.lookup (by decide +kernel) F.slot_tuple_rmul.lookup (by decide +kernel)
theorem repeat_tuple' : seqRepeat? (.type "tuple") = pure (some (.builtin "tuple.__mul__")) := by
 unfold seqRepeat?
 rw [seqSlot_of (T := "tuple") (name := "__mul__") (id := "tuple.__mul__") F.slot_tuple_mul.lookup (by decide +kernel), seqSlot_of (T := "tuple") (name := "__rmul__") (id := "tuple.__rmul__") F.slot_tuple_rmul.lookup (by decide +kernel)]
 rfl
theorem int___rmul___int_tuple' (a : Int) (t : Tok) (l : Addr) (items : Array Value) (n : Nat) (dd : Option Addr) (sl : Array (Option Value)) :
  Meets (Builtin.«int.__rmul__» ⟨[.int a t, .ref l], []⟩) (fun _ R s => s.heap.get? l = some { cls := .type "tuple", dict := dd, data := .seq items n, slots := sl } ∧ R (.ok (.ret Value.notImplemented)) s) :=
 .of_wp fun prog w A R s h => by obtain ⟨hp, g, d, tk, os⟩ := s; obtain ⟨hl, h⟩ := h; wp_walk using wpAny_loadPart' hl; exact ⟨_, rfl, h⟩
theorem tuple_mulW1 (l : Addr) (items : Array Value) (n : Nat) (dd : Option Addr) (sl : Array (Option Value)) (t : Tok) :
  Meets (Builtin.«tuple.__mul__» ⟨[.ref l, .int 1 t], []⟩) (fun _ R s => s.heap.get? l = some { cls := .type "tuple", dict := dd, data := .seq items n, slots := sl } ∧ R (.ok (.ret (Value.ref l))) { s with heap := s.heap, toks := s.toks }) :=
 .of_wp fun prog w A R s h => by obtain ⟨hp, g, d, tk, os⟩ := s; obtain ⟨hl, h⟩ := h; have f1 := AutoSeq1.idx_int; wp_walk using wpAny_loadPart' hl; exact ⟨_, rfl, h⟩
theorem tuple_mulW2 (l : Addr) (items : Array Value) (n : Nat) (dd : Option Addr) (sl : Array (Option Value)) (k : Int) (t : Tok) (hfit : ¬ (decide (k < -(2 ^ 63)) || decide (k ≥ 2 ^ 63)) = true) (h1 : ¬ (items.isEmpty || k == 1) = true) (h0 : ¬ (decide (k ≤ 0) || items.isEmpty) = true)
  (hcap : ¬ (items.size : Int) * k > (2 ^ 63 - 1) / 8) (hmany : ¬ Builtin.Tuple.tupleTooMany ((items.size : Int) * k) = true) (hsz : (List.foldl (fun x1 x2 => x1 ++ x2) #[] (List.replicate k.toNat items)).size ≤ sizeLine) :
  Meets (Builtin.«tuple.__mul__» ⟨[.ref l, .int k t], []⟩) (fun _ R s => s.heap.get? l = some { cls := .type "tuple", dict := dd, data := .seq items n, slots := sl } ∧ R (.ok (.ret (Value.ref s.heap.objs.size))) { s with heap := s.heap.push { cls := Value.type "tuple", data := Data.seq (List.foldl (fun x1 x2 => x1 ++ x2) #[] (List.replicate k.toNat items)) }, toks := s.toks }) :=
 .of_wp fun prog w A R s h => by obtain ⟨hp, g, d, tk, os⟩ := s; obtain ⟨hl, h⟩ := h; have f1 := AutoSeq1.idx_int; wp_walk using wpAny_loadPart' hl; rw [if_neg hfit]; dsimp only; wp_walk using wpAny_loadPart' hl; rw [if_neg hcap, if_neg hmany]; wp_walk using wpAny_loadPart' hl; exact ⟨_, rfl, h⟩
end PySem
namespace L2
open PySem PySem.Spec PyProof.Rows HT
section
variable {X : Cx}
def rRepT : R2 := fun x y H Q => ∃ l k xs, x = .ref l ∧ y = .int k ∧ H l = some (.tup xs) ∧ xs ≠ [] ∧ 1 ≤ k ∧ k < 2 ^ 63 ∧ xs.length * k.toNat ≤ sizeLine ∧ ∀ p H', NewT H (List.replicate k.toNat xs).flatten p H' → Q (.ref p) H'
theorem op_repT : OpR X (binaryOp .Mult) rRepT := by
 intro pins s σ H x y v u Q I rx ry h
 obtain ⟨l, k, xs, rfl, rfl, hH, hne, h1, h2, hz, q⟩ := h
 cases rx
 obtain ⟨t, rfl⟩ := ry
 obtain ⟨its, r, p1, _⟩ := I.tuple (SqT.of hH)
 obtain ⟨⟨c1, d1, t1, l1⟩, a1, a2, n1, a3⟩ := id p1
 simp only at a2 a3
 subst a2 a3
 have hv : its ≠ [] := fun z => hne (r.nil_iff.mp z)
 have hlen : its.toArray.size * k.toNat ≤ sizeLine := by rw [List.size_toArray, ← r.length]; exact hz
 refine wpAny_binaryOp_repeat_ref (T := "tuple") (U := "int") (by decide) ⟨_, a1, rfl⟩ (fun s' => typeIs_int s' k t) noFill_tuple_mul' F.fills_int_mul F.slot_int_rmul repeat_tuple' F.slot_int_index.lookup
  (call_meets F.slot_int_rmul (typeIs_int s k t) F.entry_int_rmul (F.args_int_rmul_2 _ _) (int___rmul___int_tuple' k t l its.toArray n1 d1 l1) ⟨a1, rfl, ⟨_, a1, rfl⟩, ?_⟩)
 by_cases hk : k = 1
 · subst hk
   refine call_meets F.slot_tuple_mul ⟨_, a1, rfl⟩ F.entry_tuple_mul (F.args_tuple_mul_2 _ _) (tuple_mulW1 l its.toArray n1 d1 l1 t) ⟨a1, ?_⟩
   exact ⟨.ref l, H, I, rfl, q l H (.inl ⟨rfl, by simpa using hH⟩)⟩
 · have hnew : List.foldl (fun x1 x2 => x1 ++ x2) #[] (List.replicate k.toNat its.toArray) = (List.replicate k.toNat its).flatten.toArray := by
     have := foldl_rep its k.toNat []
     rw [List.nil_append] at this
     exact this
   have hmul : ((its.toArray.size : Int) * k) = ((its.toArray.size * k.toNat : Nat) : Int) := by
    rw [Int.natCast_mul, Int.toNat_of_nonneg (by lia)]
   have hsl : (sizeLine : Nat) ≤ (2 ^ 63 - 1) / 8 := by decide
   refine call_meets F.slot_tuple_mul ⟨_, a1, rfl⟩ F.entry_tuple_mul (F.args_tuple_mul_2 _ _) (tuple_mulW2 l its.toArray n1 d1 l1 k t (by simp; lia) (by simp [hv, hk]) (by simp [hv]; lia) (by rw [hmul]; lia) (by rw [hmul]; intro z; have z' := of_decide_eq_true z; lia) (by rw [hnew, List.size_toArray, len_rep]; rw [List.size_toArray, Nat.mul_comm] at hlen; exact hlen)) ⟨a1, ?_⟩
   rw [hnew]
   refine ⟨.ref s.heap.objs.size, _, I.laid (t' := s.toks) (o := .tup (List.replicate k.toNat xs).flatten) (fun b ob q => Heap.get?_push_of_some _ q) (Nat.le_refl _) ⟨by rw [len_rep, Nat.mul_comm]; exact hz, _, r.rep _, IsTp.new _ _⟩, rfl, q _ _ (.inr ⟨I.hok.fresh (Nat.le_refl _), rfl⟩)⟩
end
end L2
namespace LD
open PySem PySem.Spec L2 PyProof.Rows
section
variable {X : Cx} {a b : Expr} {ta tb : DTE} {pos : Pos}
def D_repT : D2 := fun d1 d2 Q => ∃ ds k, d1 = .tup ds ∧ d2 = .int k ∧ ds ≠ [] ∧ 1 ≤ k ∧ k < 2 ^ 63 ∧ ds.length * k.toNat ≤ sizeLine ∧ Q (.tup (List.replicate k.toNat ds).flatten)
theorem do_repT : DOp rRepT D_repT := fun M H x y d1 d2 Qd Q al r1 r2 zz1 k => (by obtain ⟨ds, n, e1, e2, ne, h1, h2, l, q⟩ := zz1; exact (by
 subst e1; subst e2
 obtain ⟨a, xs, rfl, ha, nn, rr⟩ := r1.ofTup
 refine ⟨a, n, xs, rfl, r2.ofInt, ha, fun z => ne (by subst z; have := rr.1; cases ds with | nil => rfl | cons _ _ => simp at this), h1, h2, by rw [rr.1]; exact l, fun p H' nt => ?_⟩
 exact k H' _ _ q nt.keep (Rep.toTup nt.at (al.newT nt) ((rr.rep _).same nt.keep))))
theorem d_repT (ha : Ev X a ta) (hb : Ev X b tb) : Ev X (.BinOp a .Mult b pos) (dOp D_repT ta tb) := d_op op_repT do_repT ha hb
end
section
variable {X : Cx} {pos : Pos}
def dgTrip (i j l : Nat) : DTG := fun d δ Q => ∃ d1 d2 d3, d = .tup [d1, d2, d3] ∧ okSet δ i ∧ okSet (δ.set i (.im d1)) j ∧ okSet ((δ.set i (.im d1)).set j (.im d2)) l ∧ Q (((δ.set i (.im d1)).set j (.im d2)).set l (.im d3))
theorem gtrip_read {i j l : Nat} {K : PySem.W.Frag} : ∀ v σ H Q, lG (dgTrip i j l) v σ H Q → gTup K 3 (gCons (gName i) (gCons (gName j) (gCons (gName l) gNil))) v σ H Q := fun v σ H Q zz2 => (by obtain ⟨W, M, α, δ, d, Qd, E, r, ⟨d1, d2, d3, e, ok1, ok2, ok3, q⟩, k⟩ := zz2; exact (by
 subst e
 obtain ⟨a, xs, rfl, ha, n, rr⟩ := r.ofTup
 obtain ⟨x, ys, rfl, r2, r3⟩ := rr.uncons
 obtain ⟨y, zs, rfl, r4, r5⟩ := r3.uncons
 obtain ⟨z, ws, rfl, r6, r7⟩ := r5.uncons
 cases r7.unnil
 exact ⟨a, _, rfl, SqT.of ha, rfl, x, _, rfl, y, _, rfl, z, _, rfl, rfl, k _ _ _ q (((E.setIm r2 ok1).setIm r4 ok2).setIm r6 ok3) fun x h => flat_sub x (flat_sub x (flat_sub x h))⟩))
theorem g_trip (i j l : Nat) {x y z : Str} {px py pz : Pos} {kk : Nat} (hc : X.calm = true) (hN : X.N.Nodup) (hi : autoParam (X.N[i]? = some x) au5._auto_1) (hj : autoParam (X.N[j]? = some y) au5._auto_1) (hl : autoParam (X.N[l]? = some z) au5._auto_1) (hx : autoParam (Loc X.env.scope x) au8._auto_1) (hy : autoParam (Loc X.env.scope y) au8._auto_1) (hz : autoParam (Loc X.env.scope z) au8._auto_1)
  (hf : autoParam (X.fn x = true ∨ X.env.scope.names.lookup x = some .local) au1._auto_1) (hf2 : autoParam (X.fn y = true ∨ X.env.scope.names.lookup y = some .local) au1._auto_1) (hf3 : autoParam (X.fn z = true ∨ X.env.scope.names.lookup z = some .local) au1._auto_1)
  (hn : autoParam ((assignEach [.Name x px, .Name y py, .Name z pz] X.env).length = 3) au5._auto_1) (hst : autoParam ((assignEach [.Name x px, .Name y py, .Name z pz] X.env).findIdx? (·.1) = none) au5._auto_1)
  (h1 : autoParam ((assignEach [.Name x px, .Name y py, .Name z pz] X.env).map (·.2) = assign (.Name x px) X.env :: (assignEach [.Name y py, .Name z pz] X.env).map (·.2)) au5._auto_1) (h2 : autoParam ((assignEach [.Name y py, .Name z pz] X.env).map (·.2) = assign (.Name y py) X.env :: (assignEach [.Name z pz] X.env).map (·.2)) au5._auto_1) (h3 : autoParam ((assignEach [.Name z pz] X.env).map (·.2) = assign (.Name z pz) X.env :: (assignEach [] X.env).map (·.2)) au5._auto_1) :
  Gv X (.Tuple [.Name x px, .Name y py, .Name z pz] kk pos) (dgTrip i j l) := PG.imp (pg_tup hc (pgs_cons (pg_name hN hi hx hf) (pgs_cons (pg_name hN hj hy hf2) (pgs_cons (pg_name hN hl hz hf3) pgs_nil h3) h2) h1) hn hst) gtrip_read
end
end LD
end
section
namespace LD
open PySem PySem.Spec L2 LB PyProof.Rows
theorem while_abs {u : DTT} {tb : DTS} {Δ : DEnds} {δ : List Sl} (I : Nat → List Sl → Prop) (h0 : ∃ m, I m δ)
  (h : ∀ m δ, I m δ → ∀ Δ' : DEnds, (∀ m' δ', m' < m → I m' δ' → Δ'.nx δ') → (∀ d δ', Δ.rt d δ' → Δ'.rt d δ') → u δ fun b δ1 => if b = true then tb Δ' δ1 else Δ.nx δ1) : dWhile u tb Δ δ :=
 ⟨I, h0, fun m δ hI => h m δ hI _ (fun m' δ' hm hi => ⟨m', hm, hi⟩) fun _ _ z => z⟩
theorem for_abs {its : List Dt} {g : DTG} {tb : DTS} {Δ : DEnds} {δ1 : List Sl} (I : Nat → List Sl → Prop) (h0 : I 0 δ1)
  (h : ∀ i d δ2, its[i]? = some d → I i δ2 → ∀ Δ' : DEnds, (∀ δ', I (i + 1) δ' → Δ'.nx δ') → (∀ d δ', Δ.rt d δ' → Δ'.rt d δ') → g d δ2 fun δ3 => tb Δ' δ3) (fin : ∀ δ2, I its.length δ2 → Δ.nx δ2) :
  ∃ P : Nat → List Sl → Prop, P 0 δ1 ∧ (∀ i d δ2, its[i]? = some d → P i δ2 → g d δ2 fun δ3 => tb { Δ with nx := P (i + 1), ct := P (i + 1), bk := Δ.nx } δ3) ∧ ∀ δ2, P its.length δ2 → Δ.nx δ2 :=
 ⟨I, h0, fun i d δ2 e hI => h i d δ2 e hI _ (fun _ z => z) fun _ _ z => z, fin⟩
end LD
end
section
namespace K29
open PySem L2 LB LD PyProof.Rows
noncomputable def top (i : Nat) : Stmt := PySem.Challenge.pw_hungwords_k29_steps_taken_back.main.body.getD i (.Pass ⟨0, 0, 0, 0⟩)
noncomputable abbrev sFirstStand : Stmt := top 11
noncomputable abbrev sStepsFrom : Stmt := top 12
noncomputable abbrev sBehind : Stmt := top 13
noncomputable abbrev sLBegin : Stmt := top 16
noncomputable abbrev sLTake : Stmt := top 17
noncomputable abbrev sLSame : Stmt := top 18
noncomputable abbrev sLMay : Stmt := top 19
noncomputable abbrev sLBehind : Stmt := top 20
noncomputable abbrev sLEnd : Stmt := top 21
noncomputable abbrev sLCaught : Stmt := top 22
noncomputable abbrev sLTells : Stmt := top 23
noncomputable abbrev sLDeed : Stmt := top 24
noncomputable abbrev sLaw : Stmt := top 25
structure Txt (mg : Str → Option Value) : Prop where
 isi : mg "isinstance" = none
 len : mg "len" = none
 tup : mg "tuple" = none
 int : mg "int" = none
 bool : mg "bool" = none
 rng : mg "range" = none
 lst : mg "list" = none
 dvm : mg "divmod" = none
 all : mg "all" = none
 str : mg "str" = none
 zip : mg "zip" = none
theorem scFirstStand : FnScope ["n"] ["n"] (defScope sFirstStand) := ⟨rfl, rfl, rfl, by decide +kernel, rfl, by decide +kernel, by decide +kernel⟩
theorem scStepsFrom : FnScope ["stand", "pile", "ahead", "ons", "found"] ["stand"] (defScope sStepsFrom) := ⟨rfl, rfl, rfl, by decide +kernel, rfl, by decide +kernel, by decide +kernel⟩
theorem scBehind : FnScope ["stand", "word", "pile", "ahead", "ons", "high", "on"] ["stand", "word"] (defScope sBehind) := ⟨rfl, rfl, rfl, by decide +kernel, rfl, by decide +kernel, by decide +kernel⟩
theorem scLBegin : FnScope ["_law_script", "_law_cells"] ["_law_script"] (defScope sLBegin) := ⟨rfl, rfl, rfl, by decide +kernel, rfl, by decide +kernel, by decide +kernel⟩
theorem scLTake : FnScope ["_law_state", "_law_many", "_law_turn", "_law_place", "_law_cell", "_law_digit", "_law_stirred"] ["_law_state", "_law_many"] (defScope sLTake) := ⟨rfl, rfl, rfl, by decide +kernel, rfl, by decide +kernel, by decide +kernel⟩
theorem scLSame : FnScope ["_law_found", "_law_due"] ["_law_found", "_law_due"] (defScope sLSame) := ⟨rfl, rfl, rfl, by decide +kernel, rfl, by decide +kernel, by decide +kernel⟩
theorem scLMay : FnScope ["_law_stand", "_law_pile", "_law_coming", "_law_ons", "_law_more"] ["_law_stand"] (defScope sLMay) := ⟨rfl, rfl, rfl, by decide +kernel, rfl, by decide +kernel, by decide +kernel⟩
theorem scLBehind : FnScope ["_law_stand", "_law_word", "_law_pile", "_law_coming", "_law_ons", "_law_on"] ["_law_stand", "_law_word"] (defScope sLBehind) := ⟨rfl, rfl, rfl, by decide +kernel, rfl, by decide +kernel, by decide +kernel⟩
theorem scLEnd : FnScope ["_law_stand", "_law_pile", "_law_coming", "_law_ons"] ["_law_stand"] (defScope sLEnd) := ⟨rfl, rfl, rfl, by decide +kernel, rfl, by decide +kernel, by decide +kernel⟩
theorem scLCaught : FnScope ["_law_place", "_law_reader", "_law_word", "_law_caught_here", "error"] ["_law_place", "_law_reader", "_law_word"] (defScope sLCaught) := ⟨rfl, rfl, rfl, by decide +kernel, rfl, by decide +kernel, by decide +kernel⟩
theorem scLTells : FnScope ["_law_reader", "_law_stands", "_law_steps", "_law_stand", "_law_told"] ["_law_reader", "_law_stands", "_law_steps"] (defScope sLTells) := ⟨rfl, rfl, rfl, by decide +kernel, rfl, by decide +kernel, by decide +kernel⟩
theorem scLDeed : FnScope ["_law_state", "_law_some", "_law_at", "_law_reader", "_law_stands", "_law_steps", "_law_way", "_law_due", "_law_odd", "_law_may_here"] ["_law_state", "_law_some", "_law_at"] (defScope sLDeed) := ⟨rfl, rfl, rfl, by decide +kernel, rfl, by decide +kernel, by decide +kernel⟩
theorem scLaw : FnScope ["_law_script", "_law_state", "_law_many", "_law_some", "_law_turn"] ["_law_script"] (defScope sLaw) := ⟨rfl, rfl, rfl, by decide +kernel, rfl, by decide +kernel, by decide +kernel⟩
end K29
end
section
namespace K29
open PySem PySem.Spec L2 LB LD PyProof.Rows
noncomputable abbrev nI (x : Nat) : Dt := .int (x : Int)
noncomputable def oD : Option Nat → Dt
 | none => .non
 | some x => nI x
structure St where
 pile : List Nat
 b : Nat
 ons : List (Option Nat)
noncomputable def St.dt (s : St) : Dt := .tup [.tup (s.pile.map nI), nI s.b, .tup (s.ons.map oD)]
structure Fine (s : St) : Prop where
 n : s.ons.length ≤ 1000
 p : s.pile.length ≤ 1000
 rng : ∀ w ∈ s.pile, 1 ≤ w ∧ w ≤ s.ons.length
noncomputable def St.read (s : St) : St := ⟨s.pile ++ [s.b], s.b + 1, s.ons⟩
noncomputable def St.tie (s : St) (on : Nat) : St := ⟨s.pile.dropLast, s.b, s.ons.set (s.pile.getLastD 1 - 1) (some on)⟩
noncomputable def St.next (s : St) : St := s.tie s.b
noncomputable def St.under (s : St) : St := s.tie (s.pile.dropLast.getLastD 1)
noncomputable def canRead (s : St) : Bool := decide (s.b ≤ s.ons.length)
noncomputable def canNext (s : St) : Bool := canRead s && !s.pile.isEmpty
noncomputable def canUnder (s : St) : Bool := decide (1 < s.pile.length)
noncomputable def mayL (s : St) : List Dt := (if canRead s then [Dt.str "read"] else []) ++ (if canNext s then [Dt.str "next"] else []) ++ (if canUnder s then [Dt.str "under"] else [])
noncomputable def first (n : Nat) : St := ⟨[], 1, List.replicate n none⟩
def firstS : DN := fun ds Q => ∃ n : Nat, ds = [nI n] ∧ 1 ≤ n ∧ n ≤ 1000 ∧ Q (first n).dt
def mayS : DN := fun ds Q => ∃ s : St, ds = [s.dt] ∧ Fine s ∧ Q (.lst (mayL s))
def behindS : DN := fun ds Q => ∃ (s : St) (w : Str), ds = [s.dt, .str w] ∧ Fine s ∧ ((w = "read" ∧ Q s.read.dt) ∨ (w = "next" ∧ s.pile ≠ [] ∧ Q s.next.dt) ∨ (w = "under" ∧ 2 ≤ s.pile.length ∧ Q s.under.dt))
theorem small {n : Nat} (h : n ≤ 3000) : n ≤ sizeLine := by
 have : 3000 ≤ sizeLine := by decide
 omega
theorem flat1 {α : Type} (n : Nat) (x : α) : (List.replicate n [x]).flatten = List.replicate n x := by
 induction n with
 | zero => rfl
 | succ k ih => rw [List.replicate_succ, List.replicate_succ, List.flatten_cons, ih]; rfl
theorem iteP {c : Prop} [Decidable c] {t e : Prop} (h : c) (ht : t) : ite c t e := by rw [if_pos h]; exact ht
theorem iteN {c : Prop} [Decidable c] {t e : Prop} (h : ¬ c) (he : e) : ite c t e := by rw [if_neg h]; exact he
section
variable {P : Program} {w : World} {K : PySem.W.Frag} {mg : Str → Option Value} {base : Heap}
theorem ok_first {f : Addr} {fd : FuncData} (F : Fun K "first_stand" "first_stand" sFirstStand f fd) (T : Txt mg) : FnOk P w K mg base CX0 1 f fd ["n"] (spA firstS) := by
 refine fnA F scFirstStand (fun ds Qd h => ?_) (fun cdv A outer s H E hr => ⟨_, (s_one (s_ret (d_tup (a_cons (d_tup a_nil) (a_cons d_int (a_cons (d_repT (d_tup (a_cons d_non a_nil)) (dv 0)) a_nil)))))), fun ds Qd h => ?_⟩)
 · obtain ⟨n, rfl, _⟩ := h; rfl
 · obtain ⟨n, rfl, n1, n2, q⟩ := h
   refine ⟨by show 0 ≤ sizeLine; decide, by show 1 ≤ sizeLine; decide, _, rfl, [.non], n, rfl, rfl, by simp, by omega, by omega, small (by simp; omega), ?_⟩
   refine ⟨by show 3 ≤ sizeLine; decide, ?_⟩
   have e : (Dt.tup (List.replicate ((n : Int)).toNat [Dt.non]).flatten) = .tup ((List.replicate n none).map oD) := by
    rw [List.map_replicate, Int.toNat_natCast]
    congr 1
    exact flat1 n Dt.non
   rw [e]
   exact q
theorem ok_from {f : Addr} {fd : FuncData} (F : Fun K "steps_from" "steps_from" sStepsFrom f fd) (T : Txt mg) : FnOk P w K mg base CX0 1 f fd ["stand"] (spA mayS) := by
 refine fnA F scStepsFrom (fun ds Qd h => ?_) (fun cdv A outer s H E hr => ⟨_, (s_cons (s_asg (dv 0) (g_trip 1 2 3 rfl scStepsFrom.nd))
 (s_cons (s_setO 4 scStepsFrom.nd (o_lst a_nil))
 (s_cons (s_if (t_le (dv 2) (d_len T.len (a_cons (dv 3) a_nil)))
 (s_cons (s_expr (d_append 4 (pv 4) (a_cons d_str a_nil)))
 (s_one (s_if (t_tru (dv 1))
 (s_one (s_expr (d_append 4 (pv 4) (a_cons d_str a_nil))))
 s_nil)))
 s_nil)
 (s_cons (s_if (t_gt (d_len T.len (a_cons (dv 1) a_nil)) d_int)
 (s_one (s_expr (d_append 4 (pv 4) (a_cons d_str a_nil))))
 s_nil)
 (s_one (s_frz 4 (s_ret (dv 4)))))))), fun ds Qd h => ?_⟩)
 · obtain ⟨n, rfl, _⟩ := h; rfl
 · obtain ⟨s, rfl, fi, q⟩ := h
   refine ⟨_, rfl, _, _, _, rfl, ⟨_, rfl, rfl⟩, ⟨_, rfl, rfl⟩, ⟨_, rfl, rfl⟩, ?_⟩
   refine ⟨by show 0 ≤ sizeLine; decide, ⟨_, rfl, rfl⟩, ?_⟩
   refine ⟨_, rfl, _, rfl, _, .inr rfl, _, _, rfl, rfl, _, rfl, ?_⟩
   by_cases c1 : s.b ≤ s.ons.length
   · refine iteP (decide_eq_true (by rw [List.length_map]; exact Int.ofNat_le.mpr c1)) ?_
     refine ⟨⟨_, rfl⟩, _, _, rfl, rfl, by show 0 < sizeLine; decide, _, rfl, _, rfl, ?_⟩
     by_cases c2 : s.pile = []
     · refine iteN (by rw [c2]; decide) ?_
       refine ⟨_, rfl, _, .inr rfl, _, _, rfl, rfl, _, rfl, iteN (by rw [c2]; decide) ⟨_, rfl, _, rfl, ?_⟩⟩
       simpa [mayL, canRead, canNext, canUnder, c1, c2] using q
     · refine iteP (by simpa using c2) ?_
       refine ⟨⟨_, rfl⟩, _, _, rfl, rfl, by show 1 < sizeLine; decide, ?_⟩
       refine ⟨_, rfl, _, .inr rfl, _, _, rfl, rfl, _, rfl, ?_⟩
       by_cases c3 : 1 < s.pile.length
       · refine iteP (decide_eq_true (by rw [List.length_map]; exact Int.ofNat_lt.mpr c3)) ?_
         refine ⟨⟨_, rfl⟩, _, _, rfl, rfl, by show 2 < sizeLine; decide, _, rfl, _, rfl, ?_⟩
         simpa [mayL, canRead, canNext, canUnder, c1, c2, c3] using q
       · refine iteN (by rw [List.length_map]; intro z; exact c3 (Int.ofNat_lt.mp (of_decide_eq_true z))) ⟨_, rfl, _, rfl, ?_⟩
         simpa [mayL, canRead, canNext, canUnder, c1, c2, c3] using q
   · refine iteN (by rw [List.length_map]; intro z; exact c1 (Int.ofNat_le.mp (of_decide_eq_true z))) ?_
     refine ⟨_, rfl, _, .inr rfl, _, _, rfl, rfl, _, rfl, ?_⟩
     by_cases c3 : 1 < s.pile.length
     · refine iteP (decide_eq_true (by rw [List.length_map]; exact Int.ofNat_lt.mpr c3)) ?_
       refine ⟨⟨_, rfl⟩, _, _, rfl, rfl, by show 0 < sizeLine; decide, _, rfl, _, rfl, ?_⟩
       simpa [mayL, canRead, canNext, canUnder, c1, c3] using q
     · refine iteN (by rw [List.length_map]; intro z; exact c3 (Int.ofNat_lt.mp (of_decide_eq_true z))) ⟨_, rfl, _, rfl, ?_⟩
       simpa [mayL, canRead, canNext, canUnder, c1, c3] using q
theorem ok_may {f : Addr} {fd : FuncData} (F : Fun K "_law_may" "_law_may" sLMay f fd) (T : Txt mg) : FnOk P w K mg base CX0 1 f fd ["_law_stand"] (spA mayS) := by
 refine fnA F scLMay (fun ds Qd h => ?_) (fun cdv A outer s H E hr => ⟨_, (s_cons (s_asg (dv 0) (g_trip 1 2 3 rfl scLMay.nd))
 (s_cons (s_set 4 scLMay.nd (d_le (dv 2) (d_len T.len (a_cons (dv 3) a_nil))))
 (s_one (s_ret (d_catL (d_catL (d_repL (d_lst (a_cons d_str a_nil)) (d_intB T.int (a_cons (dv 4) a_nil))) (d_repL (d_lst (a_cons d_str a_nil)) (d_intB T.int (a_cons (d_and (dv 4) (d_one (d_neNilT hr.units0 (dv 1)))) a_nil)))) (d_repL (d_lst (a_cons d_str a_nil)) (d_intB T.int (a_cons (d_gt (d_len T.len (a_cons (dv 1) a_nil)) d_int) a_nil)))))))), fun ds Qd h => ?_⟩)
 · obtain ⟨n, rfl, _⟩ := h; rfl
 · obtain ⟨s, rfl, fi, q⟩ := h
   refine ⟨_, rfl, _, _, _, rfl, ⟨_, rfl, rfl⟩, ⟨_, rfl, rfl⟩, ⟨_, rfl, rfl⟩, ?_⟩
   refine ⟨_, rfl, _, rfl, _, .inr rfl, _, _, rfl, rfl, ⟨_, rfl, rfl⟩, ?_⟩
   have ec : decide (((s.b : Nat) : Int) ≤ ((s.ons.map oD).length : Int)) = canRead s := by
    rw [List.length_map]; exact decide_eq_decide.mpr Int.ofNat_le
   dsimp only
   rw [ec]
   have eu : decide (((s.pile.map nI).length : Int) > 1) = canUnder s := by
    rw [List.length_map]; exact decide_eq_decide.mpr (Int.ofNat_lt (n := 1))
   have fin : ∀ c1 c2 c3 : Bool, Dt.lst (((List.replicate (if c1 then (1 : Int) else 0).toNat [Dt.str "read"]).flatten ++ (List.replicate (if c2 then (1 : Int) else 0).toNat [Dt.str "next"]).flatten) ++ (List.replicate (if c3 then (1 : Int) else 0).toNat [Dt.str "under"]).flatten) = .lst ((if c1 then [Dt.str "read"] else []) ++ (if c2 then [Dt.str "next"] else []) ++ (if c3 then [Dt.str "under"] else [])) := by
    intro c1 c2 c3; cases c1 <;> cases c2 <;> cases c3 <;> rfl
   have sz : ∀ c : Bool, [Dt.non].length * (if c then (1 : Int) else 0).toNat ≤ sizeLine := fun c => by cases c <;> decide
   have lo : ∀ c : Bool, -(2 ^ 63) ≤ (if c then (1 : Int) else 0) := fun c => by cases c <;> decide
   have hi : ∀ c : Bool, (if c then (1 : Int) else 0) < 2 ^ 63 := fun c => by cases c <;> decide
   have l1 : ∀ (c : Bool) (x : Dt), (List.replicate (if c then (1 : Int) else 0).toNat [x]).flatten.length ≤ 1 := fun c x => by cases c <;> simp
   have go : ∀ c2 : Bool, c2 = canNext s → Qd (Dt.lst (((List.replicate (if canRead s then (1 : Int) else 0).toNat [Dt.str "read"]).flatten ++ (List.replicate (if c2 then (1 : Int) else 0).toNat [Dt.str "next"]).flatten) ++ (List.replicate (if canUnder s then (1 : Int) else 0).toNat [Dt.str "under"]).flatten)) := fun c2 e => by
    subst e; rw [fin]; exact q
   refine ⟨by show 1 ≤ sizeLine; decide, _, rfl, _, rfl, _, _, rfl, rfl, lo _, hi _, sz _, by show 1 ≤ sizeLine; decide, _, rfl, _, rfl, ?_⟩
   have s2 : ∀ (c c' : Bool) (x y : Dt), (List.replicate (if c then (1 : Int) else 0).toNat [x]).flatten.length + (List.replicate (if c' then (1 : Int) else 0).toNat [y]).flatten.length ≤ sizeLine := fun c c' x y => small (by have := l1 c x; have := l1 c' y; omega)
   have s3 : ∀ (c c' c2 : Bool) (x y z : Dt), ((List.replicate (if c then (1 : Int) else 0).toNat [x]).flatten ++ (List.replicate (if c' then (1 : Int) else 0).toNat [y]).flatten).length + (List.replicate (if c2 then (1 : Int) else 0).toNat [z]).flatten.length ≤ sizeLine := fun c c' c2 x y z => small (by have := l1 c x; have := l1 c' y; have := l1 c2 z; rw [List.length_append]; omega)
   by_cases cr : canRead s = true
   · refine iteP cr ⟨_, rfl, _, rfl, _, rfl, _, _, rfl, rfl, lo _, hi _, sz _, _, _, rfl, rfl, s2 _ _ _ _, by show 1 ≤ sizeLine; decide, _, rfl, _, .inr rfl, _, _, rfl, rfl, _, rfl, _, _, rfl, rfl, lo _, hi _, sz _, _, _, rfl, rfl, s3 _ _ _ _ _ _, ?_⟩
     dsimp only
     rw [eu]
     exact go _ (by unfold canNext; rw [cr]; simp)
   · refine iteN cr ⟨_, rfl, _, _, rfl, rfl, lo _, hi _, sz _, _, _, rfl, rfl, s2 _ _ _ _, by show 1 ≤ sizeLine; decide, _, rfl, _, .inr rfl, _, _, rfl, rfl, _, rfl, _, _, rfl, rfl, lo _, hi _, sz _, _, _, rfl, rfl, s3 _ _ _ _ _ _, ?_⟩
     dsimp only
     rw [eu]
     exact go _ (by unfold canNext; rw [Bool.not_eq_true] at cr; rw [cr]; rfl)
end
end K29
end
section
namespace K29
open PySem PySem.Spec L2 LB LD PyProof.Rows
theorem cut_last (ds : List Dt) : LD.cutD ds none (some (-1)) = ds.dropLast := by
 unfold LD.cutD
 rw [HT.sIx_none, List.drop_zero, Nat.sub_zero]
 have e : HT.sIx ds.length ds.length (some (-1)) = ds.length - 1 := by
  show (if (-1 : Int) < 0 then ((-1 : Int) + (ds.length : Int)).toNat else min (-1 : Int).toNat ds.length) = _
  rw [if_pos (by decide)]
  omega
 rw [e, List.dropLast_eq_take]
theorem cut_set {os : List (Option Nat)} {hi : Nat} (w1 : 1 ≤ hi) (w2 : hi ≤ os.length) {i j : Int} (ei : i = ((hi - 1 : Nat) : Int)) (ej : j = (hi : Int)) (d : Dt) (x : Option Nat) (ed : d = oD x) : LD.cutD (os.map oD) none (some i) ++ [d] ++ LD.cutD (os.map oD) (some j) none = (os.set (hi - 1) x).map oD := by
 subst ei; subst ej; subst ed
 unfold LD.cutD
 rw [HT.sIx_nat, HT.sIx_nat, HT.sIx_none, HT.sIx_none, List.length_map, Nat.min_eq_left w2, Nat.min_eq_left (by omega), List.drop_zero, Nat.sub_zero, ← List.map_take, ← List.map_drop, List.take_of_length_le (l := (os.drop hi).map oD) (by rw [List.length_map, List.length_drop]; exact Nat.le_refl _)]
 rw [List.set_eq_take_append_cons_drop, if_pos (by omega), List.map_append, List.map_cons, List.append_assoc]
 rw [show hi - 1 + 1 = hi by omega]
 rfl
theorem cut_le (ds : List Dt) (lo hi : Option Int) : (LD.cutD ds lo hi).length ≤ ds.length := by
 unfold LD.cutD
 have := HT.sIx_le ds.length ds.length (Nat.le_refl _) hi
 exact Nat.le_trans (List.length_take_le ..) (by omega)
theorem top1 {ps : List Nat} (h : ps ≠ []) : atI (ps.map nI) (-1) = some (nI (ps.getLastD 1)) := by
 have e : ps.map nI = ps.dropLast.map nI ++ [nI (ps.getLastD 1)] := by
  rw [← List.map_singleton (f := nI), ← List.map_append]
  congr 1
  rw [List.getLastD_eq_getLast?, List.getLast?_eq_some_getLast h, Option.getD_some, List.dropLast_concat_getLast h]
 rw [e]
 exact atI_last _ _
theorem top2 {ps : List Nat} (h : 2 ≤ ps.length) : atI (ps.map nI) (-2) = some (nI (ps.dropLast.getLastD 1)) := by
 have e1 : ps.dropLast ≠ [] := fun z => by have := congrArg List.length z; simp at this; omega
 have g : (ps.map nI)[ps.length - 2]? = some (nI (ps.dropLast.getLastD 1)) := by
  rw [List.getElem?_map, List.getLastD_eq_getLast?, List.getLast?_eq_getElem?, List.length_dropLast, List.getElem?_dropLast, if_pos (by omega)]
  rw [show ps.length - 1 - 1 = ps.length - 2 by omega, List.getElem?_eq_getElem (by omega)]
  rfl
 unfold atI ixN
 rw [if_neg (by decide), List.length_map, if_pos (by omega)]
 show (ps.map nI)[_]? = _
 rw [show (-2 + (ps.length : Int)).toNat = ps.length - 2 by omega]
 exact g
theorem getL_mem {ps : List Nat} (h : ps ≠ []) : ps.getLastD 1 ∈ ps := by
 rw [List.getLastD_eq_getLast?, List.getLast?_eq_some_getLast h, Option.getD_some]
 exact List.getLast_mem h
section
variable {P : Program} {w : World} {K : PySem.W.Frag} {mg : Str → Option Value} {base : Heap}
theorem ok_behind {f : Addr} {fd : FuncData} (F : Fun K "behind" "behind" sBehind f fd) (T : Txt mg) : FnOk P w K mg base CX0 1 f fd ["stand", "word"] (spA behindS) := by
 refine fnA F scBehind (fun ds Qd h => ?_) (fun cdv A outer s H E hr => ⟨_, (s_cons (s_asg (dv 0) (g_trip 2 3 4 rfl scBehind.nd))
 (s_cons (s_if (t_eq (dv 1) d_str)
 (s_one (s_ret (d_tup (a_cons (d_catT (dv 2) (d_tup (a_cons (dv 3) a_nil))) (a_cons (d_add (dv 3) d_int) (a_cons (dv 4) a_nil))))))
 s_nil)
 (s_cons (s_set 5 scBehind.nd (d_ix (dv 2) (d_neg d_int)))
 (s_cons (s_set 6 scBehind.nd (d_ifExp (t_eq (dv 1) d_str) (dv 3) (d_ix (dv 2) (d_neg d_int))))
 (s_one (s_ret (d_tup (a_cons (d_slT (dv 2) p_none (p_some (d_neg d_int))) (a_cons (dv 3) (a_cons (d_catT (d_catT (d_slT (dv 4) p_none (p_some (d_sub (dv 5) d_int))) (d_tup (a_cons (dv 6) a_nil))) (d_slT (dv 4) (p_some (dv 5)) p_none)) a_nil)))))))))), fun ds Qd h => ?_⟩)
 · obtain ⟨s, w, rfl, _⟩ := h; rfl
 · obtain ⟨s, w, rfl, fi, q⟩ := h
   refine ⟨_, rfl, _, _, _, rfl, ⟨_, rfl, rfl⟩, ⟨_, rfl, rfl⟩, ⟨_, rfl, rfl⟩, _, rfl, _, rfl, _, rfl, ?_⟩
   rcases q with ⟨rfl, q⟩ | ⟨rfl, np, q⟩ | ⟨rfl, np, q⟩
   · refine iteP (by decide) ?_
     refine ⟨_, rfl, _, rfl, by show 1 ≤ sizeLine; decide, _, _, rfl, rfl, small (by have := fi.p; rw [List.length_map]; simp; omega), _, rfl, _, _, rfl, rfl, _, rfl, by show 3 ≤ sizeLine; decide, ?_⟩
     have e : s.read.dt = .tup [.tup (s.pile.map nI ++ [nI s.b]), .int ((s.b : Int) + 1), .tup (s.ons.map oD)] := by
      unfold St.read St.dt
      rw [List.map_append]
      rfl
     rw [e] at q
     exact q
   · refine iteN (by decide) ?_
     have hp := fi.rng _ (getL_mem np)
     have l1 : ∀ i : Option Int, (LD.cutD (s.ons.map oD) none i).length ≤ s.ons.length := fun i => by have := cut_le (s.ons.map oD) none i; rwa [List.length_map] at this
     have hn := fi.n
     have key := cut_set (os := s.ons) (hi := s.pile.getLastD 1) hp.1 hp.2 (i := ((s.pile.getLastD 1 : Nat) : Int) - 1) (j := ((s.pile.getLastD 1 : Nat) : Int)) (by omega) rfl (nI s.b) (some s.b) rfl
     refine ⟨_, rfl, _, rfl, _, _, _, .inr rfl, rfl, top1 np, ⟨_, rfl, rfl⟩, _, rfl, _, rfl, _, rfl, iteP (by decide) ⟨_, rfl, ⟨_, rfl, rfl⟩, ?_⟩⟩
     refine ⟨_, rfl, _, rfl, _, rfl, _, rfl, _, rfl, _, rfl, _, rfl, _, _, rfl, rfl, _, rfl, _, rfl, _, rfl, by show 1 ≤ sizeLine; decide, _, _, rfl, rfl, small (by have := l1 (some (((s.pile.getLastD 1 : Nat) : Int) - 1)); simp only [List.length_cons, List.length_nil]; omega), _, rfl, _, rfl, _, rfl, _, rfl, _, _, rfl, rfl, ?_, by show 3 ≤ sizeLine; decide, ?_⟩
     · rw [← List.length_append, key, List.length_map, List.length_set]; exact small (by omega)
     · rw [key, cut_last]
       have e : s.next.dt = .tup [.tup (s.pile.map nI).dropLast, nI s.b, .tup ((s.ons.set (s.pile.getLastD 1 - 1) (some s.b)).map oD)] := by
        unfold St.next St.tie St.dt
        rw [List.map_dropLast]
       rw [e] at q
       exact q
   · refine iteN (by decide) ?_
     have np' : s.pile ≠ [] := fun z => by rw [z] at np; exact absurd np (by decide)
     have hp := fi.rng _ (getL_mem np')
     have l1 : ∀ i : Option Int, (LD.cutD (s.ons.map oD) none i).length ≤ s.ons.length := fun i => by have := cut_le (s.ons.map oD) none i; rwa [List.length_map] at this
     have hn := fi.n
     have key := cut_set (os := s.ons) (hi := s.pile.getLastD 1) hp.1 hp.2 (i := ((s.pile.getLastD 1 : Nat) : Int) - 1) (j := ((s.pile.getLastD 1 : Nat) : Int)) (by omega) rfl (nI (s.pile.dropLast.getLastD 1)) (some (s.pile.dropLast.getLastD 1)) rfl
     refine ⟨_, rfl, _, rfl, _, _, _, .inr rfl, rfl, top1 np', ⟨_, rfl, rfl⟩, _, rfl, _, rfl, _, rfl, iteN (by decide) ⟨_, rfl, _, rfl, _, _, _, .inr rfl, rfl, top2 np, ⟨_, rfl, rfl⟩, ?_⟩⟩
     refine ⟨_, rfl, _, rfl, _, rfl, _, rfl, _, rfl, _, rfl, _, rfl, _, _, rfl, rfl, _, rfl, _, rfl, _, rfl, by show 1 ≤ sizeLine; decide, _, _, rfl, rfl, small (by have := l1 (some (((s.pile.getLastD 1 : Nat) : Int) - 1)); simp only [List.length_cons, List.length_nil]; omega), _, rfl, _, rfl, _, rfl, _, rfl, _, _, rfl, rfl, ?_, by show 3 ≤ sizeLine; decide, ?_⟩
     · rw [← List.length_append, key, List.length_map, List.length_set]; exact small (by omega)
     · rw [key, cut_last]
       have e : s.under.dt = .tup [.tup (s.pile.map nI).dropLast, nI s.b, .tup ((s.ons.set (s.pile.getLastD 1 - 1) (some (s.pile.dropLast.getLastD 1))).map oD)] := by
        unfold St.under St.tie St.dt
        rw [List.map_dropLast]
       rw [e] at q
       exact q
end
end K29
end
section
namespace K29
open PySem PySem.Spec L2 LB LD PyProof.Rows
section
variable {P : Program} {w : World} {K : PySem.W.Frag} {mg : Str → Option Value} {base : Heap}
theorem ok_lbehind {f : Addr} {fd : FuncData} (F : Fun K "_law_behind" "_law_behind" sLBehind f fd) (T : Txt mg) : FnOk P w K mg base CX0 1 f fd ["_law_stand", "_law_word"] (spA behindS) := by
 refine fnA F scLBehind (fun ds Qd h => ?_) (fun cdv A outer s H E hr => ⟨_, (s_cons (s_asg (dv 0) (g_trip 2 3 4 rfl scLBehind.nd))
 (s_cons (s_if (t_eq (dv 1) d_str)
 (s_one (s_ret (d_tup (a_cons (d_catT (dv 2) (d_tup (a_cons (dv 3) a_nil))) (a_cons (d_add (dv 3) d_int) (a_cons (dv 4) a_nil))))))
 s_nil)
 (s_cons (s_set 5 scLBehind.nd (d_ifExp (t_eq (dv 1) d_str) (dv 3) (d_ix (dv 2) (d_neg d_int))))
 (s_one (s_ret (d_tup (a_cons (d_slT (dv 2) p_none (p_some (d_neg d_int))) (a_cons (dv 3) (a_cons (d_catT (d_catT (d_slT (dv 4) p_none (p_some (d_sub (d_ix (dv 2) (d_neg d_int)) d_int))) (d_tup (a_cons (dv 5) a_nil))) (d_slT (dv 4) (p_some (d_ix (dv 2) (d_neg d_int))) p_none)) a_nil))))))))), fun ds Qd h => ?_⟩)
 · obtain ⟨s, w, rfl, _⟩ := h; rfl
 · obtain ⟨s, w, rfl, fi, q⟩ := h
   refine ⟨_, rfl, _, _, _, rfl, ⟨_, rfl, rfl⟩, ⟨_, rfl, rfl⟩, ⟨_, rfl, rfl⟩, _, rfl, _, rfl, _, rfl, ?_⟩
   rcases q with ⟨rfl, q⟩ | ⟨rfl, np, q⟩ | ⟨rfl, np, q⟩
   · refine iteP (by decide) ?_
     refine ⟨_, rfl, _, rfl, by show 1 ≤ sizeLine; decide, _, _, rfl, rfl, small (by have := fi.p; rw [List.length_map]; simp; omega), _, rfl, _, _, rfl, rfl, _, rfl, by show 3 ≤ sizeLine; decide, ?_⟩
     have e : s.read.dt = .tup [.tup (s.pile.map nI ++ [nI s.b]), .int ((s.b : Int) + 1), .tup (s.ons.map oD)] := by
      unfold St.read St.dt
      rw [List.map_append]
      rfl
     rw [e] at q
     exact q
   · refine iteN (by decide) ?_
     have hp := fi.rng _ (getL_mem np)
     have l1 : ∀ i : Option Int, (LD.cutD (s.ons.map oD) none i).length ≤ s.ons.length := fun i => by have := cut_le (s.ons.map oD) none i; rwa [List.length_map] at this
     have hn := fi.n
     have key := cut_set (os := s.ons) (hi := s.pile.getLastD 1) hp.1 hp.2 (i := ((s.pile.getLastD 1 : Nat) : Int) - 1) (j := ((s.pile.getLastD 1 : Nat) : Int)) (by omega) rfl (nI s.b) (some s.b) rfl
     refine ⟨_, rfl, _, rfl, _, rfl, iteP (by decide) ⟨_, rfl, ⟨_, rfl, rfl⟩, ?_⟩⟩
     refine ⟨_, rfl, _, rfl, _, rfl, _, rfl, _, rfl, _, rfl, _, rfl, _, rfl, _, _, _, .inr rfl, rfl, top1 np, _, _, rfl, rfl, _, rfl, _, rfl, _, rfl, by show 1 ≤ sizeLine; decide, _, _, rfl, rfl, small (by have := l1 (some (((s.pile.getLastD 1 : Nat) : Int) - 1)); simp only [List.length_cons, List.length_nil]; omega), _, rfl, _, rfl, _, rfl, _, _, _, .inr rfl, rfl, top1 np, _, rfl, _, rfl, _, _, rfl, rfl, ?_, by show 3 ≤ sizeLine; decide, ?_⟩
     · rw [← List.length_append, key, List.length_map, List.length_set]; exact small (by omega)
     · rw [key, cut_last]
       have e : s.next.dt = .tup [.tup (s.pile.map nI).dropLast, nI s.b, .tup ((s.ons.set (s.pile.getLastD 1 - 1) (some s.b)).map oD)] := by
        unfold St.next St.tie St.dt
        rw [List.map_dropLast]
       rw [e] at q
       exact q
   · refine iteN (by decide) ?_
     have np' : s.pile ≠ [] := fun z => by rw [z] at np; exact absurd np (by decide)
     have hp := fi.rng _ (getL_mem np')
     have l1 : ∀ i : Option Int, (LD.cutD (s.ons.map oD) none i).length ≤ s.ons.length := fun i => by have := cut_le (s.ons.map oD) none i; rwa [List.length_map] at this
     have hn := fi.n
     have key := cut_set (os := s.ons) (hi := s.pile.getLastD 1) hp.1 hp.2 (i := ((s.pile.getLastD 1 : Nat) : Int) - 1) (j := ((s.pile.getLastD 1 : Nat) : Int)) (by omega) rfl (nI (s.pile.dropLast.getLastD 1)) (some (s.pile.dropLast.getLastD 1)) rfl
     refine ⟨_, rfl, _, rfl, _, rfl, iteN (by decide) ⟨_, rfl, _, rfl, _, _, _, .inr rfl, rfl, top2 np, ⟨_, rfl, rfl⟩, ?_⟩⟩
     refine ⟨_, rfl, _, rfl, _, rfl, _, rfl, _, rfl, _, rfl, _, rfl, _, rfl, _, _, _, .inr rfl, rfl, top1 np', _, _, rfl, rfl, _, rfl, _, rfl, _, rfl, by show 1 ≤ sizeLine; decide, _, _, rfl, rfl, small (by have := l1 (some (((s.pile.getLastD 1 : Nat) : Int) - 1)); simp only [List.length_cons, List.length_nil]; omega), _, rfl, _, rfl, _, rfl, _, _, _, .inr rfl, rfl, top1 np', _, rfl, _, rfl, _, _, rfl, rfl, ?_, by show 3 ≤ sizeLine; decide, ?_⟩
     · rw [← List.length_append, key, List.length_map, List.length_set]; exact small (by omega)
     · rw [key, cut_last]
       have e : s.under.dt = .tup [.tup (s.pile.map nI).dropLast, nI s.b, .tup ((s.ons.set (s.pile.getLastD 1 - 1) (some (s.pile.dropLast.getLastD 1))).map oD)] := by
        unfold St.under St.tie St.dt
        rw [List.map_dropLast]
       rw [e] at q
       exact q
noncomputable def endD (s : St) : Dt := if s.b ≤ s.ons.length ∨ s.pile.length ≠ 1 then .non else .tup ((s.ons.set (s.pile.headD 1 - 1) (some 0)).map oD)
def endS : DN := fun ds Q => ∃ s : St, ds = [s.dt] ∧ Fine s ∧ Q (endD s)
theorem ok_lend {f : Addr} {fd : FuncData} (F : Fun K "_law_end" "_law_end" sLEnd f fd) (T : Txt mg) : FnOk P w K mg base CX0 1 f fd ["_law_stand"] (spA endS) := by
 refine fnA F scLEnd (fun ds Qd h => ?_) (fun cdv A outer s H E hr => ⟨_, (s_cons (s_asg (dv 0) (g_trip 1 2 3 rfl scLEnd.nd))
 (s_cons (s_if (PW.pt (w_or (t_le (dv 2) (d_len T.len (a_cons (dv 3) a_nil))) (w_or1 (t_ne (d_len T.len (a_cons (dv 1) a_nil)) d_int))))
 (s_one (s_ret d_non))
 s_nil)
 (s_one (s_ret (d_catT (d_catT (d_slT (dv 3) p_none (p_some (d_sub (d_ix (dv 1) d_int) d_int))) (d_tup (a_cons d_int a_nil))) (d_slT (dv 3) (p_some (d_ix (dv 1) d_int)) p_none)))))), fun ds Qd h => ?_⟩)
 · obtain ⟨s, rfl, _⟩ := h; rfl
 · obtain ⟨s, rfl, fi, q⟩ := h
   refine ⟨_, rfl, _, _, _, rfl, ⟨_, rfl, rfl⟩, ⟨_, rfl, rfl⟩, ⟨_, rfl, rfl⟩, _, rfl, _, rfl, _, .inr rfl, _, _, rfl, rfl, _, rfl, ?_⟩
   by_cases c1 : s.b ≤ s.ons.length
   · refine iteP (decide_eq_true (by rw [List.length_map]; exact Int.ofNat_le.mpr c1)) (iteT ?_)
     rw [endD, if_pos (.inl c1)] at q
     exact q
   · refine iteN (by rw [List.length_map]; intro z; exact c1 (Int.ofNat_le.mp (of_decide_eq_true z))) ⟨_, rfl, _, .inr rfl, _, rfl, _, rfl, ?_⟩
     by_cases c2 : s.pile.length = 1
     · refine iteN (by rw [List.length_map, c2]; decide) ?_
       obtain ⟨pile, b, ons⟩ := s
       obtain ⟨p, rfl⟩ : ∃ p, pile = [p] := by
        match pile, c2 with
        | [p], _ => exact ⟨p, rfl⟩
       have hp := fi.rng p (by simp)
       have hn := fi.n
       dsimp only at hp hn
       have l1 : ∀ i : Option Int, (LD.cutD (ons.map oD) none i).length ≤ ons.length := fun i => by have := cut_le (ons.map oD) none i; rwa [List.length_map] at this
       have key := cut_set (os := ons) (hi := p) hp.1 hp.2 (i := ((p : Nat) : Int) - 1) (j := ((p : Nat) : Int)) (by omega) rfl (.int 0) (some 0) rfl
       refine ⟨_, rfl, _, rfl, _, _, _, .inr rfl, rfl, rfl, _, _, rfl, rfl, _, rfl, _, rfl, by show 1 ≤ sizeLine; decide, _, _, rfl, rfl, small (by have := l1 (some (((p : Nat) : Int) - 1)); simp only [List.length_cons, List.length_nil]; omega), _, rfl, _, rfl, _, _, _, .inr rfl, rfl, rfl, _, rfl, _, rfl, _, _, rfl, rfl, ?_, ?_⟩
       · rw [← List.length_append, key, List.length_map, List.length_set]; exact small (by omega)
       · rw [key]
         rw [endD, if_neg (by intro z; rcases z with z | z; exact c1 z; exact z rfl)] at q
         exact q
     · refine iteP (by rw [List.length_map]; simp; omega) ?_
       rw [endD, if_pos (.inr c2)] at q
       exact q
end
end K29
end
section
namespace K29
open PySem PySem.Spec L2 LB LW LD PyProof.Rows
section
variable {P : Program} {w : World} {K : PySem.W.Frag} {mg : Str → Option Value} {base : Heap}
theorem ok_take {f : Addr} {fd : FuncData} (F : Fun K "_law_take" "_law_take" sLTake f fd) (T : Txt mg) : FnOk P w K mg base CX0 1 f fd ["_law_state", "_law_many"] spTake := by
 refine F.ok scLTake (fun vs H Q E h => ?_) (fun cdv A outer s H vs Q E hr h => ?_)
 · obtain ⟨d, c, t, m, rfl, _⟩ := h; rfl
 · obtain ⟨d, c, t, m, rfl, B, ht, hm0, hm1, q⟩ := h
   have hu := hu_of hr
   have ndc := B.ne
   have t0 := B.t0
   obtain ⟨ns, hc, hn0, hn1⟩ := B.cs
   refine ⟨_, pss_cons (ps_set (i := 2) scLTake.nd rfl (Or.inl rfl) (pe_op op_add (pe_dget hu (pv 0) pe_str (fun _ _ => rfl)) pe_int))
    (pss_cons (ps_dput hu (pv 0) pe_str (pv 2) rfl)
    (pss_cons (ps_set (i := 3) scLTake.nd rfl (Or.inl rfl) (pe_op op_mod (pv 2) (pe_callB call_len_seq (by rfl) T.len PySem.boot_len (pa_cons (pe_dget hu (pv 0) pe_str (fun _ _ => rfl)) pa_nil))))
    (pss_cons (ps_set (i := 4) scLTake.nd rfl (Or.inl rfl) (pe_ix ix_list (pe_dget hu (pv 0) pe_str (fun _ _ => rfl)) (pv 3) (fun _ _ => rfl)))
    (pss_cons (ps_if (pt_cmpR op_ge (pv 4) (pe_op op_pow pe_int pe_int) (nomark _))
     (pss_cons (ps_asg (pe_callB call_divmodW (by rfl) T.dvm boot_divmod' (pa_cons (pv 4) (pa_cons (pv 1) pa_nil))) (pg_tup rfl (pgs_cons (pg_sub (pe_dget hu (pv 0) pe_str (fun _ _ => rfl)) (pv 3) set_list) (pgs_cons (pg_name (i := 5) scLTake.nd rfl (Or.inl rfl)) pgs_nil))))
      (pss_one (ps_ret (pv 5)))) pss_nil)
    (pss_cons (ps_set (i := 6) scLTake.nd rfl (Or.inl rfl) (pe_op op_mod (pe_op op_mul (pe_op op_add (pe_op op_add (pe_op op_mod (pv 4) pe_int) (pe_op op_mul (pe_op op_mul (pv 2) (pv 2)) pe_int)) pe_int) pe_int) pe_int))
    (pss_cons (ps_set (i := 6) scLTake.nd rfl (Or.inl rfl) (pe_op op_mod (pe_op op_mul (pv 6) (pv 6)) pe_int))
    (pss_one (ps_ret (pe_op op_mod (pe_op op_fdiv (pe_op op_mod (pe_op op_mul (pe_op op_add (pv 6) (pe_op op_mul (pv 2) pe_int)) pe_int) pe_int) pe_int) (pv 1)))))))))), ?_⟩
   refine ⟨_, rfl, d, _, rfl, by rw [← bx_turn c t]; exact DGet.k (k := Sum.inr "turn") B.dc, _, _, rfl, rfl, ?_⟩
   refine ⟨_, rfl, _, rfl, d, _, rfl, DPut.k (k := Sum.inr "turn") B.dc (by show 2 < sizeLine; decide), ?_⟩
   rw [bx_put]
   have hd1 : (upd H d (.dK (bx c (t + 1)))) d = some (.dK (bx c (t + 1))) := upd_same
   have hc1 : (upd H d (.dK (bx c (t + 1)))) c = some (.lst (ns.map V.int)) := by rw [upd_ne ndc.symm]; exact hc
   have gc : DGet (upd H d (.dK (bx c (t + 1)))) d (.str "cells") (some (.ref c)) := by rw [← bx_cells c (t + 1)]; exact DGet.k (k := Sum.inr "cells") hd1
   have hl : (0 : Int) < ((ns.map V.int).length : Int) := by rw [List.length_map]; omega
   refine ⟨_, rfl, _, rfl, d, _, rfl, gc, c, _, rfl, .inl (SqL.of hc1), _, _, rfl, rfl, hl, ?_⟩
   have hp0 : 0 ≤ (t + 1) % ((ns.map V.int).length : Int) := Int.emod_nonneg _ (by omega)
   have hp1 : (t + 1) % ((ns.map V.int).length : Int) < ((ns.map V.int).length : Int) := Int.emod_lt_of_pos _ hl
   obtain ⟨cell, hcell⟩ : ∃ cell, (ns.map V.int)[((t + 1) % ((ns.map V.int).length : Int)).toNat]? = some (V.int cell) := by
    have hpn : ((t + 1) % ((ns.map V.int).length : Int)).toNat < ns.length := by rw [List.length_map] at hp0 hp1 ⊢; omega
    exact ⟨ns[((t + 1) % ((ns.map V.int).length : Int)).toNat], by simp⟩
   refine ⟨_, rfl, d, _, rfl, gc, _, rfl, c, _, _, _, rfl, rfl, SqL.of hc1, atI_int hp0 hcell, ?_⟩
   refine ⟨_, rfl, _, _, rfl, rfl, (show CPow 10 18 from by unfold CPow; decide), _, _, rfl, rfl, _, rfl, ?_⟩
   refine ite2 (fun _ => ?_) (fun _ => ?_)
   · refine ⟨_, rfl, _, rfl, _, _, rfl, ⟨hm0, hm1⟩, fun p hp => ?_⟩
     have hd2 : (upd (upd H d (.dK (bx c (t + 1)))) p (.tup [.int (cell / m), .int (cell % m)])) d = some (.dK (bx c (t + 1))) := by rw [upd_ne (ne_of_none hd1 hp)]; exact hd1
     have hc2 : (upd (upd H d (.dK (bx c (t + 1)))) p (.tup [.int (cell / m), .int (cell % m)])) c = some (.lst (ns.map V.int)) := by rw [upd_ne (ne_of_none hc1 hp)]; exact hc1
     refine ⟨p, _, rfl, SqT.of upd_same, rfl, _, _, rfl, ?_⟩
     refine ⟨_, rfl, d, _, rfl, by rw [← bx_cells c (t + 1)]; exact DGet.k (k := Sum.inr "cells") hd2, _, rfl, c, _, _, _, rfl, rfl, hc2, ixN_int hp0 hp1, ?_⟩
     refine ⟨_, _, rfl, rfl, ?_⟩
     refine ⟨_, rfl, ?_⟩
     refine q _ _ (Int.emod_nonneg _ (by omega)) (Int.emod_lt_of_pos _ hm0) ⟨by rw [upd_ne ndc]; exact hd2, ⟨ns.set ((t + 1) % ((ns.map V.int).length : Int)).toNat (cell / m), ?_, by rw [List.length_set]; exact hn0, by rw [List.length_set]; exact hn1⟩, by omega, by omega⟩ fun b o e h1 h2 => ?_
     · rw [upd_same, List.map_set]
     · have e1 : (upd H d (.dK (bx c (t + 1)))) b = some o := by rw [upd_ne h1]; exact e
       rw [upd_ne h2, upd_ne (ne_of_none e1 hp)]
       exact e1
   · refine ⟨_, rfl, _, _, rfl, rfl, (by show (0 : Int) < 2147483549; decide), _, rfl, _, rfl, _, _, rfl, rfl, .inl ⟨by omega, by omega⟩, _, _, rfl, rfl, .inr ⟨by decide, by decide⟩, _, _, rfl, rfl, _, _, rfl, rfl, _, _, rfl, rfl, .inr ⟨by decide, by decide⟩, _, _, rfl, rfl, (by show (0 : Int) < 2147483647; decide), ?_⟩
     generalize hmx : ((cell % 2147483549 + (t + 1) * (t + 1) * 4441 + 23) * 48271 % 2147483647 : Int) = mx
     have m0 : 0 ≤ mx := by rw [← hmx]; exact Int.emod_nonneg _ (by decide)
     have m1 : mx < 2147483647 := by rw [← hmx]; exact Int.emod_lt_of_pos _ (by decide)
     refine ⟨_, rfl, _, rfl, _, _, rfl, rfl, .inl ⟨by omega, by omega⟩, _, _, rfl, rfl, (by show (0 : Int) < 2147483399; decide), ?_⟩
     refine ⟨_, rfl, _, rfl, _, _, rfl, rfl, .inr ⟨by decide, by decide⟩, _, _, rfl, rfl, _, _, rfl, rfl, .inr ⟨by decide, by decide⟩, _, _, rfl, rfl, (by show (0 : Int) < 2147483549; decide), _, _, rfl, rfl, ⟨by decide, by decide⟩, _, rfl, _, _, rfl, rfl, hm0, ?_⟩
     refine q _ _ (Int.emod_nonneg _ (by omega)) (Int.emod_lt_of_pos _ hm0) ⟨hd1, ⟨ns, hc1, hn0, hn1⟩, by omega, by omega⟩ fun b o e h1 h2 => ?_
     rw [upd_ne h1]; exact e
theorem ok_begin {f : Addr} {fd : FuncData} (F : Fun K "_law_begin" "_law_begin" sLBegin f fd) (T : Txt mg) : FnOk P w K mg base CX0 1 f fd ["_law_script"] (spBegin K) := by
 refine F.ok scLBegin (fun vs H Q E h => ?_) (fun cdv A outer s H vs Q E hr h => ?_)
 · obtain ⟨a, ns, rfl, _⟩ := h; rfl
 · obtain ⟨a, ns, rfl, hS, hn, q⟩ := h
   have hu := hu_of hr
   refine ⟨_, pss_cons (ps_set (i := 1) scLBegin.nd rfl (Or.inl rfl) (pe_callTy call_list_of (by rfl) T.lst boot_list' (pa_cons (pe_slice sl_list (pv 0) po_none (po_some pe_int)) pa_nil)))
    (pss_cons (ps_if (pt_cmpR (op_eqNilL hr.units0) (pv 1) (pe_lst pa_nil) (nomark _)) (pss_one (ps_set (i := 1) scLBegin.nd rfl (Or.inl rfl) (pe_lst (pa_cons pe_int pa_nil)))) pss_nil)
    (pss_one (ps_ret (pe_disp (pps_cons pe_str (pv 1) (pps_cons pe_str pe_int pps_nil)) rfl rfl (by simp) (by decide))))), ?_⟩
   refine ⟨_, rfl, _, rfl, a, _, rfl, hS, fun p hp => ?_⟩
   have ecut : cutV (ns.map V.int) none (some 63) = ns.map V.int := by
    unfold cutV
    rw [HT.sIx_none, show ((63 : Int)) = ((63 : Nat) : Int) from rfl, HT.sIx_nat, List.drop_zero, Nat.sub_zero, List.length_map]
    exact List.take_of_length_le (by rw [List.length_map]; omega)
   rw [ecut]
   refine ⟨p, _, rfl, .inl (SqL.of upd_same), fun l hl => ?_⟩
   have s1 : Same H (upd (upd H p (.lst (ns.map V.int))) l (.lst (ns.map V.int))) := fun b o e => by
    have e1 : (upd H p (.lst (ns.map V.int))) b = some o := by rw [upd_ne (ne_of_none e hp)]; exact e
    rw [upd_ne (ne_of_none e1 hl)]; exact e1
   have hl1 : (upd (upd H p (.lst (ns.map V.int))) l (.lst (ns.map V.int))) l = some (.lst (ns.map V.int)) := upd_same
   generalize upd (upd H p (.lst (ns.map V.int))) l (.lst (ns.map V.int)) = H1 at s1 hl1
   refine ⟨_, rfl, Nat.zero_le _, fun e0 he0 => ?_⟩
   have s2 : Same H1 (upd H1 e0 (.lst [])) := fun b o e => by rw [upd_ne (ne_of_none e he0)]; exact e
   refine ⟨l, e0, _, rfl, rfl, SqL.of (s2 _ _ hl1), SqL.of upd_same, _, rfl, ?_⟩
   have fin : ∀ (g : Addr) (ms : List Int) (H2 : Hp), Same H H2 → H2 g = some (.lst (ms.map V.int)) → 0 < ms.length → ms.length ≤ 63 → tDisp [(tC (.str "cells"), tVar 1), (tC (.str "turn"), tC (.int 0))] [some (.ref a), some (.ref g)] H2 Q := fun g ms H2 s3 hg h1 h2 => by
    intro d hd
    have nd : g ≠ d := ne_of_none hg hd
    refine ⟨_, rfl, upd_same, [(Sum.inr "cells", .ref g), (Sum.inr "turn", .int 0)], rfl, by show 2 ≤ 15; decide, ?_⟩
    have em : mergeK [] [((Sum.inr "cells" : Key), V.ref g), (Sum.inr "turn", V.int 0)] = bx g 0 := by
     simp [mergeK, putK, bx, kct]
    rw [em]
    refine q d g _ ⟨upd_same, ⟨ms, by rw [upd_ne nd, upd_ne nd]; exact hg, h1, h2⟩, Int.le_refl _, by decide⟩ fun b o e => ?_
    have e1 := s3 b o e
    rw [upd_ne (ne_of_none e1 hd), upd_ne (ne_of_none e1 hd)]; exact e1
   cases hns : ns with
   | nil =>
    refine iteT ⟨by show 1 ≤ sizeLine; decide, fun g hg => ?_⟩
    refine fin g [17] _ (fun b o e => ?_) upd_same (by decide) (by decide)
    have e1 := s2 _ _ (s1 b o e)
    rw [upd_ne (ne_of_none e1 hg)]; exact e1
   | cons n0 nr =>
    refine iteF ?_
    exact fin l ns _ (fun b o e => s2 _ _ (s1 b o e)) (s2 _ _ hl1) (by rw [hns]; simp) hn
theorem ok_takeB {f : Addr} {fd : FuncData} (F : Fun K "_law_take" "_law_take" sLTake f fd) (T : Txt mg) : FnOk P w K mg base CX0 1 f fd ["_law_state", "_law_many"] (spB takeS) := (ok_take F T).imp fun _ _ _ _ h => take_of h
end
end K29
end
section
namespace K29
open PySem PySem.Spec L2 LB LD PyProof.Rows
noncomputable def okB (s : St) (w : Str) : Bool := (canRead s && ("read" : Str) == w) || (canNext s && ("next" : Str) == w) || (canUnder s && ("under" : Str) == w)
noncomputable def stp (s : St) (w : Str) : St := if ("read" : Str) = w then s.read else if ("next" : Str) = w then s.next else s.under
theorem in_may {s : St} {w : Str} : inD (.str w) (mayL s) = okB s w := by
 unfold mayL okB inD
 cases canRead s <;> cases canNext s <;> cases canUnder s <;> simp [eqD, Bool.or_assoc]
structure Good (n m : Nat) (s : St) : Prop where
 l : s.ons.length = n
 p : s.pile.length ≤ m
 b : 1 ≤ s.b
 rng : ∀ w ∈ s.pile, 1 ≤ w ∧ w ≤ n
theorem good_first (n : Nat) : Good n 0 (first n) := ⟨List.length_replicate, Nat.le_refl _, Nat.le_refl _, fun w hw => absurd hw List.not_mem_nil⟩
theorem Good.fine {n m : Nat} {s : St} (g : Good n m s) (n12 : n ≤ 12) (m100 : m ≤ 100) : Fine s := ⟨by rw [g.l]; lia, by have := g.p; lia, fun w hw => by rw [g.l]; exact g.rng w hw⟩
theorem good_tie {n m : Nat} {s : St} (g : Good n m s) (on : Nat) : Good n (m + 1) (s.tie on) := ⟨by show (s.ons.set _ _).length = n; rw [List.length_set, g.l], by show s.pile.dropLast.length ≤ _; rw [List.length_dropLast]; have := g.p; lia, g.b, fun w hw => g.rng w ((List.dropLast_sublist _).subset hw)⟩
theorem ok_cases {s : St} {w : Str} (h : okB s w = true) : (w = "read" ∧ canRead s = true ∧ stp s w = s.read) ∨ (w = "next" ∧ canNext s = true ∧ stp s w = s.next) ∨ (w = "under" ∧ canUnder s = true ∧ stp s w = s.under) := by
 unfold okB at h
 rw [Bool.or_eq_true, Bool.or_eq_true, Bool.and_eq_true, Bool.and_eq_true, Bool.and_eq_true, beq_iff_eq, beq_iff_eq, beq_iff_eq] at h
 unfold stp
 rcases h with (⟨h, e⟩ | ⟨h, e⟩) | ⟨h, e⟩
 · subst e; exact .inl ⟨rfl, h, if_pos rfl⟩
 · subst e; exact .inr (.inl ⟨rfl, h, by rw [if_neg (by decide), if_pos rfl]⟩)
 · subst e; exact .inr (.inr ⟨rfl, h, by rw [if_neg (by decide), if_neg (by decide)]⟩)
theorem good_step {n m : Nat} {s : St} {w : Str} (g : Good n m s) (h : okB s w = true) : Good n (m + 1) (stp s w) := by
 rcases ok_cases h with ⟨_, c, e⟩ | ⟨_, c, e⟩ | ⟨_, c, e⟩
 · rw [e]
   have c' : s.b ≤ s.ons.length := of_decide_eq_true c
   refine ⟨g.l, by show (s.pile ++ [s.b]).length ≤ _; rw [List.length_append]; have := g.p; show s.pile.length + 1 ≤ _; lia, by show 1 ≤ s.b + 1; lia, fun w hw => ?_⟩
   rcases List.mem_append.mp hw with h | h
   · exact g.rng w h
   · cases List.mem_singleton.mp h; exact ⟨g.b, by rw [← g.l]; exact c'⟩
 · rw [e]; exact good_tie g _
 · rw [e]; exact good_tie g _
theorem step_behind {s : St} {w : Str} {Q : Dt → Prop} (f : Fine s) (h : okB s w = true) (q : Q (stp s w).dt) : behindS [s.dt, .str w] Q := by
 refine ⟨s, w, rfl, f, ?_⟩
 rcases ok_cases h with ⟨e, c, z⟩ | ⟨e, c, z⟩ | ⟨e, c, z⟩
 · rw [z] at q; exact .inl ⟨e, q⟩
 · rw [z] at q
   refine .inr (.inl ⟨e, fun y => ?_, q⟩)
   unfold canNext at c
   rw [y] at c
   simp at c
 · rw [z] at q; exact .inr (.inr ⟨e, of_decide_eq_true c, q⟩)
theorem may_flat {s : St} : (mayL s).all flatD = true := by
 unfold mayL
 cases canRead s <;> cases canNext s <;> cases canUnder s <;> rfl
theorem first_rep {n : Nat} : Dt.tup [.tup [], .int 1, .tup (List.replicate ((n : Int)).toNat [Dt.non]).flatten] = (first n).dt := by
 show _ = Dt.tup [.tup [], .int 1, .tup ((List.replicate n none).map oD)]
 rw [flat1, List.map_replicate, Int.toNat_natCast]
 rfl
end K29
end
section
namespace K29
open PySem PySem.Spec L2 LB LD PyProof.Rows
theorem eq2N {x y : Nat} : eq2 (nI x) (nI y) = some (decide (x = y)) := by
 show some (decide ((x : Int) = (y : Int))) = _
 congr 1
 exact decide_eq_decide.mpr Int.natCast_inj
def P0 (d : Dt) : Prop := d = .non ∨ (∃ i : Int, d = .int i) ∨ (∃ b, d = .bl b) ∨ ∃ x, d = .str x
def Up (p : Dt → Prop) (d : Dt) : Prop := P0 d ∨ ∃ es : List Dt, (d = .lst es ∨ d = .tup es) ∧ es.length ≤ 100 ∧ ∀ e ∈ es, p e
def sameS (p : Dt → Prop) : DN := fun ds Q => ∃ d, ds = [d, d] ∧ p d ∧ Q (.bl true)
theorem up_stand {n m : Nat} {s : St} (g : Good n m s) (n12 : n ≤ 12) (m100 : m ≤ 100) : Up (Up P0) s.dt := .inr ⟨_, .inr rfl, by show 3 ≤ 100; decide, fun e he => by
 rcases List.mem_cons.mp he with rfl | he
 · exact .inr ⟨_, .inr rfl, by rw [List.length_map]; have := g.p; lia, fun e he => by obtain ⟨x, _, rfl⟩ := List.mem_map.mp he; exact .inr (.inl ⟨_, rfl⟩)⟩
 · rcases List.mem_cons.mp he with rfl | he
   · exact .inl (.inr (.inl ⟨_, rfl⟩))
   · cases List.mem_singleton.mp he
     exact .inr ⟨_, .inr rfl, by rw [List.length_map, g.l]; lia, fun e he => by
      obtain ⟨x, _, rfl⟩ := List.mem_map.mp he
      cases x with
      | none => exact .inl rfl
      | some k => exact .inr (.inl ⟨_, rfl⟩)⟩⟩
section
variable {P : Program} {w : World} {K : PySem.W.Frag} {mg : Str → Option Value} {base : Heap}
theorem ok_same0 {f : Addr} {fd : FuncData} (F : Fun K "_law_same" "_law_same" sLSame f fd) (T : Txt mg) : FnOk P w K mg base CX0 1 f fd ["_law_found", "_law_due"] (spA (sameS P0)) := by
 refine fnA F scLSame (fun ds Qd h => ?_) (fun cdv A outer s H E hr => ⟨_, (s_cons (s_if (t_isN (dv 1))
 (s_one (s_ret (d_isN (dv 0))))
 s_nil)
 (s_cons (s_if (d_val (d_isi (T := "bool") (by decide) T.isi (pa_cons (dv 1) (pa_cons (pe_bltn (v := .ty "bool") (by rfl) T.bool boot_bool' rfl) pa_nil))))
 (s_one (s_ret (d_and (d_isi (T := "bool") (by decide) T.isi (pa_cons (dv 0) (pa_cons (pe_bltn (v := .ty "bool") (by rfl) T.bool boot_bool' rfl) pa_nil))) (d_one (d_eq (dv 0) (dv 1))))))
 s_nil)
 (s_cons (s_if (d_val (d_isi4 (dv 1) T.isi T.lst T.tup))
 (s_cons (s_if (PW.pt (w_or (t_ne (d_isi (T := "list") (by decide) T.isi (pa_cons (dv 0) (pa_cons (pe_bltn (v := .ty "list") (by rfl) T.lst boot_list' rfl) pa_nil))) (d_isi (T := "list") (by decide) T.isi (pa_cons (dv 1) (pa_cons (pe_bltn (v := .ty "list") (by rfl) T.lst boot_list' rfl) pa_nil)))) (w_or1 (t_ne (d_isi (T := "tuple") (by decide) T.isi (pa_cons (dv 0) (pa_cons (pe_bltn (v := .ty "tuple") (by rfl) T.tup boot_tuple' rfl) pa_nil))) (d_isi (T := "tuple") (by decide) T.isi (pa_cons (dv 1) (pa_cons (pe_bltn (v := .ty "tuple") (by rfl) T.tup boot_tuple' rfl) pa_nil)))))))
 (s_one (s_ret d_bl))
 s_nil)
 (s_one (s_ret (d_and (d_eq (d_len T.len (a_cons (dv 0) a_nil)) (d_len T.len (a_cons (dv 1) a_nil))) (d_one (d_all rfl T.all (a_cons (Ov.ev (o_comp (N := ["_law_one", "_law_other"]) (nt := 2) (js := []) ⟨rfl, by decide +kernel, by decide, rfl, by decide +kernel, (by show ∀ x ∈ (_ : List (Str × NameKind)), x.2 = NameKind.free → (defScope sLSame).names.lookup x.1 = some .cell ∨ (defScope sLSame).names.lookup x.1 = some .free; decide +kernel)⟩ rfl (i_zip (a_cons (dv 0) (a_cons (dv 1) a_nil)) fun z => pi_zip (by rfl) T.zip z) (fun _ _ _ _ _ => pg_tup rfl (pgs_cons (pg_name (i := 0) (show (["_law_one", "_law_other"] : List Str).Nodup by decide +kernel) rfl (by first | exact Or.inl rfl | exact Or.inr rfl)) (pgs_cons (pg_name (i := 1) (show (["_law_one", "_law_other"] : List Str).Nodup by decide +kernel) rfl (by first | exact Or.inl rfl | exact Or.inr rfl)) pgs_nil))) glow_pair gpair_read (fun _ _ _ _ _ => f_nil) (fun _ _ _ _ _ => d_never))) a_nil)))))))
 s_nil)
 (s_cons (s_if (d_val (d_isi (T := "str") (by decide) T.isi (pa_cons (dv 1) (pa_cons (pe_bltn (v := .ty "str") (by rfl) T.str boot_str' rfl) pa_nil))))
 (s_one (s_ret (d_and (d_isi (T := "str") (by decide) T.isi (pa_cons (dv 0) (pa_cons (pe_bltn (v := .ty "str") (by rfl) T.str boot_str' rfl) pa_nil))) (d_one (d_eq (dv 0) (dv 1))))))
 s_nil)
 (s_one (s_ret (d_and (d_isi (T := "int") (by decide) T.isi (pa_cons (dv 0) (pa_cons (pe_bltn (v := .ty "int") (by rfl) T.int boot_int' rfl) pa_nil))) (d_and (d_not (d_isi (T := "bool") (by decide) T.isi (pa_cons (dv 0) (pa_cons (pe_bltn (v := .ty "bool") (by rfl) T.bool boot_bool' rfl) pa_nil)))) (d_one (d_eq (dv 0) (dv 1))))))))))), fun ds Qd h => ?_⟩)
 · obtain ⟨d, rfl, _⟩ := h; rfl
 · obtain ⟨d, rfl, a, q⟩ := h
   rcases a with rfl | ⟨i, rfl⟩ | ⟨b, rfl⟩ | ⟨x, rfl⟩
   · exact ⟨_, rfl, _, rfl, iteT ⟨_, rfl, q⟩⟩
   · refine ⟨_, rfl, _, rfl, iteF ⟨_, rfl, _, rfl, _, rfl, iteF ⟨_, rfl, _, rfl, _, rfl, iteF ⟨_, rfl, _, rfl, _, rfl, iteF ?_⟩⟩⟩⟩
     exact ⟨_, rfl, _, rfl, _, rfl, iteT ⟨_, rfl, _, rfl, _, rfl, _, rfl, iteT ⟨_, rfl, _, rfl, true, (show some (decide _) = some true from congrArg some (decide_eq_true rfl)), q⟩⟩⟩
   · refine ⟨_, rfl, _, rfl, iteF ⟨_, rfl, _, rfl, _, rfl, iteT ?_⟩⟩
     exact ⟨_, rfl, _, rfl, _, rfl, iteT ⟨_, rfl, _, rfl, true, (show some (decide _) = some true from congrArg some (decide_eq_true rfl)), q⟩⟩
   · refine ⟨_, rfl, _, rfl, iteF ⟨_, rfl, _, rfl, _, rfl, iteF ⟨_, rfl, _, rfl, _, rfl, iteF ⟨_, rfl, _, rfl, _, rfl, iteT ?_⟩⟩⟩⟩
     exact ⟨_, rfl, _, rfl, _, rfl, iteT ⟨_, rfl, _, rfl, true, (show some (decide _) = some true from congrArg some (decide_eq_true rfl)), q⟩⟩
theorem ok_same {k : Nat} {p : Dt → Prop} {f : Addr} {fd : FuncData} (F : Fun K "_law_same" "_law_same" sLSame f fd) (T : Txt mg) (NLSame : Has P w K mg base "_law_same" k ["_law_found", "_law_due"] (spA (sameS p))) : FnOk P w K mg base CX0 (k + 1) f fd ["_law_found", "_law_due"] (spA (sameS (Up p))) := by
 refine fnA F scLSame (fun ds Qd h => ?_) (fun cdv A outer s H E hr => ⟨_, (s_cons (s_if (t_isN (dv 1))
 (s_one (s_ret (d_isN (dv 0))))
 s_nil)
 (s_cons (s_if (d_val (d_isi (T := "bool") (by decide) T.isi (pa_cons (dv 1) (pa_cons (pe_bltn (v := .ty "bool") (by rfl) T.bool boot_bool' rfl) pa_nil))))
 (s_one (s_ret (d_and (d_isi (T := "bool") (by decide) T.isi (pa_cons (dv 0) (pa_cons (pe_bltn (v := .ty "bool") (by rfl) T.bool boot_bool' rfl) pa_nil))) (d_one (d_eq (dv 0) (dv 1))))))
 s_nil)
 (s_cons (s_if (d_val (d_isi4 (dv 1) T.isi T.lst T.tup))
 (s_cons (s_if (PW.pt (w_or (t_ne (d_isi (T := "list") (by decide) T.isi (pa_cons (dv 0) (pa_cons (pe_bltn (v := .ty "list") (by rfl) T.lst boot_list' rfl) pa_nil))) (d_isi (T := "list") (by decide) T.isi (pa_cons (dv 1) (pa_cons (pe_bltn (v := .ty "list") (by rfl) T.lst boot_list' rfl) pa_nil)))) (w_or1 (t_ne (d_isi (T := "tuple") (by decide) T.isi (pa_cons (dv 0) (pa_cons (pe_bltn (v := .ty "tuple") (by rfl) T.tup boot_tuple' rfl) pa_nil))) (d_isi (T := "tuple") (by decide) T.isi (pa_cons (dv 1) (pa_cons (pe_bltn (v := .ty "tuple") (by rfl) T.tup boot_tuple' rfl) pa_nil)))))))
 (s_one (s_ret d_bl))
 s_nil)
 (s_one (s_ret (d_and (d_eq (d_len T.len (a_cons (dv 0) a_nil)) (d_len T.len (a_cons (dv 1) a_nil))) (d_one (d_all rfl T.all (a_cons (Ov.ev (o_comp (N := ["_law_one", "_law_other"]) (nt := 2) (js := []) ⟨rfl, by decide +kernel, by decide, rfl, by decide +kernel, (by show ∀ x ∈ (_ : List (Str × NameKind)), x.2 = NameKind.free → (defScope sLSame).names.lookup x.1 = some .cell ∨ (defScope sLSame).names.lookup x.1 = some .free; decide +kernel)⟩ rfl (i_zip (a_cons (dv 0) (a_cons (dv 1) a_nil)) fun z => pi_zip (by rfl) T.zip z) (fun _ _ _ _ _ => pg_tup rfl (pgs_cons (pg_name (i := 0) (show (["_law_one", "_law_other"] : List Str).Nodup by decide +kernel) rfl (by first | exact Or.inl rfl | exact Or.inr rfl)) (pgs_cons (pg_name (i := 1) (show (["_law_one", "_law_other"] : List Str).Nodup by decide +kernel) rfl (by first | exact Or.inl rfl | exact Or.inr rfl)) pgs_nil))) glow_pair gpair_read (fun _ _ _ _ _ => f_nil) (fun _ _ _ _ _ => (d_fnA NLSame hr (a_cons (dv 0) (a_cons (dv 1) a_nil)))))) a_nil)))))))
 s_nil)
 (s_cons (s_if (d_val (d_isi (T := "str") (by decide) T.isi (pa_cons (dv 1) (pa_cons (pe_bltn (v := .ty "str") (by rfl) T.str boot_str' rfl) pa_nil))))
 (s_one (s_ret (d_and (d_isi (T := "str") (by decide) T.isi (pa_cons (dv 0) (pa_cons (pe_bltn (v := .ty "str") (by rfl) T.str boot_str' rfl) pa_nil))) (d_one (d_eq (dv 0) (dv 1))))))
 s_nil)
 (s_one (s_ret (d_and (d_isi (T := "int") (by decide) T.isi (pa_cons (dv 0) (pa_cons (pe_bltn (v := .ty "int") (by rfl) T.int boot_int' rfl) pa_nil))) (d_and (d_not (d_isi (T := "bool") (by decide) T.isi (pa_cons (dv 0) (pa_cons (pe_bltn (v := .ty "bool") (by rfl) T.bool boot_bool' rfl) pa_nil)))) (d_one (d_eq (dv 0) (dv 1))))))))))), fun ds Qd h => ?_⟩)
 · obtain ⟨d, rfl, _⟩ := h; rfl
 · obtain ⟨d, rfl, hd, q⟩ := h
   rcases hd with a | ⟨es, rfl | rfl, el, pe⟩
   · rcases a with rfl | ⟨i, rfl⟩ | ⟨b, rfl⟩ | ⟨x, rfl⟩
     · exact ⟨_, rfl, _, rfl, iteT ⟨_, rfl, q⟩⟩
     · refine ⟨_, rfl, _, rfl, iteF ⟨_, rfl, _, rfl, _, rfl, iteF ⟨_, rfl, _, rfl, _, rfl, iteF ⟨_, rfl, _, rfl, _, rfl, iteF ?_⟩⟩⟩⟩
       exact ⟨_, rfl, _, rfl, _, rfl, iteT ⟨_, rfl, _, rfl, _, rfl, _, rfl, iteT ⟨_, rfl, _, rfl, true, (show some (decide _) = some true from congrArg some (decide_eq_true rfl)), q⟩⟩⟩
     · refine ⟨_, rfl, _, rfl, iteF ⟨_, rfl, _, rfl, _, rfl, iteT ?_⟩⟩
       exact ⟨_, rfl, _, rfl, _, rfl, iteT ⟨_, rfl, _, rfl, true, (show some (decide _) = some true from congrArg some (decide_eq_true rfl)), q⟩⟩
     · refine ⟨_, rfl, _, rfl, iteF ⟨_, rfl, _, rfl, _, rfl, iteF ⟨_, rfl, _, rfl, _, rfl, iteF ⟨_, rfl, _, rfl, _, rfl, iteT ?_⟩⟩⟩⟩
       exact ⟨_, rfl, _, rfl, _, rfl, iteT ⟨_, rfl, _, rfl, true, (show some (decide _) = some true from congrArg some (decide_eq_true rfl)), q⟩⟩
   · refine ⟨_, rfl, _, rfl, iteF ⟨_, rfl, _, rfl, _, rfl, iteF ⟨_, rfl, _, rfl, _, rfl, iteT ?_⟩⟩⟩
     refine ⟨_, rfl, _, rfl, _, rfl, _, rfl, true, rfl, _, rfl, iteF ⟨_, rfl, _, rfl, _, rfl, _, rfl, true, rfl, _, rfl, iteF ?_⟩⟩
     refine ⟨_, rfl, _, .inl rfl, _, rfl, _, .inl rfl, true, eq2N.trans (by simp), _, rfl, iteT ?_⟩
     refine ⟨_, rfl, _, rfl, false, false, _, _, rfl, ?_, fun _ => true, fun _ => .bl true, fun e he => ?_, ?_⟩
     · unfold zipD; rw [List.length_zipWith, Nat.min_self]; exact Nat.le_trans el (by decide)
     · obtain ⟨i, hi, ei⟩ := List.getElem_of_mem he
       unfold zipD at hi ei
       rw [List.getElem_zipWith] at ei
       subst ei
       exact ⟨_, _, rfl, ⟨_, rfl, rfl⟩, ⟨_, rfl, rfl⟩, rfl, fun _ => ⟨_, rfl, _, rfl, _, rfl, pe _ (List.getElem_mem _), rfl⟩⟩
     · refine ⟨List.replicate (zipD es es).length true, ?_, ?_⟩
       · rw [List.filter_eq_self.mpr (fun _ _ => rfl), List.map_replicate]
         congr 2
         exact List.eq_replicate_iff.mpr ⟨by rw [List.length_map], fun b hb => by obtain ⟨_, _, rfl⟩ := List.mem_map.mp hb; rfl⟩
       rw [show (List.replicate (zipD es es).length true).all id = true from List.all_eq_true.mpr fun b hb => (List.eq_of_mem_replicate hb)]
       exact q
   · refine ⟨_, rfl, _, rfl, iteF ⟨_, rfl, _, rfl, _, rfl, iteF ⟨_, rfl, _, rfl, _, rfl, iteT ?_⟩⟩⟩
     refine ⟨_, rfl, _, rfl, _, rfl, _, rfl, true, rfl, _, rfl, iteF ⟨_, rfl, _, rfl, _, rfl, _, rfl, true, rfl, _, rfl, iteF ?_⟩⟩
     refine ⟨_, rfl, _, .inr rfl, _, rfl, _, .inr rfl, true, eq2N.trans (by simp), _, rfl, iteT ?_⟩
     refine ⟨_, rfl, _, rfl, true, true, _, _, rfl, ?_, fun _ => true, fun _ => .bl true, fun e he => ?_, ?_⟩
     · unfold zipD; rw [List.length_zipWith, Nat.min_self]; exact Nat.le_trans el (by decide)
     · obtain ⟨i, hi, ei⟩ := List.getElem_of_mem he
       unfold zipD at hi ei
       rw [List.getElem_zipWith] at ei
       subst ei
       exact ⟨_, _, rfl, ⟨_, rfl, rfl⟩, ⟨_, rfl, rfl⟩, rfl, fun _ => ⟨_, rfl, _, rfl, _, rfl, pe _ (List.getElem_mem _), rfl⟩⟩
     · refine ⟨List.replicate (zipD es es).length true, ?_, ?_⟩
       · rw [List.filter_eq_self.mpr (fun _ _ => rfl), List.map_replicate]
         congr 2
         exact List.eq_replicate_iff.mpr ⟨by rw [List.length_map], fun b hb => by obtain ⟨_, _, rfl⟩ := List.mem_map.mp hb; rfl⟩
       rw [show (List.replicate (zipD es es).length true).all id = true from List.all_eq_true.mpr fun b hb => (List.eq_of_mem_replicate hb)]
       exact q
end
end K29
end
section
namespace LD
open PySem PySem.Spec L2 LB PyProof.Rows LW
abbrev DSO := List Sl → (List Dt → Prop) → Prop
def spSO (S : DSO) : Sp := fun vs H Q _ => ∃ M ss Qd, MOk M H ∧ SlRs M H vs ss ∧ S ss Qd ∧ ∀ ds H1 xs a, Qd ds → Same H H1 → H1 a = none → Reps M H1 xs ds → Q (.ref a) (upd H1 a (.lst xs))
section
variable {P : Program} {w : World} {K : PySem.W.Frag} {mg : Str → Option Value} {base : Heap}
theorem fnSO {x qual : Str} {st : Stmt} {f : Addr} {fd : FuncData} {N ps : List Str} {k : Nat} {S : DSO} {e : Expr} {pos : Pos} (hst : defBody st = [.Return (some e) pos]) (F : Fun K x qual st f fd) (sc : FnScope N ps (defScope st)) (len : ∀ ss Qd, S ss Qd → ss.length = ps.length)
  (hbody : ∀ (cdv : Value) (A : Around) (outer : List Env) (s : Shared) (H : Hp) (E : XK), Room k (A.deeper (envOfC qual (defScope st) s.heap.objs.size f cdv)) →
   ∃ t, Ov (cxOf CX0 P w K mg base N qual (defScope st) f cdv A outer s H E).nox e t ∧ ∀ ss Qd, S ss Qd → t (ss ++ List.replicate (N.length - ps.length) .no) (fun ds _ => Qd ds)) :
  FnOk P w K mg base CX0 (k + 1) f fd ps (spSO S) := by
 refine F.ok sc (fun vs H Q E h => ?_) (fun cdv A outer s H vs Q E hr h => ?_)
 · obtain ⟨M, ss, Qd, al, r, q, _⟩ := h
   rw [r.1]; exact len ss Qd q
 · obtain ⟨M, ss, Qd, al, r, q, kk⟩ := h
   obtain ⟨t, ht, hq⟩ := hbody cdv A outer s H E hr
   rw [hst]
   refine ⟨_, pss_one (ps_ret ht), [⟨H, fun _ => False, M, M, none⟩], M, List.replicate (ss.length + (N.length - ps.length)) [], ss ++ List.replicate (N.length - ps.length) .no, _, ?_, hq ss Qd q, ?_⟩
   · rw [start_of r (len ss Qd q)]
     exact env_startS al r fun W hW => by rw [List.mem_singleton.mp hW]; exact wok_start
   · intro ds δ' H1 xs a q1 E1 c1 r1 h1
     refine kk ds H1 xs a q1 (fun b o e => ?_) h1 r1
     have k := E1.w _ (List.mem_singleton.mpr rfl)
     exact k.bs b o e (fun z => z)
end
section
variable {X : Cx} {y m : Str} {yp pos apos : Pos}
inductive dMeO (S : DSO) (C : Addr) (i : Nat) (m : Str) (δ : List Sl) (Q : List Dt → List Sl → Prop) : Prop
 | mk (fs : List (Str × Dt)) (h1 : δ[i]? = some (.ob (FIn C fs))) (h2 : fs.lookup m = none) (h3 : S [.ob (FIn C fs)] fun r => Q r δ)
theorem o_meF {S : DSO} {C : Addr} {k : Nat} {ps : List Str} (i : Nat) (h : HasM X.prog X.w X.K X.mg X.base CX0 C m k ps (spSO S)) (hr : Room k X.A) (ho : PE X (.Name y yp) (tVar i))
  {pl : Sem Bool} (ht : autoParam (eval (.Call (.Attribute (.Name y yp) m apos) [] [] pos) X.env = (do
   let ov ← eval (.Name y yp) X.env
   standAt apos.atName
   let (f, first) ← holding [ov] (getMethod ov m pl)
   callWith pos f first (backTo pos (starEach [] X.env)) (backToKw pos (keywordEach [] X.env)))) au5._auto_1) : Ov X (.Call (.Attribute (.Name y yp) m apos) [] [] pos) (dMeO S C i m) := by
 obtain ⟨f, fd, hc, hm, hb, F⟩ := h
 refine PE.imp (pe_meth0 ho hc hm F hr hb .nil pass0 ht) fun σ H Q zz1 => ?_
 obtain ⟨W, M, α, δ, Qd, E, ⟨fs, h1, h2, q⟩, k⟩ := zz1
 obtain ⟨o, as, s1, s2, v, rfl, ea, x, dx, vs, rfl, hx, n, l, r⟩ := E.sl i _ h1
 refine ⟨_, s1, x, dx, vs, rfl, hx, (look_rep (f := m) l r).1 h2, ?_⟩
 show spSO S ([V.ref x] ++ []) H Q E0
 exact ⟨M, [.ob (FIn C fs)], _, E.al, .cons ⟨_, rfl, rfl, x, dx, vs, rfl, hx, n, l, r⟩ rfl .nil, q, fun ds H1 xs a q1 s1 h1 r1 => k _ _ _ _ _ q1 (E.same s1) (Chg.of s1) r1 h1⟩
end
end LD
end
section
namespace K29
open PySem PySem.Spec L2 LB LD PyProof.Rows
noncomputable def inCls (i j : Nat) : Stmt := match top i with
 | .ClassDef _ _ _ b _ _ _ _ _ _ _ => b.getD j (.Pass ⟨0, 0, 0, 0⟩)
 | _ => .Pass ⟨0, 0, 0, 0⟩
noncomputable abbrev sNoInit : Stmt := inCls 8 0
noncomputable abbrev sRInit : Stmt := inCls 14 0
noncomputable abbrev sRStep : Stmt := inCls 14 1
noncomputable abbrev sRMay : Stmt := inCls 14 2
noncomputable abbrev sRStand : Stmt := inCls 14 3
noncomputable abbrev sRDone : Stmt := inCls 14 4
noncomputable abbrev sRHang : Stmt := inCls 14 5
noncomputable abbrev sRSteps : Stmt := inCls 14 6
noncomputable abbrev sRBack : Stmt := inCls 14 7
noncomputable abbrev sRTwin : Stmt := inCls 14 8
theorem scNoInit : FnScope ["self", "place"] ["self", "place"] (defScope sNoInit) := ⟨rfl, rfl, rfl, by decide +kernel, rfl, by decide +kernel, by decide +kernel⟩
theorem scRInit : FnScope ["self", "n"] ["self", "n"] (defScope sRInit) := ⟨rfl, rfl, rfl, by decide +kernel, rfl, by decide +kernel, by decide +kernel⟩
theorem scRStep : FnScope ["self", "word"] ["self", "word"] (defScope sRStep) := ⟨rfl, rfl, rfl, by decide +kernel, rfl, by decide +kernel, by decide +kernel⟩
theorem scRMay : FnScope ["self"] ["self"] (defScope sRMay) := ⟨rfl, rfl, rfl, by decide +kernel, rfl, by decide +kernel, by decide +kernel⟩
theorem scRStand : FnScope ["self"] ["self"] (defScope sRStand) := ⟨rfl, rfl, rfl, by decide +kernel, rfl, by decide +kernel, by decide +kernel⟩
theorem scRDone : FnScope ["self", "pile", "ahead", "ons"] ["self"] (defScope sRDone) := ⟨rfl, rfl, rfl, by decide +kernel, rfl, by decide +kernel, by decide +kernel⟩
theorem scRHang : FnScope ["self"] ["self"] (defScope sRHang) := ⟨rfl, rfl, rfl, by decide +kernel, rfl, by decide +kernel, by decide +kernel⟩
theorem scRBack : FnScope ["self", "word", "before"] ["self"] (defScope sRBack) := ⟨rfl, rfl, rfl, by decide +kernel, rfl, by decide +kernel, by decide +kernel⟩
theorem scRTwin : FnScope ["self", "other"] ["self"] (defScope sRTwin) := ⟨rfl, rfl, rfl, by decide +kernel, rfl, by decide +kernel, by decide +kernel⟩
theorem scRSteps : FnScope ["self"] ["self"] (defScope sRSteps) := ⟨rfl, rfl, rfl, by decide +kernel, rfl, by decide +kernel, by decide +kernel⟩
structure RdK (K : PySem.W.Frag) (C : Addr) : Prop where
 cl : Cls K C
 n1 : NoAttr K C "now"
 n2 : NoAttr K C "past"
noncomputable def pD (p : Str × St) : Dt := .tup [.str p.1, p.2.dt]
noncomputable def flds (s : St) (l : List (Str × St)) : List (Str × Dt) := [("now", s.dt), ("past", .lst (l.map pD))]
noncomputable abbrev rdF (C : Addr) (s : St) (l : List (Str × St)) : Sl := .ob (FIn C (flds s l))
noncomputable def isDone (s : St) : Bool := decide (s.b = s.ons.length + 1) && decide (s.pile.length = 1)
noncomputable def zD : Option Nat → Dt
 | none => nI 0
 | some k => nI k
noncomputable def hangD (s : St) : Dt := if isDone s = true then .tup (s.ons.map zD) else .non
def mayM (C : Addr) : DSO := fun ss Q => ∃ s l, ss = [rdF C s l] ∧ Fine s ∧ Q (mayL s)
def standM (C : Addr) : DS := fun ss Q => ∃ s l, ss = [rdF C s l] ∧ Q s.dt
def doneM (C : Addr) : DS := fun ss Q => ∃ s l, ss = [rdF C s l] ∧ Q (.bl (isDone s))
def hangM (C : Addr) : DS := fun ss Q => ∃ s l, ss = [rdF C s l] ∧ s.ons.length ≤ 100 ∧ Q (hangD s)
def stepsM (C : Addr) : DSO := fun ss Q => ∃ s l, ss = [rdF C s l] ∧ l.length ≤ 100 ∧ Q (l.map fun p => .str p.1)
theorem may_atm {s : St} {d : Dt} (h : d ∈ mayL s) : Atm d := by
 unfold mayL at h
 rcases List.mem_append.mp h with h | h
 · rcases List.mem_append.mp h with h | h
   · split at h
     · rw [List.mem_singleton.mp h]; exact .str _
     · exact absurd h List.not_mem_nil
   · split at h
     · rw [List.mem_singleton.mp h]; exact .str _
     · exact absurd h List.not_mem_nil
 · split at h
   · rw [List.mem_singleton.mp h]; exact .str _
   · exact absurd h List.not_mem_nil
theorem eqZZ {x y : Nat} {z : Int} (h : z = (x : Int)) : eq2 (.int z) (nI y) = some (decide (x = y)) := by rw [h]; exact eq2N
theorem eqNZ {x y : Nat} {z : Int} (h : z = (y : Int)) : eq2 (nI x) (.int z) = some (decide (x = y)) := by rw [h]; exact eq2N
noncomputable def fst1 : Dt → Dt
 | .tup (d :: _) => d
 | d => d
noncomputable def unN : Dt → Dt
 | .non => nI 0
 | d => d
theorem un_o : ∀ {l : List (Option Nat)}, (l.map oD).map unN = l.map zD
 | [] => rfl
 | none :: l => congrArg (nI 0 :: ·) (un_o (l := l))
 | some k :: l => congrArg (nI k :: ·) (un_o (l := l))
theorem flt_stand {s : St} : FlT s.dt := .tup fun d hd => by
 rcases List.mem_cons.mp hd with rfl | hd
 · exact .tup fun d hd => by obtain ⟨_, _, rfl⟩ := List.mem_map.mp hd; exact .int _
 rcases List.mem_cons.mp hd with rfl | hd
 · exact .int _
 · cases List.mem_singleton.mp hd
   exact .tup fun d hd => by
    obtain ⟨x, _, rfl⟩ := List.mem_map.mp hd
    cases x with
    | none => exact .non
    | some k => exact .int _
section
variable {P : Program} {w : World} {K : PySem.W.Frag} {mg : Str → Option Value} {base : Heap} {C : Addr}
theorem ok_rmay {f : Addr} {fd : FuncData} {q : Str} (F : Fun K "may" q sRMay f fd) (R : RdK K C) (NStepsFrom : Has P w K mg base "steps_from" 1 ["stand"] (spA mayS)) : FnOk P w K mg base CX0 2 f fd ["self"] (spSO (mayM C)) := by
 refine fnSO rfl F scRMay (fun ss Qd h => ?_) (fun cdv A outer s H E hr => ⟨_, o_fnA NStepsFrom (hr.mono (by decide)) (a_cons (d_fldF 0 (pv 0)) a_nil), fun ss Qd h => ?_⟩)
 · obtain ⟨s, l, rfl, _⟩ := h; rfl
 · obtain ⟨s, l, rfl, fi, q⟩ := h
   refine ⟨C, flds s l, s.dt, rfl, rfl, R.cl, R.n1, ?_⟩
   exact ⟨fun d hd => by rw [List.mem_singleton.mp hd]; exact flt_stand, s, rfl, fi, _, rfl, fun d hd => may_atm hd, q⟩
theorem ok_rstand {f : Addr} {fd : FuncData} {q : Str} (F : Fun K "stand" q sRStand f fd) (R : RdK K C) : FnOk P w K mg base CX0 1 f fd ["self"] (spS (standM C)) := by
 refine fnS F scRStand (fun ss Qd h => ?_) (fun cdv A outer s H E hr => ⟨_, s_one (s_ret (d_fldF 0 (pv 0))), fun ss Qd h => ?_⟩)
 · obtain ⟨s, l, rfl, _⟩ := h; rfl
 · obtain ⟨s, l, rfl, q⟩ := h
   exact ⟨C, flds s l, s.dt, rfl, rfl, R.cl, R.n1, q⟩
theorem ok_rdone {f : Addr} {fd : FuncData} {q : Str} (F : Fun K "is_done" q sRDone f fd) (T : Txt mg) (R : RdK K C) : FnOk P w K mg base CX0 1 f fd ["self"] (spS (doneM C)) := by
 refine fnS F scRDone (fun ss Qd h => ?_) (fun cdv A outer s H E hr => ⟨_, (s_cons (s_asg (d_fldF 0 (pv 0)) (g_trip 1 2 3 rfl scRDone.nd)) (s_one (s_ret (d_and (d_eq (dv 2) (d_add (d_len T.len (a_cons (dv 3) a_nil)) d_int)) (d_one (d_eq (d_len T.len (a_cons (dv 1) a_nil)) d_int)))))), fun ss Qd h => ?_⟩)
 · obtain ⟨s, l, rfl, _⟩ := h; rfl
 · obtain ⟨s, l, rfl, q⟩ := h
   refine ⟨C, flds s l, s.dt, rfl, rfl, R.cl, R.n1, _, _, _, rfl, ⟨_, rfl, rfl⟩, ⟨_, rfl, rfl⟩, ⟨_, rfl, rfl⟩, ?_⟩
   refine ⟨_, rfl, _, rfl, _, .inr rfl, _, _, rfl, rfl, _, eqNZ (y := s.ons.length + 1) (by rw [List.length_map]; rfl), _, rfl, ?_⟩
   unfold isDone at q
   by_cases c : s.b = s.ons.length + 1
   · rw [decide_eq_true c] at q ⊢
     refine iteT ⟨_, rfl, _, .inr rfl, _, eqZZ (y := 1) (by rw [List.length_map]), ?_⟩
     rw [Bool.true_and] at q
     exact q
   · rw [decide_eq_false c] at q ⊢
     exact iteF q
theorem ok_rsteps {f : Addr} {fd : FuncData} {q : Str} (F : Fun K "steps" q sRSteps f fd) (R : RdK K C) : FnOk P w K mg base CX0 1 f fd ["self"] (spSO (stepsM C)) := by
 refine fnSO rfl F scRSteps (fun ss Qd h => ?_) (fun cdv A outer s H E hr => ⟨_, (o_comp (N := ["word", "before"]) (nt := 2) (js := []) ⟨rfl, by decide +kernel, by decide, rfl, by decide +kernel, (by show ∀ x ∈ (_ : List (Str × NameKind)), x.2 = NameKind.free → (defScope sRSteps).names.lookup x.1 = some .cell ∨ (defScope sRSteps).names.lookup x.1 = some .free; decide +kernel)⟩ rfl (i_list (d_fldF 0 (pv 0))) (fun _ _ _ _ _ => pg_tup rfl (pgs_cons (pg_name (i := 0) (show (["word", "before"] : List Str).Nodup by decide +kernel) rfl (by first | exact Or.inl rfl | exact Or.inr rfl)) (pgs_cons (pg_name (i := 1) (show (["word", "before"] : List Str).Nodup by decide +kernel) rfl (by first | exact Or.inl rfl | exact Or.inr rfl)) pgs_nil))) glow_pair gpair_read (fun _ _ _ _ _ => f_nil) (fun _ _ _ _ _ => dv 0)), fun ss Qd h => ?_⟩)
 · obtain ⟨s, l, rfl, _⟩ := h; rfl
 · obtain ⟨s, l, rfl, l100, q⟩ := h
   refine ⟨C, flds s l, .lst (l.map pD), rfl, rfl, R.cl, R.n2, _, rfl, ?_⟩
   refine ⟨by rw [List.length_map]; exact Nat.le_trans l100 (by decide), fun _ => true, fst1, fun d hd => ?_, ?_⟩
   · obtain ⟨p, _, rfl⟩ := List.mem_map.mp hd
     exact ⟨_, _, rfl, ⟨_, rfl, rfl⟩, ⟨_, rfl, rfl⟩, rfl, fun _ => ⟨_, rfl, rfl⟩⟩
   · rw [List.filter_eq_self.mpr (fun _ _ => rfl), List.map_map]
     exact q
theorem ok_rhang {f : Addr} {fd : FuncData} {q : Str} (F : Fun K "hanging" q sRHang f fd) (T : Txt mg) (R : RdK K C) (NDone : HasM P w K mg base CX0 C "is_done" 1 ["self"] (spS (doneM C))) : FnOk P w K mg base CX0 2 f fd ["self"] (spS (hangM C)) := by
 refine fnS F scRHang (fun ss Qd h => ?_) (fun cdv A outer s H E hr => ⟨_, (s_cons (s_if (t_not (d_val (d_meF 0 NDone (hr.mono (by decide)) (pv 0)))) (s_one (s_ret d_non)) s_nil)
  (s_one (s_ret (d_tuple T.tup (a_cons (Ov.ev (o_comp (N := ["on"]) (nt := 1) (js := []) ⟨rfl, by decide +kernel, by decide, rfl, by decide +kernel, (by show ∀ x ∈ (_ : List (Str × NameKind)), x.2 = NameKind.free → (defScope sRHang).names.lookup x.1 = some .cell ∨ (defScope sRHang).names.lookup x.1 = some .free; decide +kernel)⟩ rfl (i_tup (d_ix (d_fldF 0 (pv 0)) d_int)) (fun _ _ _ _ _ => pg_name (i := 0) (show (["on"] : List Str).Nodup by decide +kernel) rfl (by first | exact Or.inl rfl | exact Or.inr rfl)) glow_name gname_read (fun _ _ _ _ _ => f_nil) (fun _ _ _ _ _ => d_ifExp (t_isN (dv 0)) d_int (dv 0)))) a_nil))))), fun ss Qd h => ?_⟩)
 · obtain ⟨s, l, rfl, _⟩ := h; rfl
 · obtain ⟨s, l, rfl, o100, q⟩ := h
   refine ⟨flds s l, rfl, rfl, s, l, rfl, _, rfl, ?_⟩
   unfold hangD at q
   cases c : isDone s with
   | false =>
    rw [c, if_neg Bool.false_ne_true] at q
    exact iteT q
   | true =>
    rw [c, if_pos rfl] at q
    refine iteF ⟨C, flds s l, s.dt, rfl, rfl, R.cl, R.n1, _, _, _, .inr rfl, rfl, rfl, _, rfl, by rw [List.length_map]; exact Nat.le_trans o100 (by decide), fun _ => true, unN, fun d hd => ?_, ?_⟩
    · obtain ⟨x, _, rfl⟩ := List.mem_map.mp hd
      refine ⟨⟨_, rfl, rfl⟩, rfl, fun _ => ⟨_, rfl, _, rfl, ?_⟩⟩
      cases x with
      | none => exact iteT rfl
      | some k => exact iteF ⟨_, rfl, rfl⟩
    · rw [List.filter_eq_self.mpr (fun _ _ => rfl), un_o]
      exact ⟨_, .inl rfl, q⟩
end
end K29
end
section
namespace K29
open PySem PySem.Spec L2 LB LD PyProof.Rows
theorem ps_nev {X : Cx} {st : Stmt} : PS X st (fun _ _ _ => False) := fun _ _ _ _ _ _ h => h.elim
structure OwnR (C : Addr) (M : Addr → Prop) (H : Hp) (x dx p : Addr) (vn : V) (xs : List V) (s : St) (l : List (Str × St)) : Prop where
 hx : H x = some (.ins C dx [("now", vn), ("past", .ref p)])
 hd : H dx = some (.own x)
 hp : H p = some (.lst xs)
 rn : Rep M H vn s.dt
 rp : Reps M H xs (l.map pD)
theorem OwnR.px {C : Addr} {M : Addr → Prop} {H : Hp} {x dx p : Addr} {vn : V} {xs : List V} {s : St} {l : List (Str × St)} (o : OwnR C M H x dx p vn xs s l) : p ≠ x := fun z => by have := o.hp; rw [z, o.hx] at this; cases this
theorem OwnR.dp {C : Addr} {M : Addr → Prop} {H : Hp} {x dx p : Addr} {vn : V} {xs : List V} {s : St} {l : List (Str × St)} (o : OwnR C M H x dx p vn xs s l) : dx ≠ p := fun z => by have := o.hd; rw [z, o.hp] at this; cases this
theorem OwnR.dx {C : Addr} {M : Addr → Prop} {H : Hp} {x dx p : Addr} {vn : V} {xs : List V} {s : St} {l : List (Str × St)} (o : OwnR C M H x dx p vn xs s l) : dx ≠ x := fun z => by have := o.hd; rw [z, o.hx] at this; cases this
def Mb (M : Addr → Prop) (x p : Addr) : Addr → Prop := fun a => M a ∧ a ≠ x ∧ a ≠ p
theorem OwnR.frz {C : Addr} {M : Addr → Prop} {H : Hp} {x dx p : Addr} {vn : V} {xs : List V} {s : St} {l : List (Str × St)} (o : OwnR C M H x dx p vn xs s l) : SlR (Mb M x p) H (some (.ref x)) (rdF C s l) [] := by
 have mo : ∀ a u, H a = some u → ¬ M a → H a = some u ∧ ¬ Mb M x p a := fun a u e n => ⟨e, fun z => n z.1⟩
 exact ⟨_, rfl, rfl, x, dx, _, rfl, o.hx, fun z => z.2.1 rfl, rfl, .cons (o.rn.mono mo) (.one (Rep.toLst o.hp (fun z => z.2.2 rfl) (o.rp.mono mo)))⟩
theorem mok_b {M : Addr → Prop} {H : Hp} {x p : Addr} (al : MOk M H) : MOk (Mb M x p) H := fun a h => al a h.1
def spRInit (C : Addr) : Sp := fun vs H Q _ => ∃ (M : Addr → Prop) (x dx : Addr) (n : Nat), vs = [.ref x, .int (n : Int)] ∧ MOk M H ∧ H x = some (.ins C dx []) ∧ H dx = some (.own x) ∧ 1 ≤ n ∧ n ≤ 1000 ∧
 ∀ (H' : Hp) (p : Addr) (vn : V), (∀ b o, H b = some o → b ≠ x → H' b = some o) → H' x = some (.ins C dx [("now", vn), ("past", .ref p)]) → H p = none → H' p = some (.lst []) → Rep (fun a => M a ∨ a = x ∨ a = dx ∨ a = p) H' vn (first n).dt → Q .non H'
def spStepO (C : Addr) : Sp := fun vs H Q _ => ∃ (M : Addr → Prop) (x dx p : Addr) (vn : V) (xs : List V) (s : St) (l : List (Str × St)) (w : Str), vs = [.ref x, .str w] ∧ MOk M H ∧ M x ∧ M p ∧ OwnR C M H x dx p vn xs s l ∧ Fine s ∧ okB s w = true ∧ l.length ≤ 100 ∧
 ∀ (H' : Hp) (vn' : V) (xs' : List V), (∀ b o, H b = some o → b ≠ x → b ≠ p → H' b = some o) → OwnR C M H' x dx p vn' xs' (stp s w) (l ++ [(w, s)]) → Q .non H'
def stepN (C : Addr) (ss : List Sl) (Q : Dt → Prop) (E : Int → Prop) : Prop := ∃ s l w, ss = [rdF C s l, .im (.str w)] ∧ Fine s ∧ okB s w = false ∧ E ((l.length : Nat) : Int)
section
variable {P : Program} {w : World} {K : PySem.W.Frag} {mg : Str → Option Value} {base : Heap} {C : Addr}
theorem ok_init {f : Addr} {fd : FuncData} {qual : Str} (F : Fun K "__init__" qual sNoInit f fd) : FnOk P w K mg base CX0 1 f fd ["self", "place"] (spInit K "place") := by
 refine F.ok scNoInit (fun vs H Q E h => ?_) (fun cdv A outer s H vs Q E hr h => ⟨_, pss_one (ps_xset (pv 0) (pv 1) rfl), ?_⟩)
 · obtain ⟨ea, C, t, v, rfl, _⟩ := h; rfl
 · obtain ⟨ea, C, t, v, rfl, h1, S, q⟩ := h
   exact ⟨_, rfl, _, rfl, ea, C, t, rfl, h1, S, fun dx hdx => q dx hdx⟩
theorem ok_rinit {f : Addr} {fd : FuncData} {q : Str} (F : Fun K "__init__" q sRInit f fd) (R : RdK K C) (NFirst : Has P w K mg base "first_stand" 1 ["n"] (spA firstS)) : FnOk P w K mg base CX0 2 f fd ["self", "n"] (spRInit C) := by
 refine F.ok scRInit (fun vs H Q E h => ?_) (fun cdv A outer s H vs Q E hr h => ⟨_, pss_cons (ps_fld (pv 0) (pe_has NFirst (hr.mono (by decide)) rfl (pa_cons (pv 1) pa_nil)) rfl) (pss_one (ps_fld (pv 0) (pe_lst pa_nil) rfl)), ?_⟩)
 · obtain ⟨M, x, dx, n, rfl, _⟩ := h; rfl
 · obtain ⟨M, x, dx, n, rfl, al, hx, hdx, n1, n2, kk⟩ := h
   have al' : MOk (fun a => M a ∨ a = x ∨ a = dx) H := fun a h => h.elim (al a) fun z => z.elim (fun z => by rw [z]; exact ⟨_, hx, fun xs y => by cases y⟩) fun z => by rw [z]; exact ⟨_, hdx, fun xs y => by cases y⟩
   refine ⟨_, rfl, ?_⟩
   show spA firstS [V.int (n : Int)] H _ E0
   refine ⟨fun a => M a ∨ a = x ∨ a = dx, [nI n], fun d => d = (first n).dt, al', .one (.int _), ⟨n, rfl, n1, n2, rfl⟩, fun d H1 v1 hd s1 r1 => ?_⟩
   subst hd
   refine ⟨_, rfl, x, C, dx, _, rfl, s1 _ _ hx, R.cl, R.n1, by decide, ?_⟩
   refine ⟨by show 0 ≤ sizeLine; decide, fun p hp => ?_⟩
   have px : p ≠ x := fun z => by rw [z, upd_same] at hp; cases hp
   have hp1 : H1 p = none := by rw [upd_ne px] at hp; exact hp
   have hp0 : H p = none := by
    cases e : H p with
    | none => rfl
    | some o => rw [s1 _ _ e] at hp1; cases hp1
   refine ⟨_, rfl, x, C, dx, [("now", v1)], rfl, by rw [upd_ne (Ne.symm px), upd_same]; rfl, R.cl, R.n2, by show 1 < 1000; decide, ?_⟩
   refine kk _ p v1 (fun b o e n => ?_) upd_same hp0 (by rw [upd_ne px, upd_same]) ?_
   · rw [upd_ne n, upd_ne (fun z => by rw [z, hp0] at e; cases e), upd_ne n]; exact s1 _ _ e
   · refine r1.mono fun a o e n => ⟨?_, fun z => ?_⟩
     · have ax : a ≠ x := fun z => n (.inr (.inl z))
       rw [upd_ne ax, upd_ne (fun z => by rw [z, hp1] at e; cases e), upd_ne ax]; exact e
     · rcases z with z | z | z | z
       · exact n (.inl z)
       · exact n (.inr (.inl z))
       · exact n (.inr (.inr z))
       · rw [z, hp1] at e; cases e
theorem ok_rstepN {f Cn fI : Addr} {fd fdI : FuncData} {q : Str} {bmB bmN : List Value} {newId Bn inN B nid initId : String} (F : Fun K "step" q sRStep f fd) (T : Txt mg) (R : RdK K C) (NStepsFrom : Has P w K mg base "steps_from" 1 ["stand"] (spA mayS))
  (O : LX.OwnInit "NoStep" Cn fI bmB newId mg base) (Fn : ExcBaseFacts Bn newId inN bmN) (hBn : bmB.contains (.type Bn) = true) (FB : ExcBaseFacts B nid initId bmB) (FI : FnOk P w K mg base CX0 1 fI fdI ["self", "place"] (spInit K "place")) (hb : Binds K fdI ["self", "place"] []) (S : ExcS K Cn "place") :
  FnOk P w K mg base (CX2 P w) 3 f fd ["self", "word"] (spSY "place" Cn (stepN C)) := by
 refine fnSY (k := 2) F scRStep (fun ss Qd Ed h => ?_) (fun cdv A outer s H E hr hxe => ⟨_, (y_cons (y_if (t_notin (dv 1) (d_fnA NStepsFrom (hr.mono (by decide)) (a_cons (d_fldF 0 (pv 0)) a_nil)))
 (y_one (y_raise O Fn hBn FB FI hb S (hr.mono (by decide)) rfl (a_cons (d_len T.len (a_cons (d_fldF 0 (pv 0)) a_nil)) a_nil) hxe))
 y_nil)
 (y_cons (y_of s_never) (y_one (y_of s_never)))), fun ss Qd Ed h => ?_⟩)
 · obtain ⟨s, l, w, rfl, _⟩ := h; rfl
 · obtain ⟨s, l, w, rfl, fi, c, q⟩ := h
   refine ⟨_, rfl, C, flds s l, s.dt, rfl, rfl, R.cl, R.n1, s, rfl, fi, _, .inl rfl, rfl, may_flat, _, rfl, ?_⟩
   show if (!inD (.str w) (mayL s)) = true then _ else _
   rw [in_may, c]
   refine iteT ⟨C, flds s l, .lst (l.map pD), rfl, rfl, R.cl, R.n2, _, .inl rfl, _, rfl, ?_⟩
   rw [List.length_map]
   exact q
theorem ok_rstepO {f : Addr} {fd : FuncData} {q : Str} (F : Fun K "step" q sRStep f fd) (T : Txt mg) (R : RdK K C) (NStepsFrom : Has P w K mg base "steps_from" 1 ["stand"] (spA mayS)) (NBehind : Has P w K mg base "behind" 1 ["stand", "word"] (spA behindS)) :
  FnOk P w K mg base CX0 2 f fd ["self", "word"] (spStepO C) := by
 refine F.ok scRStep (fun vs H Q E h => ?_) (fun cdv A outer s H vs Q E hr h => ⟨_, pss_cons (ps_if (t_notin (dv 1) (d_fnA NStepsFrom (hr.mono (by decide)) (a_cons (d_fldF 0 (pv 0)) a_nil))) (pss_one ps_nev) pss_nil)
  (pss_cons (ps_expr (pe_bm PySem.F.plainAttrs_list PySem.F.slot_list_append PySem.F.type_list_append mt_append (pe_fld (pv 0) rfl) (pa_cons (pe_tup (pa_cons (pv 1) (pa_cons (pe_fld (pv 0) rfl) pa_nil))) pa_nil) rfl rfl rfl rfl rfl))
  (pss_one (ps_fld (pv 0) (pe_has NBehind (hr.mono (by decide)) rfl (pa_cons (pe_fld (pv 0) rfl) (pa_cons (pv 1) pa_nil))) rfl))), ?_⟩)
 · obtain ⟨M, x, dx, p, vn, xs, s, l, w, rfl, _⟩ := h; rfl
 · obtain ⟨M, x, dx, p, vn, xs, s, l, w, rfl, al, mx, mp, o, fi, c, l100, kk⟩ := h
   have E0' : EnvR [] (Mb M x p) [[], []] H [some (.ref x), some (.str w)] [rdF C s l, .im (.str w)] := env_startS (n := 0) (vs := [.ref x, .str w]) (ss := [rdF C s l, .im (.str w)]) (mok_b al) (.cons o.frz rfl (.cons (s := .im (.str w)) ⟨rfl, _, rfl, .str _⟩ rfl .nil)) fun W hW => absurd hW List.not_mem_nil
   refine ⟨[], Mb M x p, [[], []], [rdF C s l, .im (.str w)], fun b δ => b = false, E0', ?_, fun b δ' H1 hb E1 c1 => ?_⟩
   · refine ⟨_, rfl, C, flds s l, s.dt, rfl, rfl, R.cl, R.n1, s, rfl, fi, _, .inl rfl, rfl, may_flat, _, rfl, ?_⟩
     show (!inD (.str w) (mayL s)) = false
     rw [in_may, c]; rfl
   subst hb
   have s1 : Same H H1 := fun b u e => c1 b u e (by simp)
   refine iteF ?_
   refine ⟨_, rfl, x, C, dx, _, _, rfl, s1 _ _ o.hx, R.cl, R.n2, rfl, .inl ⟨rfl, _, SqL.of (s1 _ _ o.hp)⟩, ?_⟩
   refine ⟨_, rfl, _, rfl, x, C, dx, _, _, rfl, s1 _ _ o.hx, R.cl, R.n1, rfl, by show 2 ≤ sizeLine; decide, fun t ht => ?_⟩
   have ht0 : H t = none := by
    cases e : H t with
    | none => rfl
    | some u => rw [s1 _ _ e] at ht; cases ht
   have nt : ∀ {b u}, H b = some u → b ≠ t := fun e z => by rw [z, ht0] at e; cases e
   have tp : t ≠ p := Ne.symm (nt o.hp)
   have tx : t ≠ x := Ne.symm (nt o.hx)
   refine ⟨p, xs, _, rfl, rfl, by rw [upd_ne (nt o.hp)]; exact s1 _ _ o.hp, ?_, ?_⟩
   · rw [o.rp.1, List.length_map]; exact Nat.lt_of_le_of_lt l100 (by decide)
   generalize hH3 : upd (upd H1 t (.tup [.str w, vn])) p (.lst (xs ++ [.ref t])) = H3
   have k3 : ∀ b u, H b = some u → b ≠ p → H3 b = some u := fun b u e n => by rw [← hH3, upd_ne n, upd_ne (nt e)]; exact s1 _ _ e
   have hx3 : H3 x = some (.ins C dx [("now", vn), ("past", .ref p)]) := k3 _ _ o.hx (Ne.symm o.px)
   have rn3 : Rep M H3 vn s.dt := o.rn.mono fun a u e n => ⟨k3 a u e fun z => n (z ▸ mp), n⟩
   have ht3 : H3 t = some (.tup [.str w, vn]) := by rw [← hH3, upd_ne tp, upd_same]
   have hp3 : H3 p = some (.lst (xs ++ [.ref t])) := by rw [← hH3, upd_same]
   have al3 : MOk M H3 := fun a h => by
    obtain ⟨u, e, n⟩ := al a h
    by_cases z : a = p
    · rw [z]; exact ⟨_, hp3, fun xs y => by cases y⟩
    · exact ⟨u, k3 _ _ e z, n⟩
   refine ⟨_, rfl, x, C, dx, _, _, rfl, hx3, R.cl, R.n1, rfl, _, rfl, ?_⟩
   show spA behindS [vn, V.str w] H3 _ E0
   refine ⟨M, [s.dt, .str w], fun d => d = (stp s w).dt, al3, .cons rn3 (.one (.str _)), step_behind fi c rfl, fun d H4 v4 hd s4 r4 => ?_⟩
   subst hd
   refine ⟨_, rfl, x, C, dx, _, rfl, s4 _ _ hx3, R.cl, R.n1, by show 2 < 1000; decide, ?_⟩
   refine kk _ v4 (xs ++ [.ref t]) (fun b u e n1 n2 => by rw [upd_ne n1]; exact s4 _ _ (k3 _ _ e n2)) ⟨upd_same, ?_, ?_, ?_, ?_⟩
   · rw [upd_ne o.dx]; exact s4 _ _ (k3 _ _ o.hd o.dp)
   · rw [upd_ne o.px]; exact s4 _ _ hp3
   · exact r4.mono fun a u e n => ⟨by rw [upd_ne (show a ≠ x from fun z => n (by rw [z]; exact mx))]; exact e, n⟩
   · have m5 : ∀ a u, H3 a = some u → ¬ M a → upd H4 x (.ins C dx (putF "now" v4 [("now", vn), ("past", .ref p)])) a = some u ∧ ¬ M a := fun a u e n => ⟨by rw [upd_ne (show a ≠ x from fun z => n (by rw [z]; exact mx))]; exact s4 _ _ e, n⟩
     rw [List.map_append]
     refine ((o.rp.mono fun a u e n => ⟨k3 a u e fun z => n (z ▸ mp), n⟩).mono m5).append (.one ?_)
     exact (Rep.toTup ht3 (al.fresh ht0) (.cons (.str _) (.one rn3))).mono m5
end
end K29
end
section
namespace L2
open PySem PySem.Spec PyProof.Rows LXi
section
variable {X : Cx}
def tTryM (K : PySem.W.Frag) (C0 C : Addr) (m : Str) (sp : Sp) (ie : Nat) (to : TE) (t : TA) (ts : TS) : TS := fun D σ H => to σ H fun x H1 => ∃ a dx fs, x = .ref a ∧ H1 a = some (.ins C dx fs) ∧ fs.lookup m = none ∧ t σ H1 fun vs H2 => sp (x :: vs) H2 (fun _ H3 => D.nx σ H3) (exWish2 K C0 ts D ie σ)
theorem ps_tryMeth2 {k : Nat} {f C C0 : Addr} {fd : FuncData} {ps : List Str} {sp : Sp} {y m n c : Str} {ie : Nat} {yp cpos apos epos cp hp pos : Pos} {e : Expr} {es : List Expr} {to : TE} {t : TA} {b₀ : Stmt} {suite : List Stmt} {ts : TS} {pl : Sem Bool}
  (ho : PE X.nox (.Name y yp) to) (hc : Cls X.K C) (hm : Meth X.K C m f) (F : FnOk X.prog X.w X.K X.mg X.base (CX2 X.prog X.w) k f fd ps sp) (hr : Room k X.A) (hb : Binds X.K fd ps []) (ha : PA X.nox (e :: es) t)
  (hN : X.N.Nodup) (hmc : X.mg c = some (.ref C0)) (hs : ∀ ea, PSs (X.marked ea) (b₀ :: suite) ts)
  (hgc : autoParam (Gl X c) au5._auto_1) (hst : autoParam (X.stack = X.env :: X.outer) au5._auto_1) (hfr : autoParam (X.env.frame = some X.env.locals) au5._auto_1) (hie : autoParam (X.N[ie]? = some n) au5._auto_1) (hkn : autoParam (X.env.scope.names.lookup n = some .local) au5._auto_1)
  (hdc : autoParam ((c == ("__debug__" : Str)) = false) au2._auto_1) (he : autoParam (starEach (e :: es) X.env = (false, eval e X.env) :: starEach es X.env) au5._auto_1) (hpl : autoParam ((backTo cpos (starEach es X.env)).any (·.1) = false) au5._auto_1)
  (ht : autoParam (eval (.Call (.Attribute (.Name y yp) m apos) (e :: es) [] cpos) X.env = (do
   let ov ← eval (.Name y yp) X.env
   standAt apos.atName
   let (f, first) ← holding [ov] (getMethod ov m pl)
   callWith cpos f first (backTo cpos (starEach (e :: es) X.env)) (backToKw cpos (keywordEach [] X.env)))) au5._auto_1)
  (hsw : autoParam (swapsWith (.Call (.Attribute (.Name y yp) m apos) (e :: es) [] cpos) none epos.line X.env = pure false) au5._auto_1) :
  PS X (.Try [.Expr (.Call (.Attribute (.Name y yp) m apos) (e :: es) [] cpos) epos] [.ExceptHandler (some (.Name c cp)) (some n) (b₀ :: suite) hp] [] [] pos) (tTryM X.K C0 C m sp ie to t ts) := by
 intro pins s σ H D I h
 rw [arm_exec_Try]
 refine wpAny_bind (wpAny_standAt (wpAny_tryStmt_except ?_))
 refine wpAny_execs_cons (wpAny_mono (Q := fun f s1 => f = .next ∧ SP X pins D .next s1) (wpAny_Expr_any ?_ I.quiet hsw) (fun f s1 q => ?_) fun _ _ z => z)
 · refine PySem.W.methodCall_KW (pl := pl) (wpAny_mono (ho pins s σ H _ (I.wish _) h) (fun u s1 zz => ?_) fun _ _ z => z.elim) ht
   obtain ⟨x, H1, I1, rx, a, dx, fs, ex, ea, l, q⟩ := zz
   subst ex
   obtain rfl : u = Value.ref a := rx
   have I1 := I1.unwish
   refine getmeth_ok I1 ea hc hm l ?_
   refine PySem.W.callWith_K (first := [.ref a]) (h₀ := X.base) I.ok.mod.kin hm.kp (wpAny_mono (ha cpos pins s1 σ H1 _ (I1.wish _) q) (fun us s2 zz => ?_) fun _ _ z => z.elim) he hpl
   obtain ⟨vs, H2, I2, r, q2⟩ := zz
   refine ⟨I2.kIn, ?_⟩
   have I2 := I2.unwish
   have r2 : Vals (V.ref a :: vs) (Value.ref a :: us) := .cons rfl r
   have hl : (Value.ref a :: us).length = ps.length := by rw [← r2.length]; exact F.len _ _ _ _ q2
   refine wpAny_call (codeAny_mono (F.run X.A X.stack s2 H2 ⟨Value.ref a :: us, []⟩ (Value.ref a :: us) (V.ref a :: vs) _ _ hr I2.env0 (by have := hb s2 (Value.ref a :: us) I2.kIn (by simpa using hl); simpa using this) r2 q2) fun rr s' hq => ?_)
   cases rr with
   | error ev => exact caught_ok2 I2 hN hst hfr hie hkn hgc hmc hs hq hdc
   | ok fl =>
    cases fl with
    | ret u =>
     obtain ⟨v, H3, I3, r3, q3⟩ := I2.after hq
     exact ⟨rfl, σ, H3, I3, q3⟩
    | next => exact False.elim hq
    | brk => exact False.elim hq
    | cont => exact False.elim hq
 · obtain ⟨rfl, q⟩ := q
   exact wpAny_execs_nil (wpAny_execs_nil q)
end
end L2
end
section
namespace K29
open PySem PySem.Spec L2 LB LD PyProof.Rows
def caughtS (C : Addr) : DS := fun ss Q => ∃ s l w, ss = [.im (nI l.length), rdF C s l, .im (.str w)] ∧ Fine s ∧ okB s w = false ∧ Q (.bl true)
theorem SlRs.un {M : Addr → Prop} {H : Hp} {vs : List V} {s : Sl} {ss : List Sl} (h : SlRs M H vs (s :: ss)) : ∃ v ws, vs = v :: ws ∧ SlR M H (some v) s [] ∧ SlRs M H ws ss := by
 cases vs with
 | nil => have := h.1; simp at this
 | cons v ws => exact ⟨v, ws, rfl, (h.2 0 v s rfl rfl).1, ⟨by have := h.1; simpa using this, fun i x t h1 h2 => h.2 (i + 1) x t (by simpa using h1) (by simpa using h2)⟩⟩
theorem SlRs.un0 {M : Addr → Prop} {H : Hp} {vs : List V} (h : SlRs M H vs []) : vs = [] := List.length_eq_zero_iff.mp (by rw [h.1]; rfl)
section
variable {P : Program} {w : World} {K : PySem.W.Frag} {mg : Str → Option Value} {base : Heap} {C : Addr}
theorem ok_caught {f Cn C0 c1 c2 c3 c4 c5 c6 c7 : Addr} {fd : FuncData} (F : Fun K "_law_caught" "_law_caught" sLCaught f fd) (T : Txt mg) (hV : mg "ValueError" = none) (NStep : HasM P w K mg base (CX2 P w) C "step" 3 ["self", "word"] (spSY "place" Cn (stepN C)))
  (g0 : mg "HangError" = some (.ref C0)) (gC : mg "NoStep" = some (.ref Cn)) (g1 : mg "Apart" = some (.ref c1)) (g2 : mg "BadSheet" = some (.ref c2)) (g3 : mg "BadText" = some (.ref c3)) (g4 : mg "NoEntry" = some (.ref c4)) (g5 : mg "NoHanging" = some (.ref c5)) (g6 : mg "NoPlain" = some (.ref c6)) (g7 : mg "NoSum" = some (.ref c7))
  (Fm : LX.Fam K Cn C0 [c1, c2, c3, c4, c5, c6]) (F7 : PySem.W.kitOne K (.ref Cn) (.ref c7) = some false) (XF : ExcF K Cn "place") : FnOk P w K mg base CX0 4 f fd ["_law_place", "_law_reader", "_law_word"] (spS (caughtS C)) := by
 obtain ⟨fs, fds, hc, hm, hb, FS⟩ := NStep
 refine F.ok scLCaught (fun vs H Q E h => ?_) (fun cdv A outer s H vs Q E hr h => ⟨_, pss_cons (ps_set (i := 3) scLCaught.nd rfl (Or.inl rfl) pe_non)
  (pss_cons (ps_tryMeth2 (ie := 4) (pv 1) hc hm FS (hr.mono (by decide)) hb (pa_cons (pv 2) pa_nil) scLCaught.nd g0 (fun ea => pss_one (ps_set (i := 3) scLCaught.nd rfl (Or.inl rfl) (pv 4))))
  (pss_cons (ps_if (PW.pt (pw_or (pt_not (pt_val (pe_callB call_isx2 (by rfl) T.isi boot_isinstance (pa_cons (pv 3) (pa_cons (pe_glob (v := .ref Cn) (by rfl) gC rfl) pa_nil)))))
   (pw_or1 (pt_val (pe_callB call_isx2 (by rfl) T.isi boot_isinstance (pa_cons (pv 3) (pa_cons (@pe_tup _ _ _ _ _ (@pa_cons _ _ _ _ _ (pe_glob (v := .ref c1) (by rfl) g1 rfl) (@pa_cons _ _ _ _ _ (pe_glob (v := .ref c2) (by rfl) g2 rfl) (@pa_cons _ _ _ _ _ (pe_glob (v := .ref c3) (by rfl) g3 rfl) (@pa_cons _ _ _ _ _ (pe_glob (v := .ref c4) (by rfl) g4 rfl) (@pa_cons _ _ _ _ _ (pe_glob (v := .ref c5) (by rfl) g5 rfl) (@pa_cons _ _ _ _ _ (pe_glob (v := .ref c6) (by rfl) g6 rfl) pa_nil rfl) rfl) rfl) rfl) rfl) rfl)) pa_nil)))))))
   (pss_one (ps_ret pe_bl)) pss_nil)
  (pss_cons (ps_if (PW.pt (pw_or (pt_val (pe_callB call_isx2 (by rfl) T.isi boot_isinstance (pa_cons (pv 3) (pa_cons (pe_glob (v := .ref c7) (by rfl) g7 rfl) pa_nil))))
   (pw_or (pt_not (pt_val (pe_callB call_isx2 (by rfl) T.isi boot_isinstance (pa_cons (pv 3) (pa_cons (pe_bltn (v := .ty "ValueError") (by rfl) hV (by decide +kernel) rfl) pa_nil)))))
   (pw_or1 (pt_val (pe_callB (isi_ok (T := "bool") (by decide)) (by rfl) T.isi boot_isinstance (pa_cons (pe_place (pv 3) rfl) (pa_cons (pe_bltn (v := .ty "bool") (by rfl) T.bool boot_bool' rfl) pa_nil))))))))
   (pss_one (ps_ret pe_bl)) pss_nil)
  (pss_one (ps_ret (pe_and (pe_callB (isi_ok (T := "int") (by decide)) (by rfl) T.isi boot_isinstance (pa_cons (pe_place (pv 3) rfl) (pa_cons (pe_bltn (v := .ty "int") (by rfl) T.int boot_int' rfl) pa_nil))) (pe_one (pe_cmp (pc_eqI (pe_place (pv 3) rfl) (pv 0)))))))))), ?_⟩)
 · obtain ⟨M, ss, Qd, al, r, ⟨s, l, w, rfl, _⟩, _⟩ := h
   rw [r.1]; rfl
 · obtain ⟨M, ss, Qd, al, r, ⟨s, l, w, rfl, fi, c, q⟩, kk⟩ := h
   obtain ⟨v0, ws, rfl, ⟨_, _, e0, r0⟩, r1⟩ := SlRs.un r
   obtain ⟨v1, ws, rfl, sr, r2⟩ := SlRs.un r1
   obtain ⟨v2, ws, rfl, ⟨_, _, e2, r2'⟩, r3⟩ := SlRs.un r2
   cases SlRs.un0 r3
   cases e0
   cases e2
   cases r0.ofInt
   cases r2'.ofStr
   have sr0 := sr
   obtain ⟨_, e1, _, x, dx, fvs, ev, hx, nx, lk, rr⟩ := sr
   cases e1
   subst ev
   refine ⟨_, rfl, x, dx, fvs, rfl, hx, (look_rep (f := "step") lk rr).1 rfl, _, rfl, ?_⟩
   refine ⟨M, [rdF C s l, .im (.str w)], fun _ => False, fun n => n = ((l.length : Nat) : Int), al, .cons sr0 rfl (.cons (s := .im (.str w)) ⟨rfl, _, rfl, .str _⟩ rfl .nil), ⟨s, l, w, rfl, fi, c, rfl⟩, fun _ _ _ z => z.elim, fun p dxe H' hp sm hdx => ?_⟩
   refine ⟨dxe, Cn, rfl, rfl, Fm.up, fun ea hn => ?_⟩
   have ne0 : dxe ≠ ea := fun z => by rw [z, hn] at hdx; cases hdx
   have s1 : Same H (upd H' ea (.ext (LX.excD ea Cn dxe))) := fun b o e => by
    have := sm b o e
    rw [upd_ne (fun z => by rw [z, hn] at this; cases this)]
    exact this
   refine ⟨_, rfl, ?_⟩
   refine ⟨_, rfl, ea, Cn, dxe, _, true, rfl, upd_same, Fm.k, .inl ⟨Cn, rfl, kit_self⟩, _, rfl, iteF ?_⟩
   refine ⟨_, rfl, by show 6 ≤ sizeLine; decide, fun p1 hp1 => ?_⟩
   have ne2 : ea ≠ p1 := fun z => by rw [← z, upd_same] at hp1; cases hp1
   have ne3 : dxe ≠ p1 := fun z => by rw [← z, upd_ne ne0, hdx] at hp1; cases hp1
   have e1 : upd (upd H' ea (.ext (LX.excD ea Cn dxe))) p1 (.tup [.ref c1, .ref c2, .ref c3, .ref c4, .ref c5, .ref c6]) ea = some (.ext (LX.excD ea Cn dxe)) := by rw [upd_ne ne2, upd_same]
   have e2 : upd (upd H' ea (.ext (LX.excD ea Cn dxe))) p1 (.tup [.ref c1, .ref c2, .ref c3, .ref c4, .ref c5, .ref c6]) dxe = some (.xd [("place", .int p)]) := by rw [upd_ne ne3, upd_ne ne0]; exact hdx
   have s2 : Same H (upd (upd H' ea (.ext (LX.excD ea Cn dxe))) p1 (.tup [.ref c1, .ref c2, .ref c3, .ref c4, .ref c5, .ref c6])) := fun b o e => by
    have := s1 b o e
    rw [upd_ne (fun z => by rw [z, hp1] at this; cases this)]
    exact this
   refine ⟨ea, Cn, dxe, _, false, rfl, e1, Fm.k, .inr (.inr ⟨p1, [c1, c2, c3, c4, c5, c6], rfl, upd_same, Fm.no⟩), _, rfl, iteF ?_⟩
   generalize upd (upd H' ea (.ext (LX.excD ea Cn dxe))) p1 (.tup [.ref c1, .ref c2, .ref c3, .ref c4, .ref c5, .ref c6]) = H5 at e1 e2 s2 ⊢
   refine ⟨_, rfl, ea, Cn, dxe, _, false, rfl, e1, Fm.k, .inl ⟨c7, rfl, F7⟩, _, rfl, iteF ?_⟩
   refine ⟨_, rfl, ea, Cn, dxe, _, true, rfl, e1, Fm.k, .inr (.inl ⟨_, rfl, Fm.ve⟩), _, rfl, iteF ?_⟩
   refine ⟨_, rfl, ea, Cn, dxe, _, .int p, rfl, e1, e2, rfl, XF, _, _, rfl, rfl, _, rfl, iteF ?_⟩
   refine ⟨_, rfl, ea, Cn, dxe, _, .int p, rfl, e1, e2, rfl, XF, _, _, rfl, rfl, _, rfl, iteT ?_⟩
   refine ⟨_, rfl, ea, Cn, dxe, _, .int p, rfl, e1, e2, rfl, XF, ?_⟩
   subst hp
   refine ⟨_, rfl, _, _, rfl, rfl, ?_⟩
   show Q (V.bl (decide (((l.length : Nat) : Int) = ((l.length : Nat) : Int)))) H5
   rw [decide_eq_true rfl]
   exact kk _ _ _ q s2 (.bl _)
end
end K29
end
section
namespace K29
open PySem PySem.Spec L2 LB LD PyProof.Rows
structure Wk (n m : Nat) (s : St) : Prop where
 g : Good n m s
 bl : s.b ≤ n + 1
 nd : s.pile.Nodup
 lt : ∀ w ∈ s.pile, w < s.b
 un : ∀ w, 1 ≤ w → w ≤ n → (s.ons[w - 1]? = some none ↔ w ∈ s.pile ∨ s.b ≤ w)
theorem wk_first (n : Nat) : Wk n 0 (first n) := by
 refine ⟨good_first n, by show 1 ≤ n + 1; lia, List.nodup_nil, fun w hw => absurd hw List.not_mem_nil, fun w h1 h2 => ⟨fun _ => .inr h1, fun _ => ?_⟩⟩
 show (List.replicate n none)[w - 1]? = some none
 rw [List.getElem?_replicate, if_pos (by lia)]
theorem wk_tie {n m : Nat} {s : St} {on : Nat} (k : Wk n m s) (g : Good n (m + 1) (s.tie on)) (ne : s.pile ≠ []) : Wk n (m + 1) (s.tie on) := by
 obtain ⟨q, h, e⟩ : ∃ q h, s.pile = q ++ [h] := ⟨s.pile.dropLast, s.pile.getLast ne, (List.dropLast_concat_getLast ne).symm⟩
 have hl : s.pile.getLastD 1 = h := by rw [e]; simp
 have hd : s.pile.dropLast = q := by rw [e]; simp
 have nd := k.nd
 have lt := k.lt
 have rg := k.g.rng
 rw [e] at nd lt rg
 have hq : h ∉ q := fun z => by
  have := List.nodup_append.mp nd
  exact this.2.2 h z h List.mem_cons_self rfl
 have hb : h < s.b := lt h (by simp)
 have h1 : 1 ≤ h ∧ h ≤ n := rg h (by simp)
 refine ⟨g, k.bl, ?_, fun w hw => ?_, fun w w1 w2 => ?_⟩
 · show s.pile.dropLast.Nodup
   rw [hd]
   exact (List.nodup_append.mp nd).1
 · have hw : w ∈ s.pile.dropLast := hw
   rw [hd] at hw
   exact lt w (List.mem_append_left _ hw)
 · show (s.ons.set (s.pile.getLastD 1 - 1) (some on))[w - 1]? = some none ↔ w ∈ s.pile.dropLast ∨ s.b ≤ w
   rw [hl, hd]
   have hu := k.un w w1 w2
   rw [e] at hu
   have lo := k.g.l
   by_cases c : w = h
   · subst c
     rw [List.getElem?_set_self (by lia)]
     exact ⟨fun z => (by cases z), fun z => z.elim (fun y => absurd y hq) fun y => by lia⟩
   · rw [List.getElem?_set_ne (by lia), hu, List.mem_append, List.mem_singleton]
     exact ⟨fun z => z.elim (fun y => y.elim .inl fun x => absurd x c) .inr, fun z => z.elim (fun y => .inl (.inl y)) .inr⟩
theorem wk_step {n m : Nat} {s : St} {w : Str} (k : Wk n m s) (h : okB s w = true) : Wk n (m + 1) (stp s w) := by
 have g := good_step k.g h
 rcases ok_cases h with ⟨_, c, e⟩ | ⟨_, c, e⟩ | ⟨_, c, e⟩
 · rw [e] at g ⊢
   have c' : s.b ≤ s.ons.length := of_decide_eq_true c
   have lo := k.g.l
   refine ⟨g, by show s.b + 1 ≤ n + 1; lia, ?_, fun w hw => ?_, fun w w1 w2 => ?_⟩
   · show (s.pile ++ [s.b]).Nodup
     refine List.nodup_append.mpr ⟨k.nd, List.nodup_cons.mpr ⟨List.not_mem_nil, List.nodup_nil⟩, fun a ha b hb z => ?_⟩
     have := k.lt a ha
     rw [List.mem_singleton.mp hb] at z
     lia
   · rcases List.mem_append.mp (show w ∈ s.pile ++ [s.b] from hw) with z | z
     · exact Nat.lt_succ_of_lt (k.lt w z)
     · rw [List.mem_singleton.mp z]; exact Nat.lt_succ_self _
   · show s.ons[w - 1]? = some none ↔ w ∈ s.pile ++ [s.b] ∨ s.b + 1 ≤ w
     rw [k.un w w1 w2, List.mem_append, List.mem_singleton]
     constructor
     · rintro (z | z)
       · exact .inl (.inl z)
       · by_cases c : w = s.b
         · exact .inl (.inr c)
         · exact .inr (by lia)
     · rintro ((z | z) | z)
       · exact .inl z
       · exact .inr (by lia)
       · exact .inr (by lia)
 · rw [e] at g ⊢
   refine wk_tie k g fun z => ?_
   unfold canNext at c
   rw [z] at c
   simp at c
 · rw [e] at g ⊢
   refine wk_tie k g fun z => ?_
   have c : 1 < s.pile.length := of_decide_eq_true c
   rw [z] at c
   exact absurd c (by simp)
theorem done_iff {n m : Nat} {s : St} (k : Wk n m s) : isDone s = true ↔ ¬ (s.b ≤ s.ons.length ∨ s.pile.length ≠ 1) := by
 have lo := k.g.l
 have bl := k.bl
 unfold isDone
 rw [Bool.and_eq_true, decide_eq_true_iff, decide_eq_true_iff]
 constructor
 · rintro ⟨a, b⟩ (c | c)
   · lia
   · exact c b
 · intro h
   exact ⟨by by_cases c : s.b ≤ s.ons.length; · exact absurd (.inl c) h
             · lia, by by_cases c : s.pile.length = 1; · exact c
                       · exact absurd (.inr c) h⟩
theorem hang_end {n m : Nat} {s : St} (k : Wk n m s) : hangD s = endD s := by
 have lo := k.g.l
 unfold hangD endD
 by_cases c : isDone s = true
 · rw [if_pos c, if_neg ((done_iff k).mp c)]
   have c2 := c
   unfold isDone at c2
   rw [Bool.and_eq_true, decide_eq_true_iff, decide_eq_true_iff] at c2
   obtain ⟨t, e⟩ := List.length_eq_one_iff.mp c2.2
   have rg := k.g.rng
   rw [e] at rg
   have ht := rg t List.mem_cons_self
   rw [e]
   congr 1
   refine List.ext_getElem (by simp) fun i h1 h2 => ?_
   rw [List.length_map] at h1
   have hu := k.un (i + 1) (by lia) (by lia)
   rw [e, Nat.add_sub_cancel, List.getElem?_eq_getElem h1] at hu
   rw [List.getElem_map, List.getElem_map, List.getElem_set]
   show zD s.ons[i] = oD (if t - 1 = i then some 0 else s.ons[i])
   by_cases d : t - 1 = i
   · rw [if_pos d]
     have : s.ons[i] = none := Option.some.inj (hu.mpr (.inl (by rw [List.mem_singleton]; lia)))
     rw [this]; rfl
   · rw [if_neg d]
     cases z : s.ons[i] with
     | none =>
      rw [z] at hu
      rcases hu.mp rfl with y | y
      · rw [List.mem_singleton] at y; lia
      · lia
     | some k => rfl
 · rw [if_neg c, if_pos (Classical.byContradiction fun z => c ((done_iff k).mpr z))]
theorem done_end {n m : Nat} {s : St} (k : Wk n m s) : isDone s = !(endD s).isN := by
 rw [← hang_end k]
 unfold hangD
 cases isDone s <;> rfl
end K29
end
section
namespace K29
open PySem PySem.Spec L2 LB LD PyProof.Rows
def spBackO (C : Addr) : Sp := fun vs H Q _ => ∃ (M : Addr → Prop) (x dx p : Addr) (vn : V) (xs : List V) (s : St) (l : List (Str × St)), vs = [.ref x] ∧ MOk M H ∧ M x ∧ M p ∧ OwnR C M H x dx p vn xs s l ∧
 (l = [] → Q .non H) ∧ ∀ l0 w s0, l = l0 ++ [(w, s0)] → ∀ (H' : Hp) (vn' : V) (xs' : List V), (∀ b o, H b = some o → b ≠ x → b ≠ p → H' b = some o) → OwnR C M H' x dx p vn' xs' s0 l0 → Q (.str w) H'
def spTwinO (C : Addr) : Sp := fun vs H Q _ => ∃ (M : Addr → Prop) (x dx p : Addr) (vn : V) (xs : List V) (s : St) (l : List (Str × St)), vs = [.ref x] ∧ MOk M H ∧ M x ∧ M p ∧ OwnR C M H x dx p vn xs s l ∧ 1 ≤ s.ons.length ∧ s.ons.length ≤ 100 ∧
 ∀ (H' : Hp) (y dy q : Addr) (ys : List V), Same H H' → H y = none → H q = none → H dy = none → OwnR C (fun b => M b ∨ b = y ∨ b = q ∨ b = dy) H' y dy q vn ys s l → Q (.ref y) H'
theorem OwnR.keep {C : Addr} {M M' : Addr → Prop} {H H' : Hp} {x dx p : Addr} {vn : V} {xs : List V} {s : St} {l : List (Str × St)} (o : OwnR C M H x dx p vn xs s l) (k1 : ∀ a u, H a = some u → a = x ∨ a = dx ∨ a = p → H' a = some u) (k2 : ∀ a u, H a = some u → ¬ M a → H' a = some u ∧ ¬ M' a) : OwnR C M' H' x dx p vn xs s l :=
 ⟨k1 _ _ o.hx (.inl rfl), k1 _ _ o.hd (.inr (.inl rfl)), k1 _ _ o.hp (.inr (.inr rfl)), o.rn.mono k2, o.rp.mono k2⟩
section
variable {P : Program} {w : World} {K : PySem.W.Frag} {mg : Str → Option Value} {base : Heap} {C : Addr}
theorem ok_rback {f : Addr} {fd : FuncData} {q : Str} (F : Fun K "back" q sRBack f fd) (R : RdK K C) : FnOk P w K mg base CX0 1 f fd ["self"] (spBackO C) := by
 refine F.ok scRBack (fun vs H Q E h => ?_) (fun cdv A outer s H vs Q E hr h => ⟨_, pss_cons (ps_if (pt_not (pt_truth (pe_fld (pv 0) rfl) (by intro _; rfl))) (pss_one (ps_ret pe_non)) pss_nil) (pss_cons (ps_asg (pe_bm0 PySem.F.plainAttrs_list PySem.F.slot_list_pop PySem.F.type_list_pop mt_pop (pe_fld (pv 0) rfl) rfl rfl) (pg_tup rfl (pgs_cons (pg_name (i := 1) scRBack.nd rfl (Or.inl rfl)) (pgs_cons (pg_name (i := 2) scRBack.nd rfl (Or.inl rfl)) pgs_nil)))) (pss_cons (ps_fld (pv 0) (pv 2) rfl) (pss_one (ps_ret (pv 1))))), ?_⟩)
 · obtain ⟨M, x, dx, p, vn, xs, s, l, rfl, _⟩ := h; rfl
 · obtain ⟨M, x, dx, p, vn, xs, s, l, rfl, al, mx, mp, o, k0, k1⟩ := h
   refine ⟨_, rfl, x, C, dx, _, _, rfl, o.hx, R.cl, R.n2, rfl, _, .inl ⟨xs, SqL.of o.hp, rfl⟩, ?_⟩
   rcases List.eq_nil_or_concat l with e | ⟨l0, ⟨w0, s0⟩, e⟩
   · subst e
     have : xs = [] := List.length_eq_zero_iff.mp (by rw [o.rp.1]; rfl)
     subst this
     exact iteT (k0 rfl)
   · rw [List.concat_eq_append] at e
     subst e
     have rp := o.rp
     rw [List.map_append] at rp
     have xl : xs.length = l0.length + 1 := by rw [rp.1]; simp
     have nx : (!xs.isEmpty) = true := by cases xs with
      | nil => simp at xl
      | cons _ _ => rfl
     have last : ∃ y, xs[xs.length - 1]? = some y ∧ Rep M H y (pD (w0, s0)) := by
      have := rp.get (i := xs.length - 1) (d := pD (w0, s0)) (by rw [xl, Nat.add_sub_cancel, List.getElem?_append_right (by rw [List.length_map]; exact Nat.le_refl _), List.length_map, Nat.sub_self]; rfl)
      exact this
     obtain ⟨y, hy, ry⟩ := last
     have rd : Reps M H xs.dropLast (l0.map pD) := by
      have := rp.take (xs.length - 1)
      rw [← List.dropLast_eq_take, xl, Nat.add_sub_cancel, show l0.length = (l0.map pD).length by rw [List.length_map], List.take_left'] at this
      · exact this
      · rfl
     rw [nx]
     refine iteF ?_
     refine ⟨_, rfl, x, C, dx, _, _, rfl, o.hx, R.cl, R.n2, rfl, .inl ⟨rfl, _, SqL.of o.hp⟩, p, xs, y, rfl, rfl, o.hp, hy, ?_⟩
     obtain ⟨t, ts, rfl, ht, nt, rt⟩ := Rep.ofTup ry
     obtain ⟨y1, ts, rfl, q1, rt⟩ := rt.uncons
     obtain ⟨y2, ts, rfl, q2, rt⟩ := rt.uncons
     cases rt.unnil
     cases q1.ofStr
     have tp : t ≠ p := fun z => nt (z ▸ mp)
     refine ⟨t, _, rfl, SqT.of (by rw [upd_ne tp]; exact ht), rfl, _, _, rfl, _, _, rfl, rfl, ?_⟩
     refine ⟨_, rfl, _, rfl, x, C, dx, _, rfl, by rw [upd_ne (Ne.symm o.px)]; exact o.hx, R.cl, R.n1, by show 2 < 1000; decide, ?_⟩
     refine ⟨_, rfl, ?_⟩
     have k2 : ∀ a u, H a = some u → ¬ M a → upd (upd H p (.lst xs.dropLast)) x (.ins C dx (putF "now" y2 [("now", vn), ("past", .ref p)])) a = some u ∧ ¬ M a := fun a u e n => ⟨by rw [upd_ne (show a ≠ x from fun z => n (by rw [z]; exact mx)), upd_ne (show a ≠ p from fun z => n (by rw [z]; exact mp))]; exact e, n⟩
     refine k1 l0 w0 s0 rfl _ y2 xs.dropLast (fun b u e n1 n2 => by rw [upd_ne n1, upd_ne n2]; exact e) ⟨upd_same, ?_, ?_, q2.mono k2, rd.mono k2⟩
     · rw [upd_ne o.dx, upd_ne o.dp]; exact o.hd
     · rw [upd_ne o.px, upd_same]
theorem ok_rtwin {f fI : Addr} {fd fdI : FuncData} {q : Str} (F : Fun K "twin" q sRTwin f fd) (T : Txt mg) (R : RdK K C) (Mk0 : Mk K C fI) (FI : FnOk P w K mg base CX0 2 fI fdI ["self", "n"] (spRInit C)) (hb : Binds K fdI ["self", "n"] []) (hm : mg "Reader" = some (.ref C)) : FnOk P w K mg base CX0 4 f fd ["self"] (spTwinO C) := by
 refine F.ok scRTwin (fun vs H Q E h => ?_) (fun cdv A outer s H vs Q E hr h => ⟨_, pss_cons (ps_set (i := 1) scRTwin.nd rfl (Or.inl rfl) (pe_make Mk0 FI (hr.mono (by decide)) (by rfl) hm hb .nil pass0 (a_cons (d_len T.len (a_cons (d_ix (d_fldF 0 (pv 0)) d_int) a_nil)) a_nil))) (pss_cons (ps_fld (pv 1) (pe_fld (pv 0) rfl) rfl) (pss_cons (ps_fld (pv 1) (pe_callTy call_list_of (by rfl) T.lst boot_list' (pa_cons (pe_fld (pv 0) rfl) pa_nil) (by decide) (by decide) rfl rfl) rfl) (pss_one (ps_ret (pv 1))))), ?_⟩)
 · obtain ⟨M, x, dx, p, vn, xs, s, l, rfl, _⟩ := h; rfl
 · obtain ⟨M, x, dx, p, vn, xs, s, l, rfl, al, mx, mp, o, n1, n2, kk⟩ := h
   have E0' : EnvR [] (Mb M x p) [[], []] H [some (.ref x), none] [rdF C s l, .no] := env_startS (n := 1) (vs := [.ref x]) (ss := [rdF C s l]) (mok_b al) (.cons o.frz rfl .nil) fun W hW => absurd hW List.not_mem_nil
   refine ⟨[], Mb M x p, [[], []], [rdF C s l, .no], fun ds δ => ds = [nI s.ons.length], E0', ?_, fun ds δ' H1 us hb E1 c1 r1 => ?_⟩
   · refine ⟨C, flds s l, s.dt, rfl, rfl, R.cl, R.n1, _, 2, .tup (s.ons.map oD), .inr rfl, rfl, rfl, _, .inr rfl, ?_⟩
     rw [List.length_map]
     rfl
   subst hb
   have s1 : Same H H1 := fun b u e => c1 b u e (by simp)
   obtain ⟨v, ys, rfl, rv, rn⟩ := r1.uncons
   cases rn.unnil
   cases rv.ofInt
   intro y dy hy hdy ne
   show spRInit C (V.ref y :: ([V.int (s.ons.length : Int)] ++ [])) _ _ E0
   have hy0 : H y = none := by
    cases e : H y with
    | none => rfl
    | some u => rw [s1 _ _ e] at hy; cases hy
   have hdy0 : H dy = none := by
    cases e : H dy with
    | none => rfl
    | some u => rw [s1 _ _ e] at hdy; cases hdy
   have s2 : Same H (upd (upd H1 dy (.own y)) y (.ins C dy [])) := fun b u e => by
    rw [upd_ne (fun z => by rw [z, hy0] at e; cases e), upd_ne (fun z => by rw [z, hdy0] at e; cases e)]; exact s1 _ _ e
   have al2 : MOk M (upd (upd H1 dy (.own y)) y (.ins C dy [])) := fun a h => by
    obtain ⟨u, e, n⟩ := al a h
    exact ⟨u, s2 _ _ e, n⟩
   refine ⟨M, y, dy, s.ons.length, rfl, al2, upd_same, by rw [upd_ne ne, upd_same], n1, by lia, fun H2 q0 v0 keep hy2 hq0 hq2 rn => ⟨rfl, ?_⟩⟩
   have s3 : Same H H2 := fun b u e => keep b u (s2 _ _ e) fun z => by rw [z, hy0] at e; cases e
   have xy : x ≠ y := fun z => by have := o.hx; rw [z, hy0] at this; cases this
   have py : p ≠ y := fun z => by have := o.hp; rw [z, hy0] at this; cases this
   have hd2 : H2 dy = some (.own y) := keep dy _ (by rw [upd_ne ne, upd_same]) ne
   refine ⟨_, rfl, x, C, dx, _, _, rfl, s3 _ _ o.hx, R.cl, R.n1, rfl, _, rfl, y, C, dy, _, rfl, hy2, R.cl, R.n1, by show 2 < 1000; decide, ?_⟩
   refine ⟨_, rfl, x, C, dx, _, _, rfl, by rw [upd_ne xy]; exact s3 _ _ o.hx, R.cl, R.n2, rfl, p, xs, rfl, .inl (SqL.of (by rw [upd_ne py]; exact s3 _ _ o.hp)), fun q1 hq1 => ?_⟩
   have qy : q1 ≠ y := fun z => by rw [z, upd_same] at hq1; cases hq1
   have hq12 : H2 q1 = none := by rw [upd_ne qy] at hq1; exact hq1
   have hq10 : H q1 = none := by
    cases e : H q1 with
    | none => rfl
    | some u => rw [s3 _ _ e] at hq12; cases hq12
   have dq : dy ≠ q1 := fun z => by rw [z, hq12] at hd2; cases hd2
   refine ⟨_, rfl, y, C, dy, _, rfl, by rw [upd_ne (Ne.symm qy), upd_same], R.cl, R.n2, by show 2 < 1000; decide, ?_⟩
   refine ⟨_, rfl, ?_⟩
   generalize hH5 : upd (upd (upd H2 y (.ins C dy (putF "now" vn [("now", v0), ("past", .ref q0)]))) q1 (.lst xs)) y (.ins C dy (putF "past" (.ref q1) (putF "now" vn [("now", v0), ("past", .ref q0)]))) = H5
   have k5 : ∀ b u, H2 b = some u → b ≠ y → H5 b = some u := fun b u e n => by
    rw [← hH5, upd_ne n, upd_ne (fun z => by rw [z, hq12] at e; cases e), upd_ne n]; exact e
   have s5 : Same H H5 := fun b u e => k5 b u (s3 _ _ e) fun z => by rw [z, hy0] at e; cases e
   have k2 : ∀ a u, H a = some u → ¬ M a → H5 a = some u ∧ ¬ (M a ∨ a = y ∨ a = q1 ∨ a = dy) := fun a u e n => ⟨s5 _ _ e, fun z => by
    rcases z with z | z | z | z
    · exact n z
    · rw [z, hy0] at e; cases e
    · rw [z, hq10] at e; cases e
    · rw [z, hdy0] at e; cases e⟩
   refine kk H5 y dy q1 xs s5 hy0 hq10 hdy0 ⟨?_, k5 _ _ hd2 ne, ?_, o.rn.mono k2, o.rp.mono k2⟩
   · rw [← hH5, upd_same]; rfl
   · rw [← hH5, upd_ne qy, upd_same]
end
end K29
end
section
namespace K29
open PySem PySem.Spec L2 LB LD PyProof.Rows
noncomputable def sW (l : List (Str × St)) : List Dt := l.map fun p => .str p.1
noncomputable def stL (s : St) (l : List (Str × St)) : List Dt := (l.map fun p => p.2.dt) ++ [s.dt]
def tellsS (C : Addr) : DS := fun ss Q => ∃ n m s l, ss = [rdF C s l, .im (.lst (stL s l)), .im (.lst (sW l))] ∧ Wk n m s ∧ n ≤ 12 ∧ m ≤ 100 ∧ l.length ≤ 100 ∧ Q (.bl true)
theorem st_last {s : St} {l : List (Str × St)} : atI (stL s l) (-1) = some s.dt := by
 unfold stL atI ixN
 rw [List.length_append, List.length_map]
 rw [if_neg (by decide), if_pos (by simp; lia)]
 show ((l.map fun p => p.2.dt) ++ [s.dt])[(-1 + ((l.length + [s.dt].length : Nat) : Int)).toNat]? = _
 rw [show (-1 + ((l.length + [s.dt].length : Nat) : Int)).toNat = l.length by simp; lia, List.getElem?_append_right (by rw [List.length_map]; exact Nat.le_refl _), List.length_map, Nat.sub_self]
 rfl
noncomputable def toldD (s : St) (l : List (Str × St)) : Dt := .lst [.lst (mayL s), s.dt, .bl (isDone s), hangD s, .lst (sW l)]
theorem may_len {s : St} : (mayL s).length ≤ 3 := by
 unfold mayL
 cases canRead s <;> cases canNext s <;> cases canUnder s <;> simp
theorem up_flat {p : Dt → Prop} {d : Dt} (h : Atm d) : Up p d := by
 cases h
 · exact .inl (.inl rfl)
 · exact .inl (.inr (.inr (.inl ⟨_, rfl⟩)))
 · exact .inl (.inr (.inl ⟨_, rfl⟩))
 · exact .inl (.inr (.inr (.inr ⟨_, rfl⟩)))
theorem up_strs {p : Dt → Prop} {es : List Dt} (l : es.length ≤ 100) (h : ∀ d ∈ es, Atm d) : Up (Up p) (.lst es) := .inr ⟨_, .inl rfl, l, fun e he => up_flat (h e he)⟩
theorem up_sW {p : Dt → Prop} {l : List (Str × St)} (h : l.length ≤ 100) : Up (Up p) (.lst (sW l)) := up_strs (by unfold sW; rw [List.length_map]; exact h) fun d hd => by obtain ⟨_, _, rfl⟩ := List.mem_map.mp hd; exact .str _
theorem up_hang {p : Dt → Prop} {n m : Nat} {s : St} (k : Wk n m s) (n12 : n ≤ 12) : Up (Up p) (hangD s) := by
 unfold hangD
 split
 · refine .inr ⟨_, .inr rfl, by rw [List.length_map, k.g.l]; lia, fun e he => ?_⟩
   obtain ⟨x, _, rfl⟩ := List.mem_map.mp he
   cases x with
   | none => exact up_flat (.int _)
   | some k => exact up_flat (.int _)
 · exact up_flat .non
theorem up_told {n m : Nat} {s : St} {l : List (Str × St)} (k : Wk n m s) (n12 : n ≤ 12) (m100 : m ≤ 100) (l100 : l.length ≤ 100) : Up (Up (Up P0)) (toldD s l) := .inr ⟨_, .inl rfl, by show 5 ≤ 100; decide, fun e he => by
 rcases List.mem_cons.mp he with rfl | he
 · exact up_strs (Nat.le_trans may_len (by decide)) fun d hd => may_atm hd
 rcases List.mem_cons.mp he with rfl | he
 · exact up_stand k.g n12 m100
 rcases List.mem_cons.mp he with rfl | he
 · exact up_flat (.bl _)
 rcases List.mem_cons.mp he with rfl | he
 · exact up_hang k n12
 · cases List.mem_singleton.mp he; exact up_sW l100⟩
theorem mok_same {M : Addr → Prop} {H H' : Hp} (al : MOk M H) (s : Same H H') : MOk M H' := fun a h => let ⟨o, e, n⟩ := al a h; ⟨o, s _ _ e, n⟩
theorem none_back {H H' : Hp} {a : Addr} (s : Same H H') (h : H' a = none) : H a = none := by
 cases e : H a with
 | none => rfl
 | some o => rw [s _ _ e] at h; cases h
section
variable {P : Program} {w : World} {K : PySem.W.Frag} {mg : Str → Option Value} {base : Heap} {C : Addr}
theorem ok_tells {f : Addr} {fd : FuncData} (F : Fun K "_law_tells" "_law_tells" sLTells f fd) (T : Txt mg) (NMay : HasM P w K mg base CX0 C "may" 2 ["self"] (spSO (mayM C))) (NStand : HasM P w K mg base CX0 C "stand" 1 ["self"] (spS (standM C))) (NDone : HasM P w K mg base CX0 C "is_done" 1 ["self"] (spS (doneM C))) (NHang : HasM P w K mg base CX0 C "hanging" 2 ["self"] (spS (hangM C))) (NSteps : HasM P w K mg base CX0 C "steps" 1 ["self"] (spSO (stepsM C)))
  (NLMay : Has P w K mg base "_law_may" 1 ["_law_stand"] (spA mayS)) (NLEnd : Has P w K mg base "_law_end" 1 ["_law_stand"] (spA endS)) (NLSame : Has P w K mg base "_law_same" 4 ["_law_found", "_law_due"] (spA (sameS (Up (Up (Up P0)))))) :
  FnOk P w K mg base CX0 5 f fd ["_law_reader", "_law_stands", "_law_steps"] (spS (tellsS C)) := by
 refine fnS F scLTells (fun ss Qd h => ?_) (fun cdv A outer s H E hr => ⟨_, (s_cons (s_set 3 scLTells.nd (d_ix (dv 1) (d_neg d_int)))
  (s_cons (s_set 4 scLTells.nd (d_lst (a_cons (Ov.ev (o_meF 0 NMay (hr.mono (by decide)) (pv 0))) (a_cons (d_meF 0 NStand (hr.mono (by decide)) (pv 0)) (a_cons (d_meF 0 NDone (hr.mono (by decide)) (pv 0)) (a_cons (d_meF 0 NHang (hr.mono (by decide)) (pv 0)) (a_cons (Ov.ev (o_meF 0 NSteps (hr.mono (by decide)) (pv 0))) a_nil)))))))
  (s_one (s_ret (d_fnA NLSame (hr.mono (by decide)) (a_cons (dv 4) (a_cons (d_lst (a_cons (d_fnA NLMay (hr.mono (by decide)) (a_cons (dv 3) a_nil)) (a_cons (dv 3) (a_cons (d_notN (d_fnA NLEnd (hr.mono (by decide)) (a_cons (dv 3) a_nil))) (a_cons (d_fnA NLEnd (hr.mono (by decide)) (a_cons (dv 3) a_nil)) (a_cons (dv 2) a_nil)))))) a_nil))))))), fun ss Qd h => ?_⟩)
 · obtain ⟨n, m, s, l, rfl, _⟩ := h; rfl
 · obtain ⟨n, m, s, l, rfl, k, n12, m100, l100, q⟩ := h
   have fi : Fine s := k.g.fine n12 m100
   have ol : s.ons.length ≤ 100 := by rw [k.g.l]; lia
   refine ⟨_, rfl, _, rfl, _, _, _, .inl rfl, rfl, st_last, ⟨_, rfl, rfl⟩, ?_⟩
   refine ⟨flds s l, rfl, rfl, s, l, rfl, fi, flds s l, rfl, rfl, s, l, rfl, flds s l, rfl, rfl, s, l, rfl, flds s l, rfl, rfl, s, l, rfl, ol, flds s l, rfl, rfl, s, l, rfl, l100, by show 5 ≤ sizeLine; decide, ⟨_, rfl, rfl⟩, ?_⟩
   refine ⟨_, rfl, _, rfl, s, rfl, fi, _, rfl, _, rfl, s, rfl, fi, _, rfl, s, rfl, fi, _, rfl, by show 5 ≤ sizeLine; decide, toldD s l, ?_, up_told k n12 m100 l100, q⟩
   rw [← done_end k, ← hang_end k]
   rfl
end
end K29
end
section
namespace K29
open PySem PySem.Spec L2 LB LD PyProof.Rows
noncomputable def ORd (C : Addr) (s : St) (l : List (Str × St)) : ObR where
 rel := fun M H v as => ∃ x dx p vn xs, as = [x, dx, p] ∧ v = .ref x ∧ OwnR C M H x dx p vn xs s l
 st := fun z ka k => by
  obtain ⟨x, dx, p, vn, xs, rfl, ev, o⟩ := z
  exact ⟨x, dx, p, vn, xs, rfl, ev, ka x (by simp) _ o.hx, ka dx (by simp) _ o.hd, ka p (by simp) _ o.hp, o.rn.mono k, o.rp.mono k⟩
noncomputable abbrev rdO (C : Addr) (s : St) (l : List (Str × St)) : Sl := .ob (ORd C s l)
section
variable {X : Cx} {C : Addr} {y f : Str} {yp p pos apos : Pos} {e e0 : Expr} {es : List Expr} {k : Nat} {ps : List Str} {S : DS} {t : DTA} {te : DTE}
theorem own_at {W : List Wd} {M : Addr → Prop} {α : List (List Addr)} {H : Hp} {σ : L2.St} {δ : List Sl} {i : Nat} {s : St} {l : List (Str × St)} (E : EnvR W M α H σ δ) (h : δ[i]? = some (rdO C s l)) : ∃ x dx p vn xs, σ[i]? = some (some (.ref x)) ∧ α[i]? = some [x, dx, p] ∧ OwnR C M H x dx p vn xs s l := by
 obtain ⟨o, as, s1, s2, v, rfl, x, dx, p, vn, xs, rfl, rfl, O⟩ := E.sl i _ h
 exact ⟨x, dx, p, vn, xs, s1, s2, O⟩
inductive dStepO_i (C : Addr) (i : Nat) (Q : Dt → List Sl → Prop) (ds : List Dt) (δ' : List Sl) : Prop
 | mk (s : St) (l : List (Str × St)) (w : Str) (h1 : ds = [.str w]) (h2 : δ'[i]? = some (rdO C s l)) (h3 : Fine s) (h4 : okB s w = true) (h5 : l.length ≤ 100) (h6 : Q .non (δ'.set i (rdO C (stp s w) (l ++ [(w, s)]))))
def dStepO (C : Addr) (i : Nat) (t : DTA) : DTE := fun δ Q => (∃ s l, δ[i]? = some (rdO C s l)) ∧ t δ fun ds δ' => dStepO_i C i Q ds δ'
theorem d_stepO (i : Nat) (h : HasM X.prog X.w X.K X.mg X.base CX0 C "step" k ps (spStepO C)) (hr : Room k X.A) (ho : PE X (.Name y yp) (tVar i)) (ha : Av X [e] t)
  (hst : autoParam (starEach [e] X.env = (false, eval e X.env) :: starEach [] X.env) au5._auto_1) (hpl : autoParam ((backTo pos (starEach [] X.env)).any (·.1) = false) au5._auto_1) {pl : Sem Bool}
  (ht : autoParam (eval (.Call (.Attribute (.Name y yp) "step" apos) [e] [] pos) X.env = (do
   let ov ← eval (.Name y yp) X.env
   standAt apos.atName
   let (f, first) ← holding [ov] (getMethod ov "step" pl)
   callWith pos f first (backTo pos (starEach [e] X.env)) (backToKw pos (keywordEach [] X.env)))) au5._auto_1) : Ev X (.Call (.Attribute (.Name y yp) "step" apos) [e] [] pos) (dStepO C i t) := by
 obtain ⟨f, fd, hc, hm, hb, F⟩ := h
 refine PE.imp (pe_meth ho hc hm F hr hb .nil pass0 ha hst hpl ht) fun σ H Q zz1 => ?_
 obtain ⟨W, M, α, δ, Qd, E, ⟨⟨s0, l0, h0⟩, q⟩, k⟩ := zz1
 obtain ⟨x, dx, p, vn, xs, s1, s2, O⟩ := own_at E h0
 refine ⟨_, s1, x, dx, _, rfl, O.hx, rfl, W, M, α, δ, _, E, q, fun ds δ' H' vs zz E1 c1 r1 => ?_⟩
 obtain ⟨s, l, w, rfl, hd, fi, ok, l100, q1⟩ := zz
 obtain ⟨v, ys, rfl, rv, rn⟩ := r1.uncons
 cases rn.unnil
 cases rv.ofStr
 obtain ⟨x', dx', p', vn', xs', s1', s2', O'⟩ := own_at E1 hd
 rw [s1] at s1'
 cases s1'
 show spStepO C ([V.ref x, V.str w] ++ []) H' Q E0
 have mx : M x := E1.mu x (flat_get s2' (by simp))
 have mp : M p' := E1.mu p' (flat_get s2' (by simp))
 have md : M dx' := E1.mu dx' (flat_get s2' (by simp))
 refine ⟨M, x, dx', p', vn', xs', s, l, w, rfl, E1.al, mx, mp, O', fi, ok, l100, fun H2 vn2 xs2 keep O2 => ?_⟩
 obtain ⟨E2, c2⟩ := E1.mod (s' := rdO C (stp s w) (l ++ [(w, s)])) hd s1 s2' rfl ⟨_, rfl, x, dx', p', vn2, xs2, rfl, rfl, O2⟩ (fun b u e n => keep b u e (fun z => n (by rw [z]; simp)) (fun z => n (by rw [z]; simp))) (fun a ha => by
  simp only [List.mem_cons, List.not_mem_nil, or_false] at ha
  rcases ha with rfl | rfl | rfl
  · exact ⟨_, O2.hx, fun xs z => by cases z⟩
  · exact ⟨_, O2.hd, fun xs z => by cases z⟩
  · exact ⟨_, O2.hp, fun xs z => by cases z⟩)
 exact k _ _ _ _ q1 E2 (c1.tr c2) .non
theorem lent {W : List Wd} {M : Addr → Prop} {α : List (List Addr)} {H : Hp} {σ : L2.St} {δ : List Sl} {Q : VK} {Qd : Dt → Prop} {x dx p : Addr} {vn : V} {xs : List V} {s : St} {l : List (Str × St)} {vs : List V} {ss : List Sl} (E : EnvR W M α H σ δ) (O : OwnR C M H x dx p vn xs s l)
  (r : SlRs (Mb M x p) H vs ss) (q : S ss fun d => Atm d ∧ Qd d) (kk : ∀ d H' v', Qd d → Same H H' → Rep M H' v' d → Q v' H') : spS S vs H Q E0 :=
 ⟨Mb M x p, ss, _, mok_b E.al, r, q, fun d H' v' qd sm rv => kk d H' v' qd.2 sm (rv.atm qd.1)⟩
theorem reps_b {M : Addr → Prop} {H : Hp} {x p : Addr} {vs : List V} {ds : List Dt} (r : Reps M H vs ds) : Reps (Mb M x p) H vs ds := r.mono fun a o e n => ⟨e, fun z => n z.1⟩
def dLend1 (C : Addr) (S : DS) (i : Nat) (te : DTE) (t : DTA) : DTE := fun δ Q => te δ fun d0 δ1 => (∃ s l, δ1[i]? = some (rdO C s l)) ∧ t δ1 fun ds δ' => ∃ s l, δ'[i]? = some (rdO C s l) ∧ S (.im d0 :: rdF C s l :: ds.map .im) fun r => Atm r ∧ Q r δ'
theorem d_lend1 (i : Nat) (h : Has X.prog X.w X.K X.mg X.base f k ps (spS S)) (hr : Room k X.A) (h0 : Ev X e0 te) (ho : PE X (.Name y yp) (tVar i)) (ha : Av X es t) (hg : autoParam (Gl X f) au5._auto_1)
  (hdb : autoParam ((f == ("__debug__" : Str)) = false) au2._auto_1) (he : autoParam (starEach (e0 :: .Name y yp :: es) X.env = (false, eval e0 X.env) :: starEach (.Name y yp :: es) X.env) au5._auto_1) (he2 : autoParam (starEach (.Name y yp :: es) X.env = (false, eval (.Name y yp) X.env) :: starEach es X.env) au5._auto_1) (hpl : autoParam ((backTo pos (starEach (.Name y yp :: es) X.env)).any (·.1) = false) au5._auto_1) :
  Ev X (.Call (.Name f p) (e0 :: .Name y yp :: es) [] pos) (dLend1 C S i te t) := PE.imp (pe_has h hr hg (pa_cons h0 (pa_cons ho ha he2) he) hdb he hpl) fun σ H Q zz1 => (by
 obtain ⟨W, M, α, δ, Qd, E, q, k⟩ := zz1
 refine ⟨W, M, α, δ, _, E, q, fun d0 δ1 H1 v0 zz E1 c1 r0 => ?_⟩
 obtain ⟨⟨s0, l0, h0⟩, q⟩ := zz
 obtain ⟨x, dx, p, vn, xs, s1, s2, O⟩ := own_at E1 h0
 refine ⟨_, s1, W, M, α, δ1, _, E1, q, fun ds δ' H' vs zz E2 c2 r1 => ?_⟩
 obtain ⟨s, l, hd, q1⟩ := zz
 obtain ⟨x', dx', p', vn', xs', s1', s2', O'⟩ := own_at E2 hd
 rw [s1] at s1'
 cases s1'
 show spS S ((v0 :: V.ref x :: vs) ++ []) H' Q E0
 rw [List.append_nil]
 have r0' : Rep (Mb M x p') H' v0 d0 := (r0.chg E1 c2).mono fun a o e n => ⟨e, fun z => n z.1⟩
 exact lent E2 O' (.cons (s := .im d0) ⟨rfl, _, rfl, r0'⟩ rfl (.cons O'.frz rfl (SlRs.im (reps_b r1)))) q1 fun d H2 v2 qd sm rv => k _ _ _ _ qd (E2.same sm) ((c1.tr c2).tr (Chg.of sm)) rv)
end
section
theorem SlR.growN {M N : Addr → Prop} {H H2 : Hp} {o : Option V} {s : Sl} {as : List Addr} (h : LD.SlR M H o s as) (sm : Same H H2) (hn : ∀ a, N a → H a = none) : LD.SlR (fun b => M b ∨ N b) H2 o s as := by
 have k : ∀ a u, H a = some u → ¬ M a → H2 a = some u ∧ ¬ (M a ∨ N a) := fun a u e n => ⟨sm _ _ e, fun z => z.elim n fun y => by rw [hn a y] at e; cases e⟩
 cases s with
 | no => exact h
 | im d => exact ⟨h.1, let ⟨v, e, r⟩ := h.2; ⟨v, e, r.mono k⟩⟩
 | ow ds => obtain ⟨a, xs, e1, e2, e3, r⟩ := h; exact ⟨a, xs, e1, e2, sm _ _ e3, r.mono k⟩
 | bx t => obtain ⟨d, c, e1, e2, r⟩ := h; exact ⟨d, c, e1, e2, r.same sm⟩
 | dk ks ds => obtain ⟨a, vs, e1, e2, e3, e4, r⟩ := h; exact ⟨a, vs, e1, e2, sm _ _ e3, e4, r.mono k⟩
 | ob R => obtain ⟨v, e, r⟩ := h; exact ⟨v, e, R.st r (fun a _ o q => sm _ _ q) k⟩
 | fn f => exact h
theorem holdN {W : List Wd} {M N : Addr → Prop} {α : List (List Addr)} {H H2 : Hp} {σ : L2.St} {δ : List Sl} (E : EnvR W M α H σ δ) (sm : Same H H2) (hn : ∀ a, N a → H a = none ∧ ∃ u, H2 a = some u ∧ ∀ xs, u ≠ .tup xs) :
  EnvR W (fun b => M b ∨ N b) α H2 σ δ ∧ ∀ a, N a → a ∉ α.flatten ∧ ¬ M a ∧ ∀ W' ∈ W, (W'.A0 a ∨ W'.H0 a = none) ∧ ¬ W'.M0 a := by
 have nm : ∀ a, N a → ¬ M a := fun a h => E.fresh (hn a h).1
 have h0 : ∀ W' ∈ W, ∀ a, N a → W'.H0 a = none := fun W' hW a ha => by
  cases e : W'.H0 a with
  | none => rfl
  | some o => exact absurd (hn a ha).1 ((E.w W' hW).ex a (by rw [e]; intro z; cases z))
 refine ⟨⟨E.ls, E.la, fun j s hj => let ⟨o, as, h1, h2, h3⟩ := E.sl j s hj; ⟨o, as, h1, h2, SlR.growN h3 sm fun a z => (hn a z).1⟩, E.nd, fun a h => .inl (E.mu a h), fun a ha => ?_, fun W' hW => ?_⟩, fun a ha => ⟨fun z => nm a ha (E.mu a z), nm a ha, fun W' hW => ⟨.inr (h0 W' hW a ha), fun z => nm a ha ((E.w W' hW).m0 a z)⟩⟩⟩
 · rcases ha with ha | ha
   · obtain ⟨o, e, n⟩ := E.al a ha
     exact ⟨o, sm _ _ e, n⟩
   · exact (hn a ha).2
 · have k := E.w W' hW
   exact ⟨fun b o e n => sm _ _ (k.bs b o e n), fun b n y => k.ex b n (LW.Same.none sm y), k.fr, fun a h => .inl (k.m0 a h), fun a h => h.elim (k.m1 a) fun z => .inr (h0 W' hW a z), k.bx, k.fz⟩
end
theorem EnvR.reslot {W : List Wd} {M : Addr → Prop} {α : List (List Addr)} {H : Hp} {σ : L2.St} {δ : List Sl} {i : Nat} {s s' : Sl} (E : EnvR W M α H σ δ) (h : δ[i]? = some s) (b : s.isBx = false) (b' : s'.isBx = false) (k : ∀ o as, σ[i]? = some o → LD.SlR M H o s as → LD.SlR M H o s' as) : EnvR W M α H σ (δ.set i s') := by
 have hi := (List.getElem?_eq_some_iff.mp h).1
 refine ⟨by rw [List.length_set]; exact E.ls, by rw [List.length_set]; exact E.la, fun j u hj => ?_, E.nd, E.mu, E.al, fun W' hW => ?_⟩
 · by_cases c : i = j
   · subst c
     rw [List.getElem?_set_self hi] at hj
     cases hj
     obtain ⟨o, as, h1, h2, h3⟩ := E.sl i s h
     exact ⟨o, as, h1, h2, k o as h1 h3⟩
   · rw [List.getElem?_set_ne c] at hj
     exact E.sl j u hj
 · have w := E.w W' hW
   refine ⟨w.bs, w.ex, w.fr, w.m0, w.m1, fun d c e => ?_, fun j u as hj ha nb => ?_⟩
   · obtain ⟨t, h1, h2⟩ := w.bx d c e
     refine ⟨t, ?_, h2⟩
     by_cases z : i = 0
     · subst z; rw [h] at h1; cases h1; cases b
     · rw [List.getElem?_set_ne z]; exact h1
   · by_cases c : i = j
     · subst c; exact w.fz i s as h ha b
     · rw [List.getElem?_set_ne c] at hj
       exact w.fz j u as hj ha nb
def FixS : Sl → Prop
 | .ow _ => True
 | .ob _ => True
 | _ => False
theorem SlR.stF {M M' : Addr → Prop} {H H' : Hp} {v : Option V} {s : Sl} {as : List Addr} (f : FixS s) (r : LD.SlR M H v s as) (ka : ∀ a ∈ as, ∀ o, H a = some o → H' a = some o) (k : ∀ a o, H a = some o → ¬ M a → H' a = some o ∧ ¬ M' a) : LD.SlR M' H' v s as := by
 cases s with
 | ow ds => obtain ⟨a, xs, rfl, e2, e3, r⟩ := r; exact ⟨a, xs, rfl, e2, ka _ (by simp) _ e3, r.mono k⟩
 | ob R => obtain ⟨u, e, r⟩ := r; exact ⟨u, e, R.st r ka k⟩
 | _ => exact f.elim
noncomputable def FixO (v : V) (s : Sl) : ObR where
 rel := fun M H u as => u = v ∧ FixS s ∧ LD.SlR M H (some u) s as
 st := fun z ka k => ⟨z.1, z.2.1, SlR.stF z.2.1 z.2.2 ka k⟩
noncomputable abbrev fx (v : V) (s : Sl) : Sl := .ob (FixO v s)
theorem FixS.nb {s : Sl} (h : FixS s) : s.isBx = false := by cases s <;> first | rfl | exact h.elim
theorem fix_open {W : List Wd} {M : Addr → Prop} {α : List (List Addr)} {H : Hp} {σ : L2.St} {δ : List Sl} {i : Nat} {v : V} {s : Sl} (E : EnvR W M α H σ δ) (h : δ[i]? = some (fx v s)) : EnvR W M α H σ (δ.set i s) ∧ σ[i]? = some (some v) ∧ FixS s := by
 obtain ⟨o, as, h1, h2, u, e, e2, f, r⟩ := E.sl i _ h
 subst e; subst e2
 refine ⟨EnvR.reslot E h rfl f.nb fun o as ho z => ?_, h1, f⟩
 obtain ⟨u', e', e2', f', r'⟩ := z
 subst e'
 exact r'
theorem fix_close {W : List Wd} {M : Addr → Prop} {α : List (List Addr)} {H : Hp} {σ : L2.St} {δ : List Sl} {i : Nat} {v : V} {s : Sl} (E : EnvR W M α H σ δ) (h : δ[i]? = some s) (f : FixS s) (hv : σ[i]? = some (some v)) : EnvR W M α H σ (δ.set i (fx v s)) :=
 EnvR.reslot E h f.nb rfl fun o as ho r => by
  rw [hv] at ho
  cases ho
  exact ⟨v, rfl, rfl, f, r⟩
def dFix (i : Nat) (t : DTE) : DTE := fun δ Q => ∃ v s, δ[i]? = some (fx v s) ∧ t (δ.set i s) fun d δ' => ∃ s', δ'[i]? = some s' ∧ FixS s' ∧ Q d (δ'.set i (fx v s'))
def tFix (i : Nat) (t : DTT) : DTT := fun δ Q => ∃ v s, δ[i]? = some (fx v s) ∧ t (δ.set i s) fun d δ' => ∃ s', δ'[i]? = some s' ∧ FixS s' ∧ Q d (δ'.set i (fx v s'))
section
variable {X : Cx} {e : Expr} {t : DTE} {u : DTT}
theorem d_fix (i : Nat) (h : Ev X e t) : Ev X e (dFix i t) := PE.imp h fun σ H Q zz => (by
 obtain ⟨W, M, α, δ, Qd, E, ⟨v, s, hi, q⟩, k⟩ := zz
 obtain ⟨E1, hv, f⟩ := fix_open E hi
 refine ⟨W, M, α, _, _, E1, q, fun d δ' H' x zz E2 c2 r2 => ?_⟩
 obtain ⟨s', h', f', q'⟩ := zz
 exact k _ _ _ _ q' (fix_close E2 h' f' hv) c2 r2)
theorem t_fix (i : Nat) (h : Tv X e u) : Tv X e (tFix i u) := PT.imp h fun σ H Q zz => (by
 obtain ⟨W, M, α, δ, Qd, E, ⟨v, s, hi, q⟩, k⟩ := zz
 obtain ⟨E1, hv, f⟩ := fix_open E hi
 refine ⟨W, M, α, _, _, E1, q, fun d δ' H' zz E2 c2 => ?_⟩
 obtain ⟨s', h', f', q'⟩ := zz
 exact k _ _ _ q' (fix_close E2 h' f' hv) c2)
end
section
variable {X : Cx} {C : Addr} {y f : Str} {yp p pos apos : Pos} {k : Nat} {ps : List Str}
inductive dBackO (C : Addr) (i : Nat) (δ : List Sl) (Q : Dt → List Sl → Prop) : Prop
 | mk (s : St) (l : List (Str × St)) (h1 : δ[i]? = some (rdO C s l)) (h2 : l = [] → Q .non δ) (h3 : ∀ l0 w s0, l = l0 ++ [(w, s0)] → Q (.str w) (δ.set i (rdO C s0 l0)))
theorem d_backO (i : Nat) (h : HasM X.prog X.w X.K X.mg X.base CX0 C "back" k ps (spBackO C)) (hr : Room k X.A) (ho : PE X (.Name y yp) (tVar i)) {pl : Sem Bool}
  (ht : autoParam (eval (.Call (.Attribute (.Name y yp) "back" apos) [] [] pos) X.env = (do
   let ov ← eval (.Name y yp) X.env
   standAt apos.atName
   let (f, first) ← holding [ov] (getMethod ov "back" pl)
   callWith pos f first (backTo pos (starEach [] X.env)) (backToKw pos (keywordEach [] X.env)))) au5._auto_1) : Ev X (.Call (.Attribute (.Name y yp) "back" apos) [] [] pos) (dBackO C i) := by
 obtain ⟨f, fd, hc, hm, hb, F⟩ := h
 refine PE.imp (pe_meth0 ho hc hm F hr hb .nil pass0 ht) fun σ H Q zz1 => ?_
 obtain ⟨W, M, α, δ, Qd, E, ⟨s, l, h0, q0, q1⟩, k⟩ := zz1
 obtain ⟨x, dx, p, vn, xs, s1, s2, O⟩ := own_at E h0
 refine ⟨_, s1, x, dx, _, rfl, O.hx, rfl, ?_⟩
 show spBackO C ([V.ref x] ++ []) H Q E0
 have mx : M x := E.mu x (flat_get s2 (by simp))
 have mp : M p := E.mu p (flat_get s2 (by simp))
 refine ⟨M, x, dx, p, vn, xs, s, l, rfl, E.al, mx, mp, O, fun e => k _ _ _ _ (q0 e) E Chg.rf .non, fun l0 w s0 e H2 vn2 xs2 keep O2 => ?_⟩
 obtain ⟨E2, c2⟩ := E.mod (s' := rdO C s0 l0) h0 s1 s2 rfl ⟨_, rfl, x, dx, p, vn2, xs2, rfl, rfl, O2⟩ (fun b u e n => keep b u e (fun z => n (by rw [z]; simp)) (fun z => n (by rw [z]; simp))) (fun a ha => by
  simp only [List.mem_cons, List.not_mem_nil, or_false] at ha
  rcases ha with rfl | rfl | rfl
  · exact ⟨_, O2.hx, fun xs z => by cases z⟩
  · exact ⟨_, O2.hd, fun xs z => by cases z⟩
  · exact ⟨_, O2.hp, fun xs z => by cases z⟩)
 exact k _ _ _ _ (q1 l0 w s0 e) E2 c2 (.str _)
end
end K29
end
section
namespace K29
open PySem PySem.Spec L2 LB LD PyProof.Rows
theorem flat_perm : ∀ {α : List (List Addr)} {i : Nat} {as x : List Addr}, α[i]? = some as → ((α.set i x).flatten ++ as).Perm (α.flatten ++ x)
 | [], _, _, _, h => by simp at h
 | b :: α, 0, as, x, h => by
  cases (show b = as by simpa using h)
  rw [List.set_cons_zero, List.flatten_cons, List.flatten_cons, List.append_assoc, List.append_assoc]
  refine (List.perm_append_comm (l₁ := x)).trans ?_
  rw [List.append_assoc]
  refine (List.perm_append_comm (l₁ := α.flatten)).trans ?_
  rw [List.append_assoc]
  exact List.Perm.append_left _ List.perm_append_comm
 | b :: α, i + 1, as, x, h => by
  rw [List.set_cons_succ, List.flatten_cons, List.flatten_cons, List.append_assoc, List.append_assoc]
  exact List.Perm.append_left _ (flat_perm (by simpa using h))
theorem EnvR.deal {W : List Wd} {M : Addr → Prop} {α : List (List Addr)} {H : Hp} {σ : L2.St} {δ : List Sl} {i n1 n2 n3 : Nat} {s s' t1 t2 t3 : Sl} {as A1 b1 b2 b3 : List Addr} {o : Option V} {v1 v2 v3 : V} (E : EnvR W M α H σ δ) (i1 : i ≠ n1) (i2 : i ≠ n2) (i3 : i ≠ n3) (n12 : n1 ≠ n2) (n13 : n1 ≠ n3) (n23 : n2 ≠ n3)
  (hi : δ[i]? = some s) (ho : σ[i]? = some o) (ai : α[i]? = some as) (sb : s.isBx = false) (sb' : s'.isBx = false) (h1 : δ[n1]? = some .no) (h2 : δ[n2]? = some .no) (h3 : δ[n3]? = some .no) (tb1 : t1.isBx = false) (tb2 : t2.isBx = false) (tb3 : t3.isBx = false)
  (pm : as.Perm (A1 ++ (b1 ++ (b2 ++ b3)))) (r' : LD.SlR M H o s' A1) (r1 : LD.SlR M H (some v1) t1 b1) (r2 : LD.SlR M H (some v2) t2 b2) (r3 : LD.SlR M H (some v3) t3 b3) :
  EnvR W M ((((α.set i A1).set n1 b1).set n2 b2).set n3 b3) H (((σ.set n1 (some v1)).set n2 (some v2)).set n3 (some v3)) ((((δ.set i s').set n1 t1).set n2 t2).set n3 t3) := by
 have no : ∀ n : Nat, δ[n]? = some Sl.no → α[n]? = some [] := fun n h => by
  obtain ⟨_, as, _, a, e⟩ := E.sl n _ h
  rw [a]; exact congrArg some e
 have a1 := no n1 h1
 have a2 := no n2 h2
 have a3 := no n3 h3
 have li : i < α.length := (List.getElem?_eq_some_iff.mp ai).1
 have l1 : n1 < α.length := (List.getElem?_eq_some_iff.mp a1).1
 have l2 : n2 < α.length := (List.getElem?_eq_some_iff.mp a2).1
 have l3 : n3 < α.length := (List.getElem?_eq_some_iff.mp a3).1
 have la := E.la
 have ls := E.ls
 have P1 := flat_perm (x := A1) ai
 have P2 := flat_perm (α := α.set i A1) (x := b1) (show (α.set i A1)[n1]? = some [] by rw [List.getElem?_set_ne i1]; exact a1)
 have P3 := flat_perm (α := (α.set i A1).set n1 b1) (x := b2) (show ((α.set i A1).set n1 b1)[n2]? = some [] by rw [List.getElem?_set_ne n12, List.getElem?_set_ne i2]; exact a2)
 have P4 := flat_perm (α := ((α.set i A1).set n1 b1).set n2 b2) (x := b3) (show (((α.set i A1).set n1 b1).set n2 b2)[n3]? = some [] by rw [List.getElem?_set_ne n23, List.getElem?_set_ne n13, List.getElem?_set_ne i3]; exact a3)
 rw [List.append_nil] at P2 P3 P4
 have PA : ((((α.set i A1).set n1 b1).set n2 b2).set n3 b3).flatten.Perm α.flatten := by
  have q : (((((α.set i A1).set n1 b1).set n2 b2).set n3 b3).flatten ++ as).Perm (α.flatten ++ as) := by
   refine (List.Perm.append_right as (P4.trans (List.Perm.append_right b3 (P3.trans (List.Perm.append_right b2 P2))))).trans ?_
   have e : ((α.set i A1).flatten ++ b1 ++ b2 ++ b3 ++ as).Perm (((α.set i A1).flatten ++ as) ++ (b1 ++ (b2 ++ b3))) := by
    simp only [List.append_assoc]
    refine List.Perm.append_left _ ?_
    rw [← List.append_assoc, ← List.append_assoc]
    refine List.perm_append_comm.trans ?_
    rw [List.append_assoc]
   refine e.trans ((List.Perm.append_right _ P1).trans ?_)
   rw [List.append_assoc]
   exact List.Perm.append_left _ pm.symm
  exact (List.perm_append_right_iff as).mp q
 have mem : ∀ a, a ∈ ((((α.set i A1).set n1 b1).set n2 b2).set n3 b3).flatten → a ∈ α.flatten := fun a h => PA.mem_iff.mp h
 have inas : ∀ a, (a ∈ A1 ∨ a ∈ b1 ∨ a ∈ b2 ∨ a ∈ b3) → a ∈ as := fun a h => pm.mem_iff.mpr (by simp only [List.mem_append]; exact h)
 have at' : ∀ (j : Nat) u, ((((δ.set i s').set n1 t1).set n2 t2).set n3 t3)[j]? = some u → (j = n3 ∧ u = t3) ∨ (j = n2 ∧ u = t2) ∨ (j = n1 ∧ u = t1) ∨ (j = i ∧ u = s') ∨ (j ≠ n3 ∧ j ≠ n2 ∧ j ≠ n1 ∧ j ≠ i ∧ δ[j]? = some u) := fun j u hj => by
  by_cases c3 : n3 = j
  · subst c3; rw [List.getElem?_set_self (by simp; lia)] at hj; cases hj; exact .inl ⟨rfl, rfl⟩
  rw [List.getElem?_set_ne c3] at hj
  by_cases c2 : n2 = j
  · subst c2; rw [List.getElem?_set_self (by simp; lia)] at hj; cases hj; exact .inr (.inl ⟨rfl, rfl⟩)
  rw [List.getElem?_set_ne c2] at hj
  by_cases c1 : n1 = j
  · subst c1; rw [List.getElem?_set_self (by simp; lia)] at hj; cases hj; exact .inr (.inr (.inl ⟨rfl, rfl⟩))
  rw [List.getElem?_set_ne c1] at hj
  by_cases c0 : i = j
  · subst c0; rw [List.getElem?_set_self (by lia)] at hj; cases hj; exact .inr (.inr (.inr (.inl ⟨rfl, rfl⟩)))
  rw [List.getElem?_set_ne c0] at hj
  exact .inr (.inr (.inr (.inr ⟨Ne.symm c3, Ne.symm c2, Ne.symm c1, Ne.symm c0, hj⟩)))
 have al : ∀ (j : Nat), (j = n3 → ((((α.set i A1).set n1 b1).set n2 b2).set n3 b3)[j]? = some b3) ∧ (j = n2 → ((((α.set i A1).set n1 b1).set n2 b2).set n3 b3)[j]? = some b2) ∧ (j = n1 → ((((α.set i A1).set n1 b1).set n2 b2).set n3 b3)[j]? = some b1) ∧ (j = i → ((((α.set i A1).set n1 b1).set n2 b2).set n3 b3)[j]? = some A1) ∧ (j ≠ n3 → j ≠ n2 → j ≠ n1 → j ≠ i → ((((α.set i A1).set n1 b1).set n2 b2).set n3 b3)[j]? = α[j]?) := fun j => by
  refine ⟨fun e => ?_, fun e => ?_, fun e => ?_, fun e => ?_, fun e3 e2 e1 e0 => ?_⟩
  · subst e; rw [List.getElem?_set_self (by simp; lia)]
  · subst e; rw [List.getElem?_set_ne (Ne.symm n23), List.getElem?_set_self (by simp; lia)]
  · subst e; rw [List.getElem?_set_ne (Ne.symm n13), List.getElem?_set_ne (Ne.symm n12), List.getElem?_set_self (by simp; lia)]
  · subst e; rw [List.getElem?_set_ne (Ne.symm i3), List.getElem?_set_ne (Ne.symm i2), List.getElem?_set_ne (Ne.symm i1), List.getElem?_set_self li]
  · rw [List.getElem?_set_ne (Ne.symm e3), List.getElem?_set_ne (Ne.symm e2), List.getElem?_set_ne (Ne.symm e1), List.getElem?_set_ne (Ne.symm e0)]
 have asM : ∀ W' ∈ W, ∀ a ∈ as, ¬ W'.M0 a := fun W' hW a ha => (E.w W' hW).fz i s as hi ai sb a ha
 refine ⟨by simp; exact ls, by simp; exact la, fun j u hj => ?_, PA.nodup_iff.mpr E.nd, fun a h => E.mu a (mem a h), E.al, fun W' hW => ?_⟩
 · rcases at' j u hj with ⟨rfl, rfl⟩ | ⟨rfl, rfl⟩ | ⟨rfl, rfl⟩ | ⟨rfl, rfl⟩ | ⟨c3, c2, c1, c0, hj⟩
   · exact ⟨some v3, b3, by rw [List.getElem?_set_self (by simp; lia)], (al _).1 rfl, r3⟩
   · exact ⟨some v2, b2, by rw [List.getElem?_set_ne (Ne.symm n23), List.getElem?_set_self (by simp; lia)], (al _).2.1 rfl, r2⟩
   · exact ⟨some v1, b1, by rw [List.getElem?_set_ne (Ne.symm n13), List.getElem?_set_ne (Ne.symm n12), List.getElem?_set_self (by lia)], (al _).2.2.1 rfl, r1⟩
   · exact ⟨o, A1, by rw [List.getElem?_set_ne (Ne.symm i3), List.getElem?_set_ne (Ne.symm i2), List.getElem?_set_ne (Ne.symm i1)]; exact ho, (al _).2.2.2.1 rfl, r'⟩
   · obtain ⟨o', as', q1, q2, q3⟩ := E.sl j u hj
     exact ⟨o', as', by rw [List.getElem?_set_ne (Ne.symm c3), List.getElem?_set_ne (Ne.symm c2), List.getElem?_set_ne (Ne.symm c1)]; exact q1, by rw [(al _).2.2.2.2 c3 c2 c1 c0]; exact q2, q3⟩
 · have w := E.w W' hW
   refine ⟨w.bs, w.ex, fun a h => w.fr a (mem a h), w.m0, w.m1, fun d c e => ?_, fun j u bs hj hb nb a ha => ?_⟩
   · obtain ⟨t, q1, q2⟩ := w.bx d c e
     have z : ∀ (n : Nat) (x : Sl), δ[n]? = some x → x.isBx = false → n ≠ 0 := fun n x hn hx z => by subst z; rw [q1] at hn; cases hn; cases hx
     have z0 := z i s hi sb
     have z1 := z n1 _ h1 rfl
     have z2 := z n2 _ h2 rfl
     have z3 := z n3 _ h3 rfl
     exact ⟨t, by rw [List.getElem?_set_ne z3, List.getElem?_set_ne z2, List.getElem?_set_ne z1, List.getElem?_set_ne z0]; exact q1, by rw [(al 0).2.2.2.2 (Ne.symm z3) (Ne.symm z2) (Ne.symm z1) (Ne.symm z0)]; exact q2⟩
   · rcases at' j u hj with ⟨rfl, rfl⟩ | ⟨rfl, rfl⟩ | ⟨rfl, rfl⟩ | ⟨rfl, rfl⟩ | ⟨c3, c2, c1, c0, hj⟩
     · rw [(al _).1 rfl] at hb; cases hb; exact asM W' hW a (inas a (.inr (.inr (.inr ha))))
     · rw [(al _).2.1 rfl] at hb; cases hb; exact asM W' hW a (inas a (.inr (.inr (.inl ha))))
     · rw [(al _).2.2.1 rfl] at hb; cases hb; exact asM W' hW a (inas a (.inr (.inl ha)))
     · rw [(al _).2.2.2.1 rfl] at hb; cases hb; exact asM W' hW a (inas a (.inl ha))
     · rw [(al _).2.2.2.2 c3 c2 c1 c0] at hb; exact w.fz j u bs hj hb nb a ha
inductive En where
 | full (s : St) (l : List (Str × St))
 | hole (x la m : Addr)
def EnR (C : Addr) (M : Addr → Prop) (H : Hp) : En → V → List Addr → Prop
 | .full s l, t, bs => ∃ ta x la m b1 b2 b3, t = .ref ta ∧ H ta = some (.tup [.ref x, .ref la, .ref m]) ∧ ¬ M ta ∧ bs = b1 ++ (b2 ++ b3) ∧ LD.SlR M H (some (.ref x)) (rdO C s l) b1 ∧ LD.SlR M H (some (.ref la)) (.ow (stL s l)) b2 ∧ LD.SlR M H (some (.ref m)) (.ow (sW l)) b3
 | .hole x la m, t, bs => ∃ ta, t = .ref ta ∧ H ta = some (.tup [.ref x, .ref la, .ref m]) ∧ ¬ M ta ∧ bs = []
theorem EnR.st {C : Addr} {M M' : Addr → Prop} {H H' : Hp} {e : En} {t : V} {bs : List Addr} (r : EnR C M H e t bs) (ka : ∀ a ∈ bs, ∀ o, H a = some o → H' a = some o) (k : ∀ a o, H a = some o → ¬ M a → H' a = some o ∧ ¬ M' a) : EnR C M' H' e t bs := by
 cases e with
 | full s l =>
  obtain ⟨ta, x, la, m, b1, b2, b3, e1, e2, e3, e4, r1, r2, r3⟩ := r
  subst e4
  exact ⟨ta, x, la, m, b1, b2, b3, e1, (k _ _ e2 e3).1, (k _ _ e2 e3).2, rfl, SlR.stF trivial r1 (fun a h => ka a (by simp [h])) k, SlR.stF trivial r2 (fun a h => ka a (by simp [h])) k, SlR.stF trivial r3 (fun a h => ka a (by simp [h])) k⟩
 | hole x la m =>
  obtain ⟨ta, e1, e2, e3, e4⟩ := r
  exact ⟨ta, e1, (k _ _ e2 e3).1, (k _ _ e2 e3).2, e4⟩
structure SmR (C : Addr) (es : List En) (M : Addr → Prop) (H : Hp) (a : Addr) (ts : List V) (ass : List (List Addr)) : Prop where
 h : H a = some (.lst ts)
 lt : ts.length = es.length
 la : ass.length = es.length
 en : ∀ (i : Nat) e, es[i]? = some e → ∃ t bs, ts[i]? = some t ∧ ass[i]? = some bs ∧ EnR C M H e t bs
noncomputable def SmO (C a : Addr) (es : List En) : ObR where
 rel := fun M H v as => ∃ ts ass, v = .ref a ∧ as = a :: ass.flatten ∧ SmR C es M H a ts ass
 st := fun z ka k => by
  obtain ⟨ts, ass, e1, e2, r⟩ := z
  subst e2
  refine ⟨ts, ass, e1, rfl, ka _ (by simp) _ r.h, r.lt, r.la, fun i e he => ?_⟩
  obtain ⟨t, bs, q1, q2, q3⟩ := r.en i e he
  exact ⟨t, bs, q1, q2, q3.st (fun b hb => ka b (List.mem_cons_of_mem _ (flat_get q2 hb))) k⟩
noncomputable abbrev smO (C a : Addr) (es : List En) : Sl := .ob (SmO C a es)
end K29
end
section
namespace K29
open PySem PySem.Spec L2 LB LD PyProof.Rows
theorem smo_at {C a : Addr} {W : List Wd} {M : Addr → Prop} {α : List (List Addr)} {H : Hp} {σ : L2.St} {δ : List Sl} {i : Nat} {es : List En} (E : EnvR W M α H σ δ) (h : δ[i]? = some (smO C a es)) : ∃ ts ass, σ[i]? = some (some (.ref a)) ∧ α[i]? = some (a :: ass.flatten) ∧ SmR C es M H a ts ass := by
 obtain ⟨o, as, h1, h2, v, e, ts, ass, e1, e2, r⟩ := E.sl i _ h
 subst e; subst e1; subst e2
 exact ⟨ts, ass, h1, h2, r⟩
inductive dTake3 (C : Addr) (i j n1 n2 n3 : Nat) (Δ : DEnds) (δ : List Sl) : Prop
 | mk (a : Addr) (es : List En) (k : Nat) (s : St) (l : List (Str × St)) (h1 : δ[i]? = some (smO C a es)) (h2 : δ[j]? = some (.im (nI k))) (h3 : es[k]? = some (.full s l)) (o1 : δ[n1]? = some .no) (o2 : δ[n2]? = some .no) (o3 : δ[n3]? = some .no)
  (q : ∀ x la m, Δ.nx ((((δ.set i (smO C a (es.set k (.hole x la m)))).set n1 (fx (.ref x) (rdO C s l))).set n2 (fx (.ref la) (.ow (stL s l)))).set n3 (fx (.ref m) (.ow (sW l)))))
section
variable {X : Cx} {C : Addr} {y z y1 y2 y3 : Str} {yp zp p pos p1 p2 p3 p4 : Pos} {xc : Nat}
theorem s_take3 (i j n1 n2 n3 : Nat)
  (d : i ≠ n1 ∧ i ≠ n2 ∧ i ≠ n3 ∧ n1 ≠ n2 ∧ n1 ≠ n3 ∧ n2 ≠ n3)
  (h : PS X (.Assign [.Tuple [.Name y1 p1, .Name y2 p2, .Name y3 p3] xc p4] (.Subscript (.Name y yp) (.Name z zp) p) pos) (tAsg (tOp (rIx X.K) (tVar i) (tVar j)) (gTup X.K 3 (gCons (gName n1) (gCons (gName n2) (gCons (gName n3) gNil)))))) :
  Ex X (.Assign [.Tuple [.Name y1 p1, .Name y2 p2, .Name y3 p3] xc p4] (.Subscript (.Name y yp) (.Name z zp) p) pos) (dTake3 C i j n1 n2 n3) := PS.imp h fun D σ H zz => (by
 obtain ⟨Ws, M, α, δ, Δ, E, L, a, es, k, s, l, h1, h2, h3, o1, o2, o3, q⟩ := zz
 obtain ⟨d1, d2, d3, d4, d5, d6⟩ := d
 obtain ⟨ts, ass, e1, e2, r⟩ := smo_at E h1
 obtain ⟨v, e3, rv⟩ := E.im h2
 cases rv.ofInt
 obtain ⟨t, bs, q1, q2, ta, x, la, m, b1, b2, b3, et, ht, nt, eb, r1, r2, r3⟩ := r.en k _ h3
 subst et; subst eb
 refine ⟨_, e1, _, e3, .inl ⟨a, ts, (k : Int), .ref ta, rfl, rfl, SqL.of r.h, atI_nat q1, ?_⟩⟩
 refine ⟨ta, _, rfl, SqT.of ht, rfl, _, _, rfl, _, _, rfl, _, _, rfl, rfl, ?_⟩
 have kl : k < ass.length := (List.getElem?_eq_some_iff.mp q2).1
 have P := flat_perm (x := []) q2
 rw [List.append_nil] at P
 have pm : (a :: ass.flatten).Perm ((a :: (ass.set k []).flatten) ++ (b1 ++ (b2 ++ b3))) := by
  rw [List.cons_append]
  exact List.Perm.cons _ P.symm
 refine L.nx _ _ _ _ _ (EnvR.deal (s' := smO C a (es.set k (.hole x la m))) (t1 := fx (.ref x) (rdO C s l)) (t2 := fx (.ref la) (.ow (stL s l))) (t3 := fx (.ref m) (.ow (sW l))) E d1 d2 d3 d4 d5 d6 h1 e1 e2 rfl rfl o1 o2 o3 rfl rfl rfl pm ?_ ⟨_, rfl, rfl, trivial, r1⟩ ⟨_, rfl, rfl, trivial, r2⟩ ⟨_, rfl, rfl, trivial, r3⟩) (q x la m)
 refine ⟨_, rfl, ts, ass.set k [], rfl, rfl, r.h, by rw [List.length_set]; exact r.lt, by rw [List.length_set, List.length_set]; exact r.la, fun j' e he => ?_⟩
 by_cases c : k = j'
 · subst c
   rw [List.getElem?_set_self (by rw [← r.la]; exact kl)] at he
   cases he
   exact ⟨_, [], q1, by rw [List.getElem?_set_self kl], ta, rfl, ht, nt, rfl⟩
 · rw [List.getElem?_set_ne c] at he
   obtain ⟨t', bs', u1, u2, u3⟩ := r.en j' e he
   exact ⟨t', bs', u1, by rw [List.getElem?_set_ne c]; exact u2, u3⟩)
inductive dLenM (C : Addr) (i : Nat) (δ : List Sl) (Q : Dt → List Sl → Prop) : Prop
 | mk (a : Addr) (es : List En) (h1 : δ[i]? = some (smO C a es)) (q : Q (.int es.length) δ)
theorem d_lenM (i : Nat) {x : Str} {xp p : Pos} (hm : X.mg "len" = none) (ho : PE X (.Name x xp) (tVar i)) (hg : autoParam (Gl X "len") au5._auto_1) (he : autoParam (starEach [.Name x xp] X.env = (false, eval (.Name x xp) X.env) :: starEach [] X.env) au5._auto_1) (hpl : autoParam ((backTo pos (starEach [] X.env)).any (·.1) = false) au5._auto_1) :
  Ev X (.Call (.Name "len" p) [.Name x xp] [] pos) (dLenM C i) := PE.imp (pe_callB call_len_seq hg hm PySem.boot_len (pa_cons ho pa_nil he) (by decide) (by decide) he hpl) fun σ H Q zz => (by
 obtain ⟨W, M, α, δ, Qd, E, ⟨a, es, h1, q⟩, k⟩ := zz
 obtain ⟨ts, ass, e1, e2, r⟩ := smo_at E h1
 exact ⟨_, e1, a, ts, rfl, .inl (SqL.of r.h), by rw [r.lt]; exact k _ _ _ _ q E Chg.rf (.int _)⟩)
end
theorem EnvR.wax {W : List Wd} {M : Addr → Prop} {α : List (List Addr)} {H : Hp} {σ : L2.St} {δ : List Sl} {i : Nat} {s s' : Sl} {o : Option V} {as N : List Addr} (E : EnvR W M α H σ δ) (hi : δ[i]? = some s) (ho : σ[i]? = some o) (ha : α[i]? = some as) (sb : s.isBx = false) (sb' : s'.isBx = false) (nd : N.Nodup) (nM : ∀ a ∈ N, M a ∧ a ∉ α.flatten ∧ ∀ W' ∈ W, (W'.A0 a ∨ W'.H0 a = none) ∧ ¬ W'.M0 a)
  (r : LD.SlR M H o s' (as ++ N)) : EnvR W M (α.set i (as ++ N)) H σ (δ.set i s') := by
 have li : i < α.length := (List.getElem?_eq_some_iff.mp ha).1
 have la := E.la
 have P := flat_perm (x := as ++ N) ha
 have PA : (α.set i (as ++ N)).flatten.Perm (α.flatten ++ N) := by
  refine (List.perm_append_right_iff as).mp (P.trans ?_)
  rw [List.append_assoc]
  exact List.Perm.append_left _ List.perm_append_comm
 have mem : ∀ a, a ∈ (α.set i (as ++ N)).flatten → a ∈ α.flatten ∨ a ∈ N := fun a h => List.mem_append.mp (PA.mem_iff.mp h)
 refine ⟨by rw [List.length_set]; exact E.ls, by rw [List.length_set, List.length_set]; exact la, fun j u hj => ?_, PA.nodup_iff.mpr (List.nodup_append.mpr ⟨E.nd, nd, fun a ha b hb e => (nM b hb).2.1 (e ▸ ha)⟩), fun a h => (mem a h).elim (E.mu a) fun z => (nM a z).1, E.al, fun W' hW => ?_⟩
 · by_cases c : i = j
   · subst c
     rw [List.getElem?_set_self (by lia)] at hj
     cases hj
     exact ⟨o, _, ho, by rw [List.getElem?_set_self li], r⟩
   · rw [List.getElem?_set_ne c] at hj
     obtain ⟨o', as', q1, q2, q3⟩ := E.sl j u hj
     exact ⟨o', as', q1, by rw [List.getElem?_set_ne c]; exact q2, q3⟩
 · have w := E.w W' hW
   refine ⟨w.bs, w.ex, fun a h => (mem a h).elim (w.fr a) fun z => ((nM a z).2.2 W' hW).1, w.m0, w.m1, fun d c e => ?_, fun j u bs hj hb nb a h => ?_⟩
   · obtain ⟨t, q1, q2⟩ := w.bx d c e
     have z : i ≠ 0 := fun z => by subst z; rw [hi] at q1; cases q1; cases sb
     exact ⟨t, by rw [List.getElem?_set_ne z]; exact q1, by rw [List.getElem?_set_ne z]; exact q2⟩
   · by_cases c : i = j
     · subst c
       rw [List.getElem?_set_self li] at hb
       cases hb
       rcases List.mem_append.mp h with z | z
       · exact w.fz i s as hi ha sb a z
       · exact ((nM a z).2.2 W' hW).2
     · rw [List.getElem?_set_ne c] at hj hb
       exact w.fz j u bs hj hb nb a h
end K29
end
section
namespace K29
open PySem PySem.Spec L2 LB LD PyProof.Rows
noncomputable def TrivO : ObR := ⟨fun _ _ _ _ => True, fun _ _ _ => trivial⟩
theorem same_new {H : Hp} {a : Addr} {o : HO} (h : H a = none) : Same H (upd H a o) := Same.new h
inductive dTwin (C : Addr) (i n1 n2 n3 : Nat) (Δ : DEnds) (δ : List Sl) : Prop
 | mk (a : Addr) (es : List En) (s : St) (l : List (Str × St)) (va vb vc : V) (h1 : δ[i]? = some (smO C a es)) (h2 : δ[n1]? = some (fx va (rdO C s l))) (h3 : δ[n2]? = some (fx vb (.ow (stL s l)))) (h4 : δ[n3]? = some (fx vc (.ow (sW l)))) (h5 : 1 ≤ s.ons.length) (h6 : s.ons.length ≤ 100) (h7 : es.length ≤ 100) (q : Δ.nx (δ.set i (smO C a (es ++ [.full s l]))))
theorem fix_at {W : List Wd} {M : Addr → Prop} {α : List (List Addr)} {H : Hp} {σ : L2.St} {δ : List Sl} {i : Nat} {v : V} {s : Sl} (E : EnvR W M α H σ δ) (h : δ[i]? = some (fx v s)) : ∃ as, σ[i]? = some (some v) ∧ α[i]? = some as ∧ LD.SlR M H (some v) s as := by
 obtain ⟨o, as, h1, h2, u, e, e2, f, r⟩ := E.sl i _ h
 subst e; subst e2
 exact ⟨as, h1, h2, r⟩
section
variable {X : Cx} {C : Addr} {e : Expr}
theorem s_twin {pos : Pos} (i n1 n2 n3 : Nat) (h : PE X e (tBM X.K "list" rAppend (tVar i) (tCons (tTup (tCons (tMeth C "twin" (spTwinO C) [] E0 (tVar n1) tNil) (tCons (tCB (fun xs H Q => ∃ p ys, xs = [.ref p] ∧ (SqL X.K H p ys ∨ SqT X.K H p ys) ∧ ∀ l, H l = none → Q (.ref l) (upd H l (.lst ys))) (tCons (tVar n2) tNil)) (tCons (tCB (fun xs H Q => ∃ p ys, xs = [.ref p] ∧ (SqL X.K H p ys ∨ SqT X.K H p ys) ∧ ∀ l, H l = none → Q (.ref l) (upd H l (.lst ys))) (tCons (tVar n3) tNil)) tNil)))) tNil))) (hs : autoParam (swapsWith e none pos.line X.env = pure false) au5._auto_1) :
  Ex X (.Expr e pos) (dTwin C i n1 n2 n3) := PS.imp (ps_expr h hs) fun D σ H zz => (by
 obtain ⟨W, M, α, δ, Δ, E, L, a, es, s, l, va, vb, vc, h1, h2, h3, h4, h5, h6, h7, q⟩ := zz
 obtain ⟨ts, ass, e1, e2, r⟩ := smo_at E h1
 obtain ⟨as1, f1, g1, v1, z1, x, dx, p, vn, xs, rfl, z2, O⟩ := fix_at E h2
 cases z1
 subst z2
 obtain ⟨as2, f2, g2, la, ls, rfl, z3, hl, rl⟩ := fix_at E h3
 cases z3
 obtain ⟨as3, f3, g3, m, ms, rfl, z4, hm, rm⟩ := fix_at E h4
 cases z4
 have mx : M x := E.mu x (flat_get g1 (by simp))
 have mp : M p := E.mu p (flat_get g1 (by simp))
 have ma : M a := E.mu a (flat_get e2 (by simp))
 refine ⟨_, e1, .inl ⟨rfl, _, SqL.of r.h⟩, _, f1, x, dx, _, rfl, O.hx, rfl, ?_⟩
 refine ⟨M, x, dx, p, vn, xs, s, l, rfl, E.al, mx, mp, O, h5, h6, fun H1 y dy q1 ys s1 hy hq hdy O1 => ?_⟩
 refine ⟨_, f2, la, ls, rfl, .inl (SqL.of (s1 _ _ hl)), fun l1 hl1 => ?_⟩
 have s2 : Same H1 (upd H1 l1 (.lst ls)) := same_new hl1
 refine ⟨_, f3, m, ms, rfl, .inl (SqL.of (s2 _ _ (s1 _ _ hm))), fun l2 hl2 => ?_⟩
 have s3 : Same (upd H1 l1 (.lst ls)) (upd (upd H1 l1 (.lst ls)) l2 (.lst ms)) := same_new hl2
 refine ⟨by show 3 ≤ sizeLine; decide, fun tt htt => ?_⟩
 have s4 : Same (upd (upd H1 l1 (.lst ls)) l2 (.lst ms)) (upd (upd (upd H1 l1 (.lst ls)) l2 (.lst ms)) tt (.tup [.ref y, .ref l1, .ref l2])) := same_new htt
 generalize hH3 : upd (upd H1 l1 (.lst ls)) l2 (.lst ms) = H3 at s3 s4 htt
 generalize hH4 : upd H3 tt (.tup [.ref y, .ref l1, .ref l2]) = H4 at s4
 have S13 : Same H1 H3 := fun b o e => by have := s3 _ _ (s2 _ _ e); exact this
 have S14 : Same H1 H4 := fun b o e => s4 _ _ (S13 _ _ e)
 have S : Same H H4 := fun b o e => S14 _ _ (s1 _ _ e)
 have none1 : ∀ b, H1 b = none → H b = none := fun b hb => by
  cases e : H b with
  | none => rfl
  | some o => rw [s1 _ _ e] at hb; cases hb
 have l12 : l2 ≠ l1 := fun z => by rw [z, upd_same] at hl2; cases hl2
 have hl2' : H1 l2 = none := by rw [upd_ne l12] at hl2; exact hl2
 have H3l1 : H3 l1 = some (.lst ls) := by rw [← hH3, upd_ne (Ne.symm l12), upd_same]
 have H3l2 : H3 l2 = some (.lst ms) := by rw [← hH3, upd_same]
 have H4l1 : H4 l1 = some (.lst ls) := s4 _ _ H3l1
 have H4l2 : H4 l2 = some (.lst ms) := s4 _ _ H3l2
 have H4tt : H4 tt = some (.tup [.ref y, .ref l1, .ref l2]) := by rw [← hH4, upd_same]
 have tt0 : H1 tt = none := by
  cases e : H1 tt with
  | none => rfl
  | some o => rw [S13 _ _ e] at htt; cases htt
 have yd : y ≠ dy := fun z => by have := O1.hd; rw [← z, O1.hx] at this; cases this
 have yq : y ≠ q1 := Ne.symm O1.px
 have dq : dy ≠ q1 := O1.dp
 have new1 : ∀ b o, H1 b = some o → b ≠ l1 ∧ b ≠ l2 ∧ b ≠ tt := fun b o e => ⟨(fun z => by rw [z, hl1] at e; cases e), (fun z => by rw [z, hl2'] at e; cases e), (fun z => by rw [z, tt0] at e; cases e)⟩
 have ny := new1 _ _ O1.hx
 have nd' := new1 _ _ O1.hd
 have nq := new1 _ _ O1.hp
 let N : List Addr := [y, dy, q1] ++ ([l1] ++ [l2])
 have hN : ∀ b, b ∈ N → H b = none ∧ ∃ u, H4 b = some u ∧ ∀ xs, u ≠ .tup xs := fun b hb => by
  simp only [N, List.cons_append, List.nil_append, List.mem_cons, List.not_mem_nil, or_false] at hb
  rcases hb with rfl | rfl | rfl | rfl | rfl
  · exact ⟨hy, _, S14 _ _ O1.hx, fun xs z => by cases z⟩
  · exact ⟨hdy, _, S14 _ _ O1.hd, fun xs z => by cases z⟩
  · exact ⟨hq, _, S14 _ _ O1.hp, fun xs z => by cases z⟩
  · exact ⟨none1 _ hl1, _, H4l1, fun xs z => by cases z⟩
  · exact ⟨none1 _ hl2', _, H4l2, fun xs z => by cases z⟩
 obtain ⟨E4, fr⟩ := holdN (N := fun b => b ∈ N) E S hN
 have ndN : N.Nodup := by
  simp only [N, List.cons_append, List.nil_append]
  simp only [List.nodup_cons, List.mem_cons, List.not_mem_nil, or_false, not_or, not_false_eq_true, List.nodup_nil, and_true]
  exact ⟨⟨yd, yq, ny.1, ny.2.1⟩, ⟨dq, nd'.1, nd'.2.1⟩, ⟨nq.1, nq.2.1⟩, Ne.symm l12⟩
 have aN : a ∉ N := fun z => (fr a z).1 (flat_get e2 (by simp))
 refine ⟨a, ts, .ref tt, rfl, rfl, S _ _ r.h, by rw [r.lt]; exact Nat.lt_of_le_of_lt h7 (by decide), ?_⟩
 generalize hH5 : upd H4 a (.lst (ts ++ [.ref tt])) = H5
 have k5 : ∀ b u, H4 b = some u → b ≠ a → H5 b = some u := fun b u e n => by rw [← hH5, upd_ne n]; exact e
 have H5a : H5 a = some (.lst (ts ++ [.ref tt])) := by rw [← hH5, upd_same]
 have afl : a ∉ ass.flatten := by
  have := flat_perm (x := []) e2
  rw [List.append_nil] at this
  exact (List.nodup_cons.mp (List.nodup_append.mp (this.nodup_iff.mpr E.nd)).2.1).1
 obtain ⟨E5, c5⟩ := E4.mod (s' := .ob TrivO) (H' := H5) h1 e1 e2 rfl ⟨_, rfl, trivial⟩ (fun b u e n => k5 b u e fun z => n (by rw [z]; simp)) (fun b hb => by
  by_cases z : b = a
  · rw [z]; exact ⟨_, H5a, fun xs y => by cases y⟩
  · obtain ⟨u, e, n⟩ := E4.al b (E4.mu b (flat_get e2 hb))
    exact ⟨u, k5 _ _ e z, n⟩)
 have la5 : (α : List (List Addr))[i]? = some (a :: ass.flatten) := e2
 have li : i < δ.length := (List.getElem?_eq_some_iff.mp h1).1
 have kM : ∀ b u, H b = some u → ¬ M b → H5 b = some u ∧ ¬ (M b ∨ b ∈ N) := fun b u e n => ⟨k5 _ _ (S _ _ e) fun z => n (z ▸ ma), fun z => z.elim n fun y => by rw [(hN b y).1] at e; cases e⟩
 have E6 := EnvR.wax (s' := smO C a (es ++ [.full s l])) (N := N) E5 (List.getElem?_set_self li) e1 e2 rfl rfl ndN (fun b hb => ⟨.inr hb, (fr b hb).1, (fr b hb).2.2⟩) ⟨_, rfl, ts ++ [.ref tt], ass ++ [N], rfl, by simp, H5a, by rw [List.length_append, List.length_append, r.lt]; rfl, by rw [List.length_append, List.length_append, r.la]; rfl, fun j e he => by
  by_cases c : j < es.length
  · rw [List.getElem?_append_left c] at he
    obtain ⟨t, bs, u1, u2, u3⟩ := r.en j e he
    refine ⟨t, bs, by rw [List.getElem?_append_left (by rw [r.lt]; exact c)]; exact u1, by rw [List.getElem?_append_left (by rw [r.la]; exact c)]; exact u2, u3.st (fun b hb o e => k5 _ _ (S _ _ e) fun z => afl (z ▸ flat_get u2 hb)) kM⟩
  · rw [List.getElem?_append_right (by lia)] at he
    have j0 : j - es.length = 0 := by
     cases w : j - es.length with
     | zero => rfl
     | succ n => rw [w] at he; simp at he
    rw [j0] at he
    cases he
    have jl : j = es.length := by lia
    subst jl
    refine ⟨.ref tt, N, by rw [List.getElem?_append_right (by rw [r.lt]; exact Nat.le_refl _), r.lt, Nat.sub_self]; rfl, by rw [List.getElem?_append_right (by rw [r.la]; exact Nat.le_refl _), r.la, Nat.sub_self]; rfl, tt, y, l1, l2, [y, dy, q1], [l1], [l2], rfl, k5 _ _ H4tt (fun z => by have := r.h; rw [← z] at this; have t0 := none1 _ tt0; rw [t0] at this; cases this), ?_, rfl, ?_, ?_, ?_⟩
    · rintro (z | z)
      · obtain ⟨o, e, _⟩ := E.al _ z
        rw [none1 _ tt0] at e; cases e
      · simp only [N, List.cons_append, List.nil_append, List.mem_cons, List.not_mem_nil, or_false] at z
        rcases z with z | z | z | z | z
        · exact ny.2.2 z.symm
        · exact nd'.2.2 z.symm
        · exact nq.2.2 z.symm
        · rw [z] at htt; rw [H3l1] at htt; cases htt
        · rw [z] at htt; rw [H3l2] at htt; cases htt
    · have na : ∀ b, H b = none → b ≠ a := fun b hb z => by rw [z, r.h] at hb; cases hb
      refine ⟨_, rfl, y, dy, q1, vn, ys, rfl, rfl, OwnR.keep O1 (fun b u e hb => k5 _ _ (S14 _ _ e) ?_) fun b u e n => ⟨k5 _ _ (S14 _ _ e) fun z => n (.inl (z ▸ ma)), fun z => ?_⟩⟩
      · rcases hb with rfl | rfl | rfl
        · exact na _ hy
        · exact na _ hdy
        · exact na _ hq
      · rcases z with z | z
        · exact n (.inl z)
        · simp only [N, List.cons_append, List.nil_append, List.mem_cons, List.not_mem_nil, or_false] at z
          rcases z with z | z | z | z | z
          · exact n (.inr (.inl z))
          · exact n (.inr (.inr (.inr z)))
          · exact n (.inr (.inr (.inl z)))
          · exact (new1 _ _ e).1 z
          · exact (new1 _ _ e).2.1 z
    · exact ⟨l1, ls, rfl, rfl, k5 _ _ H4l1 (fun z => by have := none1 _ hl1; rw [z, r.h] at this; cases this), rl.mono kM⟩
    · exact ⟨l2, ms, rfl, rfl, k5 _ _ H4l2 (fun z => by have := none1 _ hl2'; rw [z, r.h] at this; cases this), rm.mono kM⟩⟩
 rw [List.set_set] at E6
 exact L.nx _ _ _ _ _ E6 q)
end
end K29
end
section
namespace K29
open PySem PySem.Spec L2 LB LD PyProof.Rows
def DeedEnd (C a : Addr) (k : Nat) (post : Int → List En → Prop) (δ : List Sl) : Prop :=
 ∃ t es x la m s l, δ[0]? = some (.bx t) ∧ δ[1]? = some (smO C a es) ∧ δ[3]? = some (fx (.ref x) (rdO C s l)) ∧ δ[4]? = some (fx (.ref la) (.ow (stL s l))) ∧ δ[5]? = some (fx (.ref m) (.ow (sW l))) ∧ es[k]? = some (.hole x la m) ∧ post t (es.set k (.full s l))
structure Back (C a d c : Addr) (H H' : Hp) (M M' : Addr → Prop) (ass ass' : List (List Addr)) (t' : Int) (es' : List En) (ts' : List V) : Prop where
 keep : ∀ b o, H b = some o → b ∉ d :: c :: a :: ass.flatten → H' b = some o
 ex : ∀ b, H b ≠ none → H' b ≠ none
 mm : ∀ b, M b → b ∉ a :: ass.flatten → M' b
 m1 : ∀ b, M' b → M b ∨ H b = none
 al : MOk M' H'
 bx : Box H' d c t'
 sm : SmR C es' M' H' a ts' ass'
 nd : (d :: c :: a :: ass'.flatten).Nodup
 mu : ∀ b ∈ a :: ass'.flatten, M' b
 new : ∀ b ∈ a :: ass'.flatten, b ∈ d :: c :: a :: ass.flatten ∨ H b = none
def spD (C : Addr) (Pre : Nat × Nat → Int → List En → Nat → Prop) (Post : Nat × Nat → Int → List En → Nat → Int → List En → Prop) : Sp := fun vs H Q _ => ∃ (z : Nat × Nat) (M : Addr → Prop) (d c : Addr) (t : Int) (a : Addr) (ts : List V) (ass : List (List Addr)) (es : List En) (k : Nat),
 vs = [.ref d, .ref a, .int (k : Int)] ∧ MOk M H ∧ M d ∧ M c ∧ Box H d c t ∧ SmR C es M H a ts ass ∧ (d :: c :: a :: ass.flatten).Nodup ∧ (∀ b ∈ a :: ass.flatten, M b) ∧ Pre z t es k ∧ ∀ H' M' ass' t' es' ts', Back C a d c H H' M M' ass ass' t' es' ts' → Post z t es k t' es' → Q (.bl true) H'
theorem pick5 {α : List (List Addr)} {A0 A1 A3 A4 A5 : List Addr} (nd : α.flatten.Nodup) (h0 : α[0]? = some A0) (h1 : α[1]? = some A1) (h3 : α[3]? = some A3) (h4 : α[4]? = some A4) (h5 : α[5]? = some A5) : (A0 ++ (A1 ++ (A3 ++ (A4 ++ A5)))).Nodup := by
 have P5 := flat_perm (x := []) h5
 have P4 := flat_perm (α := α.set 5 []) (x := []) (show (α.set 5 [])[4]? = some A4 by rw [List.getElem?_set_ne (by decide)]; exact h4)
 have P3 := flat_perm (α := (α.set 5 []).set 4 []) (x := []) (show ((α.set 5 []).set 4 [])[3]? = some A3 by rw [List.getElem?_set_ne (by decide), List.getElem?_set_ne (by decide)]; exact h3)
 have P1 := flat_perm (α := ((α.set 5 []).set 4 []).set 3 []) (x := []) (show (((α.set 5 []).set 4 []).set 3 [])[1]? = some A1 by rw [List.getElem?_set_ne (by decide), List.getElem?_set_ne (by decide), List.getElem?_set_ne (by decide)]; exact h1)
 have P0 := flat_perm (α := (((α.set 5 []).set 4 []).set 3 []).set 1 []) (x := []) (show ((((α.set 5 []).set 4 []).set 3 []).set 1 [])[0]? = some A0 by rw [List.getElem?_set_ne (by decide), List.getElem?_set_ne (by decide), List.getElem?_set_ne (by decide), List.getElem?_set_ne (by decide)]; exact h0)
 rw [List.append_nil] at P5 P4 P3 P1 P0
 have := (((((P0.append_right A1).trans P1).append_right A3).trans P3).append_right A4).trans P4 |>.append_right A5 |>.trans P5
 have n := this.nodup_iff.mpr nd
 simp only [List.append_assoc] at n
 exact (List.nodup_append.mp n).2.1
theorem put_back {C a d c : Addr} {H H' : Hp} {M M' : Addr → Prop} {ts : List V} {ass : List (List Addr)} {es0 : List En} {α' : List (List Addr)} {σ' : L2.St} {δ' : List Sl} {k : Nat} {post : Int → List En → Prop} (r0 : SmR C es0 M H a ts ass)
  (E : EnvR [⟨H, fun b => b ∈ d :: c :: a :: ass.flatten, fun b => M b ∧ b ∉ a :: ass.flatten, M, some (d, c)⟩] M' α' H' σ' δ') (h : DeedEnd C a k post δ') : ∃ ass' t' es' ts', Back C a d c H H' M M' ass ass' t' es' ts' ∧ post t' es' := by
 obtain ⟨t, es, x, la, m, s, l, h0, h1, h3, h4, h5, hk, q⟩ := h
 have w := E.w _ (List.mem_singleton.mpr rfl)
 obtain ⟨t2, e1, e2⟩ := w.bx d c rfl
 obtain ⟨d3, c3, e3, e4, B⟩ := E.box h0
 rw [e2] at e4
 cases e4
 obtain ⟨ts1, ass1, g1, g2, r⟩ := smo_at E h1
 obtain ⟨as3, f3, a3, r3⟩ := fix_at E h3
 obtain ⟨as4, f4, a4, r4⟩ := fix_at E h4
 obtain ⟨as5, f5, a5, r5⟩ := fix_at E h5
 obtain ⟨t', bs, u1, u2, ta, rfl, ht, nt, rfl⟩ := r.en k _ hk
 have kl : k < ass1.length := (List.getElem?_eq_some_iff.mp u2).1
 have P := flat_perm (x := as3 ++ (as4 ++ as5)) u2
 rw [List.append_nil] at P
 have nd := pick5 E.nd e2 g2 a3 a4 a5
 have mem : ∀ b, b ∈ a :: (ass1.set k (as3 ++ (as4 ++ as5))).flatten → b ∈ α'.flatten := fun b hb => by
  rcases List.mem_cons.mp hb with z | z
  · rw [z]; exact flat_get g2 (by simp)
  · have := P.mem_iff.mp z
    rcases List.mem_append.mp this with y | y
    · exact flat_get g2 (by simp only [List.mem_cons]; exact .inr y)
    · rcases List.mem_append.mp y with y | y
      · exact flat_get a3 y
      · rcases List.mem_append.mp y with y | y
        · exact flat_get a4 y
        · exact flat_get a5 y
 refine ⟨ass1.set k (as3 ++ (as4 ++ as5)), t, es.set k (.full s l), ts1, ⟨w.bs, w.ex, fun b hb hn => w.m0 b ⟨hb, hn⟩, w.m1, E.al, B, ⟨r.h, by rw [List.length_set]; exact r.lt, by rw [List.length_set, List.length_set]; exact r.la, fun j e he => ?_⟩, ?_, fun b hb => E.mu b (mem b hb), fun b hb => w.fr b (mem b hb)⟩, q⟩
 · by_cases c' : k = j
   · subst c'
     rw [List.getElem?_set_self (by rw [← r.la]; exact kl)] at he
     cases he
     exact ⟨_, _, u1, List.getElem?_set_self kl, ta, x, la, m, as3, as4, as5, rfl, ht, nt, rfl, r3, r4, r5⟩
   · rw [List.getElem?_set_ne c'] at he
     obtain ⟨t2, bs2, v1, v2, v3⟩ := r.en j e he
     exact ⟨t2, bs2, v1, by rw [List.getElem?_set_ne c']; exact v2, v3⟩
 · refine List.Perm.nodup_iff (l₂ := [d, c] ++ ((a :: ass1.flatten) ++ (as3 ++ (as4 ++ as5)))) ?_ |>.mpr nd
   show (d :: c :: a :: _).Perm (d :: c :: a :: (ass1.flatten ++ _))
   exact List.Perm.cons _ (List.Perm.cons _ (List.Perm.cons _ P))
theorem env_startD {C a d c : Addr} {H : Hp} {M : Addr → Prop} {t : Int} {ts : List V} {ass : List (List Addr)} {es : List En} {k n : Nat} (al : MOk M H) (Md : M d) (Mc : M c) (B : Box H d c t) (r : SmR C es M H a ts ass) (nd : (d :: c :: a :: ass.flatten).Nodup) (mu : ∀ b ∈ a :: ass.flatten, M b) :
  EnvR [⟨H, fun b => b ∈ d :: c :: a :: ass.flatten, fun b => M b ∧ b ∉ a :: ass.flatten, M, some (d, c)⟩] M ([d, c] :: (a :: ass.flatten) :: [] :: List.replicate n []) H (some (.ref d) :: some (.ref a) :: some (.int (k : Int)) :: List.replicate n none) (.bx t :: smO C a es :: .im (nI k) :: List.replicate n .no) := by
 have hflat : (List.replicate n ([] : List Addr)).flatten = [] := by simp
 have ef : (([d, c] : List Addr) :: (a :: ass.flatten) :: [] :: List.replicate n []).flatten = d :: c :: a :: ass.flatten := by
  rw [List.flatten_cons, List.flatten_cons, List.flatten_cons, hflat, List.append_nil, List.append_nil]; rfl
 refine ⟨by simp, by simp, fun i s h => ?_, by rw [ef]; exact nd, fun b hb => ?_, al, fun W' hW => ?_⟩
 · match i, h with
   | 0, h => cases h; exact ⟨_, _, rfl, rfl, d, c, rfl, rfl, B⟩
   | 1, h => cases h; exact ⟨_, _, rfl, rfl, _, rfl, ts, ass, rfl, rfl, r⟩
   | 2, h => cases h; exact ⟨_, _, rfl, rfl, rfl, _, rfl, .int _⟩
   | i + 3, h =>
    simp only [List.getElem?_cons_succ, List.getElem?_replicate] at h ⊢
    split at h
    · rename_i hi
      cases h
      exact ⟨none, [], by rw [if_pos hi], by rw [if_pos hi], rfl⟩
    · cases h
 · rw [ef] at hb
   simp only [List.mem_cons] at hb
   rcases hb with rfl | rfl | hb
   · exact Md
   · exact Mc
   · exact mu b (List.mem_cons.mpr hb)
 · rw [List.mem_singleton.mp hW]
   refine ⟨fun b o e _ => e, fun b n => n, fun b hb => .inl (by rw [ef] at hb; exact hb), fun b h => h.1, fun b h => .inl h, fun d' c' e => ?_, fun j s as h1 h2 nb b hb => ?_⟩
   · cases e; exact ⟨t, rfl, rfl⟩
   · match j, h1, h2 with
     | 0, h1, _ => cases h1; cases nb
     | 1, _, h2 => cases h2; exact fun z => z.2 hb
     | 2, _, h2 => cases h2; exact absurd hb List.not_mem_nil
     | j + 3, _, h2 =>
      simp only [List.getElem?_cons_succ, List.getElem?_replicate] at h2
      split at h2
      · cases h2; exact absurd hb List.not_mem_nil
      · cases h2
section
variable {P : Program} {w : World} {K : PySem.W.Frag} {mg : Str → Option Value} {base : Heap} {C : Addr}
theorem fnD {x qual : Str} {st : Stmt} {f : Addr} {fd : FuncData} {N ps : List Str} {k0 : Nat} {Pre : Nat × Nat → Int → List En → Nat → Prop} {Post : Nat × Nat → Int → List En → Nat → Int → List En → Prop} (F : Fun K x qual st f fd) (sc : FnScope N ps (defScope st)) (pl : ps.length = 3)
  (hbody : ∀ (cdv : Value) (A : Around) (outer : List Env) (s : Shared) (H : Hp) (E : XK), Room k0 (A.deeper (envOfC qual (defScope st) s.heap.objs.size f cdv)) →
   ∃ T, Exs (cxOf CX0 P w K mg base N qual (defScope st) f cdv A outer s H E).nox (defBody st) T ∧ ∀ a z t es k, Pre z t es k → T { nx := fun _ => False, rt := fun d δ => d = .bl true ∧ DeedEnd C a k (Post z t es k) δ } (.bx t :: smO C a es :: .im (nI k) :: List.replicate (N.length - ps.length) .no)) :
  FnOk P w K mg base CX0 (k0 + 1) f fd ps (spD C Pre Post) := by
 refine F.ok sc (fun vs H Q E h => ?_) (fun cdv A outer s H vs Q E hr h => ?_)
 · obtain ⟨z, M, d, c, t, a, ts, ass, es, k, rfl, _⟩ := h
   rw [pl]; rfl
 · obtain ⟨z, M, d, c, t, a, ts, ass, es, k, rfl, al, md, mc, B, r, nd, mu, pre, kk⟩ := h
   obtain ⟨T, hT, hq⟩ := hbody cdv A outer s H E hr
   refine ⟨lS T, hT, [⟨H, fun b => b ∈ d :: c :: a :: ass.flatten, fun b => M b ∧ b ∉ a :: ass.flatten, M, some (d, c)⟩], M, [d, c] :: (a :: ass.flatten) :: [] :: List.replicate (N.length - ps.length) [], .bx t :: smO C a es :: .im (nI k) :: List.replicate (N.length - ps.length) .no, _, ?_, ?_, hq a z t es k pre⟩
   · have e : L2.start N [.ref d, .ref a, .int (k : Int)] = some (.ref d) :: some (.ref a) :: some (.int (k : Int)) :: List.replicate (N.length - ps.length) none := by
       unfold L2.start
       rw [pl]; rfl
     rw [e]
     exact env_startD al md mc B r nd mu
   · refine ⟨fun _ _ _ _ _ _ z => z.elim, fun M' α' H' σ' δ' v d' E' r' q => ?_, fun _ _ _ _ _ _ z => z.elim, fun _ _ _ _ _ _ z => z.elim⟩
     obtain ⟨rfl, q⟩ := q
     cases r'.ofBl
     obtain ⟨ass', t', es', ts', bk, po⟩ := put_back r E' q
     exact kk _ _ _ _ _ _ bk po
end
end K29
end
section
namespace K29
open PySem PySem.Spec L2 LB LD PyProof.Rows
def dCompF (i j : Nat) (t : DTO) : DTS := fun Δ δ => ∃ v ds, δ[j]? = some (fx v (.ow ds)) ∧ okSet δ i ∧ t ((List.replicate δ.length .no).set j (.im (.lst ds))) fun es δ' => (∀ d ∈ es, Atm d) ∧ Δ.nx (δ.set i (.ow es))
section
variable {X : Cx} {N : List Str} {nt : Nat} {js : List Nat} {scope : Scope} {elt tg iter : Expr} {ifs : List Expr} {pos : Pos} {ti : DTI} {g : DTG} {tc : DTT} {te : DTE}
theorem s_compF (i j : Nat) {gh : TG} {y : Str} {pos' py : Pos} (hN : X.N.Nodup) (S : CpOk X N nt js scope) (hc : X.calm = true) (hi : Iv X tg iter ti) (hg : ∀ s H cl C ex, PG (blk X N scope s H cl C ex) tg gh) (hlow : GLow nt gh) (hgr : ∀ v σ H Q, lG g v σ H Q → gh v σ H Q) (hf : ∀ s H cl C ex, PF (blk X N scope s H cl C ex) ifs (lT tc)) (he : ∀ s H cl C ex, Ev (blk X N scope s H cl C ex) elt te)
  (hiN : autoParam (X.N[i]? = some y) au5._auto_1) (hy : autoParam (Loc X.env.scope y) au8._auto_1) (hsw : autoParam (swapsWith (.ListComp elt [⟨tg, iter, ifs, 0⟩] scope pos) (some (.Name y py)) pos'.line X.env = pure true) au5._auto_1) (hs : autoParam (∀ x, foldedSetIterable iter X.env x = pure x) au4._auto_1)
  (hfn : autoParam (X.fn y = true ∨ X.env.scope.names.lookup y = some .local) au1._auto_1) :
  Ex X (.Assign [.Name y py] (.ListComp elt [⟨tg, iter, ifs, 0⟩] scope pos) pos') (dCompF i j (dComp nt js ti g tc te)) := PS.imp (ps_comp hN hiN hy S hc hi hg hlow hf he hsw hs hfn) fun D σ H h => by
 obtain ⟨Ws, M, α, δ, Δ, E, L, v, ds, hj, ok, q⟩ := h
 obtain ⟨as, f1, f2, a, xs, rfl, e, hl, rr⟩ := fix_at E hj
 cases e
 have jl : j < δ.length := (List.getElem?_eq_some_iff.mp hj).1
 have hflat : (List.replicate δ.length ([] : List Addr)).flatten = [] := by simp
 have al : MOk (fun b => M b ∧ b ≠ a) H := fun b hb => E.al b hb.1
 have El : EnvR [⟨H, fun _ => False, fun b => M b ∧ b ≠ a, fun b => M b ∧ b ≠ a, none⟩] (fun b => M b ∧ b ≠ a) (List.replicate δ.length []) H σ ((List.replicate δ.length .no).set j (.im (.lst ds))) := by
  refine ⟨by rw [List.length_set, List.length_replicate]; exact E.ls, by rw [List.length_set, List.length_replicate, List.length_replicate], fun n s hn => ?_, by rw [hflat]; exact List.nodup_nil, fun b hb => by rw [hflat] at hb; exact absurd hb List.not_mem_nil, al, fun W' hW => ?_⟩
  · have nl : n < δ.length := by have := (List.getElem?_eq_some_iff.mp hn).1; rw [List.length_set, List.length_replicate] at this; exact this
    have hσ : σ[n]? = some (σ[n]'(by rw [E.ls]; exact nl)) := List.getElem?_eq_getElem _
    by_cases c : j = n
    · subst c
      rw [List.getElem?_set_self (by rw [List.length_replicate]; exact jl)] at hn
      cases hn
      refine ⟨_, [], f1, by rw [List.getElem?_replicate, if_pos jl], rfl, _, rfl, Rep.toLst hl (fun z => z.2 rfl) (rr.mono fun b o e n => ⟨e, fun z => n z.1⟩)⟩
    · rw [List.getElem?_set_ne c, List.getElem?_replicate, if_pos nl] at hn
      cases hn
      exact ⟨_, [], hσ, by rw [List.getElem?_replicate, if_pos nl], rfl⟩
  · rw [List.mem_singleton.mp hW]
    refine ⟨fun b o e _ => e, fun b n => n, fun b hb => by rw [hflat] at hb; exact absurd hb List.not_mem_nil, fun b h => h, fun b h => .inl h, fun d c e => (by cases e), fun n s as h1 h2 _ b hb => ?_⟩
    rw [List.getElem?_replicate] at h2
    split at h2
    · cases h2; exact absurd hb List.not_mem_nil
    · cases h2
 refine comp_read hgr _ _ _ ⟨_, _, _, _, _, El, q, fun es δ' H1 ys b zz E1 c1 r1 h1 => ?_⟩
 obtain ⟨at', q1⟩ := zz
 have sm : Same H H1 := fun b o e => (E1.w _ (List.mem_singleton.mpr rfl)).bs b o e fun z => z
 exact L.nx _ _ _ _ _ ((E.same sm).setNew (s := .ow es) h1 (fun xs z => by cases z) ok rfl ⟨b, ys, rfl, rfl, upd_same, r1.atm at'⟩) q1
end
end K29
end
section
namespace K29
open PySem PySem.Spec L2 LB LD PyProof.Rows
inductive Hok (n : Nat) : St → List (Str × St) → Prop
 | nil : Hok n (first n) []
 | snoc {s : St} {l : List (Str × St)} {w : Str} : Hok n s l → okB s w = true → Hok n (stp s w) (l ++ [(w, s)])
theorem Hok.wk {n : Nat} {s : St} {l : List (Str × St)} (h : Hok n s l) : Wk n l.length s := by
 induction h with
 | nil => exact wk_first n
 | snoc _ o ih => rw [List.length_append]; exact wk_step ih o
theorem Hok.back {n : Nat} {s s0 : St} {l0 : List (Str × St)} {w : Str} (h : Hok n s (l0 ++ [(w, s0)])) : Hok n s0 l0 ∧ okB s0 w = true ∧ s = stp s0 w := by
 generalize e : l0 ++ [(w, s0)] = l at h
 cases h with
 | nil => simp at e
 | snoc h o =>
  have := List.append_inj' e rfl
  obtain ⟨rfl, e2⟩ := this
  simp only [List.cons.injEq, and_true, Prod.mk.injEq] at e2
  obtain ⟨rfl, rfl⟩ := e2
  exact ⟨h, o, rfl⟩
def EsOk (n b : Nat) (es : List En) : Prop := ∀ e ∈ es, ∃ s l, e = .full s l ∧ Hok n s l ∧ l.length ≤ b
def PreD (z : Nat × Nat) (t : Int) (es : List En) (k : Nat) : Prop := 1 ≤ z.1 ∧ z.1 ≤ 12 ∧ z.2 ≤ 60 ∧ EsOk z.1 z.2 es ∧ es.length ≤ 4 ∧ k < es.length ∧ t + 10 ≤ 900000
def PostD (z : Nat × Nat) (t : Int) (es : List En) (k : Nat) (t' : Int) (es' : List En) : Prop := EsOk z.1 (z.2 + 1) es' ∧ es'.length ≤ 4 ∧ 1 ≤ es'.length ∧ t' ≤ t + 10
theorem EsOk.set {n b : Nat} {es : List En} {k : Nat} {s : St} {l : List (Str × St)} (h : EsOk n b es) (h1 : Hok n s l) (h2 : l.length ≤ b) : EsOk n b (es.set k (.full s l)) := fun e he => by
 rcases List.mem_or_eq_of_mem_set he with z | z
 · exact h e z
 · exact ⟨s, l, z, h1, h2⟩
theorem EsOk.more {n b : Nat} {es : List En} (h : EsOk n b es) : EsOk n (b + 1) es := fun e he => by
 obtain ⟨s, l, a1, a2, a3⟩ := h e he
 exact ⟨s, l, a1, a2, by lia⟩
theorem hole_back {es : List En} {k : Nat} {x la m : Addr} {e : En} : (es.set k (.hole x la m)).set k e = es.set k e := List.set_set ..
theorem st_pop {s s0 : St} {l0 : List (Str × St)} {w : Str} : (stL s (l0 ++ [(w, s0)])).dropLast = stL s0 l0 := by
 unfold stL
 rw [List.map_append, List.dropLast_concat]
 rfl
theorem sW_pop {s0 : St} {l0 : List (Str × St)} {w : Str} : (sW (l0 ++ [(w, s0)])).dropLast = sW l0 := by
 unfold sW
 rw [List.map_append]
 exact List.dropLast_concat
theorem sW_last {s0 : St} {l0 : List (Str × St)} {w : Str} : (sW (l0 ++ [(w, s0)]))[(sW (l0 ++ [(w, s0)])).length - 1]? = some (.str w) := by
 unfold sW
 rw [List.map_append, List.length_append, List.length_map]
 show ((l0.map fun p => Dt.str p.1) ++ [Dt.str w])[l0.length + 1 - 1]? = _
 rw [Nat.add_sub_cancel, List.getElem?_append_right (by rw [List.length_map]; exact Nat.le_refl _), List.length_map, Nat.sub_self]
 rfl
theorem st_lastN {s : St} {l : List (Str × St)} : (stL s l)[(stL s l).length - 1]? = some s.dt := by
 unfold stL
 rw [List.length_append, List.length_map]
 show ((l.map fun p => p.2.dt) ++ [s.dt])[l.length + 1 - 1]? = _
 rw [Nat.add_sub_cancel, List.getElem?_append_right (by rw [List.length_map]; exact Nat.le_refl _), List.length_map, Nat.sub_self]
 rfl
end K29
end
section
namespace K29
open PySem PySem.Spec L2 LB LD PyProof.Rows
def m1D : DTE := D_u (fun i => Dt.int (-i)) (dC (Dt.int 1))
def deedA (C : Addr) : DTS := dSeq (dSet 7 (dC Dt.non)) (dSeq (dIfS (tFix 5 (dT (dNilO true 5))) (dSeq (dSet 7 (dFix 5 (dPop 5))) (dDrop (dFix 4 (dPop 4)))) dNext) (dRet (dCa (sameS P0) (dCons (dFix 3 (dBackO C 3)) (dCons (dVar 7) dNil)))))
def deedW (C : Addr) : DTS := dWhile (tFix 5 (dT (dNilO true 5))) (dSeq (dIfS (dT (dOp D_ne (dFix 3 (dBackO C 3)) (dFix 5 (dPop 5)))) (dRet (dC (Dt.bl false))) dNext) (dDrop (dFix 4 (dPop 4))))
def deedO (C : Addr) : DTS := dSeq (dCompF 8 4 (dComp 1 [4] (dItT (dTup (dCons (dC (Dt.str "read")) (dCons (dC (Dt.str "next")) (dCons (dC (Dt.str "under")) (dCons (dC (Dt.str "back")) dNil)))))) (dgName 0) (dT (dOp (D_in true) (dVar 0) (dCa mayS (dCons (dOp D_ix (dVar 1) m1D) dNil)))) (dVar 0)))
 (dRet (dFix 3 (dLend1 C (caughtS C) 3 (dFix 5 (dLenO 5)) (dCons (dIxO 8 (dFnB takeS 0 (dCons (dLenO 8) dNil))) dNil))))
def deedE (C : Addr) : DTS := dSeq (dSet 9 (dCa mayS (dCons (dFix 4 (dIxO 4 m1D)) dNil))) (dIfS (dT (dNilL true (dVar 9))) (dSeq (dDrop (dFix 5 (dApp 5 (dCons (dOp D_ix (dVar 9) (dFnB takeS 0 (dCons (dCa D_len (dCons (dVar 9) dNil)) dNil))) dNil)))) (dSeq (dDrop (dFix 4 (dApp 4 (dCons (dCa behindS (dCons (dIxO 4 m1D) (dCons (dFix 5 (dIxO 5 m1D)) dNil))) dNil)))) (dDrop (dFix 3 (dStepO C 3 (dCons (dFix 5 (dIxO 5 m1D)) dNil)))))) dNext)
def deedT (C : Addr) : DTS := dSeq (dTake3 C 1 2 3 4 5) (dSeq (dSet 6 (dFnB takeS 0 (dCons (dC (Dt.int 6)) dNil))) (dSeq (dIfS (dT (dOp D_eq (dVar 6) (dC (Dt.int 0)))) (deedA C) dNext) (dSeq (dIfS (dAnd (dT (dOp D_eq (dVar 6) (dC (Dt.int 1)))) (dT (dOp D_lt (dLenM C 1) (dC (Dt.int 4))))) (dTwin C 1 3 4 5) (dIfS (dAnd (dT (dOp D_eq (dVar 6) (dC (Dt.int 2)))) (dT (dOp D_eq (dFnB takeS 0 (dCons (dC (Dt.int 4)) dNil)) (dC (Dt.int 0))))) (deedW C) (dIfS (dT (dOp D_eq (dVar 6) (dC (Dt.int 3)))) (deedO C) (deedE C)))) (dRet (dC (Dt.bl true))))))
theorem may_ok {s : St} {i : Nat} {d : Dt} (h : (mayL s)[i]? = some d) : ∃ w, d = .str w ∧ okB s w = true := by
 have hm := List.mem_of_getElem? h
 have hs : ∃ w, d = .str w := by
  unfold mayL at hm
  simp only [List.mem_append] at hm
  rcases hm with (hm | hm) | hm <;> (split at hm <;> first | (rw [List.mem_singleton.mp hm]; exact ⟨_, rfl⟩) | exact absurd hm List.not_mem_nil)
 obtain ⟨w, rfl⟩ := hs
 refine ⟨w, rfl, ?_⟩
 rw [← in_may]
 unfold inD
 exact List.any_eq_true.mpr ⟨_, hm, by show decide (w = w) = true; exact decide_eq_true rfl⟩
theorem at_negS {ds : List Dt} {d : Dt} : atI (ds ++ [d]) (-1) = some d := by
 unfold atI ixN
 rw [List.length_append]
 rw [if_neg (by decide), if_pos (by simp; lia)]
 show (ds ++ [d])[(-1 + ((ds.length + [d].length : Nat) : Int)).toNat]? = _
 rw [show (-1 + ((ds.length + [d].length : Nat) : Int)).toNat = ds.length by simp; lia, List.getElem?_append_right (Nat.le_refl _), Nat.sub_self]
 rfl
noncomputable abbrev dS (C a : Addr) (k : Nat) (t : Int) (es : List En) (x la m : Addr) (s : St) (l : List (Str × St)) (r : Int) (s7 s8 s9 : Sl) : List Sl :=
 [.bx t, smO C a (es.set k (.hole x la m)), .im (nI k), fx (.ref x) (rdO C s l), fx (.ref la) (.ow (stL s l)), fx (.ref m) (.ow (sW l)), .im (.int r), s7, s8, s9]
theorem dend {C a : Addr} {z : Nat × Nat} {k : Nat} {t t' : Int} {es es1 : List En} {x la m : Addr} {s : St} {l : List (Str × St)} {δ : List Sl} (kl : k < es1.length) (h0 : δ[0]? = some (.bx t')) (h1 : δ[1]? = some (smO C a (es1.set k (.hole x la m)))) (h3 : δ[3]? = some (fx (.ref x) (rdO C s l))) (h4 : δ[4]? = some (fx (.ref la) (.ow (stL s l)))) (h5 : δ[5]? = some (fx (.ref m) (.ow (sW l))))
  (ok : EsOk z.1 (z.2 + 1) es1) (l4 : es1.length ≤ 4) (hk : Hok z.1 s l) (lb : l.length ≤ z.2 + 1) (ht : t' ≤ t + 10) : DeedEnd C a k (PostD z t es k) δ := by
 refine ⟨t', _, x, la, m, s, l, h0, h1, h3, h4, h5, List.getElem?_set_self kl, ?_⟩
 rw [hole_back]
 exact ⟨ok.set hk lb, by rw [List.length_set]; exact l4, by rw [List.length_set]; lia, ht⟩
section
variable {C a : Addr} {z : Nat × Nat} {t t1 : Int} {es : List En} {k : Nat} {s : St} {l : List (Str × St)} {x la m : Addr} {r : Int} {Δ : DEnds}
theorem readA (n12 : z.1 ≤ 12) (b60 : z.2 ≤ 60) (ok : EsOk z.1 z.2 es) (l4 : es.length ≤ 4) (kl : k < es.length) (hk : Hok z.1 s l) (lb : l.length ≤ z.2) (ht : t1 ≤ t + 10) (hrt : ∀ d δ, d = .bl true ∧ DeedEnd C a k (PostD z t es k) δ → Δ.rt d δ) :
  deedA C Δ (dS C a k t1 es x la m s l r .no .no .no) := by
 refine ⟨⟨_, rfl, rfl⟩, ?_⟩
 refine ⟨_, _, rfl, _, rfl, _, rfl, _, rfl, trivial, ?_⟩
 rcases List.eq_nil_or_concat l with e | ⟨l0, ⟨w0, s0⟩, e⟩
 · subst e
   refine iteF ⟨_, _, rfl, s, [], rfl, fun _ => ?_, fun l0 w s0 e => ?_⟩
   · exact ⟨_, rfl, trivial, _, rfl, .non, rfl, .inl rfl, hrt _ _ ⟨rfl, dend kl rfl rfl rfl rfl rfl ok.more l4 hk (by lia) ht⟩⟩
   · simp at e
 · rw [List.concat_eq_append] at e
   subst e
   obtain ⟨hb, ob, es'⟩ := hk.back
   have lb' : l0.length + 1 ≤ z.2 := by rw [List.length_append] at lb; exact lb
   have ne : (if true = true then !(sW (l0 ++ [(w0, s0)])).isEmpty else (sW (l0 ++ [(w0, s0)])).isEmpty) = true := by
    unfold sW; cases l0 <;> rfl
   rw [ne]
   refine iteT ⟨_, _, rfl, _, _, rfl, sW_last, _, rfl, trivial, ⟨_, rfl, rfl⟩, ?_⟩
   refine ⟨_, _, rfl, _, _, rfl, st_lastN, _, rfl, trivial, ?_⟩
   refine ⟨_, _, rfl, s, l0 ++ [(w0, s0)], rfl, fun e => by simp at e, fun l1 w1 s1 e => ?_⟩
   have e' := List.append_inj' e rfl
   obtain ⟨rfl, e2⟩ := e'
   simp only [List.cons.injEq, and_true, Prod.mk.injEq] at e2
   obtain ⟨rfl, rfl⟩ := e2
   refine ⟨_, rfl, trivial, _, rfl, .str w0, rfl, .inr (.inr (.inr ⟨w0, rfl⟩)), hrt _ _ ⟨rfl, dend (s := s0) (l := l0) kl rfl rfl rfl ?_ ?_ ok.more l4 hb (by lia) ht⟩⟩
   · show some (fx (.ref la) (.ow (stL s (l0 ++ [(w0, s0)])).dropLast)) = _
     rw [st_pop]
   · show some (fx (.ref m) (.ow (sW (l0 ++ [(w0, s0)])).dropLast)) = _
     rw [sW_pop]
theorem readW (ok : EsOk z.1 z.2 es) (l4 : es.length ≤ 4) (kl : k < es.length) (hk : Hok z.1 s l) (lb : l.length ≤ z.2) (hnx : ∀ s' l', Hok z.1 s' l' → l'.length ≤ z.2 → Δ.nx (dS C a k t1 es x la m s' l' r .no .no .no)) :
  deedW C Δ (dS C a k t1 es x la m s l r .no .no .no) := by
 refine while_abs (fun m' δ => ∃ s' l', δ = dS C a k t1 es x la m s' l' r .no .no .no ∧ Hok z.1 s' l' ∧ l'.length ≤ z.2 ∧ l'.length = m') ⟨_, s, l, rfl, hk, lb, rfl⟩ fun m' δ hI Δ2 hn2 _ => ?_
 obtain ⟨s, l, rfl, hk, lb, hm⟩ := hI
 refine ⟨_, _, rfl, _, rfl, _, rfl, _, rfl, trivial, ?_⟩
 rcases List.eq_nil_or_concat l with e | ⟨l0, ⟨w0, s0⟩, e⟩
 · subst e
   exact iteF (hnx s [] hk lb)
 · rw [List.concat_eq_append] at e
   subst e
   obtain ⟨hb, ob, es'⟩ := hk.back
   have lb' : l0.length + 1 ≤ z.2 := by rw [List.length_append] at lb; exact lb
   have ne : (if true = true then !(sW (l0 ++ [(w0, s0)])).isEmpty else (sW (l0 ++ [(w0, s0)])).isEmpty) = true := by
    unfold sW; cases l0 <;> rfl
   rw [ne]
   refine iteT ⟨_, _, rfl, s, l0 ++ [(w0, s0)], rfl, fun e => by simp at e, fun l1 w1 s1 e => ?_⟩
   have e' := List.append_inj' e rfl
   obtain ⟨rfl, e2⟩ := e'
   simp only [List.cons.injEq, and_true, Prod.mk.injEq] at e2
   obtain ⟨rfl, rfl⟩ := e2
   refine ⟨_, rfl, trivial, _, _, rfl, _, _, rfl, sW_last, _, rfl, trivial, true, ?_, _, rfl, iteF ?_⟩
   · show some (decide (w0 = w0)) = some true
     rw [decide_eq_true rfl]
   refine ⟨_, _, rfl, _, _, rfl, st_lastN, _, rfl, trivial, hn2 l0.length _ ?_ ⟨s0, l0, ?_, hb, by lia, rfl⟩⟩
   · rw [← hm, List.length_append]; show l0.length < l0.length + 1; lia
   · show [Sl.bx t1, smO C a (es.set k (.hole x la m)), .im (nI k), fx (.ref x) (rdO C s0 l0), fx (.ref la) (.ow (stL s (l0 ++ [(w0, s0)])).dropLast), fx (.ref m) (.ow (sW (l0 ++ [(w0, s0)])).dropLast), .im (.int r), .no, .no, .no] = _
     rw [st_pop, sW_pop]
end
end K29
end
section
namespace K29
open PySem PySem.Spec L2 LB LD PyProof.Rows
section
variable {C a : Addr} {z : Nat × Nat} {t t1 : Int} {es : List En} {k : Nat} {s : St} {l : List (Str × St)} {x la m : Addr} {r : Int} {Δ : DEnds}
theorem readE (n12 : z.1 ≤ 12) (b60 : z.2 ≤ 60) (hk : Hok z.1 s l) (lb : l.length ≤ z.2) (ht : t1 < 900000) (hnx : ∀ s' l' t' d, Hok z.1 s' l' → l'.length ≤ z.2 + 1 → t' ≤ t1 + 1 → Δ.nx (dS C a k t' es x la m s' l' r .no .no (.im d))) :
  deedE C Δ (dS C a k t1 es x la m s l r .no .no .no) := by
 have wk := hk.wk
 have fi : Fine s := wk.g.fine n12 (by lia)
 refine ⟨_, _, rfl, ⟨_, rfl⟩, _, rfl, _, _, _, rfl, rfl, st_last, _, rfl, trivial, s, rfl, fi, ⟨_, rfl, rfl⟩, ?_⟩
 refine ⟨_, rfl, _, rfl, _, rfl, ?_⟩
 cases em : mayL s with
 | nil => exact iteF (hnx s l t1 _ hk (by lia) (by lia))
 | cons d0 dr =>
  refine iteT ?_
  refine ⟨_, _, rfl, ⟨_, rfl⟩, _, rfl, ⟨_, rfl⟩, _, rfl, _, .inl rfl, _, rfl, _, rfl, by lia, by show (0 : Int) < ((dr.length + 1 : Nat) : Int); lia, ?_, fun r' h1 h2 => ?_⟩
  · have := may_len (s := s)
    rw [em, List.length_cons] at this
    show ((dr.length + 1 : Nat) : Int) < 2 ^ 64
    lia
  · obtain ⟨i', rfl⟩ := Int.eq_ofNat_of_zero_le h1
    have h2 : (i' : Int) < ((dr.length + 1 : Nat) : Int) := h2
    have il : i' < (d0 :: dr).length := by rw [List.length_cons]; lia
    have hg : (mayL s)[i']? = some ((d0 :: dr)[i']) := by rw [em]; exact List.getElem?_eq_getElem il
    obtain ⟨w, ew, ow⟩ := may_ok hg
    have ls : (sW l).length ≤ 60 := by unfold sW; rw [List.length_map]; lia
    have lt : (stL s l).length ≤ 61 := by unfold stL; rw [List.length_append, List.length_map]; show l.length + 1 ≤ 61; lia
    refine ⟨_, _, _, .inl rfl, rfl, atI_nat (List.getElem?_eq_getElem il), ?_⟩
    rw [ew]
    refine ⟨_, _, rfl, rfl, Nat.lt_of_le_of_lt ls (by decide), _, rfl, trivial, ?_⟩
    have lastS : atI (sW l ++ [Dt.str w]) (-1) = some (.str w) := at_negS
    refine ⟨_, _, rfl, ⟨_, rfl⟩, ⟨_, rfl⟩, _, rfl, _, _, _, rfl, rfl, st_last, _, _, rfl, ⟨_, rfl⟩, _, rfl, _, _, _, rfl, rfl, lastS, _, rfl, trivial, ?_⟩
    dsimp only [dNil]
    refine step_behind fi ow ?_
    refine ⟨_, _, rfl, rfl, Nat.lt_of_le_of_lt lt (by decide), _, rfl, trivial, ?_⟩
    refine ⟨_, _, rfl, ⟨_, _, rfl⟩, _, _, rfl, ⟨_, rfl⟩, _, rfl, _, _, _, rfl, rfl, lastS, _, rfl, trivial, s, l, w, rfl, rfl, fi, ow, by lia, _, rfl, trivial, ?_⟩
    have := hnx (stp s w) (l ++ [(w, s)]) (t1 + 1) (.lst (d0 :: dr)) (.snoc hk ow) (by rw [List.length_append]; show l.length + 1 ≤ z.2 + 1; lia) (by lia)
    have e1 : stL (stp s w) (l ++ [(w, s)]) = stL s l ++ [(stp s w).dt] := by unfold stL; rw [List.map_append]; rfl
    have e2 : sW (l ++ [(w, s)]) = sW l ++ [.str w] := by unfold sW; rw [List.map_append]; rfl
    unfold dS at this
    rw [e1, e2] at this
    exact this
end
end K29
end
section
namespace K29
open PySem PySem.Spec L2 LB LD PyProof.Rows
noncomputable def oddL (s : St) : List Dt := (([Dt.str "read", Dt.str "next", Dt.str "under", Dt.str "back"].filter fun d => !inD d (mayL s)).map id)
theorem odd_ok {s : St} {d : Dt} (h : d ∈ oddL s) : ∃ w, d = .str w ∧ okB s w = false := by
 unfold oddL at h
 rw [List.map_id, List.mem_filter] at h
 obtain ⟨h1, h2⟩ := h
 have hs : ∃ w, d = .str w := by
  simp only [List.mem_cons, List.not_mem_nil, or_false] at h1
  rcases h1 with rfl | rfl | rfl | rfl <;> exact ⟨_, rfl⟩
 obtain ⟨w, rfl⟩ := hs
 rw [in_may] at h2
 exact ⟨w, rfl, by simpa using h2⟩
theorem odd_back {s : St} : Dt.str "back" ∈ oddL s := by
 unfold oddL
 rw [List.map_id, List.mem_filter]
 refine ⟨by simp, ?_⟩
 rw [in_may]
 have e1 : (("read" : Str) == "back") = false := by decide +kernel
 have e2 : (("next" : Str) == "back") = false := by decide +kernel
 have e3 : (("under" : Str) == "back") = false := by decide +kernel
 unfold okB
 rw [e1, e2, e3]
 simp
section
variable {C a : Addr} {z : Nat × Nat} {t t1 : Int} {es : List En} {k : Nat} {s : St} {l : List (Str × St)} {x la m : Addr} {r : Int} {Δ : DEnds}
theorem readO (n12 : z.1 ≤ 12) (b60 : z.2 ≤ 60) (ok : EsOk z.1 z.2 es) (l4 : es.length ≤ 4) (kl : k < es.length) (hk : Hok z.1 s l) (lb : l.length ≤ z.2) (ht : t1 + 1 ≤ t + 10) (ht2 : t1 < 900000) (hrt : ∀ d δ, d = .bl true ∧ DeedEnd C a k (PostD z t es k) δ → Δ.rt d δ) :
  deedO C Δ (dS C a k t1 es x la m s l r .no .no .no) := by
 have wk := hk.wk
 have fi : Fine s := wk.g.fine n12 (by lia)
 refine ⟨_, _, rfl, ⟨_, rfl, rfl⟩, by show 4 ≤ sizeLine; decide, _, rfl, by show 4 ≤ sizeLine; decide, fun d => !inD d (mayL s), id, fun d hd => ?_, ?_⟩
 · have hd : d ∈ [Dt.str "read", Dt.str "next", Dt.str "under", Dt.str "back"] := hd
   have fd : flatD d = true := by
    simp only [List.mem_cons, List.not_mem_nil, or_false] at hd
    rcases hd with rfl | rfl | rfl | rfl <;> rfl
   refine ⟨⟨_, rfl, rfl⟩, _, rfl, _, rfl, _, rfl, _, _, _, .inl rfl, rfl, st_last, s, rfl, fi, _, .inl rfl, fd, may_flat, _, rfl, rfl, fun _ => ⟨_, rfl, rfl⟩⟩
 · refine ⟨fun d hd => ?_, ?_⟩
   · obtain ⟨w, rfl, _⟩ := odd_ok hd
     exact .str _
   · have lp : 0 < (oddL s).length := List.length_pos_of_mem (odd_back (s := s))
     have l4' : (oddL s).length ≤ 4 := by unfold oddL; rw [List.length_map]; exact Nat.le_trans (List.length_filter_le _ _) (by decide)
     refine ⟨_, _, rfl, _, _, rfl, _, rfl, _, rfl, trivial, ⟨_, _, rfl⟩, ⟨_, rfl⟩, ⟨_, rfl⟩, _, rfl, _, rfl, _, rfl, by lia, ?_, ?_, fun r' h1 h2 => ?_⟩
     · show (0 : Int) < ((oddL s).length : Nat); lia
     · show (((oddL s).length : Nat) : Int) < 2 ^ 64; lia
     · obtain ⟨i', rfl⟩ := Int.eq_ofNat_of_zero_le h1
       have h2 : (i' : Int) < (((oddL s).length : Nat) : Int) := h2
       have il : i' < (oddL s).length := by lia
       obtain ⟨w, ew, ow⟩ := odd_ok (List.getElem_mem il)
       refine ⟨_, _, _, rfl, rfl, atI_nat (show (oddL s)[i']? = some (.str w) by rw [List.getElem?_eq_getElem il, ew]), ?_⟩
       dsimp only [dNil]
       refine ⟨s, l, rfl, s, l, w, ?_, fi, ow, .bl _, _, rfl, trivial, hrt _ _ ⟨rfl, dend kl rfl rfl rfl rfl rfl ok.more l4 hk (by lia) ht⟩⟩
       show [Sl.im (.int (((sW l).length : Nat) : Int)), rdF C s l, .im (.str w)] = _
       unfold sW
       rw [List.length_map]
end
end K29
end
section
namespace K29
open PySem PySem.Spec L2 LB LD PyProof.Rows
def deedR (C : Addr) : DTS := dIfS (dAnd (dT (dOp D_eq (dVar 6) (dC (Dt.int 2)))) (dT (dOp D_eq (dFnB takeS 0 (dCons (dC (Dt.int 4)) dNil)) (dC (Dt.int 0))))) (deedW C) (dIfS (dT (dOp D_eq (dVar 6) (dC (Dt.int 3)))) (deedO C) (deedE C))
section
variable {C a : Addr} {z : Nat × Nat} {t t1 : Int} {es : List En} {k : Nat} {s : St} {l : List (Str × St)} {x la m : Addr} {r : Int} {Δ : DEnds}
theorem readRr (n12 : z.1 ≤ 12) (b60 : z.2 ≤ 60) (ok : EsOk z.1 z.2 es) (l4 : es.length ≤ 4) (kl : k < es.length) (hk : Hok z.1 s l) (lb : l.length ≤ z.2) (ht : t1 + 2 ≤ t + 10) (ht2 : t1 + 2 < 900000) (hnx : ∀ s' l' t' s9, Hok z.1 s' l' → l'.length ≤ z.2 + 1 → t' ≤ t + 10 → Δ.nx (dS C a k t' es x la m s' l' r .no .no s9)) (hrt : ∀ d δ, d = .bl true ∧ DeedEnd C a k (PostD z t es k) δ → Δ.rt d δ) :
  (dIfS (dT (dOp D_eq (dVar 6) (dC (Dt.int 3)))) (deedO C) (deedE C)) Δ (dS C a k t1 es x la m s l r .no .no .no) := by
 refine ⟨_, rfl, _, rfl, _, rfl, ?_⟩
 by_cases c3 : r = 3
 · rw [decide_eq_true c3]
   exact iteT (readO n12 b60 ok l4 kl hk lb (by lia) (by lia) hrt)
 rw [decide_eq_false c3]
 exact iteF (readE n12 b60 hk lb (by lia) fun s' l' t' d h1 h2 h3 => hnx s' l' t' _ h1 h2 (by lia))
theorem readR (n12 : z.1 ≤ 12) (b60 : z.2 ≤ 60) (ok : EsOk z.1 z.2 es) (l4 : es.length ≤ 4) (kl : k < es.length) (hk : Hok z.1 s l) (lb : l.length ≤ z.2) (ht : t1 + 3 ≤ t + 10) (ht2 : t1 + 3 < 900000) (hnx : ∀ s' l' t' s9, Hok z.1 s' l' → l'.length ≤ z.2 + 1 → t' ≤ t + 10 → Δ.nx (dS C a k t' es x la m s' l' r .no .no s9)) (hrt : ∀ d δ, d = .bl true ∧ DeedEnd C a k (PostD z t es k) δ → Δ.rt d δ) :
  deedR C Δ (dS C a k t1 es x la m s l r .no .no .no) := by
 refine ⟨_, rfl, _, rfl, _, rfl, ?_⟩
 by_cases c2 : r = 2
 · rw [decide_eq_true c2]
   refine iteT ⟨⟨_, rfl⟩, _, rfl, _, rfl, by lia, by decide, by decide, fun r' h1 h2 => ⟨_, rfl, _, rfl, ?_⟩⟩
   by_cases c4 : r' = 0
   · rw [decide_eq_true c4]
     exact iteT (readW ok l4 kl hk lb fun s' l' h1 h2 => hnx s' l' _ _ h1 (by lia) (by lia))
   · rw [decide_eq_false c4]
     exact iteF (readRr n12 b60 ok l4 kl hk lb (by lia) (by lia) hnx hrt)
 rw [decide_eq_false c2]
 exact iteF (iteF (readRr n12 b60 ok l4 kl hk lb (by lia) (by lia) hnx hrt))
end
theorem deed_read {C a : Addr} {z : Nat × Nat} {t : Int} {es : List En} {k : Nat} {Δ : DEnds} (pre : PreD z t es k) (hrt : ∀ d δ, d = .bl true ∧ DeedEnd C a k (PostD z t es k) δ → Δ.rt d δ) : deedT C Δ (.bx t :: smO C a es :: .im (nI k) :: List.replicate 7 .no) := by
 obtain ⟨n1, n12, b60, ok, l4, kl, ht⟩ := pre
 obtain ⟨s, l, he, hk, lb⟩ := ok es[k] (List.getElem_mem kl)
 have hek : es[k]? = some (.full s l) := by rw [List.getElem?_eq_getElem kl, he]
 have wk := hk.wk
 have fi : Fine s := wk.g.fine n12 (by lia)
 refine ⟨a, es, k, s, l, rfl, rfl, hek, rfl, rfl, rfl, fun x la m => ?_⟩
 refine ⟨⟨_, rfl⟩, _, rfl, _, rfl, by lia, by decide, by decide, fun r r1 r2 => ⟨⟨_, rfl, rfl⟩, ?_⟩⟩
 have fin : ∀ s' l' t' s9, Hok z.1 s' l' → l'.length ≤ z.2 + 1 → t' ≤ t + 10 → Δ.rt (.bl true) (dS C a k t' es x la m s' l' r .no .no s9) := fun s' l' t' s9 h1 h2 h3 => hrt _ _ ⟨rfl, dend kl rfl rfl rfl rfl rfl ok.more l4 h1 h2 h3⟩
 refine ⟨_, rfl, _, rfl, _, rfl, ?_⟩
 by_cases c0 : r = 0
 · rw [decide_eq_true c0]
   exact iteT (readA n12 b60 ok l4 kl hk lb (by lia) hrt)
 rw [decide_eq_false c0]
 refine iteF ?_
 refine ⟨_, rfl, _, rfl, _, rfl, ?_⟩
 by_cases c1 : r = 1
 · rw [decide_eq_true c1]
   refine iteT ⟨_, _, rfl, _, _, rfl, rfl, _, rfl, ?_⟩
   by_cases c5 : es.length < 4
   · rw [decide_eq_true (by rw [List.length_set]; lia)]
     refine iteT ⟨a, _, s, l, _, _, _, rfl, rfl, rfl, rfl, by rw [wk.g.l]; lia, by rw [wk.g.l]; lia, by rw [List.length_set]; lia, ?_⟩
     refine hrt _ _ ⟨rfl, dend (es1 := es ++ [.full s l]) (by rw [List.length_append]; lia) rfl ?_ rfl rfl rfl (fun e he => ?_) (by rw [List.length_append]; show es.length + 1 ≤ 4; lia) hk (by lia) (by lia)⟩
     · show some (smO C a (es.set k (.hole x la m) ++ [.full s l])) = _
       rw [List.set_append_left _ _ kl]
     · rcases List.mem_append.mp he with h | h
       · exact ok.more e h
       · rw [List.mem_singleton.mp h]; exact ⟨s, l, rfl, hk, by lia⟩
   · rw [decide_eq_false (by rw [List.length_set]; lia)]
     exact iteF (readR (t := t) n12 b60 ok l4 kl hk lb (by lia) (by lia) fin hrt)
 · rw [decide_eq_false c1]
   exact iteF (iteF (readR (t := t) n12 b60 ok l4 kl hk lb (by lia) (by lia) fin hrt))
end K29
end
section
namespace K29
open PySem PySem.Spec L2 LB LD PyProof.Rows
section
variable {P : Program} {w : World} {K : PySem.W.Frag} {mg : Str → Option Value} {base : Heap} {C : Addr}
theorem ok_deed {f : Addr} {fd : FuncData} (F : Fun K "_law_deed" "_law_deed" sLDeed f fd) (T : Txt mg) (NLTake : Has P w K mg base "_law_take" 1 ["_law_state", "_law_many"] (spB takeS)) (NLSame : Has P w K mg base "_law_same" 1 ["_law_found", "_law_due"] (spA (sameS P0))) (NBack : HasM P w K mg base CX0 C "back" 1 ["self"] (spBackO C)) (NTwin : HasM P w K mg base CX0 C "twin" 4 ["self"] (spTwinO C)) (NStep : HasM P w K mg base CX0 C "step" 2 ["self", "word"] (spStepO C))
  (NLMay : Has P w K mg base "_law_may" 1 ["_law_stand"] (spA mayS)) (NLBehind : Has P w K mg base "_law_behind" 1 ["_law_stand", "_law_word"] (spA behindS)) (NLCaught : Has P w K mg base "_law_caught" 4 ["_law_place", "_law_reader", "_law_word"] (spS (caughtS C))) :
  FnOk P w K mg base CX0 5 f fd ["_law_state", "_law_some", "_law_at"] (spD C PreD PostD) := by
 obtain ⟨ft, fdt, hct, hmt, hbt, FT⟩ := NTwin
 refine fnD F scLDeed rfl (fun cdv A outer s H E hr => ⟨deedT C, (s_cons (s_take3 (C := C) 1 2 3 4 5 ⟨by decide, by decide, by decide, by decide, by decide, by decide⟩ (ps_asg (pe_ix ix_seq (pv 1) (pv 2) (fun _ _ => rfl)) (pg_tup rfl (pgs_cons (pg_name (i := 3) scLDeed.nd rfl (Or.inl rfl)) (pgs_cons (pg_name (i := 4) scLDeed.nd rfl (Or.inr rfl)) (pgs_cons (pg_name (i := 5) scLDeed.nd rfl (Or.inl rfl)) pgs_nil))))))
 (s_cons (s_set 6 scLDeed.nd (d_fnB 0 NLTake (hr.mono (by decide)) (pv 0) (a_cons d_int a_nil)))
 (s_cons (s_if (t_eq (dv 6) d_int)
 (s_cons (s_set 7 scLDeed.nd d_non) (s_cons (s_if (t_fix 5 (t_neNilO hr.units0 5 (pv 5))) (s_cons (s_set 7 scLDeed.nd (d_fix 5 (d_pop 5 (pv 5)))) (s_one (s_expr (d_fix 4 (d_pop 4 (pv 4)))))) s_nil) (s_one (s_ret (d_fnA NLSame (hr.mono (by decide)) (a_cons (d_fix 3 (d_backO 3 NBack (hr.mono (by decide)) (pv 3))) (a_cons (dv 7) a_nil)))))))
 s_nil)
 (s_cons (s_if (PW.pt (w_and (t_eq (dv 6) d_int) (w_and1 (t_lt (d_lenM (C := C) 1 T.len (pv 1)) d_int))))
 (s_one (s_twin 1 3 4 5 (pe_bm PySem.F.plainAttrs_list PySem.F.slot_list_append PySem.F.type_list_append mt_append (pv 1) (pa_cons (pe_tup (pa_cons (pe_meth0 (pv 3) hct hmt FT (hr.mono (by decide)) hbt .nil pass0 rfl) (pa_cons (pe_callTy call_list_of (by rfl) T.lst boot_list' (pa_cons (pv 4) pa_nil)) (pa_cons (pe_callTy call_list_of (by rfl) T.lst boot_list' (pa_cons (pv 5) pa_nil)) pa_nil)))) pa_nil))))
 (s_one (s_if (PW.pt (w_and (t_eq (dv 6) d_int) (w_and1 (t_eq (d_fnB 0 NLTake (hr.mono (by decide)) (pv 0) (a_cons d_int a_nil)) d_int))))
 (s_one (s_while (t_fix 5 (t_neNilO hr.units0 5 (pv 5))) (s_cons (s_if (t_ne (d_fix 3 (d_backO 3 NBack (hr.mono (by decide)) (pv 3))) (d_fix 5 (d_pop 5 (pv 5)))) (s_one (s_ret d_bl)) s_nil) (s_one (s_expr (d_fix 4 (d_pop 4 (pv 4)))))) PassesOwn.never))
 (s_one (s_if (t_eq (dv 6) d_int)
 (s_cons (s_compF 8 4 scLDeed.nd (N := ["_law_word", "_law_stands"]) (nt := 1) (js := [4]) ⟨rfl, by decide +kernel, by decide, rfl, by decide +kernel, (by show ∀ x ∈ (_ : List (Str × NameKind)), x.2 = NameKind.free → (defScope sLDeed).names.lookup x.1 = some .cell ∨ (defScope sLDeed).names.lookup x.1 = some .free; decide +kernel)⟩ rfl (i_tup (d_tup (a_cons d_str (a_cons d_str (a_cons d_str (a_cons d_str a_nil)))))) (fun _ _ _ _ _ => pg_name (i := 0) (show (["_law_word", "_law_stands"] : List Str).Nodup by decide +kernel) rfl (by first | exact Or.inl rfl | exact Or.inr rfl)) glow_name gname_read (fun _ _ _ _ _ => f_one (t_notin (dv 0) (d_fnA NLMay (hr.mono (by decide)) (a_cons (d_ix (dv 1) (d_neg d_int)) a_nil)))) (fun _ _ _ _ _ => (dv 0))) (s_one (s_ret (d_fix 3 (d_lend1 (C := C) 3 NLCaught (hr.mono (by decide)) (d_fix 5 (d_lenO 5 T.len (pv 5))) (pv 3) (a_cons (d_ixO 8 (pv 8) (d_fnB 0 NLTake (hr.mono (by decide)) (pv 0) (a_cons (d_lenO 8 T.len (pv 8)) a_nil))) a_nil))))))
 (s_cons (s_set 9 scLDeed.nd (d_fnA NLMay (hr.mono (by decide)) (a_cons (d_fix 4 (d_ixO 4 (pv 4) (d_neg d_int))) a_nil))) (s_one (s_if (t_neNilL hr.units0 (dv 9)) (s_cons (s_expr (d_fix 5 (d_append 5 (pv 5) (a_cons (d_ix (dv 9) (d_fnB 0 NLTake (hr.mono (by decide)) (pv 0) (a_cons (d_len T.len (a_cons (dv 9) a_nil)) a_nil))) a_nil)))) (s_cons (s_expr (d_fix 4 (d_append 4 (pv 4) (a_cons (d_fnA NLBehind (hr.mono (by decide)) (a_cons (d_ixO 4 (pv 4) (d_neg d_int)) (a_cons (d_fix 5 (d_ixO 5 (pv 5) (d_neg d_int))) a_nil))) a_nil)))) (s_one (s_expr (d_fix 3 (d_stepO 3 NStep (hr.mono (by decide)) (pv 3) (a_cons (d_fix 5 (d_ixO 5 (pv 5) (d_neg d_int))) a_nil))))))) s_nil))))))))
 (s_one (s_ret d_bl)))))), fun a z t es k pre => deed_read pre (fun _ _ h => h)⟩)
end
end K29
end
section
namespace K29
open PySem PySem.Spec L2 LB LD PyProof.Rows
inductive dMk1_i (C : Addr) (i : Nat) (Δ : DEnds) (ss : List Sl) (δ' : List Sl) : Prop
 | mk (s : St) (l : List (Str × St)) (h1 : ss = [rdO C s l, .ow (stL s l), .ow (sW l)]) (h2 : okSet δ' i) (q : ∀ a, Δ.nx (δ'.set i (smO C a [.full s l])))
def dMk1 (C : Addr) (i : Nat) (th : DTH) : DTS := fun Δ δ => th δ fun ss δ' => dMk1_i C i Δ ss δ'
section
variable {X : Cx} {C : Addr} {e1 e2 e3 : Expr} {x : Str} {pos pos' lp tp : Pos} {xc : Nat} {th : DTH}
theorem s_mk1 (i : Nat) (hN : X.N.Nodup) (ha : Hv X [e1, e2, e3] th) (hi : autoParam (X.N[i]? = some x) au5._auto_1) (hx : autoParam (Loc X.env.scope x) au8._auto_1) (hs : autoParam (swapsWith (.List [.Tuple [e1, e2, e3] xc tp] lp) (some (.Name x pos')) pos.line X.env = pure false) au5._auto_1) (hf : autoParam (X.fn x = true ∨ X.env.scope.names.lookup x = some .local) au1._auto_1) :
  Ex X (.Assign [.Name x pos'] (.List [.Tuple [e1, e2, e3] xc tp] lp) pos) (dMk1 C i th) := PS.imp (ps_set hN hi hx (pe_lst (pa_cons (pe_tup ha) pa_nil)) hs hf) fun D σ H zz => (by
 obtain ⟨W, M, α, δ, Δ, E, L, q⟩ := zz
 refine ⟨W, M, α, δ, _, E, q, fun ss δ' H1 vs M' bs zz E1 c1 m1 m2 hh hb => ?_⟩
 obtain ⟨s, l, rfl, ok, q⟩ := zz
 cases hh with
 | @cons v1 _ as1 bs1 _ _ h1 d1 n1 f1 hh =>
 cases hh with
 | @cons v2 _ as2 bs2 _ _ h2 d2 n2 f2 hh =>
 cases hh with
 | @cons v3 _ as3 bs3 _ _ h3 d3 n3 f3 hh =>
 cases hh
 obtain ⟨_, w1, z1, x, dx, p, vn, xs, rfl, z2, O⟩ := h1
 cases z1
 subst z2
 obtain ⟨_, la, ls, rfl, z3, hl, rl⟩ := h2
 cases z3
 obtain ⟨_, m, ms, rfl, z4, hm, rm⟩ := h3
 cases z4
 refine ⟨by show 3 ≤ sizeLine; decide, fun tt htt => ⟨by show 1 ≤ sizeLine; decide, fun a ha => ?_⟩⟩
 have s2 : Same H1 (upd H1 tt (.tup [.ref x, .ref la, .ref m])) := Same.new htt
 generalize hH2 : upd H1 tt (.tup [.ref x, .ref la, .ref m]) = H2 at s2 ha
 have H2t : H2 tt = some (.tup [.ref x, .ref la, .ref m]) := by rw [← hH2, upd_same]
 obtain ⟨E3, hd⟩ := EnvR.hold (p := a) (u := .lst [.ref tt]) (E1.same s2) ha (fun xs z => by cases z)
 have s3 : Same H2 (upd H2 a (.lst [.ref tt])) := Same.new ha
 have H3a : (upd H2 a (.lst [.ref tt])) a = some (.lst [.ref tt]) := upd_same
 generalize upd H2 a (.lst [.ref tt]) = H3 at s3 H3a E3
 have S : Same H1 H3 := fun b o e => s3 _ _ (s2 _ _ e)
 have mo : ∀ b o, H1 b = some o → ¬ M' b → H3 b = some o ∧ ¬ (M' b ∨ b = a) := fun b o e n => ⟨S _ _ e, fun z => z.elim n fun y => by rw [y] at e; have := s2 _ _ e; rw [ha] at this; cases this⟩
 have ntt : ¬ (M' tt ∨ tt = a) := fun z => by
  obtain ⟨o, e, n⟩ := E3.al tt z
  rw [s3 _ _ H2t] at e
  cases e
  exact n _ rfl
 have hma : ∀ b, M' b → b ≠ a := fun b hb z => by
  obtain ⟨o, e, _⟩ := E1.al b hb
  rw [z] at e
  have := s2 _ _ e
  rw [ha] at this; cases this
 let N : List Addr := [x, dx, p] ++ ([la] ++ [m])
 have hN' : ∀ b ∈ N, Held W (fun b => M' b ∨ b = a) α b := fun b hb => by
  have g : Held W M' α b := by
   rcases List.mem_append.mp hb with y | y
   · exact d1 b y
   · rcases List.mem_append.mp y with y | y
     · exact d2 b y
     · exact d3 b y
  exact ⟨.inl g.m, g.n, g.w⟩
 have ndN : N.Nodup := by
  refine List.nodup_append.mpr ⟨n1, List.nodup_append.mpr ⟨n2, n3, fun b hb c hc e => f2 b hb (List.mem_append_left _ (e ▸ hc))⟩, fun b hb c hc e => f1 b hb ?_⟩
  rw [List.append_nil, e]; exact hc
 have fin := EnvR.setHe (i := i) (v := .ref a) (s := smO C a [.full s l]) (as := a :: [N].flatten) E3 ⟨rfl, _, rfl, [.ref tt], [N], rfl, rfl, H3a, rfl, rfl, fun j e he => by
   match j, he with
   | 0, he =>
    cases he
    exact ⟨_, _, rfl, rfl, tt, x, la, m, _, _, _, rfl, s3 _ _ H2t, ntt, rfl, SlR.stF trivial (show LD.SlR M' H1 (some (.ref x)) (rdO C s l) [x, dx, p] from ⟨_, rfl, x, dx, p, vn, xs, rfl, rfl, O⟩) (fun b _ o e => S _ _ e) mo, SlR.stF trivial (show LD.SlR M' H1 (some (.ref la)) (.ow (stL s l)) [la] from ⟨la, ls, rfl, rfl, hl, rl⟩) (fun b _ o e => S _ _ e) mo, SlR.stF trivial (show LD.SlR M' H1 (some (.ref m)) (.ow (sW l)) [m] from ⟨m, ms, rfl, rfl, hm, rm⟩) (fun b _ o e => S _ _ e) mo⟩
   | j + 1, he => simp at he⟩ (fun b hb => by
   rcases List.mem_cons.mp hb with y | y
   · rw [y]; exact hd
   · exact hN' b (by simpa using y)) (by
   rw [List.flatten_cons, List.flatten_nil, List.append_nil]
   refine List.nodup_cons.mpr ⟨fun y => ?_, ndN⟩
   rcases (hN' a y).m with z | z
   · exact hma a z rfl
   · have : ∀ b ∈ N, M' b := fun b hb => by
       rcases List.mem_append.mp hb with y | y
       · exact (d1 b y).m
       · rcases List.mem_append.mp y with y | y
         · exact (d2 b y).m
         · exact (d3 b y).m
     exact hma a (this a y) rfl) ok
 exact L.nx _ _ _ _ _ fin (q a))
end
theorem EnvR.turn {W : List Wd} {M M' : Addr → Prop} {α : List (List Addr)} {H H' : Hp} {σ : L2.St} {δ : List Sl} {ib i : Nat} {t t' : Int} {C a d c : Addr} {es es' : List En} {ass ass' : List (List Addr)} {ts' : List V} (E : EnvR W M α H σ δ) (hb : δ[ib]? = some (.bx t)) (ab : α[ib]? = some [d, c]) (sb : σ[ib]? = some (some (.ref d))) (hi : δ[i]? = some (smO C a es)) (ai : α[i]? = some (a :: ass.flatten)) (si : σ[i]? = some (some (.ref a)))
  (bk : Back C a d c H H' M M' ass ass' t' es' ts') : EnvR W M' (α.set i (a :: ass'.flatten)) H' σ ((δ.set ib (.bx t')).set i (smO C a es')) := by
 have li : i < α.length := (List.getElem?_eq_some_iff.mp ai).1
 have la := E.la
 have ne : ib ≠ i := fun z => by rw [z, hi] at hb; cases hb
 have P := flat_perm (x := []) ai
 rw [List.append_nil] at P
 have nd0 := List.nodup_append.mp (P.nodup_iff.mpr E.nd)
 have inα : ∀ b, b ∈ d :: c :: a :: ass.flatten → b ∈ α.flatten := fun b hb => by
  rcases List.mem_cons.mp hb with z | hb
  · rw [z]; exact flat_get ab (by simp)
  rcases List.mem_cons.mp hb with z | hb
  · rw [z]; exact flat_get ab (by simp)
  · exact flat_get ai hb
 have ndb := bk.nd
 have newA : ∀ b, b ∈ a :: ass'.flatten → b ∈ a :: ass.flatten ∨ H b = none := fun b hb => by
  rcases bk.new b hb with z | z
  · rcases List.mem_cons.mp z with y | z
    · exact absurd (List.mem_cons_of_mem c hb) (y ▸ (List.nodup_cons.mp ndb).1)
    rcases List.mem_cons.mp z with y | z
    · exact absurd hb (y ▸ (List.nodup_cons.mp (List.nodup_cons.mp ndb).2).1)
    · exact .inl z
  · exact .inr z
 have noM : ∀ b, H b = none → ¬ M b := fun b e z => by obtain ⟨o, q, _⟩ := E.al b z; rw [e] at q; cases q
 have oth : ∀ b, b ∈ (α.set i []).flatten → b ∈ α.flatten ∧ b ∉ a :: ass.flatten := fun b hb => ⟨P.mem_iff.mp (List.mem_append_left _ hb), fun z => nd0.2.2 b hb b z rfl⟩
 have mem : ∀ b, b ∈ (α.set i (a :: ass'.flatten)).flatten → b ∈ (α.set i []).flatten ∨ b ∈ a :: ass'.flatten := fun b hb => by
  rw [← List.set_set (l := α) (a := [])] at hb
  exact flat_set hb
 have mono : ∀ b o, H b = some o → ¬ M b → H' b = some o ∧ ¬ M' b := fun b o e n => ⟨bk.keep b o e fun z => n (E.mu b (inα b z)), fun z => (bk.m1 b z).elim n fun y => by rw [e] at y; cases y⟩
 refine ⟨by rw [List.length_set, List.length_set]; exact E.ls, by rw [List.length_set, List.length_set, List.length_set]; exact la, fun j u hj => ?_, ?_, fun b hb => ?_, bk.al, fun W' hW => ?_⟩
 · by_cases c0 : i = j
   · subst c0
     rw [List.getElem?_set_self (by rw [List.length_set]; lia)] at hj
     cases hj
     exact ⟨_, _, si, by rw [List.getElem?_set_self li], _, rfl, ts', ass', rfl, rfl, bk.sm⟩
   · rw [List.getElem?_set_ne c0] at hj
     by_cases c1 : ib = j
     · subst c1
       rw [List.getElem?_set_self (List.getElem?_eq_some_iff.mp hb).1] at hj
       cases hj
       exact ⟨_, _, sb, by rw [List.getElem?_set_ne c0]; exact ab, d, c, rfl, rfl, bk.bx⟩
     · rw [List.getElem?_set_ne c1] at hj
       obtain ⟨o, as, q1, q2, q3⟩ := E.sl j u hj
       refine ⟨o, as, q1, by rw [List.getElem?_set_ne c0]; exact q2, ?_⟩
       have dis : ∀ b ∈ as, b ∉ d :: c :: a :: ass.flatten := fun b hb' z => by
        have Pj := flat_perm (α := α) (x := []) q2
        rw [List.append_nil] at Pj
        have dj := (List.nodup_append.mp (Pj.nodup_iff.mpr E.nd)).2.2
        have abj : (α.set j [])[ib]? = some [d, c] := by rw [List.getElem?_set_ne (Ne.symm c1)]; exact ab
        have aij : (α.set j [])[i]? = some (a :: ass.flatten) := by rw [List.getElem?_set_ne (Ne.symm c0)]; exact ai
        have : b ∈ (α.set j []).flatten := by
         rcases List.mem_cons.mp z with y | z
         · rw [y]; exact flat_get abj (by simp)
         rcases List.mem_cons.mp z with y | z
         · rw [y]; exact flat_get abj (by simp)
         · exact flat_get aij z
        exact dj b this b hb' rfl
       cases u with
       | bx t2 =>
        obtain ⟨d2, c2, e1, e2, B⟩ := q3
        subst e1
        exact ⟨d2, c2, rfl, e2, ⟨bk.keep _ _ B.dc (dis _ (by simp)), (let ⟨ns, h, r⟩ := B.cs; ⟨ns, bk.keep _ _ h (dis _ (by simp)), r⟩), B.t0, B.t1⟩⟩
       | no => exact q3
       | im _ => exact SlR.keep q3 mono (fun b hb' o e => bk.keep b o e (dis b hb')) rfl
       | ow _ => exact SlR.keep q3 mono (fun b hb' o e => bk.keep b o e (dis b hb')) rfl
       | dk _ _ => exact SlR.keep q3 mono (fun b hb' o e => bk.keep b o e (dis b hb')) rfl
       | ob _ => exact SlR.keep q3 mono (fun b hb' o e => bk.keep b o e (dis b hb')) rfl
       | fn _ => exact q3
 · rw [← List.set_set (l := α) (a := [])]
   refine flat_nd_set nd0.1 (List.nodup_cons.mp (List.nodup_cons.mp ndb).2).2 fun b hb' z => ?_
   obtain ⟨y1, y2⟩ := oth b z
   rcases newA b hb' with y | y
   · exact y2 y
   · exact noM b y (E.mu b y1)
 · rcases mem b hb with z | z
   · obtain ⟨y1, y2⟩ := oth b z
     exact bk.mm b (E.mu b y1) y2
   · exact bk.mu b z
 · have w := E.w W' hW
   have h0 : ∀ b, H b = none → W'.H0 b = none := fun b e => by
    cases q : W'.H0 b with
    | none => rfl
    | some o => exact absurd e (w.ex b (by rw [q]; intro z; cases z))
   refine ⟨fun b o e n => bk.keep b o (w.bs b o e n) fun z => ?_, fun b n => bk.ex b (w.ex b n), fun b hb' => ?_, fun b hb' => bk.mm b (w.m0 b hb') fun z => w.fz i _ _ hi ai rfl b z hb', fun b hb' => (bk.m1 b hb').elim (w.m1 b) fun z => .inr (h0 b z), fun d2 c2 e => ?_, fun j s as hj hb' nb b hbb => ?_⟩
   · rcases w.fr b (inα b z) with y | y
     · exact n y
     · rw [e] at y; cases y
   · rcases mem b hb' with z | z
     · exact w.fr b (oth b z).1
     · rcases newA b z with y | y
       · exact w.fr b (flat_get ai y)
       · exact .inr (h0 b y)
   · obtain ⟨t2, q1, q2⟩ := w.bx d2 c2 e
     have i0 : i ≠ 0 := fun z => by subst z; rw [hi] at q1; cases q1
     by_cases c1 : ib = 0
     · subst c1
       exact ⟨t', by rw [List.getElem?_set_ne i0, List.getElem?_set_self (List.getElem?_eq_some_iff.mp hb).1], by rw [List.getElem?_set_ne i0]; exact q2⟩
     · exact ⟨t2, by rw [List.getElem?_set_ne i0, List.getElem?_set_ne c1]; exact q1, by rw [List.getElem?_set_ne i0]; exact q2⟩
   · by_cases c0 : i = j
     · subst c0
       rw [List.getElem?_set_self li] at hb'
       cases hb'
       rcases newA b hbb with y | y
       · exact w.fz i _ _ hi ai rfl b y
       · exact fun z => noM b y (w.m0 b z)
     · rw [List.getElem?_set_ne c0] at hj hb'
       by_cases c1 : ib = j
       · subst c1
         rw [List.getElem?_set_self (List.getElem?_eq_some_iff.mp hb).1] at hj
         cases hj; cases nb
       · rw [List.getElem?_set_ne c1] at hj
         exact w.fz j s as hj hb' nb b hbb
end K29
end
section
namespace K29
open PySem PySem.Spec L2 LB LD PyProof.Rows
theorem pick2 {α : List (List Addr)} {A B : List Addr} {i j : Nat} (nd : α.flatten.Nodup) (ne : i ≠ j) (h1 : α[i]? = some A) (h2 : α[j]? = some B) : (A ++ B).Nodup := by
 have P2 := flat_perm (x := []) h2
 have P1 := flat_perm (α := α.set j []) (x := []) (show (α.set j [])[i]? = some A by rw [List.getElem?_set_ne (Ne.symm ne)]; exact h1)
 rw [List.append_nil] at P2 P1
 have n := ((P1.append_right B).trans P2).nodup_iff.mpr nd
 rw [List.append_assoc] at n
 exact (List.nodup_append.mp n).2.1
theorem ifN {b : Bool} {A B : Prop} (e : b = true) (h : B) : if (!b) = true then A else B := by subst e; exact h
inductive dDeed (C : Addr) (ib i : Nat) (Δ : DEnds) (δ : List Sl) : Prop
 | mk (z : Nat × Nat) (t : Int) (a : Addr) (es : List En) (h1 : δ[ib]? = some (.bx t)) (h2 : δ[i]? = some (smO C a es)) (h3 : t < 1000000) (h4 : 0 < es.length) (h5 : es.length ≤ 100) (pre : ∀ k, k < es.length → PreD z (t + 1) es k) (q : ∀ k t' es', PostD z (t + 1) es k t' es' → Δ.nx ((δ.set ib (.bx t')).set i (smO C a es')))
section
variable {X : Cx} {C : Addr} {st : Stmt} {ts0 : TS}
theorem s_deed (ib i : Nat) (h : PS X st (tIfS (tNot (tB (tCall (spD C PreD PostD) [] E0 (tCons (tVar ib) (tCons (tVar i) (tCons (lE (dFnB takeS ib (dCons (dLenM C i) dNil))) tNil)))))) ts0 tNext)) : Ex X st (dDeed C ib i) := PS.imp h fun D σ H zz => (by
 obtain ⟨W, M, α, δ, Δ, E, L, z, t, a, es, h1, h2, h3, h4, h5, pre, q⟩ := zz
 obtain ⟨d, c, e1, e2, B⟩ := E.box h1
 obtain ⟨ts, ass, g1, g2, r⟩ := smo_at E h2
 have ne : ib ≠ i := fun z => by rw [z, h2] at h1; cases h1
 have lb : ib < δ.length := (List.getElem?_eq_some_iff.mp h1).1
 refine ⟨_, e1, _, g1, W, M, α, δ, fun dd δ' => ∃ k : Nat, dd = nI k ∧ k < es.length ∧ δ' = δ.set ib (.bx (t + 1)), E, ⟨⟨_, h1⟩, _, _, h2, _, h1, _, rfl, h3, by lia, by lia, fun v v0 v1 => ⟨v.toNat, ?_, by lia, rfl⟩⟩, fun dd δ1 H1 v zz E1 c1 rv => ?_⟩
 · show Dt.int v = Dt.int _
   rw [Int.toNat_of_nonneg v0]
 obtain ⟨k, rfl, kl, rfl⟩ := zz
 cases rv.ofInt
 have h1' : (δ.set ib (.bx (t + 1)))[ib]? = some (.bx (t + 1)) := List.getElem?_set_self lb
 have h2' : (δ.set ib (.bx (t + 1)))[i]? = some (smO C a es) := by rw [List.getElem?_set_ne ne]; exact h2
 obtain ⟨d', c', f1, f2, B1⟩ := E1.box h1'
 rw [e1] at f1
 cases f1
 obtain ⟨ts1, ass1, k1, k2, r1⟩ := smo_at E1 h2'
 refine ⟨z, M, d, c', t + 1, a, ts1, ass1, es, k, rfl, E1.al, E1.mu d (flat_get f2 (by simp)), E1.mu c' (flat_get f2 (by simp)), B1, r1, pick2 E1.nd ne f2 k2, fun b hb => E1.mu b (flat_get k2 hb), pre k kl, fun H' M' ass' t' es' ts' bk po => ⟨true, rfl, ifN rfl ?_⟩⟩
 have E2 := EnvR.turn E1 h1' f2 e1 h2' k2 k1 bk
 rw [List.set_set] at E2
 exact L.nx _ _ _ _ _ E2 (q k t' es' po))
inductive dTells (C : Addr) (i : Nat) (Δ : DEnds) (δ : List Sl) : Prop
 | mk (a : Addr) (es : List En) (n : Nat) (h1 : δ[i]? = some (smO C a es)) (h2 : ∀ e ∈ es, ∃ s l, e = .full s l ∧ Wk n l.length s ∧ l.length ≤ 100) (h3 : n ≤ 12) (h4 : es.length ≤ 100) (q : Δ.nx δ)
theorem s_tells (i : Nat) (h : PS X st (tIfS (tNot (tB (tCB (fun xs H Q => ∃ a bs, xs = [.ref a] ∧ SqL X.K H a (List.map V.bl bs) ∧ Q (.bl (bs.all id)) H) (tCons (tComp 3 [] (iList X.K (tVar i)) (gTup X.K 3 (gCons (gName 0) (gCons (gName 1) (gCons (gName 2) gNil)))) tTrue (tCall (spS (tellsS C)) [] E0 (tCons (tVar 0) (tCons (tVar 1) (tCons (tVar 2) tNil))))) tNil)))) ts0 tNext)) : Ex X st (dTells C i) := PS.imp h fun D σ H zz => (by
 obtain ⟨W, M, α, δ, Δ, E, L, a, es, n, h1, h2, h3, h4, q⟩ := zz
 obtain ⟨ts, ass, g1, g2, r⟩ := smo_at E h1
 refine ⟨_, g1, a, rfl, ⟨ts, SqL.of r.h⟩, fun D' hD => ⟨fun i' m acc H' => Same H H' ∧ H' D' = some (.lst acc) ∧ acc = List.replicate i' (V.bl true) ∧ i' ≤ es.length ∧ m = es.length - i', ⟨_, Same.new hD, upd_same, rfl, Nat.zero_le _, rfl⟩, fun i' m acc H' hW => ?_⟩⟩
 obtain ⟨sm, hd, ea, il, em⟩ := hW
 by_cases c : i' = es.length
 · refine .inl ⟨⟨ts, SqL.of (sm _ _ r.h), by rw [r.lt]; lia⟩, D', List.replicate i' true, rfl, SqL.of (by rw [hd, ea, List.map_replicate]), ?_⟩
   refine ⟨_, rfl, ?_⟩
   have : (List.replicate i' true).all id = true := by simp
   exact ifN this (L.nx _ _ _ _ _ (E.same sm) q)
 · have il : i' < es.length := by lia
   obtain ⟨s, l, he, wk, l100⟩ := h2 es[i'] (List.getElem_mem il)
   obtain ⟨t, bs, u1, u2, ta, x, la, mm, b1, b2, b3, rfl, ht, nt, rfl, r1, r2, r3⟩ := r.en i' (.full s l) (by rw [List.getElem?_eq_getElem il, he])
   obtain ⟨w1, z1, x', dx, p, vn, xs, rfl, z2, O⟩ := r1
   cases z1
   cases z2
   obtain ⟨la', ls, rfl, z3, hl, rl⟩ := r2
   cases z3
   obtain ⟨m', ms, rfl, z4, hm, rm⟩ := r3
   cases z4
   refine .inr ⟨⟨ts, _, SqL.of (sm _ _ r.h), u1⟩, by rw [ea, List.length_replicate]; exact Nat.lt_of_lt_of_le (show i' < 100 by lia) (by decide), fun acc' H2 => Same H H2 ∧ H2 D' = some (.lst acc') ∧ acc' = List.replicate (i' + 1) (V.bl true), fun acc' H2 hB => ⟨es.length - (i' + 1), by lia, hB.1, hB.2.1, hB.2.2, by lia, rfl⟩, fun y H2 hy => ?_⟩
   obtain ⟨rfl, hy⟩ := hy
   have := hy ts (SqL.of (sm _ _ r.h))
   rw [u1] at this
   cases this
   refine ⟨ta, _, rfl, SqT.of (sm _ _ ht), rfl, _, _, rfl, _, _, rfl, _, _, rfl, rfl, ?_⟩
   dsimp only [tTrue]
   rw [if_pos rfl]
   refine ⟨_, rfl, _, rfl, _, rfl, ?_⟩
   have al : MOk (fun b => M b ∧ b ∉ a :: ass.flatten) H := fun b hb => E.al b hb.1
   have al' : MOk (fun b => M b ∧ b ∉ a :: ass.flatten) H2 := fun b hb => by obtain ⟨o, e, n⟩ := al b hb; exact ⟨o, sm _ _ e, n⟩
   have inA : ∀ b, b ∈ [x, dx, p] ++ ([la] ++ [mm]) → b ∈ a :: ass.flatten := fun b hb => List.mem_cons_of_mem _ (flat_get u2 hb)
   have mo : ∀ b o, H b = some o → ¬ M b → H2 b = some o ∧ ¬ (M b ∧ b ∉ a :: ass.flatten) := fun b o e n => ⟨sm _ _ e, fun z => n z.1⟩
   have rr : SlRs (fun b => M b ∧ b ∉ a :: ass.flatten) H2 [.ref x, .ref la, .ref mm] [rdF C s l, .im (.lst (stL s l)), .im (.lst (sW l))] :=
    .cons (SlR.keep O.frz (fun b o e nb => ⟨sm _ _ e, fun z => nb ⟨z.1, fun y => z.2 (y ▸ inA x (by simp)), fun y => z.2 (y ▸ inA p (by simp))⟩⟩) (fun b hb => absurd hb List.not_mem_nil) rfl) rfl
     (.cons (s := .im (.lst (stL s l))) ⟨rfl, _, rfl, Rep.toLst (sm _ _ hl) (fun z => z.2 (inA la (by simp))) (rl.mono mo)⟩ rfl (.cons (s := .im (.lst (sW l))) ⟨rfl, _, rfl, Rep.toLst (sm _ _ hm) (fun z => z.2 (inA mm (by simp))) (rm.mono mo)⟩ rfl .nil))
   refine ⟨fun b => M b ∧ b ∉ a :: ass.flatten, _, fun d => d = .bl true, al', rr, ⟨n, _, s, l, rfl, wk, h3, l100, l100, rfl⟩, fun r' H3 v' hr sm3 rv => ?_⟩
   subst hr
   cases rv.ofBl
   have hD0 : H D' = none := hD
   refine ⟨sm3 _ _ hd, fun b o e => ?_, upd_same, by rw [ea, List.replicate_succ']⟩
   rw [upd_ne (fun z => by rw [z, hD0] at e; cases e)]
   exact sm3 _ _ (sm _ _ e))
end
end K29
end
section
namespace K29
open PySem PySem.Spec L2 LB LD PyProof.Rows
section
variable {X : Cx} {C : Addr} {p pos : Pos} {e : Expr} {es : List Expr} {k : Nat} {t : DTA}
def hMk (C : Addr) (t : DTA) (th : DTH) : DTH := fun δ Q => t δ fun ds δ1 => ∃ n : Nat, ds = [nI n] ∧ 1 ≤ n ∧ n ≤ 1000 ∧ th δ1 fun ss δ2 => Q (rdO C (first n) [] :: ss) δ2
theorem h_mk {fI : Addr} {fd : FuncData} {nm : Str} {th : DTH} (Mk0 : Mk X.K C fI) (F : FnOk X.prog X.w X.K X.mg X.base CX0 k fI fd ["self", "n"] (spRInit C)) (hr : Room (k + 1) X.A) (hm : X.mg nm = some (.ref C)) (hb : Binds X.K fd ["self", "n"] []) (ha : Av X [e] t) (hrest : Hv X es th) (hg : autoParam (Gl X nm) au5._auto_1)
  (hdb : autoParam ((nm == ("__debug__" : Str)) = false) au2._auto_1) (he : autoParam (starEach [e] X.env = (false, eval e X.env) :: starEach [] X.env) au5._auto_1) (hpl : autoParam ((backTo pos (starEach [] X.env)).any (·.1) = false) au5._auto_1)
  (hs : autoParam (starEach (.Call (.Name nm p) [e] [] pos :: es) X.env = (false, eval (.Call (.Name nm p) [e] [] pos) X.env) :: starEach es X.env) au5._auto_1) : Hv X (.Call (.Name nm p) [e] [] pos :: es) (hMk C t th) :=
 PA.imp (pa_cons (pe_make Mk0 F hr hg hm hb .nil pass0 ha hdb he hpl) hrest hs) fun σ H Q zz1 => (by
  obtain ⟨W, M, α, δ, Qd, E, q, k⟩ := zz1
  refine ⟨W, M, α, δ, _, E, q, fun ds δ1 H1 vs zz E1 c1 r1 => ?_⟩
  obtain ⟨n, rfl, n1, n2, q1⟩ := zz
  obtain ⟨v, ys, rfl, rv, rn⟩ := r1.uncons
  cases rn.unnil
  cases rv.ofInt
  intro x dx hx hdx ne
  show spRInit C (V.ref x :: ([V.int (n : Int)] ++ [])) _ _ E0
  have s0 : Same H1 (upd (upd H1 dx (.own x)) x (.ins C dx [])) := fun b u e => by
   rw [upd_ne (fun z => by rw [z, hx] at e; cases e), upd_ne (fun z => by rw [z, hdx] at e; cases e)]; exact e
  refine ⟨M, x, dx, n, rfl, mok_same E1.al s0, upd_same, by rw [upd_ne ne, upd_same], n1, n2, fun H2 p vn keep hx2 hp0 hp2 rn => ⟨rfl, ?_⟩⟩
  have hd2 : H2 dx = some (.own x) := keep dx _ (by rw [upd_ne ne, upd_same]) ne
  have px : p ≠ x := fun z => by rw [z, upd_same] at hp0; cases hp0
  have pd : p ≠ dx := fun z => by rw [z, upd_ne ne, upd_same] at hp0; cases hp0
  have hp1 : H1 p = none := none_back s0 hp0
  have sm : Same H1 H2 := fun b u e => keep b u (s0 _ _ e) fun z => by rw [z, hx] at e; cases e
  have hn : ∀ a, (a = x ∨ a = dx ∨ a = p) → H1 a = none ∧ ∃ u, H2 a = some u ∧ ∀ xs, u ≠ .tup xs := fun a h => by
   rcases h with rfl | rfl | rfl
   · exact ⟨hx, _, hx2, fun xs z => by cases z⟩
   · exact ⟨hdx, _, hd2, fun xs z => by cases z⟩
   · exact ⟨hp1, _, hp2, fun xs z => by cases z⟩
  obtain ⟨E3, hl⟩ := holdN (N := fun a => a = x ∨ a = dx ∨ a = p) E1 sm hn
  refine ⟨W, _, α, δ1, _, E3, q1, fun ss δ2 H3 vs' M' bs q2 E2 c2 m1 m2 hh hb => ?_⟩
  have own : ∀ a, a ∈ [x, dx, p] ↔ (a = x ∨ a = dx ∨ a = p) := fun a => by simp
  have kp : ∀ b u, H2 b = some u → ¬ (M b ∨ (b = x ∨ b = dx ∨ b = p)) → H3 b = some u ∧ ¬ M' b := fun b u e n => ⟨c2 _ _ e fun z => n (.inl (E1.mu b z)), fun z => (m2 b z).elim n fun y => by rw [e] at y; cases y⟩
  have ka : ∀ a, (a = x ∨ a = dx ∨ a = p) → ∀ u, H2 a = some u → H3 a = some u := fun a h u e => c2 _ _ e (hl a h).1
  have O3 : OwnR C M' H3 x dx p vn [] (first n) [] := ⟨ka x (.inl rfl) _ hx2, ka dx (.inr (.inl rfl)) _ hd2, ka p (.inr (.inr rfl)) _ hp2, rn.mono kp, .nil⟩
  refine k _ _ _ _ _ _ q2 E2 ((c1.tr (Chg.of sm)).tr c2) (fun a z => m1 a (.inl z)) (fun a z => ?_) (HeRs.cons (as := [x, dx, p]) ⟨rfl, _, rfl, x, dx, p, vn, [], rfl, rfl, O3⟩ (fun a h => ?_) ?_ (fun a h => ?_) hh) (fun a h => ?_)
  · cases e : H a with
    | none => exact .inr rfl
    | some o =>
     by_cases hf : a ∈ α.flatten
     · exact .inl (E.mu a hf)
     · have e1 := c1 _ _ e hf
       rcases m2 a z with (y | y) | y
       · exact .inl y
       · rw [(hn a y).1] at e1; cases e1
       · rw [sm _ _ e1] at y; cases y
  · have h := (own a).mp h
    obtain ⟨h1, _, h3⟩ := hl a h
    exact ⟨m1 a (.inr h), h1, h3⟩
  · simp only [List.nodup_cons, List.mem_cons, List.not_mem_nil, or_false, not_or, not_false_eq_true, List.nodup_nil, and_true]
    exact ⟨⟨Ne.symm ne, Ne.symm px⟩, Ne.symm pd⟩
  · exact fun z => hb a z (.inr ((own a).mp h))
  · rcases List.mem_append.mp h with y | y
    · exact (hl a ((own a).mp y)).2.1
    · exact fun z => hb a y (.inl z))
end
section
variable {P : Program} {w : World} {K : PySem.W.Frag} {mg : Str → Option Value} {base : Heap} {C fI : Addr} {fdI : FuncData}
def LawI (C a : Addr) (n : Nat) (d2 : Dt) (i : Nat) (δ : List Sl) : Prop := ∃ (tt : Int) (es : List En) (s4 : Sl), δ = [.no, .bx tt, .im d2, smO C a es, s4] ∧ tt ≤ 1 + 12 * (i : Int) ∧ EsOk n i es ∧ 1 ≤ es.length ∧ es.length ≤ 4 ∧ s4.isBx = false
theorem ok_law {f : Addr} {fd : FuncData} (F : Fun K "law" "law" sLaw f fd) (T : Txt mg) (NB : Has P w K mg base "_law_begin" 1 ["_law_script"] (spBegin K)) (NLTake : Has P w K mg base "_law_take" 1 ["_law_state", "_law_many"] (spB takeS))
  (RMk : Mk K C fI) (RInit : FnOk P w K mg base CX0 2 fI fdI ["self", "n"] (spRInit C)) (gR : mg "Reader" = some (.ref C)) (bR : Binds K fdI ["self", "n"] [])
  (NDeed : Has P w K mg base "_law_deed" 5 ["_law_state", "_law_some", "_law_at"] (spD C PreD PostD)) (NTells : Has P w K mg base "_law_tells" 5 ["_law_reader", "_law_stands", "_law_steps"] (LD.spS (tellsS C))) :
  FnOk P w K mg base CX0 6 f fd ["_law_script"] (spLaw K) := by
 refine lawOk F scLaw (by decide) (fun cdv A outer s H E hr => ⟨_, _, _, rfl, ps_set (i := 1) scLaw.nd rfl (Or.inl rfl) (pe_has NB (hr.mono (by decide)) rfl (pa_cons (pv 0) pa_nil)),
  (@s_cons _ _ _ _ _ (s_set 2 scLaw.nd (d_add d_int (d_fnB 1 NLTake (hr.mono (by decide)) (pv 1) (@a_cons _ _ _ _ _ d_int a_nil rfl))))
  (@s_cons _ _ _ _ _ (s_mk1 (C := C) 3 scLaw.nd (h_mk RMk RInit (hr.mono (by decide)) gR bR (@a_cons _ _ _ _ _ (dv 2) a_nil rfl) (h_ow (o_lst (a_cons (d_tup (a_cons (d_tup a_nil) (a_cons d_int (a_cons (d_repT (d_tup (a_cons d_non a_nil)) (dv 2)) a_nil)))) a_nil)) (h_ow (o_lst a_nil) h_nil))))
  (@s_cons _ _ _ _ _ (s_for rfl (i_rng1 T.rng (@a_cons _ _ _ _ _ d_int a_nil rfl)) (g_name 4 scLaw.nd)
   (@s_cons _ _ _ _ _ (s_deed (C := C) 1 3 (ps_if (pt_not (pt_val (pe_has NDeed (hr.mono (by decide)) rfl (pa_cons (pv 1) (pa_cons (pv 3) (pa_cons (d_fnB 1 NLTake (hr.mono (by decide)) (pv 1) (a_cons (d_lenM (C := C) 3 T.len (pv 3)) a_nil)) pa_nil)))))) (pss_one (ps_ret pe_bl)) pss_nil))
   (s_one (s_tells (C := C) 3 (ps_if (pt_not (pt_val (pe_callB (call_all rfl) rfl T.all L2.boot_all' (pa_cons (pe_comp (N := ["_law_reader", "_law_stands", "_law_steps"]) (nt := 3) (js := []) ⟨rfl, by decide +kernel, by decide, rfl, by decide +kernel, (by show ∀ x ∈ (_ : List (Str × NameKind)), x.2 = NameKind.free → (defScope sLaw).names.lookup x.1 = some .cell ∨ (defScope sLaw).names.lookup x.1 = some .free; decide +kernel)⟩ rfl (pi_list (pv 3))
      (fun _ _ _ _ _ => pg_tup rfl (pgs_cons (pg_name (i := 0) (show (["_law_reader", "_law_stands", "_law_steps"] : List Str).Nodup by decide +kernel) rfl (Or.inl rfl)) (pgs_cons (pg_name (i := 1) (show (["_law_reader", "_law_stands", "_law_steps"] : List Str).Nodup by decide +kernel) rfl (Or.inl rfl)) (pgs_cons (pg_name (i := 2) (show (["_law_reader", "_law_stands", "_law_steps"] : List Str).Nodup by decide +kernel) rfl (Or.inl rfl)) pgs_nil))))
      (glow_tup (glow_cons (by decide) (gmono_name (gmono_name gmono_nil)) (glow_cons (by decide) (gmono_name gmono_nil) (glow_cons (by decide) gmono_nil glow_nil)))) (fun _ _ _ _ _ => pf_nil)
      (fun _ _ _ _ _ => pe_has NTells (hr.mono (by decide)) rfl (pa_cons (pv 0) (pa_cons (pv 1) (pa_cons (pv 2) pa_nil))))) pa_nil)))) (pss_one (ps_ret pe_bl)) pss_nil)))) PassesOwn.never)
  (s_one (s_ret d_bl))))), ?_⟩)
 refine ⟨⟨_, rfl⟩, _, rfl, _, rfl, by decide, by decide, by decide, fun v v0 v1 => ⟨_, _, rfl, rfl, ⟨_, rfl, rfl⟩, ?_⟩⟩
 obtain ⟨n, en, n1, n12⟩ : ∃ n : Nat, 1 + v = (n : Int) ∧ 1 ≤ n ∧ n ≤ 12 := ⟨(1 + v).toNat, by lia, by lia, by lia⟩
 rw [en]
 refine ⟨_, rfl, n, rfl, n1, by lia, ?_⟩
 refine ⟨by show 0 ≤ sizeLine; decide, by show 1 ≤ sizeLine; decide, _, rfl, [.non], _, rfl, rfl, (by intro z; cases z), by lia, by lia, ?_, by show 3 ≤ sizeLine; decide, by show 1 ≤ sizeLine; decide, by show 0 ≤ sizeLine; decide, first n, [], ?_, ⟨_, rfl, rfl⟩, fun a => ?_⟩
 · show 1 * ((n : Int)).toNat ≤ sizeLine
   exact Nat.le_trans (show 1 * ((n : Int)).toNat ≤ 100 by lia) (by decide)
 · rw [first_rep]; rfl
 refine ⟨_, rfl, by decide, by decide, for_abs (LawI C a n (nI n)) ⟨_, _, .no, rfl, by decide, (fun e he => ⟨first n, [], List.mem_singleton.mp he, .nil, Nat.le_refl _⟩), Nat.le_refl _, (by show 1 ≤ 4; decide), rfl⟩ (fun i d δ hi hP Δ' hnx hrt => ?_) (fun δ hP => ?_)⟩
 · obtain ⟨tt, es, s4, rfl, ht, ok, l1, l4, b4⟩ := hP
   have il : i < 40 := by have := (List.getElem?_eq_some_iff.mp hi).1; simpa using this
   refine ⟨⟨_, rfl, b4⟩, (n, i), tt, a, es, rfl, rfl, by lia, l1, by lia, fun k kl => ⟨n1, n12, by show i ≤ 60; lia, ok, l4, kl, by lia⟩, fun k t' es' po => ?_⟩
   obtain ⟨ok', l4', l1', ht'⟩ := po
   refine ⟨a, es', n, rfl, fun e he => ?_, n12, by lia, hnx _ ⟨t', es', .im d, rfl, by lia, ok', l1', l4', rfl⟩⟩
   obtain ⟨s, l, e1, e2, e3⟩ := ok' e he
   have e3 : l.length ≤ i + 1 := e3
   exact ⟨s, l, e1, e2.wk, by lia⟩
 · obtain ⟨tt, es, s4, rfl, _⟩ := hP
   exact rfl
end
end K29
end
section
namespace K29
open PySem L2 LB LD PyProof.Rows
theorem binds1 {K : PySem.W.Frag} {x qual : Str} {st : Stmt} {f : Addr} {fd : FuncData} {p1 : Str} (F : Fun K x qual st f fd) (h : ∀ (kV doc pm : Value) (an : Option Addr) (cdv ct a1 : Value), bindArgs (PySem.W.fnOf x qual (defArgs st) (defBody st) (defScope st) .none kV doc pm an cdv ct) ⟨[a1], []⟩ = pure [(p1, a1)]) : Binds K fd [p1] [] := F.binds fun kV doc pm an cdv ct us hl => by
 rcases us with _ | ⟨a1, us⟩
 · cases hl
 rcases us with _ | ⟨b, us⟩
 · exact h kV doc pm an cdv ct a1
 · simp at hl
theorem binds2 {K : PySem.W.Frag} {x qual : Str} {st : Stmt} {f : Addr} {fd : FuncData} {p1 p2 : Str} (F : Fun K x qual st f fd) (h : ∀ (kV doc pm : Value) (an : Option Addr) (cdv ct a1 a2 : Value), bindArgs (PySem.W.fnOf x qual (defArgs st) (defBody st) (defScope st) .none kV doc pm an cdv ct) ⟨[a1, a2], []⟩ = pure [(p1, a1), (p2, a2)]) : Binds K fd [p1, p2] [] := F.binds fun kV doc pm an cdv ct us hl => by
 rcases us with _ | ⟨a1, us⟩
 · cases hl
 rcases us with _ | ⟨a2, us⟩
 · cases hl
 rcases us with _ | ⟨b, us⟩
 · exact h kV doc pm an cdv ct a1 a2
 · simp at hl
theorem binds3 {K : PySem.W.Frag} {x qual : Str} {st : Stmt} {f : Addr} {fd : FuncData} {p1 p2 p3 : Str} (F : Fun K x qual st f fd) (h : ∀ (kV doc pm : Value) (an : Option Addr) (cdv ct a1 a2 a3 : Value), bindArgs (PySem.W.fnOf x qual (defArgs st) (defBody st) (defScope st) .none kV doc pm an cdv ct) ⟨[a1, a2, a3], []⟩ = pure [(p1, a1), (p2, a2), (p3, a3)]) : Binds K fd [p1, p2, p3] [] := F.binds fun kV doc pm an cdv ct us hl => by
 rcases us with _ | ⟨a1, us⟩
 · cases hl
 rcases us with _ | ⟨a2, us⟩
 · cases hl
 rcases us with _ | ⟨a3, us⟩
 · cases hl
 rcases us with _ | ⟨b, us⟩
 · exact h kV doc pm an cdv ct a1 a2 a3
 · simp at hl
theorem all_mk {l : PySem.W.OpenLaw} {w : World} {K : PySem.W.Frag} {h : Heap} {mg : Str → Option Value} {fa f1 f2 f3 f4 f5 f6 f7 f8 f9 f10 f11 f12 f13 : Addr} (X : K.In h) (G : h.Ns mainGlobals mg) (hfa : mg "law" = some (.ref fa))
  {od1 an1 od2 an2 od3 an3 od4 an4 od5 an5 od6 an6 od7 an7 od8 an8 od9 an9 od10 an10 od11 an11 od12 an12 od13 an13 : Option Addr} {sl1 sl2 sl3 sl4 sl5 sl6 sl7 sl8 sl9 sl10 sl11 sl12 sl13 : Array (Option Value)} {oc1 kV1 dc1 pm1 cd1 ct1 oc2 kV2 dc2 pm2 cd2 ct2 oc3 kV3 dc3 pm3 cd3 ct3 oc4 kV4 dc4 pm4 cd4 ct4 oc5 kV5 dc5 pm5 cd5 ct5 oc6 kV6 dc6 pm6 cd6 ct6 oc7 kV7 dc7 pm7 cd7 ct7 oc8 kV8 dc8 pm8 cd8 ct8 oc9 kV9 dc9 pm9 cd9 ct9 oc10 kV10 dc10 pm10 cd10 ct10 oc11 kV11 dc11 pm11 cd11 ct11 oc12 kV12 dc12 pm12 cd12 ct12 oc13 kV13 dc13 pm13 cd13 ct13 : Value}
  (a1 : PySem.W.nsIn K mainGlobals "first_stand" = some (some (.ref f1))) (l1 : K.lookup f1 = some ⟨oc1, od1, .func (PySem.W.fnOf "first_stand" "first_stand" (defArgs sFirstStand) (defBody sFirstStand) (defScope sFirstStand) .none kV1 dc1 pm1 an1 cd1 ct1), sl1⟩) (c1 : PySem.W.codeIn K cd1 "first_stand" = true) (k1 : PySem.W.keepIn K (.ref f1) = true)
  (a2 : PySem.W.nsIn K mainGlobals "steps_from" = some (some (.ref f2))) (l2 : K.lookup f2 = some ⟨oc2, od2, .func (PySem.W.fnOf "steps_from" "steps_from" (defArgs sStepsFrom) (defBody sStepsFrom) (defScope sStepsFrom) .none kV2 dc2 pm2 an2 cd2 ct2), sl2⟩) (c2 : PySem.W.codeIn K cd2 "steps_from" = true) (k2 : PySem.W.keepIn K (.ref f2) = true)
  (a3 : PySem.W.nsIn K mainGlobals "behind" = some (some (.ref f3))) (l3 : K.lookup f3 = some ⟨oc3, od3, .func (PySem.W.fnOf "behind" "behind" (defArgs sBehind) (defBody sBehind) (defScope sBehind) .none kV3 dc3 pm3 an3 cd3 ct3), sl3⟩) (c3 : PySem.W.codeIn K cd3 "behind" = true) (k3 : PySem.W.keepIn K (.ref f3) = true)
  (a4 : PySem.W.nsIn K mainGlobals "_law_begin" = some (some (.ref f4))) (l4 : K.lookup f4 = some ⟨oc4, od4, .func (PySem.W.fnOf "_law_begin" "_law_begin" (defArgs sLBegin) (defBody sLBegin) (defScope sLBegin) .none kV4 dc4 pm4 an4 cd4 ct4), sl4⟩) (c4 : PySem.W.codeIn K cd4 "_law_begin" = true) (k4 : PySem.W.keepIn K (.ref f4) = true)
  (a5 : PySem.W.nsIn K mainGlobals "_law_take" = some (some (.ref f5))) (l5 : K.lookup f5 = some ⟨oc5, od5, .func (PySem.W.fnOf "_law_take" "_law_take" (defArgs sLTake) (defBody sLTake) (defScope sLTake) .none kV5 dc5 pm5 an5 cd5 ct5), sl5⟩) (c5 : PySem.W.codeIn K cd5 "_law_take" = true) (k5 : PySem.W.keepIn K (.ref f5) = true)
  (a6 : PySem.W.nsIn K mainGlobals "_law_same" = some (some (.ref f6))) (l6 : K.lookup f6 = some ⟨oc6, od6, .func (PySem.W.fnOf "_law_same" "_law_same" (defArgs sLSame) (defBody sLSame) (defScope sLSame) .none kV6 dc6 pm6 an6 cd6 ct6), sl6⟩) (c6 : PySem.W.codeIn K cd6 "_law_same" = true) (k6 : PySem.W.keepIn K (.ref f6) = true)
  (a7 : PySem.W.nsIn K mainGlobals "_law_may" = some (some (.ref f7))) (l7 : K.lookup f7 = some ⟨oc7, od7, .func (PySem.W.fnOf "_law_may" "_law_may" (defArgs sLMay) (defBody sLMay) (defScope sLMay) .none kV7 dc7 pm7 an7 cd7 ct7), sl7⟩) (c7 : PySem.W.codeIn K cd7 "_law_may" = true) (k7 : PySem.W.keepIn K (.ref f7) = true)
  (a8 : PySem.W.nsIn K mainGlobals "_law_behind" = some (some (.ref f8))) (l8 : K.lookup f8 = some ⟨oc8, od8, .func (PySem.W.fnOf "_law_behind" "_law_behind" (defArgs sLBehind) (defBody sLBehind) (defScope sLBehind) .none kV8 dc8 pm8 an8 cd8 ct8), sl8⟩) (c8 : PySem.W.codeIn K cd8 "_law_behind" = true) (k8 : PySem.W.keepIn K (.ref f8) = true)
  (a9 : PySem.W.nsIn K mainGlobals "_law_end" = some (some (.ref f9))) (l9 : K.lookup f9 = some ⟨oc9, od9, .func (PySem.W.fnOf "_law_end" "_law_end" (defArgs sLEnd) (defBody sLEnd) (defScope sLEnd) .none kV9 dc9 pm9 an9 cd9 ct9), sl9⟩) (c9 : PySem.W.codeIn K cd9 "_law_end" = true) (k9 : PySem.W.keepIn K (.ref f9) = true)
  (a10 : PySem.W.nsIn K mainGlobals "_law_caught" = some (some (.ref f10))) (l10 : K.lookup f10 = some ⟨oc10, od10, .func (PySem.W.fnOf "_law_caught" "_law_caught" (defArgs sLCaught) (defBody sLCaught) (defScope sLCaught) .none kV10 dc10 pm10 an10 cd10 ct10), sl10⟩) (c10 : PySem.W.codeIn K cd10 "_law_caught" = true) (k10 : PySem.W.keepIn K (.ref f10) = true)
  (a11 : PySem.W.nsIn K mainGlobals "_law_tells" = some (some (.ref f11))) (l11 : K.lookup f11 = some ⟨oc11, od11, .func (PySem.W.fnOf "_law_tells" "_law_tells" (defArgs sLTells) (defBody sLTells) (defScope sLTells) .none kV11 dc11 pm11 an11 cd11 ct11), sl11⟩) (c11 : PySem.W.codeIn K cd11 "_law_tells" = true) (k11 : PySem.W.keepIn K (.ref f11) = true)
  (a12 : PySem.W.nsIn K mainGlobals "_law_deed" = some (some (.ref f12))) (l12 : K.lookup f12 = some ⟨oc12, od12, .func (PySem.W.fnOf "_law_deed" "_law_deed" (defArgs sLDeed) (defBody sLDeed) (defScope sLDeed) .none kV12 dc12 pm12 an12 cd12 ct12), sl12⟩) (c12 : PySem.W.codeIn K cd12 "_law_deed" = true) (k12 : PySem.W.keepIn K (.ref f12) = true)
  (a13 : PySem.W.nsIn K mainGlobals "law" = some (some (.ref f13))) (l13 : K.lookup f13 = some ⟨oc13, od13, .func (PySem.W.fnOf "law" "law" (defArgs sLaw) (defBody sLaw) (defScope sLaw) .none kV13 dc13 pm13 an13 cd13 ct13), sl13⟩) (c13 : PySem.W.codeIn K cd13 "law" = true) (k13 : PySem.W.keepIn K (.ref f13) = true)
  {C C0 e1 e2 e3 e4 e5 e6 e7 R : Addr} (uC : PySem.W.nsIn K mainGlobals "NoStep" = some (some (.ref C))) (uC0 : PySem.W.nsIn K mainGlobals "HangError" = some (some (.ref C0))) (ue1 : PySem.W.nsIn K mainGlobals "Apart" = some (some (.ref e1))) (ue2 : PySem.W.nsIn K mainGlobals "BadSheet" = some (some (.ref e2))) (ue3 : PySem.W.nsIn K mainGlobals "BadText" = some (some (.ref e3))) (ue4 : PySem.W.nsIn K mainGlobals "NoEntry" = some (some (.ref e4))) (ue5 : PySem.W.nsIn K mainGlobals "NoHanging" = some (some (.ref e5))) (ue6 : PySem.W.nsIn K mainGlobals "NoPlain" = some (some (.ref e6))) (ue7 : PySem.W.nsIn K mainGlobals "NoSum" = some (some (.ref e7))) (uR : PySem.W.nsIn K mainGlobals "Reader" = some (some (.ref R))) {nmC qC : Str} {NC fI C1 C2 : Addr} {bsC bmC subC : List Value} {hdC abC : Bool} {snC : List Str} {colC : Option Bool} {ddC odI anI : Option Addr} {k0C k1C k2C k3C k5C : Option Value} {slI : Array (Option Value)} {kVI dcI pmI cdI ctI : Value} {cdC : ClassData} {fm1 : Addr} {odm1 anm1 : Option Addr} {slm1 : Array (Option Value)} {ocm1 kVm1 dcm1 pmm1 cdm1 ctm1 : Value} {fm2 : Addr} {odm2 anm2 : Option Addr} {slm2 : Array (Option Value)} {ocm2 kVm2 dcm2 pmm2 cdm2 ctm2 : Value} {fm3 : Addr} {odm3 anm3 : Option Addr} {slm3 : Array (Option Value)} {ocm3 kVm3 dcm3 pmm3 cdm3 ctm3 : Value} {fm4 : Addr} {odm4 anm4 : Option Addr} {slm4 : Array (Option Value)} {ocm4 kVm4 dcm4 pmm4 cdm4 ctm4 : Value} {fm5 : Addr} {odm5 anm5 : Option Addr} {slm5 : Array (Option Value)} {ocm5 kVm5 dcm5 pmm5 cdm5 ctm5 : Value} {fm6 : Addr} {odm6 anm6 : Option Addr} {slm6 : Array (Option Value)} {ocm6 kVm6 dcm6 pmm6 cdm6 ctm6 : Value} {fm7 : Addr} {odm7 anm7 : Option Addr} {slm7 : Array (Option Value)} {ocm7 kVm7 dcm7 pmm7 cdm7 ctm7 : Value} {fm8 : Addr} {odm8 anm8 : Option Addr} {slm8 : Array (Option Value)} {ocm8 kVm8 dcm8 pmm8 cdm8 ctm8 : Value} {fm9 : Addr} {odm9 anm9 : Option Addr} {slm9 : Array (Option Value)} {ocm9 kVm9 dcm9 pmm9 cdm9 ctm9 : Value} (y1 : K.lookup C = some (excClassObj nmC qC C NC bsC bmC hdC snC subC abC colC ddC k0C k1C k2C k3C k5C "ValueError.__new__")) (yo : PySem.W.nsOkIn K NC = true) (yi : PySem.W.nsIn K NC "__init__" = some (some (.ref fI))) (yt : PySem.W.tailIn K [.type "ValueError", .type "Exception", .type "BaseException", .type "object"] bmC = true) (y2 : PySem.W.findIn K (.ref C) "__class__" = some (some (.builtin "object.__class__"))) (y3 : PySem.W.mroIn K C (.type "object") = some true) (y4 : PySem.W.mroIn K C (.type "BaseException") = some true) (y5 : PySem.W.findIn K (.ref C) "__getattribute__" = some (some (.builtin "BaseException.__getattribute__"))) (y6 : PySem.W.findIn K (.ref C) "__getattr__" = some none) (y7 : (PySem.W.clsIn K C).isSome = true) (y8 : PySem.W.exmOne K (.ref C) (.ref C0) = some true) (y9 : PySem.W.kitOne K (.ref C) (.type "ValueError") = some true) (y10 : PySem.W.kitAny K (.ref C) [.ref e1, .ref e2, .ref e3, .ref e4, .ref e5, .ref e6] = some false) (lf : K.lookup fI = some ⟨.type "function", odI, .func (PySem.W.fnOf "__init__" "NoStep.__init__" (defArgs sNoInit) (defBody sNoInit) (defScope sNoInit) .none kVI dcI pmI anI cdI ctI), slI⟩) (cI : PySem.W.codeIn K cdI "NoStep.__init__" = true) (kI : PySem.W.keepIn K (.ref fI) = true) (s1 : PySem.W.findIn K (.ref C) "__setattr__" = some (some (.builtin "object.__setattr__"))) (s2 : PySem.W.clsIn K C = some cdC) (s3 : cdC.hasDict = true) (s4 : cdC.mro = [.ref C1, .ref C2, .type "ValueError", .type "Exception", .type "BaseException", .type "object"]) (s5 : PySem.W.takerIn K C "place" = some none) (s6 : PySem.W.findIn K (.ref C) "place" = some none) (y11 : PySem.W.kitOne K (.ref C) (.ref e7) = some false) (zv : PySem.W.nsIn K mainGlobals "ValueError" = some none) (r1 : PySem.W.plainGet K R Str.empty = true) (r2 : PySem.W.hasDictIn K R = true) (r3 : PySem.W.plainOver K R = true) (r4 : PySem.W.findIn K (.ref R) "__setattr__" = some (some (.builtin "object.__setattr__"))) (r5 : PySem.W.findIn K (.ref R) "now" = some none) (r6 : PySem.W.findIn K (.ref R) "past" = some none) (r7 : PySem.W.makesIn K R = true) (r8 : PySem.W.keepIn K (.ref R) = true) (am1 : PySem.W.findIn K (.ref R) "__init__" = some (some (.ref fm1))) (lm1 : K.lookup fm1 = some ⟨ocm1, odm1, .func (PySem.W.fnOf "__init__" "Reader.__init__" (defArgs sRInit) (defBody sRInit) (defScope sRInit) .none kVm1 dcm1 pmm1 anm1 cdm1 ctm1), slm1⟩) (cm1 : PySem.W.codeIn K cdm1 "Reader.__init__" = true) (km1 : PySem.W.keepIn K (.ref fm1) = true) (im1 : PySem.W.isFn K (.ref fm1) = true) (am2 : PySem.W.findIn K (.ref R) "step" = some (some (.ref fm2))) (lm2 : K.lookup fm2 = some ⟨ocm2, odm2, .func (PySem.W.fnOf "step" "Reader.step" (defArgs sRStep) (defBody sRStep) (defScope sRStep) .none kVm2 dcm2 pmm2 anm2 cdm2 ctm2), slm2⟩) (cm2 : PySem.W.codeIn K cdm2 "Reader.step" = true) (km2 : PySem.W.keepIn K (.ref fm2) = true) (im2 : PySem.W.isFn K (.ref fm2) = true) (am3 : PySem.W.findIn K (.ref R) "may" = some (some (.ref fm3))) (lm3 : K.lookup fm3 = some ⟨ocm3, odm3, .func (PySem.W.fnOf "may" "Reader.may" (defArgs sRMay) (defBody sRMay) (defScope sRMay) .none kVm3 dcm3 pmm3 anm3 cdm3 ctm3), slm3⟩) (cm3 : PySem.W.codeIn K cdm3 "Reader.may" = true) (km3 : PySem.W.keepIn K (.ref fm3) = true) (im3 : PySem.W.isFn K (.ref fm3) = true) (am4 : PySem.W.findIn K (.ref R) "stand" = some (some (.ref fm4))) (lm4 : K.lookup fm4 = some ⟨ocm4, odm4, .func (PySem.W.fnOf "stand" "Reader.stand" (defArgs sRStand) (defBody sRStand) (defScope sRStand) .none kVm4 dcm4 pmm4 anm4 cdm4 ctm4), slm4⟩) (cm4 : PySem.W.codeIn K cdm4 "Reader.stand" = true) (km4 : PySem.W.keepIn K (.ref fm4) = true) (im4 : PySem.W.isFn K (.ref fm4) = true) (am5 : PySem.W.findIn K (.ref R) "is_done" = some (some (.ref fm5))) (lm5 : K.lookup fm5 = some ⟨ocm5, odm5, .func (PySem.W.fnOf "is_done" "Reader.is_done" (defArgs sRDone) (defBody sRDone) (defScope sRDone) .none kVm5 dcm5 pmm5 anm5 cdm5 ctm5), slm5⟩) (cm5 : PySem.W.codeIn K cdm5 "Reader.is_done" = true) (km5 : PySem.W.keepIn K (.ref fm5) = true) (im5 : PySem.W.isFn K (.ref fm5) = true) (am6 : PySem.W.findIn K (.ref R) "hanging" = some (some (.ref fm6))) (lm6 : K.lookup fm6 = some ⟨ocm6, odm6, .func (PySem.W.fnOf "hanging" "Reader.hanging" (defArgs sRHang) (defBody sRHang) (defScope sRHang) .none kVm6 dcm6 pmm6 anm6 cdm6 ctm6), slm6⟩) (cm6 : PySem.W.codeIn K cdm6 "Reader.hanging" = true) (km6 : PySem.W.keepIn K (.ref fm6) = true) (im6 : PySem.W.isFn K (.ref fm6) = true) (am7 : PySem.W.findIn K (.ref R) "steps" = some (some (.ref fm7))) (lm7 : K.lookup fm7 = some ⟨ocm7, odm7, .func (PySem.W.fnOf "steps" "Reader.steps" (defArgs sRSteps) (defBody sRSteps) (defScope sRSteps) .none kVm7 dcm7 pmm7 anm7 cdm7 ctm7), slm7⟩) (cm7 : PySem.W.codeIn K cdm7 "Reader.steps" = true) (km7 : PySem.W.keepIn K (.ref fm7) = true) (im7 : PySem.W.isFn K (.ref fm7) = true) (am8 : PySem.W.findIn K (.ref R) "back" = some (some (.ref fm8))) (lm8 : K.lookup fm8 = some ⟨ocm8, odm8, .func (PySem.W.fnOf "back" "Reader.back" (defArgs sRBack) (defBody sRBack) (defScope sRBack) .none kVm8 dcm8 pmm8 anm8 cdm8 ctm8), slm8⟩) (cm8 : PySem.W.codeIn K cdm8 "Reader.back" = true) (km8 : PySem.W.keepIn K (.ref fm8) = true) (im8 : PySem.W.isFn K (.ref fm8) = true) (am9 : PySem.W.findIn K (.ref R) "twin" = some (some (.ref fm9))) (lm9 : K.lookup fm9 = some ⟨ocm9, odm9, .func (PySem.W.fnOf "twin" "Reader.twin" (defArgs sRTwin) (defBody sRTwin) (defScope sRTwin) .none kVm9 dcm9 pmm9 anm9 cdm9 ctm9), slm9⟩) (cm9 : PySem.W.codeIn K cdm9 "Reader.twin" = true) (km9 : PySem.W.keepIn K (.ref fm9) = true) (im9 : PySem.W.isFn K (.ref fm9) = true)
  (z1 : PySem.W.nsIn K mainGlobals "isinstance" = some none) (z2 : PySem.W.nsIn K mainGlobals "len" = some none) (z3 : PySem.W.nsIn K mainGlobals "tuple" = some none) (z4 : PySem.W.nsIn K mainGlobals "int" = some none) (z5 : PySem.W.nsIn K mainGlobals "bool" = some none) (z6 : PySem.W.nsIn K mainGlobals "range" = some none) (z7 : PySem.W.nsIn K mainGlobals "list" = some none) (z8 : PySem.W.nsIn K mainGlobals "divmod" = some none) (z9 : PySem.W.nsIn K mainGlobals "all" = some none) (z10 : PySem.W.nsIn K mainGlobals "str" = some none) (z11 : PySem.W.nsIn K mainGlobals "zip" = some none) :
  ∃ fd : FuncData, (∀ (s : Shared) (v : Value), BindsTo s fd ⟨[v], []⟩ [("_law_script", v)]) ∧ ∀ base : Heap, K.In base → base.Ns mainGlobals mg → FnOk l.prog w K mg base CX0 6 fa fd ["_law_script"] (spLaw K) := by
 have e := hfa.symm.trans (PySem.W.mg_of X G a13)
 cases e
 have T : Txt mg := ⟨PySem.W.mg_none_of X G z1, PySem.W.mg_none_of X G z2, PySem.W.mg_none_of X G z3, PySem.W.mg_none_of X G z4, PySem.W.mg_none_of X G z5, PySem.W.mg_none_of X G z6, PySem.W.mg_none_of X G z7, PySem.W.mg_none_of X G z8, PySem.W.mg_none_of X G z9, PySem.W.mg_none_of X G z10, PySem.W.mg_none_of X G z11⟩
 have F1 := fun_mk (st := sFirstStand) l1 c1 k1
 have b1 := binds1 (p1 := "n") F1 fun _ _ _ _ _ _ _ => rfl
 have F2 := fun_mk (st := sStepsFrom) l2 c2 k2
 have b2 := binds1 (p1 := "stand") F2 fun _ _ _ _ _ _ _ => rfl
 have F3 := fun_mk (st := sBehind) l3 c3 k3
 have b3 := binds2 (p1 := "stand") (p2 := "word") F3 fun _ _ _ _ _ _ _ _ => rfl
 have F4 := fun_mk (st := sLBegin) l4 c4 k4
 have b4 := binds1 (p1 := "_law_script") F4 fun _ _ _ _ _ _ _ => rfl
 have F5 := fun_mk (st := sLTake) l5 c5 k5
 have b5 := binds2 (p1 := "_law_state") (p2 := "_law_many") F5 fun _ _ _ _ _ _ _ _ => rfl
 have F6 := fun_mk (st := sLSame) l6 c6 k6
 have b6 := binds2 (p1 := "_law_found") (p2 := "_law_due") F6 fun _ _ _ _ _ _ _ _ => rfl
 have F7 := fun_mk (st := sLMay) l7 c7 k7
 have b7 := binds1 (p1 := "_law_stand") F7 fun _ _ _ _ _ _ _ => rfl
 have F8 := fun_mk (st := sLBehind) l8 c8 k8
 have b8 := binds2 (p1 := "_law_stand") (p2 := "_law_word") F8 fun _ _ _ _ _ _ _ _ => rfl
 have F9 := fun_mk (st := sLEnd) l9 c9 k9
 have b9 := binds1 (p1 := "_law_stand") F9 fun _ _ _ _ _ _ _ => rfl
 have F10 := fun_mk (st := sLCaught) l10 c10 k10
 have b10 := binds3 (p1 := "_law_place") (p2 := "_law_reader") (p3 := "_law_word") F10 fun _ _ _ _ _ _ _ _ _ => rfl
 have F11 := fun_mk (st := sLTells) l11 c11 k11
 have b11 := binds3 (p1 := "_law_reader") (p2 := "_law_stands") (p3 := "_law_steps") F11 fun _ _ _ _ _ _ _ _ _ => rfl
 have F12 := fun_mk (st := sLDeed) l12 c12 k12
 have b12 := binds3 (p1 := "_law_state") (p2 := "_law_some") (p3 := "_law_at") F12 fun _ _ _ _ _ _ _ _ _ => rfl
 have F13 := fun_mk (st := sLaw) l13 c13 k13
 refine ⟨PySem.W.fnOf "law" "law" (defArgs sLaw) (defBody sLaw) (defScope sLaw) .none kV13 dc13 pm13 an13 cd13 ct13, fun s v => .of_eq rfl, fun base XB GB => ?_⟩
 have gC := PySem.W.mg_of X G uC
 have gC0 := PySem.W.mg_of X G uC0
 have ge1 := PySem.W.mg_of X G ue1
 have ge2 := PySem.W.mg_of X G ue2
 have ge3 := PySem.W.mg_of X G ue3
 have ge4 := PySem.W.mg_of X G ue4
 have ge5 := PySem.W.mg_of X G ue5
 have ge6 := PySem.W.mg_of X G ue6
 have ge7 := PySem.W.mg_of X G ue7
 have gR := PySem.W.mg_of X G uR
 have O := LX.own_I XB GB uC y1 yo yi yt lf
 have Fm : LX.Fam K C C0 [e1, e2, e3, e4, e5, e6] := ⟨⟨y2, y3, y4, y5, y6, y7⟩, y8, y9, y10⟩
 have hV := PySem.W.mg_none_of X G zv
 have FJ := fun_mk (st := sNoInit) lf cI kI
 have bI := binds2 (p1 := "self") (p2 := "place") FJ fun _ _ _ _ _ _ _ _ => rfl
 have XS : ExcS K C "place" := ⟨s1, ⟨cdC, C1, C2, s2, s3, s4⟩, y3, s5⟩
 have XF : ExcF K C "place" := ⟨s6, ⟨cdC, s2, s3⟩, y4, y5, y6⟩
 have FI : FnOk l.prog w K mg base CX0 1 fI _ ["self", "place"] (spInit K "place") := ok_init FJ
 have CL : Cls K R := ⟨r1, r2, r3, r4⟩
 have RK : RdK K R := ⟨CL, r5, r6⟩
 have FM1 := fun_mk (st := sRInit) lm1 cm1 km1
 have bM1 := binds2 (p1 := "self") (p2 := "n") FM1 fun _ _ _ _ _ _ _ _ => rfl
 have MM1 : Meth K R "__init__" fm1 := ⟨am1, im1, km1⟩
 have FM2 := fun_mk (st := sRStep) lm2 cm2 km2
 have bM2 := binds2 (p1 := "self") (p2 := "word") FM2 fun _ _ _ _ _ _ _ _ => rfl
 have MM2 : Meth K R "step" fm2 := ⟨am2, im2, km2⟩
 have FM3 := fun_mk (st := sRMay) lm3 cm3 km3
 have bM3 := binds1 (p1 := "self") FM3 fun _ _ _ _ _ _ _ => rfl
 have MM3 : Meth K R "may" fm3 := ⟨am3, im3, km3⟩
 have FM4 := fun_mk (st := sRStand) lm4 cm4 km4
 have bM4 := binds1 (p1 := "self") FM4 fun _ _ _ _ _ _ _ => rfl
 have MM4 : Meth K R "stand" fm4 := ⟨am4, im4, km4⟩
 have FM5 := fun_mk (st := sRDone) lm5 cm5 km5
 have bM5 := binds1 (p1 := "self") FM5 fun _ _ _ _ _ _ _ => rfl
 have MM5 : Meth K R "is_done" fm5 := ⟨am5, im5, km5⟩
 have FM6 := fun_mk (st := sRHang) lm6 cm6 km6
 have bM6 := binds1 (p1 := "self") FM6 fun _ _ _ _ _ _ _ => rfl
 have MM6 : Meth K R "hanging" fm6 := ⟨am6, im6, km6⟩
 have FM7 := fun_mk (st := sRSteps) lm7 cm7 km7
 have bM7 := binds1 (p1 := "self") FM7 fun _ _ _ _ _ _ _ => rfl
 have MM7 : Meth K R "steps" fm7 := ⟨am7, im7, km7⟩
 have FM8 := fun_mk (st := sRBack) lm8 cm8 km8
 have bM8 := binds1 (p1 := "self") FM8 fun _ _ _ _ _ _ _ => rfl
 have MM8 : Meth K R "back" fm8 := ⟨am8, im8, km8⟩
 have FM9 := fun_mk (st := sRTwin) lm9 cm9 km9
 have bM9 := binds1 (p1 := "self") FM9 fun _ _ _ _ _ _ _ => rfl
 have MM9 : Meth K R "twin" fm9 := ⟨am9, im9, km9⟩
 have NFirst : Has l.prog w K mg base "first_stand" 1 ["n"] (spA firstS) := ⟨f1, _, PySem.W.mg_of X G a1, k1, b1, ok_first F1 T⟩
 have NFrom : Has l.prog w K mg base "steps_from" 1 ["stand"] (spA mayS) := ⟨f2, _, PySem.W.mg_of X G a2, k2, b2, ok_from F2 T⟩
 have NBehind : Has l.prog w K mg base "behind" 1 ["stand", "word"] (spA behindS) := ⟨f3, _, PySem.W.mg_of X G a3, k3, b3, ok_behind F3 T⟩
 have RI : FnOk l.prog w K mg base CX0 2 fm1 _ ["self", "n"] (spRInit R) := ok_rinit FM1 RK NFirst
 have RMk : Mk K R fm1 := ⟨r7, am1, im1, r8⟩
 have NStepO : HasM l.prog w K mg base CX0 R "step" 2 ["self", "word"] (spStepO R) := ⟨fm2, _, CL, MM2, bM2, ok_rstepO FM2 T RK NFrom NBehind⟩
 have NStepN : HasM l.prog w K mg base (CX2 l.prog w) R "step" 3 ["self", "word"] (spSY "place" C (stepN R)) := ⟨fm2, _, CL, MM2, bM2, ok_rstepN FM2 T RK NFrom O PySem.F.excBase_ValueError (by decide) PySem.F.excBase_ValueError FI bI XS⟩
 have NMay : HasM l.prog w K mg base CX0 R "may" 2 ["self"] (spSO (mayM R)) := ⟨fm3, _, CL, MM3, bM3, ok_rmay FM3 RK NFrom⟩
 have NStand : HasM l.prog w K mg base CX0 R "stand" 1 ["self"] (LD.spS (standM R)) := ⟨fm4, _, CL, MM4, bM4, ok_rstand FM4 RK⟩
 have NDone : HasM l.prog w K mg base CX0 R "is_done" 1 ["self"] (LD.spS (doneM R)) := ⟨fm5, _, CL, MM5, bM5, ok_rdone FM5 T RK⟩
 have NHang : HasM l.prog w K mg base CX0 R "hanging" 2 ["self"] (LD.spS (hangM R)) := ⟨fm6, _, CL, MM6, bM6, ok_rhang FM6 T RK NDone⟩
 have NSteps : HasM l.prog w K mg base CX0 R "steps" 1 ["self"] (spSO (stepsM R)) := ⟨fm7, _, CL, MM7, bM7, ok_rsteps FM7 RK⟩
 have NBack : HasM l.prog w K mg base CX0 R "back" 1 ["self"] (spBackO R) := ⟨fm8, _, CL, MM8, bM8, ok_rback FM8 RK⟩
 have NTwin : HasM l.prog w K mg base CX0 R "twin" 4 ["self"] (spTwinO R) := ⟨fm9, _, CL, MM9, bM9, ok_rtwin FM9 T RK RMk RI bM1 gR⟩
 have NB : Has l.prog w K mg base "_law_begin" 1 ["_law_script"] (spBegin K) := ⟨f4, _, PySem.W.mg_of X G a4, k4, b4, ok_begin F4 T⟩
 have NTake : Has l.prog w K mg base "_law_take" 1 ["_law_state", "_law_many"] (spB takeS) := ⟨f5, _, PySem.W.mg_of X G a5, k5, b5, ok_takeB F5 T⟩
 have NSame0 : Has l.prog w K mg base "_law_same" 1 ["_law_found", "_law_due"] (spA (sameS P0)) := ⟨f6, _, PySem.W.mg_of X G a6, k6, b6, ok_same0 F6 T⟩
 have NSame1 : Has l.prog w K mg base "_law_same" 2 ["_law_found", "_law_due"] (spA (sameS (Up P0))) := ⟨f6, _, PySem.W.mg_of X G a6, k6, b6, ok_same F6 T NSame0⟩
 have NSame2 : Has l.prog w K mg base "_law_same" 3 ["_law_found", "_law_due"] (spA (sameS (Up (Up P0)))) := ⟨f6, _, PySem.W.mg_of X G a6, k6, b6, ok_same F6 T NSame1⟩
 have NSame : Has l.prog w K mg base "_law_same" 4 ["_law_found", "_law_due"] (spA (sameS (Up (Up (Up P0))))) := ⟨f6, _, PySem.W.mg_of X G a6, k6, b6, ok_same F6 T NSame2⟩
 have NLMay : Has l.prog w K mg base "_law_may" 1 ["_law_stand"] (spA mayS) := ⟨f7, _, PySem.W.mg_of X G a7, k7, b7, ok_may F7 T⟩
 have NLBehind : Has l.prog w K mg base "_law_behind" 1 ["_law_stand", "_law_word"] (spA behindS) := ⟨f8, _, PySem.W.mg_of X G a8, k8, b8, ok_lbehind F8 T⟩
 have NLEnd : Has l.prog w K mg base "_law_end" 1 ["_law_stand"] (spA endS) := ⟨f9, _, PySem.W.mg_of X G a9, k9, b9, ok_lend F9 T⟩
 have NCaught : Has l.prog w K mg base "_law_caught" 4 ["_law_place", "_law_reader", "_law_word"] (LD.spS (caughtS R)) := ⟨f10, _, PySem.W.mg_of X G a10, k10, b10, ok_caught F10 T hV NStepN gC0 gC ge1 ge2 ge3 ge4 ge5 ge6 ge7 Fm y11 XF⟩
 have NTells : Has l.prog w K mg base "_law_tells" 5 ["_law_reader", "_law_stands", "_law_steps"] (LD.spS (tellsS R)) := ⟨f11, _, PySem.W.mg_of X G a11, k11, b11, ok_tells F11 T NMay NStand NDone NHang NSteps NLMay NLEnd NSame⟩
 have NDeed : Has l.prog w K mg base "_law_deed" 5 ["_law_state", "_law_some", "_law_at"] (spD R PreD PostD) := ⟨f12, _, PySem.W.mg_of X G a12, k12, b12, ok_deed F12 T NTake NSame0 NBack NTwin NStepO NLMay NLBehind NCaught⟩
 exact ok_law F13 T NB NTake RMk RI gR bM1 NDeed NTells
theorem walk {l : PySem.W.OpenLaw} {q : Program} {loose : List Str} {XP : (Str → Option Value) → Heap → Prop} {YP : World → Heap → Prop} {d : DefRec} {K : Params → PySem.W.Frag} (hn : l.most = some 63) (hdf : d.params.defaults = [])
  (hY : ∀ (w : World) (h : Heap), YP w h → (K w.params).In h)
  (F : ∀ (w : World) (mg : Str → Option Value) (fa : Addr) (h : Heap), (K w.params).In h → h.Ns mainGlobals mg → mg d.name = some (.ref fa) →
   ∃ fd : FuncData, (∀ (s : Shared) (u : Value), BindsTo s fd ⟨[u], []⟩ [("_law_script", u)]) ∧ ∀ base : Heap, (K w.params).In base → base.Ns mainGlobals mg → FnOk l.prog w (K w.params) mg base CX0 6 fa fd ["_law_script"] (spLaw (K w.params))) :
  PySem.W.WalkO q loose XP YP l.row.toRowW d [] (fun f vs => PySem.call f vs) :=
 L2.walk_of (n := 63) (k := 6) (x := "_law_script") (CX := fun _ => CX0) (sp := fun w => spLaw (K w.params)) hn (by decide) hdf ⟨rfl, by decide, by decide, rfl⟩ hY F (fun _ _ a ns hl _ hS => ⟨a, ns, rfl, hS, hl, fun _ => rfl⟩) fun _ _ _ _ _ z => z
end K29
open PySem PySem.W PyProof.Rows
set_option maxRecDepth 100000 in
set_option maxHeartbeats 0 in
theorem PySem.Challenge.cw_hungwords_k29_steps_taken_back_holds : PySem.Challenge.rw_hungwords_k29_steps_taken_back.Holds := by
 w_on; o_law; k_head; (case hw => w_witness2)
 k_fill
 refine K29.walk (l := PySem.Challenge.rw_hungwords_k29_steps_taken_back) rfl rfl (fun w h Y => PySem.W.kIn_of Y) ?F
 case F =>
  intro w mg fa h KX G hmg
  refine' K29.all_mk KX G hmg ?a1 ?l1 ?c1 ?k1 ?a2 ?l2 ?c2 ?k2 ?a3 ?l3 ?c3 ?k3 ?a4 ?l4 ?c4 ?k4 ?a5 ?l5 ?c5 ?k5 ?a6 ?l6 ?c6 ?k6 ?a7 ?l7 ?c7 ?k7 ?a8 ?l8 ?c8 ?k8 ?a9 ?l9 ?c9 ?k9 ?a10 ?l10 ?c10 ?k10 ?a11 ?l11 ?c11 ?k11 ?a12 ?l12 ?c12 ?k12 ?a13 ?l13 ?c13 ?k13 ?uC ?uC0 ?ue1 ?ue2 ?ue3 ?ue4 ?ue5 ?ue6 ?ue7 ?uR ?y1 ?yo ?yi ?yt ?y2 ?y3 ?y4 ?y5 ?y6 ?y7 ?y8 ?y9 ?y10 ?lf ?cI ?kI ?s1 ?s2 ?s3 ?s4 ?s5 ?s6 ?y11 ?zv ?r1 ?r2 ?r3 ?r4 ?r5 ?r6 ?r7 ?r8 ?am1 ?lm1 ?cm1 ?km1 ?im1 ?am2 ?lm2 ?cm2 ?km2 ?im2 ?am3 ?lm3 ?cm3 ?km3 ?im3 ?am4 ?lm4 ?cm4 ?km4 ?im4 ?am5 ?lm5 ?cm5 ?km5 ?im5 ?am6 ?lm6 ?cm6 ?km6 ?im6 ?am7 ?lm7 ?cm7 ?km7 ?im7 ?am8 ?lm8 ?cm8 ?km8 ?im8 ?am9 ?lm9 ?cm9 ?km9 ?im9 ?z1 ?z2 ?z3 ?z4 ?z5 ?z6 ?z7 ?z8 ?z9 ?z10 ?z11
  (case a1 => k_is)
  (case l1 => k_is)
  (case c1 => k_is)
  (case k1 => k_is)
  (case a2 => k_is)
  (case l2 => k_is)
  (case c2 => k_is)
  (case k2 => k_is)
  (case a3 => k_is)
  (case l3 => k_is)
  (case c3 => k_is)
  (case k3 => k_is)
  (case a4 => k_is)
  (case l4 => k_is)
  (case c4 => k_is)
  (case k4 => k_is)
  (case a5 => k_is)
  (case l5 => k_is)
  (case c5 => k_is)
  (case k5 => k_is)
  (case a6 => k_is)
  (case l6 => k_is)
  (case c6 => k_is)
  (case k6 => k_is)
  (case a7 => k_is)
  (case l7 => k_is)
  (case c7 => k_is)
  (case k7 => k_is)
  (case a8 => k_is)
  (case l8 => k_is)
  (case c8 => k_is)
  (case k8 => k_is)
  (case a9 => k_is)
  (case l9 => k_is)
  (case c9 => k_is)
  (case k9 => k_is)
  (case a10 => k_is)
  (case l10 => k_is)
  (case c10 => k_is)
  (case k10 => k_is)
  (case a11 => k_is)
  (case l11 => k_is)
  (case c11 => k_is)
  (case k11 => k_is)
  (case a12 => k_is)
  (case l12 => k_is)
  (case c12 => k_is)
  (case k12 => k_is)
  (case a13 => k_is)
  (case l13 => k_is)
  (case c13 => k_is)
  (case k13 => k_is)
  (case uC => k_is)
  (case uC0 => k_is)
  (case ue1 => k_is)
  (case ue2 => k_is)
  (case ue3 => k_is)
  (case ue4 => k_is)
  (case ue5 => k_is)
  (case ue6 => k_is)
  (case ue7 => k_is)
  (case uR => k_is)
  (case y1 => k_is)
  (case yo => kernel_rfl)
  (case yi => k_is)
  (case yt => kernel_rfl)
  (case y2 => k_is)
  (case y3 => k_is)
  (case y4 => k_is)
  (case y5 => k_is)
  (case y6 => k_is)
  (case y7 => kernel_rfl)
  (case y8 => kernel_rfl)
  (case y9 => kernel_rfl)
  (case y10 => kernel_rfl)
  (case lf => k_is)
  (case cI => k_is)
  (case kI => k_is)
  (case s1 => k_is)
  (case s2 => k_is)
  (case s3 => kernel_rfl)
  (case s4 => rfl)
  (case s5 => k_is)
  (case s6 => k_is)
  (case y11 => kernel_rfl)
  (case zv => k_is)
  (case r1 => kernel_rfl)
  (case r2 => kernel_rfl)
  (case r3 => kernel_rfl)
  (case r4 => k_is)
  (case r5 => k_is)
  (case r6 => k_is)
  (case r7 => kernel_rfl)
  (case r8 => k_is)
  (case am1 => k_is)
  (case lm1 => k_is)
  (case cm1 => k_is)
  (case km1 => k_is)
  (case im1 => k_is)
  (case am2 => k_is)
  (case lm2 => k_is)
  (case cm2 => k_is)
  (case km2 => k_is)
  (case im2 => k_is)
  (case am3 => k_is)
  (case lm3 => k_is)
  (case cm3 => k_is)
  (case km3 => k_is)
  (case im3 => k_is)
  (case am4 => k_is)
  (case lm4 => k_is)
  (case cm4 => k_is)
  (case km4 => k_is)
  (case im4 => k_is)
  (case am5 => k_is)
  (case lm5 => k_is)
  (case cm5 => k_is)
  (case km5 => k_is)
  (case im5 => k_is)
  (case am6 => k_is)
  (case lm6 => k_is)
  (case cm6 => k_is)
  (case km6 => k_is)
  (case im6 => k_is)
  (case am7 => k_is)
  (case lm7 => k_is)
  (case cm7 => k_is)
  (case km7 => k_is)
  (case im7 => k_is)
  (case am8 => k_is)
  (case lm8 => k_is)
  (case cm8 => k_is)
  (case km8 => k_is)
  (case im8 => k_is)
  (case am9 => k_is)
  (case lm9 => k_is)
  (case cm9 => k_is)
  (case km9 => k_is)
  (case im9 => k_is)
  (case z1 => k_is)
  (case z2 => k_is)
  (case z3 => k_is)
  (case z4 => k_is)
  (case z5 => k_is)
  (case z6 => k_is)
  (case z7 => k_is)
  (case z8 => k_is)
  (case z9 => k_is)
  (case z10 => k_is)
  (case z11 => k_is)
end
