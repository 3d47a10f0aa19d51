import PyProof.Rows.All
import Wide.All
import OpenK.AllK
import Wide.FinOn
import Lean
import PyProof.EqAt
import PyProof.EqKinds
import PyProof.TupleCall
import PyProof.ZipIter
import PyProof.Rows.TopTwo
import KE.KIsAll
import KE.KTryMore
import PyProof.ExcArgsOwn
import PyProof.NsDelKeeps
import KE.KSortTup
import PyProof.ListRange
import PyProof.NeKinds
import PyProof.FactsAll.tuple_2
import PyProof.FactsAll.tuple_3
import PyProof.Rows.SortShell
import PyProof.Rows.SortWalk
import PyProof.Rows.MinMaxN
import KE.KRevIter
import PyProof.AttrMissHeap
import PyProof.ListNew
import PyProof.FactsAll.dict_1
import KE.KRevSl
import PyProof.Rows.IntBool
import PyProof.TupleOfSeq
import KE.KIntText
import PyProof.StrWalks
import PyProof.StrCalls2
import PyProof.StrBlock2
import PyProof.FString5
import PyProof.StrLawsTight
import PyProof.StrLawsChain
import PyProof.ListMulRoad
import PyProof.SetKind
import PyProof.Rows.SetFrom
import PyProof.CollectIter
import PyProof.Rows.SortStr
import PyProof.PureStr
import PyProof.StationsW
import PyProof.Rows.Catch
import PyProof.ExcClass3
import PyProof.ExcInit
import PyProof.Ns1
import PyProof.DictCompW
import PySem.Challenge.RW_hungwords_k08_the_next_plain_one
set_option compiler.extract_closed false
set_option Elab.async false
set_option linter.all false
set_option maxRecDepth 100000
set_option maxHeartbeats 8000000
theorem au1 (h : True := by first | exact .inl rfl | exact .inr rfl | assumption) : True := h
theorem au2 (h : True := by decide) : True := h
theorem au3 (h : True := by first | exact nobehind _ (by decide) (by decide) | rfl) : True := h
theorem au4 (h : True := by intro _; rfl) : True := h
theorem au5 (h : True := by rfl) : True := h
theorem au6 (h : True := by with_unfolding_all rfl) : True := h
theorem au7 (h : True := by first | exact Or.inl rfl | exact Or.inr (Or.inl rfl) | exact Or.inr (Or.inr rfl)) : True := h
theorem au8 (h : True := by exact fun _ _ => rfl) : True := h
theorem au9 (h : True := by first | exact Or.inl rfl | exact Or.inr rfl) : True := h
theorem au10 (h : True := by intro _ _ _ _ _ _; rfl) : True := h
section
namespace L2
open PySem PySem.Spec PyProof.Rows
abbrev Key := Sum Int Str
noncomputable def keyIs : Key → Value → Bool
 | .inl k, v => Value.isInt k v
 | .inr x, v => Value.isStrOf x v
noncomputable def keyH (w : World) : Key → Int
 | .inl k => hashInt k
 | .inr x => hashStr w x
theorem keyIs_shape : ∀ {k : Key} {v : Value}, keyIs k v = true → (∃ i t, k = Sum.inl i ∧ v = Value.int i t) ∨ (∃ x t, k = Sum.inr x ∧ v = Value.str x t)
 | .inl i, v, h => by
  obtain ⟨t, e⟩ := Value.isInt_shape (k := i) (v := v) h
  exact .inl ⟨i, t, rfl, e⟩
 | .inr x, v, h => by
  obtain ⟨t, e⟩ := Value.isStrOf_shape (x := x) (v := v) h
  exact .inr ⟨x, t, rfl, e⟩
theorem keyIs_int (i : Int) (t : Tok) : keyIs (.inl i) (.int i t) = true := by simp [keyIs, Value.isInt]
theorem keyIs_str (x : Str) (t : Tok) : keyIs (.inr x) (.str x t) = true := by simp [keyIs, Value.isStrOf]
theorem key_ll (a b : Int) : decide ((Sum.inl a : Key) = Sum.inl b) = (a == b) := by
 by_cases e : a = b
 · subst e; simp
 · have h : ¬ (Sum.inl a : Key) = Sum.inl b := fun q => e (Sum.inl.inj q)
   rw [decide_eq_false h]
   exact (beq_eq_false_iff_ne.mpr e).symm
theorem key_rr (a b : Str) : decide ((Sum.inr a : Key) = Sum.inr b) = decide (a = b) := by
 by_cases e : a = b
 · subst e; simp
 · have h : ¬ (Sum.inr a : Key) = Sum.inr b := fun q => e (Sum.inr.inj q)
   rw [decide_eq_false h, decide_eq_false e]
theorem key_lr (a : Int) (b : Str) : decide ((Sum.inl a : Key) = Sum.inr b) = false := decide_eq_false (fun q => nomatch q)
theorem key_rl (a : Str) (b : Int) : decide ((Sum.inr a : Key) = Sum.inl b) = false := decide_eq_false (fun q => nomatch q)
noncomputable def mixKind (prog : Program) (w : World) : PySem.KeyKind prog w Key where
 is := keyIs
 hash := keyH w
 inj := fun v a b ha hb => by
  rcases keyIs_shape ha with ⟨i, t, rfl, rfl⟩ | ⟨x, t, rfl, rfl⟩
  · rcases keyIs_shape hb with ⟨j, u, rfl, e⟩ | ⟨y, u, rfl, e⟩
    · injection e with e1 _; rw [e1]
    · exact nomatch e
  · rcases keyIs_shape hb with ⟨j, u, rfl, e⟩ | ⟨y, u, rfl, e⟩
    · exact nomatch e
    · injection e with e1 _; rw [e1]
 byValue := fun k v h => by
  rcases keyIs_shape h with ⟨i, t, rfl, rfl⟩ | ⟨x, t, rfl, rfl⟩ <;> rfl
 pyHash := fun hv h => by
  rcases keyIs_shape hv with ⟨i, t, rfl, rfl⟩ | ⟨x, t, rfl, rfl⟩
  · exact wpAny_pyHash_int h
  · exact wpAny_pyHash_str h
 eqBool := fun hu hv h => by
  rcases keyIs_shape hu with ⟨i, t, rfl, rfl⟩ | ⟨x, t, rfl, rfl⟩
  · rcases keyIs_shape hv with ⟨j, u, rfl, rfl⟩ | ⟨y, u, rfl, rfl⟩
    · rw [key_ll] at h; exact wpAny_eqBool_int h
    · rw [key_lr] at h; exact SeqAt.EqAt.int_str i t y u _ _ _ _ h
  · rcases keyIs_shape hv with ⟨j, u, rfl, rfl⟩ | ⟨y, u, rfl, rfl⟩
    · rw [key_rl] at h; exact SeqAt.EqAt.str_int x t j u _ _ _ _ h
    · rw [key_rr] at h; exact wpAny_eqBool_str h
 «strs» := fun k x t v h => by
  rcases keyIs_shape h with ⟨i, u, rfl, e⟩ | ⟨y, u, rfl, e⟩
  · exact nomatch e
  · injection e with e1 _
    subst e1
    cases v <;> rfl
theorem mixKind_int (prog : Program) (w : World) (i : Int) (t : Tok) : (mixKind prog w).is (.inl i) (.int i t) = true := keyIs_int i t
theorem mixKind_str (prog : Program) (w : World) (x : Str) (t : Tok) : (mixKind prog w).is (.inr x) (.str x t) = true := keyIs_str x t
end L2
namespace L2
open PySem PySem.Spec PyProof.Rows
inductive V where
 | non | bl (b : Bool) | int (i : Int) | str (x : Str) | byt (b : Array UInt8) | flt (b : UInt64) | ref (a : Addr) | ty (n : String)
 deriving DecidableEq
def RelV : V → Value → Prop
 | .non, u => u = Value.none
 | .bl b, u => u = Value.bool b
 | .int i, u => ∃ t, u = Value.int i t
 | .str x, u => ∃ t, u = Value.str x t
 | .byt b, u => ∃ t, u = Value.bytes b t
 | .flt b, u => ∃ t, u = Value.float b t
 | .ref a, u => u = Value.ref a
 | .ty n, u => u = Value.type n
abbrev Vals : List V → List Value → Prop := Paired RelV
theorem Vals.length {xs : List V} {us : List Value} (r : Vals xs us) : xs.length = us.length := Paired.length r
theorem Vals.get : ∀ {xs : List V} {us : List Value} {i : Nat} {x : V}, Vals xs us → xs[i]? = some x → ∃ u, us[i]? = some u ∧ RelV x u
 | _, _, _, _, .nil, e => by simp at e
 | _, _, 0, _, .cons r _, e => by simp at e; subst e; exact ⟨_, rfl, r⟩
 | _, _, i + 1, x, .cons _ t, e => by
  obtain ⟨u, h1, h2⟩ := Vals.get (i := i) (x := x) t (by simpa using e)
  exact ⟨u, by simpa using h1, h2⟩
theorem Vals.set {x : V} {u : Value} (r : RelV x u) : ∀ {xs : List V} {us : List Value} (i : Nat), Vals xs us → Vals (xs.set i x) (us.set i u)
 | _, _, _, .nil => .nil
 | _, _, 0, .cons _ t => .cons r t
 | _, _, i + 1, .cons q t => .cons q (Vals.set r i t)
theorem Vals.append : ∀ {xs ys : List V} {us ws : List Value}, Vals xs us → Vals ys ws → Vals (xs ++ ys) (us ++ ws)
 | _, _, _, _, .nil, s => s
 | _, _, _, _, .cons r t, s => .cons r (Vals.append t s)
theorem Vals.take : ∀ {xs : List V} {us : List Value} (n : Nat), Vals xs us → Vals (xs.take n) (us.take n)
 | _, _, 0, _ => .nil
 | _, _, _ + 1, .nil => .nil
 | _, _, n + 1, .cons r t => .cons r (Vals.take n t)
theorem Vals.drop : ∀ {xs : List V} {us : List Value} (n : Nat), Vals xs us → Vals (xs.drop n) (us.drop n)
 | _, _, 0, r => r
 | _, _, _ + 1, .nil => .nil
 | _, _, n + 1, .cons _ t => Vals.drop n t
def RelO : Option V → Option Value → Prop
 | some v, some u => RelV v u
 | none, none => True
 | _, _ => False
def KV {κ : Type} : List (κ × V) → List (κ × Value) → Prop := Paired fun (p : κ × V) (q : κ × Value) => p.1 = q.1 ∧ RelV p.2 q.2
noncomputable def kV : Key → V
 | .inl i => .int i
 | .inr x => .str x
def IsTp (h : Heap) (a : Addr) (items : Array Value) : Prop := ∃ o, h.get? a = some o ∧ o.cls = .type "tuple" ∧ o.dict = none ∧ ∃ n, o.data = .seq items n
theorem IsTp.tup {h : Heap} {a : Addr} {items : Array Value} (x : IsTp h a items) : IsTup h a items := let ⟨o, e, c, _, d⟩ := x; ⟨o, e, c, d⟩
theorem IsTp.lt {h : Heap} {a : Addr} {items : Array Value} (x : IsTp h a items) : a < h.objs.size := let ⟨_, e, _⟩ := x; Heap.lt_size e
theorem IsTp.new (h : Heap) (items : Array Value) : IsTp (h.push { cls := .type "tuple", data := .seq items }) h.objs.size items := ⟨_, Heap.get?_push_size _ rfl, rfl, rfl, _, rfl⟩
inductive HO where
  | lst (xs : List V)
  | tup (xs : List V)
  | dK (kvs : List (Key × V)) | dT (kvs : List (List Key × V))
  | set (S : Int → Bool) (n : Nat)
  | ins (C dx : Addr) (fs : List (Str × V))
  | own (x : Addr)
  | xd (fs : List (Str × V))
  | met (f x : Addr)
  | rng (lo hi : Int)
  | frz (o : Obj) (u : HO)
  | tbl (ps : Array Value)
  | ext (φ : Heap → Prop)
abbrev Hp := Addr → Option HO
noncomputable def upd (H : Hp) (a : Addr) (o : HO) : Hp := fun b => if b = a then some o else H b
theorem upd_same {H : Hp} {a : Addr} {o : HO} : upd H a o a = some o := by unfold upd; rw [if_pos rfl]
theorem upd_ne {H : Hp} {a b : Addr} {o : HO} (h : b ≠ a) : upd H a o b = H b := by unfold upd; rw [if_neg h]
theorem ne_of {H : Hp} {a b : Addr} {o u : HO} (h : H a = some o) (h' : H b = some u) (d : o ≠ u) : a ≠ b := by
 intro e; subst e; rw [h] at h'; exact d (Option.some.inj h')
theorem ne_of_none {H : Hp} {a b : Addr} {o : HO} (h : H a = some o) (h' : H b = none) : a ≠ b := by
 intro e; subst e; rw [h] at h'; cases h'
section
variable (P : Program) (w : World)
def ObjOk (H : Hp) (h : Heap) (a : Addr) : HO → Prop
 | .lst xs => xs.length ≤ sizeLine ∧ ∃ (its : List Value) (n : Nat), Vals xs its ∧ h.get? a = some { cls := .type "list", data := .seq its.toArray n }
 | .tup xs => xs.length ≤ sizeLine ∧ ∃ its : List Value, Vals xs its ∧ IsTp h a its.toArray
 | .dK kvs => kvs.length ≤ sizeLine ∧ (a == sysModules) = false ∧ ∃ vs, KV kvs vs ∧ h.DictOf (mixKind P w) a vs
 | .dT kvs => kvs.length ≤ sizeLine ∧ (a == sysModules) = false ∧ ∃ xs : List (List Key × Addr × Value),
   Paired (fun (p : List Key × V) (q : List Key × Addr × Value) => p.1 = q.1 ∧ H q.2.1 = some (.tup (p.1.map kV)) ∧ RelV p.2 q.2.2) kvs xs ∧
   ∃ o es ep, h.get? a = some o ∧ o.ExactDict ∧ o.data = .dict es ep ∧ es.toList = xs.map (entryOfKey (tupleKind (mixKind P w))) ∧ (xs.map (·.1)).Nodup
 | .set S n => h.SetOf (intKind P w) a S n
 | .ins C dx fs => H dx = some (.own a) ∧ fs.length ≤ 1000 ∧ dx ≠ a ∧ h.get? a = some (PySem.W.instObj C dx) ∧
   ∃ mA, h.Ns1 dx mA ∧ (∀ f, RelO (fs.lookup f) (mA f)) ∧ PySem.Within mA (fs.map (·.1))
 | .own _ => ∃ o, h.get? a = some o
 | .xd fs => ∃ mA, h.Ns1 a mA ∧ ∀ f, RelO (fs.lookup f) (mA f)
 | .rng lo hi => ∃ t u v, h.get? a = some { cls := .type "range", data := .fields #[.int lo t, .int hi u, .int 1 v] }
 | .frz o u => h.get? a = some o ∧ ObjOk H h a u
 | .tbl ps => h.get? a = some { cls := .none, data := .fields ps }
 | .met f x => h.get? a = some (PySem.W.methodObj (.ref f) (.ref x))
 | .ext φ => φ h ∧ (∃ o, h.get? a = some o) ∧ ∀ h1 h2 : Heap, φ h1 → (∀ o, h1.get? a = some o → h2.get? a = some o) → φ h2
def HOk (H : Hp) (h : Heap) : Prop := ∀ a o, H a = some o → ObjOk P w H h a o
end
section
variable {P : Program} {w : World} {H H' : Hp} {h h' : Heap} {a : Addr} {o : HO}
theorem ObjOk.lt (x : ObjOk P w H h a o) : a < h.objs.size := by
 cases o with
 | lst xs => obtain ⟨_, _, _, _, e⟩ := x; exact Heap.lt_size e
 | tup xs => obtain ⟨_, _, _, p⟩ := x; exact p.lt
 | dK kvs => obtain ⟨_, _, _, _, o, _, _, e, _⟩ := x; exact Heap.lt_size e
 | dT kvs => obtain ⟨_, _, _, _, o, _, _, e, _⟩ := x; exact Heap.lt_size e
 | set S n => obtain ⟨o, _, _, _, e, _⟩ := x; exact Heap.lt_size e
 | ins C dx fs => obtain ⟨_, _, _, e, _⟩ := x; exact Heap.lt_size e
 | own y => obtain ⟨_, e⟩ := x; exact Heap.lt_size e
 | xd fs => obtain ⟨_, ⟨_, _, _, e, _⟩, _⟩ := x; exact Heap.lt_size e
 | rng lo hi => obtain ⟨_, _, _, e⟩ := x; exact Heap.lt_size e
 | frz ob u => obtain ⟨e, _⟩ := x; exact Heap.lt_size e
 | tbl ps => exact Heap.lt_size (show h.get? a = some _ from x)
 | met f y => exact Heap.lt_size (show h.get? a = some _ from x)
 | ext φ => obtain ⟨_, ⟨_, e⟩, _⟩ := x; exact Heap.lt_size e
theorem Paired.mapP {α β : Type} {F G : α → β → Prop} : ∀ {l₁ : List α} {l₂ : List β}, Paired F l₁ l₂ → (∀ a b, F a b → G a b) → Paired G l₁ l₂
 | _, _, .nil, _ => .nil
 | _, _, .cons r t, f => .cons (f _ _ r) (Paired.mapP t f)
theorem ObjOk.stay (x : ObjOk P w H h a o) (k : ∀ b u, (b = a ∨ H b = some (.own a)) → h.get? b = some u → h'.get? b = some u)
  (ho : ∀ b, H b = some (.own a) → H' b = some (.own a)) (ht : ∀ b xs, H b = some (.tup xs) → H' b = some (.tup xs)) : ObjOk P w H' h' a o := by
 induction o with
 | lst xs => obtain ⟨z, its, n, r, e⟩ := x; exact ⟨z, its, n, r, k _ _ (.inl rfl) e⟩
 | tup xs => obtain ⟨z, its, r, ob, e, c⟩ := x; exact ⟨z, its, r, ob, k _ _ (.inl rfl) e, c⟩
 | dK kvs => obtain ⟨z, y, vs, r, ob, es, ep, e, c⟩ := x; exact ⟨z, y, vs, r, ob, es, ep, k _ _ (.inl rfl) e, c⟩
 | dT kvs =>
  obtain ⟨z, y, xs, r, ob, es, ep, e, c⟩ := x
  exact ⟨z, y, xs, Paired.mapP r fun p q z => ⟨z.1, ht _ _ z.2.1, z.2.2⟩, ob, es, ep, k _ _ (.inl rfl) e, c⟩
 | set S n => obtain ⟨ob, es, ep, t, e, c⟩ := x; exact ⟨ob, es, ep, t, k _ _ (.inl rfl) e, c⟩
 | ins C dx fs =>
  obtain ⟨d, z, ne, e, mA, ⟨od, es, ep, e2, c⟩, r⟩ := x
  exact ⟨ho _ d, z, ne, k _ _ (.inl rfl) e, mA, ⟨od, es, ep, k _ _ (.inr d) e2, c⟩, r⟩
 | own y => obtain ⟨ob, e⟩ := x; exact ⟨ob, k _ _ (.inl rfl) e⟩
 | xd fs => obtain ⟨mA, ⟨od, es, ep, e, c⟩, r⟩ := x; exact ⟨mA, ⟨od, es, ep, k _ _ (.inl rfl) e, c⟩, r⟩
 | rng lo hi => obtain ⟨t, u, v, e⟩ := x; exact ⟨t, u, v, k _ _ (.inl rfl) e⟩
 | frz ob u ih => obtain ⟨e, q⟩ := x; exact ⟨k _ _ (.inl rfl) e, ih q⟩
 | tbl ps =>
  have e : h.get? a = some { cls := .none, data := .fields ps } := x
  show h'.get? a = some { cls := .none, data := .fields ps }
  exact k a _ (.inl rfl) e
 | met f y =>
  have e : h.get? a = some (PySem.W.methodObj (.ref f) (.ref y)) := x
  show h'.get? a = some (PySem.W.methodObj (.ref f) (.ref y))
  exact k a _ (.inl rfl) e
 | ext φ => obtain ⟨p, ⟨o, e⟩, st⟩ := x; exact ⟨st _ _ p fun o q => k _ _ (.inl rfl) q, ⟨o, k _ _ (.inl rfl) e⟩, st⟩
theorem HOk.lt (x : HOk P w H h) (e : H a = some o) : a < h.objs.size := (x a o e).lt
theorem HOk.fresh (x : HOk P w H h) (e : h.objs.size ≤ a) : H a = none := by
 cases q : H a with
 | none => rfl
 | some u => exact absurd (Nat.lt_of_lt_of_le (x.lt q) e) (Nat.lt_irrefl _)
theorem HOk.kept (x : HOk P w H h) (k : ∀ b u, h.get? b = some u → h'.get? b = some u) : HOk P w H h' := fun a o e =>
 (x a o e).stay (fun b u _ q => k b u q) (fun _ q => q) fun _ _ q => q
theorem HOk.laid (x : HOk P w H h) (k : ∀ b u, h.get? b = some u → h'.get? b = some u) (hp : h.objs.size ≤ a) (new : ObjOk P w (upd H a o) h' a o) : HOk P w (upd H a o) h' := fun b u e => by
 have hn := x.fresh hp
 by_cases hb : b = a
 · subst hb; rw [upd_same] at e; cases e; exact new
 · rw [upd_ne hb] at e
   exact (x b u e).stay (fun c v _ q => k c v q) (fun c q => by rw [upd_ne (ne_of_none q hn)]; exact q) fun c xs q => by rw [upd_ne (ne_of_none q hn)]; exact q
end
def Rd (H : Hp) (a : Addr) (u : HO) : Prop := H a = some u ∨ ∃ o, H a = some (.frz o u)
theorem Rd.ok {P : Program} {w : World} {H : Hp} {h : Heap} {a : Addr} {u : HO} (r : Rd H a u) (x : HOk P w H h) : ObjOk P w H h a u := by
 rcases r with r | ⟨o, r⟩
 · exact x a u r
 · obtain ⟨_, q⟩ := x a _ r
   exact q
def Mut : Option HO → Prop
 | some (.lst _) => True
 | some (.dK _) => True
 | some (.dT _) => True
 | some (.set _ _) => True
 | some (.ins _ _ _) => True
 | some (.ext _) => True
 | _ => False
section
variable {P : Program} {w : World} {H : Hp} {h h' : Heap} {x e : Addr} {o' : HO}
theorem HOk.write (ok : HOk P w H h) (mu : Mut (H x)) (he : e = x ∨ H e = some (.own x)) (k : ∀ b u, b ≠ e → h.get? b = some u → h'.get? b = some u) (heo : ∃ u, h'.get? e = some u)
  (new : ObjOk P w (upd H x o') h' x o') : HOk P w (upd H x o') h' := fun b u q => by
 have nown : ∀ c y, H c = some (.own y) → c ≠ x := fun c y r z => by subst z; rw [r] at mu; exact mu
 have ntup : ∀ c xs, H c = some (.tup xs) → c ≠ x := fun c xs r z => by subst z; rw [r] at mu; exact mu
 by_cases hb : b = x
 · subst hb; rw [upd_same] at q; cases q; exact new
 · rw [upd_ne hb] at q
   by_cases hbe : b = e
   · have q' : H b = some (.own x) := by
       rcases he with z | z
       · exact absurd (hbe.trans z) hb
       · rw [hbe]; exact z
     rw [q] at q'; cases q'
     obtain ⟨v, hv⟩ := heo
     exact ⟨v, by rw [hbe]; exact hv⟩
   · refine (ok b u q).stay (fun c v hc r => k c v ?_ r) (fun c r => by rw [upd_ne (nown c b r)]; exact r) fun c xs r => by rw [upd_ne (ntup c xs r)]; exact r
     rcases hc with rfl | hc
     · exact hbe
     · rintro rfl
       rcases he with z | z
       · exact nown c b hc z
       · rw [hc] at z; cases z; exact hb rfl
end
structure Un (fs ex : List Addr) (H H' : Hp) (h h' : Heap) : Prop where
 keep : ∀ b o, h.get? b = some o → H b = none → b ∉ fs → b ∉ ex → h'.get? b = some o
 slot : ∀ b o, h.get? b = some o → H b = none → b ∈ fs → b ∉ ex → ∃ sl, h'.get? b = some { o with slots := sl }
 free : ∀ b o, h.get? b = some o → H b = none → b ∉ ex → H' b = none
 there : ∀ b o, h.get? b = some o → b ∉ ex → ∃ o', h'.get? b = some o'
 tups : ∀ b xs, H b = some (.tup xs) → H' b = some (.tup xs)
 frzs : ∀ b o u, H b = some (.frz o u) → H' b = some (.frz o u)
 tbls : ∀ b ps, H b = some (.tbl ps) → ∃ more, H' b = some (.tbl (ps ++ more))
section
variable {fs fs' ex ex' : List Addr} {H H1 H2 : Hp} {h h1 h2 h' : Heap} {a x e : Addr} {o : HO}
theorem Un.any (u : Un fs ex H H1 h h1) {b : Addr} {ob : Obj} (q : h.get? b = some ob) (n : H b = none) (hx : b ∉ ex) : ∃ sl, h1.get? b = some { ob with slots := sl } := by
 by_cases hb : b ∈ fs
 · exact u.slot b ob q n hb hx
 · exact ⟨ob.slots, u.keep b ob q n hb hx⟩
theorem Un.kept (k : ∀ b u, h.get? b = some u → h'.get? b = some u) : Un fs ex H H h h' :=
 ⟨fun b ob q _ _ _ => k b ob q, fun b ob q _ _ _ => ⟨ob.slots, k b ob q⟩, fun _ _ _ n _ => n, fun b ob q _ => ⟨ob, k b ob q⟩, fun _ _ q => q, fun _ _ _ q => q, fun _ ps q => ⟨#[], by rw [q]; simp⟩⟩
theorem Un.refl : Un fs ex H H h h := Un.kept fun _ _ q => q
theorem Un.laid (k : ∀ b u, h.get? b = some u → h'.get? b = some u) (hp : h.objs.size ≤ a) (hn : H a = none) : Un fs ex H (upd H a o) h h' where
 keep := fun b u q _ _ _ => k b u q
 slot := fun b u q _ _ _ => ⟨u.slots, k b u q⟩
 free := fun b u q n _ => by rw [upd_ne (Nat.ne_of_lt (Nat.lt_of_lt_of_le (Heap.lt_size q) hp))]; exact n
 there := fun b u q _ => ⟨u, k b u q⟩
 tups := fun b xs q => by rw [upd_ne (ne_of_none q hn)]; exact q
 frzs := fun b u xs q => by rw [upd_ne (ne_of_none q hn)]; exact q
 tbls := fun b ps q => ⟨#[], by rw [upd_ne (ne_of_none q hn), q]; simp⟩
theorem Un.write (mu : Mut (H x)) (he : e = x ∨ H e = some (.own x)) (k : ∀ b u, b ≠ e → h.get? b = some u → h'.get? b = some u) (heo : ∃ u, h'.get? e = some u) : Un fs ex H (upd H x o) h h' := by
 have hx : ∀ b, H b = none → b ≠ x := fun b n z => by subst z; rw [n] at mu; exact mu
 have hb : ∀ b, H b = none → b ≠ e := fun b n z => by
  subst z
  rcases he with r | r
  · exact hx b n r
  · rw [n] at r; cases r
 have hm : ∀ b u, H b = some u → ¬ Mut (some u) → b ≠ x := fun b u q nm z => by subst z; rw [q] at mu; exact nm mu
 refine ⟨fun b u q n _ _ => k b u (hb b n) q, fun b u q n _ _ => ⟨u.slots, k b u (hb b n) q⟩, fun b u q n _ => by rw [upd_ne (hx b n)]; exact n, fun b u q _ => ?_,
  fun b xs q => by rw [upd_ne (hm b _ q fun z => z)]; exact q, fun b u xs q => by rw [upd_ne (hm b _ q fun z => z)]; exact q, fun b ps q => ⟨#[], by rw [upd_ne (hm b _ q fun z => z), q]; simp⟩⟩
 by_cases hbe : b = e
 · subst hbe; exact heo
 · exact ⟨u, k b u hbe q⟩
end
noncomputable def trk (h : Heap) (H : Hp) : List Addr := (List.range h.objs.size).filter fun a => (H a).isSome
noncomputable def hidT (h : Heap) (H : Hp) : Heap := PySem.W.hideAll h (trk h H)
theorem hidT_size (h : Heap) (H : Hp) : (hidT h H).objs.size = h.objs.size := PySem.W.hideAll_size _ _
theorem hidT_get {h : Heap} {H : Hp} {b : Addr} {o : Obj} (e : h.get? b = some o) (n : H b = none) : (hidT h H).get? b = some o :=
 PySem.W.hideAll_get _ e fun hm => by
  have q : (H b).isSome = true := (List.mem_filter.mp hm).2
  rw [n] at q; simp at q
theorem of_hidT {h : Heap} {H : Hp} {b : Addr} {o : Obj} (e : (hidT h H).get? b = some o) : h.get? b = some o ∧ H b = none := by
 have e' : h.get? b = some o := PySem.W.of_hideAll (trk h H) e
 refine ⟨e', ?_⟩
 cases q : H b with
 | none => rfl
 | some x =>
  have hm : b ∈ trk h H := List.mem_filter.mpr ⟨List.mem_range.mpr (Heap.lt_size e'), by simp [q]⟩
  have z : (hidT h H).get? b = none := PySem.W.hideAll_none (trk h H) hm
  rw [z] at e; cases e
end L2
namespace L2
open PySem PySem.Spec PyProof.Rows
structure Mod (K : PySem.W.Frag) (mg : Str → Option Value) (base : Heap) : Prop where
 kin : K.In base
 glob : base.Ns mainGlobals mg
 blt : ∃ mb, base.Ns builtinsNs mb ∧ ∀ x : Str, x ≠ "__name__" → mb x = bootBuiltins x
 nolimit : base.NoLimit
structure Cx where
 prog : Program
 w : World
 K : PySem.W.Frag
 mg : Str → Option Value
 base : Heap
 A : Around
 N : List Str
 s₀ : Shared
 H₀ : Hp
 env : Env
 outer : List Env
 stack : List Env
 ex : List Addr
 fn : Str → Bool
 calm : Bool
 pn : List (Addr × Obj)
 xe : Value → Shared → Prop
noncomputable def frs (l : List Env) : List Addr := l.filterMap (·.frame)
noncomputable abbrev Cx.fs (X : Cx) : List Addr := frs X.outer
def Vis (sc : Scope) (x : Str) : Prop := sc.names.lookup x = some .local ∨ sc.names.lookup x = some .cell ∨ sc.names.lookup x = some .free
def Loc (sc : Scope) (x : Str) : Prop := sc.names.lookup x = some .local ∨ sc.names.lookup x = some .cell
def Look (env : Env) (h : Heap) (m : Str → Option Value) (x : Str) (u : Value) : Prop :=
 (env.kindOf x = some .local ∧ m x = some u) ∨ ((env.kindOf x = some .cell ∨ env.kindOf x = some .free) ∧ ∃ c, env.cells.lookup x = some c ∧ h.IsCell c (some u))
structure Cx.Ok (X : Cx) : Prop where
 mod : Mod X.K X.mg X.base
 kind : X.env.scope.kind = .function
 glob : X.env.globals = mainGlobals
 blt : X.env.builtins = builtinsNs
 above : X.s₀.heap.objs.size ≤ X.env.locals
 inj : ∀ x y c, X.env.cells.lookup x = some c → X.env.cells.lookup y = some c → x = y
 has : ∀ x, (X.env.kindOf x = some .cell ∨ X.env.kindOf x = some .free) → ∃ c, X.env.cells.lookup x = some c
 cab : ∀ x c, X.fn x = true → X.env.cells.lookup x = some c → X.s₀.heap.objs.size ≤ c
 hd : X.calm = true → X.A.handled = none
 frames : X.A.frames = some X.stack
 stk : X.stack = X.outer ∨ (X.stack = X.env :: X.outer ∧ X.env.frame = some X.env.locals)
 exf : ∀ b ∈ X.ex, b ≠ X.env.locals ∧ ∀ x c, X.env.cells.lookup x = some c → c ≠ b
 bs : ∀ b o, X.base.get? b = some o → X.s₀.heap.get? b = some o ∧ X.H₀ b = none
 bsz : X.base.objs.size ≤ X.s₀.heap.objs.size
 noex : ∀ b o, X.base.get? b = some o → b ∉ X.ex
 exfs : ∀ b ∈ X.ex, b ∉ X.fs
 funs : X.s₀.heap.FunFrames X.base X.outer
 frf : ∀ b ∈ X.fs, X.H₀ b = none
structure Inv (X : Cx) (pins : List (Addr × Obj)) (σ : List (Option V)) (H : Hp) (s : Shared) : Prop where
 ok : X.Ok
 os : s.os = X.s₀.os
 bare : AllBare s.gens
 base : Un X.fs X.ex X.H₀ H X.s₀.heap s.heap
 loc : ∃ m, s.heap.Ns X.env.locals m ∧ ∀ (i : Nat) (x : Str) (v : V), X.N[i]? = some x → σ[i]? = some (some v) → Vis X.env.scope x → ∃ u, RelV v u ∧ Look X.env s.heap m x u
 cell : ∀ x c, X.env.cells.lookup x = some c → ∃ v, s.heap.IsCell c v
 free : H X.env.locals = none
 freeC : ∀ x c, X.env.cells.lookup x = some c → H c = none
 pin : ∀ p ∈ X.pn ++ pins, s.heap.get? p.1 = some p.2 ∧ H p.1 = none ∧ p.1 ≠ X.env.locals ∧ p.1 ∉ X.fs ∧ ∀ v, p.2.data ≠ .cell v
 hok : HOk X.prog X.w H s.heap
 len : σ.length = X.N.length
section
variable {X : Cx} {pins : List (Addr × Obj)} {σ : List (Option V)} {H H' : Hp} {s : Shared} {h' : Heap}
theorem Cx.Ok.nofr (ok : X.Ok) {b : Addr} {o : Obj} (e : X.base.get? b = some o) : b ∉ X.fs := fun hb => by
 have := (ok.funs.mem hb).1
 rw [e] at this; cases this
theorem Inv.bs (I : Inv X pins σ H s) : ∀ b o, X.base.get? b = some o → s.heap.get? b = some o ∧ H b = none := fun b o e =>
 ⟨I.base.keep b o (I.ok.bs b o e).1 (I.ok.bs b o e).2 (I.ok.nofr e) (I.ok.noex b o e), I.base.free b o (I.ok.bs b o e).1 (I.ok.bs b o e).2 (I.ok.noex b o e)⟩
theorem Inv.bk (I : Inv X pins σ H s) : ∀ b o, X.base.get? b = some o → s.heap.get? b = some o := fun b o e => (I.bs b o e).1
theorem Inv.mod (I : Inv X pins σ H s) : Mod X.K X.mg X.base := I.ok.mod
theorem Inv.kIn (I : Inv X pins σ H s) : X.K.In s.heap := I.ok.mod.kin.keeps I.bk
theorem Inv.lt (I : Inv X pins σ H s) : X.env.locals < s.heap.objs.size := let ⟨_, hn, _⟩ := I.loc; hn.lt
theorem Inv.sz (I : Inv X pins σ H s) : X.s₀.heap.objs.size ≤ s.heap.objs.size := Nat.le_trans I.ok.above (Nat.le_of_lt I.lt)
theorem Inv.nofs (I : Inv X pins σ H s) {a : Addr} (h : s.heap.objs.size ≤ a) : a ∉ X.fs := fun hb => by
 obtain ⟨_, o, ho, _⟩ := I.ok.funs.mem hb
 exact absurd (Nat.lt_of_lt_of_le (Heap.lt_size ho) (Nat.le_trans I.sz h)) (Nat.lt_irrefl _)
theorem Inv.cne (I : Inv X pins σ H s) : ∀ x c, X.env.cells.lookup x = some c → c ≠ X.env.locals := fun x c e z => by
 obtain ⟨v, o, ho, hd⟩ := I.cell x c e
 obtain ⟨m, ⟨o', es, ep, ho', hd', _⟩, _⟩ := I.loc
 rw [z, ho'] at ho; cases ho; rw [hd'] at hd; cases hd
theorem Inv.funs (I : Inv X pins σ H s) : s.heap.FunFrames X.base X.outer := by
 have all : ∀ (l : List Env), (∀ b ∈ frs l, b ∈ X.fs) → X.s₀.heap.FunFrames X.base l → s.heap.FunFrames X.base l := by
  intro l
  induction l with
  | nil => intro _ _; trivial
  | cons env r ih =>
   intro hs hl
   obtain ⟨hk, ⟨L, o, hf, hn, ho, hd⟩, hr⟩ := hl
   have hL : L ∈ X.fs := hs L (by unfold frs; rw [List.filterMap_cons, hf]; exact List.mem_cons_self)
   obtain ⟨sl, e⟩ := I.base.slot L o ho (I.ok.frf L hL) hL fun z => I.ok.exfs L z hL
   exact ⟨hk, ⟨L, _, hf, hn, e, hd⟩, ih (fun b hb => hs b (by unfold frs; rw [List.filterMap_cons, hf]; exact List.mem_cons_of_mem _ hb)) hr⟩
 exact all X.outer (fun _ hb => hb) I.ok.funs
theorem Inv.stack (I : Inv X pins σ H s) : s.heap.FunFrames X.base X.stack := by
 rcases I.ok.stk with e | ⟨e, hf⟩
 · rw [e]; exact I.funs
 · rw [e]
   obtain ⟨m, hn, _⟩ := I.loc
   refine .cons (by rw [I.ok.kind]; decide) hf hn ?_ I.funs
   exact Heap.get?_none_of_le (Nat.le_trans I.ok.bsz I.ok.above)
theorem Inv.stkSub (I : Inv X pins σ H s) : ∀ b ∈ frs X.stack, b ∈ X.env.locals :: X.fs := fun b hb => by
 rcases I.ok.stk with e | ⟨e, hf⟩
 · rw [e] at hb; exact List.mem_cons_of_mem _ hb
 · rw [e] at hb
   unfold frs at hb
   rw [List.filterMap_cons, hf] at hb
   exact hb
theorem Inv.stkFree (I : Inv X pins σ H s) : ∀ b ∈ frs X.stack, H b = none := fun b hb => by
 rcases List.mem_cons.mp (I.stkSub b hb) with e | hb
 · rw [e]; exact I.free
 · obtain ⟨_, o, ho, _⟩ := I.ok.funs.mem hb
   exact I.base.free b o ho (I.ok.frf b hb) fun z => I.ok.exfs b z hb
theorem Inv.step {g' : Array GenState} {t' : Nat} {d' : Drawn} {ch : List Addr} (I : Inv X pins σ H s)
  (hch : ∀ b ∈ ch, (b ∈ X.ex ∨ X.s₀.heap.objs.size ≤ b) ∧ b ≠ X.env.locals ∧ (∀ x c, X.env.cells.lookup x = some c → c ≠ b) ∧ ∀ p ∈ X.pn ++ pins, p.1 ≠ b)
  (keep : ∀ b o, b ≠ X.env.locals → b ∉ X.fs → b ∉ ch → s.heap.get? b = some o → H b = none → h'.get? b = some o)
  (slot : ∀ b o, b ≠ X.env.locals → b ∈ X.fs → b ∉ ch → s.heap.get? b = some o → H b = none → ∃ sl, h'.get? b = some { o with slots := sl }) (free : ∀ b o, b ∉ ch → s.heap.get? b = some o → H b = none → H' b = none)
  (there : ∀ b o, b ∉ ch → s.heap.get? b = some o → ∃ o', h'.get? b = some o')
  (tups : ∀ b xs, H b = some (.tup xs) → H' b = some (.tup xs)) (frzs : ∀ b o u, H b = some (.frz o u) → H' b = some (.frz o u)) (tbls : ∀ b ps, H b = some (.tbl ps) → ∃ more, H' b = some (.tbl (ps ++ more)))
  (ns : ∀ m, s.heap.Ns X.env.locals m → h'.Ns X.env.locals m) (hok : HOk X.prog X.w H' h') (hg : AllBare g') :
  Inv X pins σ H' { s with heap := h', gens := g', drawn := d', toks := t' } := by
 have neL : ∀ b o, X.s₀.heap.get? b = some o → b ≠ X.env.locals := fun b o e => Nat.ne_of_lt (Nat.lt_of_lt_of_le (Heap.lt_size e) I.ok.above)
 have neC : ∀ b o, X.s₀.heap.get? b = some o → b ∉ X.ex → b ∉ ch := fun b o e hx hb => by
  rcases (hch b hb).1 with z | z
  · exact hx z
  · exact absurd (Nat.lt_of_lt_of_le (Heap.lt_size e) z) (Nat.lt_irrefl _)
 have cellK : ∀ x c, X.env.cells.lookup x = some c → ∀ v, s.heap.IsCell c v → h'.IsCell c v := fun x c e v zz1 => (by obtain ⟨o, ho, hd⟩ := zz1; exact (by
  have nch : c ∉ ch := fun z => (hch c z).2.2.1 x c e rfl
  by_cases hc : c ∈ X.fs
  · obtain ⟨sl, q⟩ := slot c o (I.cne x c e) hc nch ho (I.freeC x c e)
    exact ⟨_, q, hd⟩
  · exact ⟨o, keep c o (I.cne x c e) hc nch ho (I.freeC x c e), hd⟩))
 refine ⟨I.ok, I.os, hg, ⟨fun b o e n hb hx => ?_, fun b o e n hb hx => ?_, fun b o e n hx => ?_, fun b o e hx => ?_, fun b xs e => tups b xs (I.base.tups b xs e), fun b o xs e => frzs b o xs (I.base.frzs b o xs e), fun b ps e => ?_⟩, ?_, fun x c e => ?_, ?_, fun x c e => ?_, fun p hp => ?_, hok, I.len⟩
 · exact keep b o (neL b o e) hb (neC b o e hx) (I.base.keep b o e n hb hx) (I.base.free b o e n hx)
 · obtain ⟨sl, e1⟩ := I.base.slot b o e n hb hx
   obtain ⟨sl', e2⟩ := slot b _ (neL b o e) hb (neC b o e hx) e1 (I.base.free b o e n hx)
   exact ⟨sl', e2⟩
 · obtain ⟨o', e1⟩ := I.base.there b o e hx
   exact free b o' (neC b o e hx) e1 (I.base.free b o e n hx)
 · obtain ⟨o', e1⟩ := I.base.there b o e hx
   exact there b o' (neC b o e hx) e1
 · obtain ⟨m1, e1⟩ := I.base.tbls b ps e
   obtain ⟨m2, e2⟩ := tbls b _ e1
   exact ⟨m1 ++ m2, by rw [e2, Array.append_assoc]⟩
 · obtain ⟨m, hn, hl⟩ := I.loc
   refine ⟨m, ns m hn, fun i x v e1 e2 e3 => ?_⟩
   obtain ⟨u, r, l⟩ := hl i x v e1 e2 e3
   refine ⟨u, r, ?_⟩
   rcases l with l | ⟨k, c, e, z⟩
   · exact .inl l
   · exact .inr ⟨k, c, e, cellK x c e _ z⟩
 · obtain ⟨v, z⟩ := I.cell x c e
   exact ⟨v, cellK x c e v z⟩
 · obtain ⟨m, ⟨o, _, _, ho, _⟩, _⟩ := I.loc
   exact free _ o (fun z => (hch _ z).2.1 rfl) ho I.free
 · obtain ⟨v, o, ho, hd⟩ := I.cell x c e
   exact free c o (fun z => (hch c z).2.2.1 x c e rfl) ho (I.freeC x c e)
 · obtain ⟨e, n, ne, nf, d⟩ := I.pin p hp
   have nch : p.1 ∉ ch := fun z => (hch p.1 z).2.2.2 p hp rfl
   exact ⟨keep p.1 p.2 ne nf nch e n, free p.1 p.2 nch e n, ne, nf, d⟩
theorem Inv.un {t' : Nat} (I : Inv X pins σ H s) (u : Un X.fs [] H H' s.heap h') (hok : HOk X.prog X.w H' h') : Inv X pins σ H' { s with heap := h', toks := t' } := by
 obtain ⟨m, ⟨o, es, ep, ho, r⟩, _⟩ := id I.loc
 obtain ⟨sl, hL⟩ := u.any ho I.free (by simp)
 exact I.step (g' := s.gens) (d' := s.drawn) (ch := []) (fun _ z => nomatch z) (fun b o _ hb _ e n => u.keep b o e n hb (by simp)) (fun b o _ hb _ e n => u.slot b o e n hb (by simp)) (fun b o _ e n => u.free b o e n (by simp)) (fun b o _ e => u.there b o e (by simp)) u.tups u.frzs u.tbls (fun m' hm => by
  obtain ⟨o', es', ep', ho', r'⟩ := hm
  rw [ho] at ho'; cases ho'
  exact ⟨_, es', ep', hL, r'⟩) hok I.bare
theorem Inv.call {g' : Array GenState} {t' : Nat} {d' : Drawn} {ch : List Addr} (I : Inv X pins σ H s) (u : Un (frs X.stack) ch H H' s.heap h') (hok : HOk X.prog X.w H' h') (hg : AllBare g')
  (hch : ∀ b ∈ ch, (b ∈ X.ex ∨ X.s₀.heap.objs.size ≤ b) ∧ b ≠ X.env.locals ∧ (∀ x c, X.env.cells.lookup x = some c → c ≠ b) ∧ ∀ p ∈ X.pn ++ pins, p.1 ≠ b) :
  Inv X pins σ H' { s with heap := h', gens := g', drawn := d', toks := t' } := by
 obtain ⟨m, ⟨o, es, ep, ho, r⟩, _⟩ := id I.loc
 obtain ⟨sl, hL⟩ := u.any ho I.free fun z => (hch _ z).2.1 rfl
 exact I.step (ch := ch) hch (fun b o hL hb hc e n => u.keep b o e n (fun z => (List.mem_cons.mp (I.stkSub b z)).elim hL hb) hc) (fun b o _ _ hc e n => u.any e n hc) (fun b o hc e n => u.free b o e n hc) (fun b o hc e => u.there b o e hc) u.tups u.frzs u.tbls (fun m' hm => by
  obtain ⟨o', es', ep', ho', r'⟩ := hm
  rw [ho] at ho'; cases ho'
  exact ⟨_, es', ep', hL, r'⟩) hok hg
theorem Inv.turned {t' : Nat} {it : Addr} (I : Inv X pins σ H s) (k : ∀ b o, b ≠ it → s.heap.get? b = some o → h'.get? b = some o) (hn : H it = none) (hL : it ≠ X.env.locals)
  (h1 : it ∈ X.ex ∨ X.s₀.heap.objs.size ≤ it) (h2 : ∀ x c, X.env.cells.lookup x = some c → c ≠ it) (h3 : ∀ p ∈ X.pn ++ pins, p.1 ≠ it) : Inv X pins σ H { s with heap := h', toks := t' } := by
 have nit : ∀ b u, H b = some u → b ≠ it := fun b u e z => by rw [z, hn] at e; cases e
 refine I.step (g' := s.gens) (d' := s.drawn) (ch := [it]) (fun b hb => ?_) (fun b o _ _ hc e _ => k b o (fun z => hc (by simp [z])) e) (fun b o _ _ hc e _ => ⟨o.slots, k b o (fun z => hc (by simp [z])) e⟩) (fun _ _ _ _ n => n)
  (fun b o hc e => ⟨o, k b o (fun z => hc (by simp [z])) e⟩) (fun _ _ e => e) (fun _ _ _ e => e) (fun b ps e => ⟨#[], by rw [e]; simp⟩) (fun m hm => ?_) (fun b u e => ?_) I.bare
 · have e : b = it := by simpa using hb
   subst e
   exact ⟨h1, hL, h2, h3⟩
 · obtain ⟨o, es, ep, ho, r⟩ := hm
   exact ⟨o, es, ep, k _ o (Ne.symm hL) ho, r⟩
 · refine (I.hok b u e).stay (fun c v hc q => k c v ?_ q) (fun _ q => q) fun _ _ q => q
   rcases hc with z | z
   · rw [z]; exact nit b u e
   · exact nit c _ z
theorem Inv.tok (I : Inv X pins σ H s) (t : Nat) : Inv X pins σ H { s with toks := t } := I.un (h' := s.heap) (t' := t) Un.refl I.hok
theorem Inv.kept {t' : Nat} (I : Inv X pins σ H s) (k : ∀ b u, s.heap.get? b = some u → h'.get? b = some u) : Inv X pins σ H { s with heap := h', toks := t' } := I.un (Un.kept k) (I.hok.kept k)
theorem Inv.laid {a : Addr} {o : HO} {t' : Nat} (I : Inv X pins σ H s) (k : ∀ b u, s.heap.get? b = some u → h'.get? b = some u) (hp : s.heap.objs.size ≤ a) (new : ObjOk X.prog X.w (upd H a o) h' a o) :
  Inv X pins σ (upd H a o) { s with heap := h', toks := t' } := I.un (Un.laid k hp (I.hok.fresh hp)) (I.hok.laid k hp new)
theorem Inv.write {x e : Addr} {o : HO} {t' : Nat} (I : Inv X pins σ H s) (mu : Mut (H x)) (he : e = x ∨ H e = some (.own x)) (k : ∀ b u, b ≠ e → s.heap.get? b = some u → h'.get? b = some u) (heo : ∃ u, h'.get? e = some u)
  (new : ObjOk X.prog X.w (upd H x o) h' x o) : Inv X pins σ (upd H x o) { s with heap := h', toks := t' } := I.un (Un.write mu he k heo) (I.hok.write mu he k heo new)
theorem Inv.weak {σ' : List (Option V)} (I : Inv X pins σ H s) (hl : σ'.length = σ.length) (w : ∀ (i : Nat) v, σ'[i]? = some (some v) → σ[i]? = some (some v)) : Inv X pins σ' H s :=
 ⟨I.ok, I.os, I.bare, I.base, let ⟨m, hn, hl'⟩ := I.loc; ⟨m, hn, fun i x v e1 e2 e3 => hl' i x v e1 (w i v e2) e3⟩, I.cell, I.free, I.freeC, I.pin, I.hok, hl.trans I.len⟩
theorem Inv.pins_of {pins' : List (Addr × Obj)} (I : Inv X pins σ H s) (h : ∀ p ∈ pins', s.heap.get? p.1 = some p.2 ∧ H p.1 = none ∧ p.1 ≠ X.env.locals ∧ p.1 ∉ X.fs ∧ ∀ v, p.2.data ≠ .cell v) : Inv X pins' σ H s :=
 ⟨I.ok, I.os, I.bare, I.base, I.loc, I.cell, I.free, I.freeC, fun p hp => (List.mem_append.mp hp).elim (fun z => I.pin p (List.mem_append_left _ z)) (h p), I.hok, I.len⟩
theorem nodup_ix {N : List Str} (hN : N.Nodup) {i j : Nat} {x : Str} (a : N[i]? = some x) (b : N[j]? = some x) : i = j := by
 obtain ⟨h1, e1⟩ := List.getElem?_eq_some_iff.mp a
 obtain ⟨h2, e2⟩ := List.getElem?_eq_some_iff.mp b
 exact (List.getElem_inj hN).mp (e1.trans e2.symm)
theorem store_ok2 {M : Model} {A : Around} {E : Value → Shared → Prop} {i : Nat} {x : Str} {v : V} {u : Value} {Q : Unit → Shared → Prop} (I : Inv X pins σ H s) (hN : X.N.Nodup) (hi : X.N[i]? = some x) (hx : Loc X.env.scope x) (r : RelV v u)
  (h : ∀ s', Inv X pins (σ.set i (some v)) H s' → (∃ a, Heap.SameBut a s.heap s'.heap ∧ (a = X.env.locals ∨ X.env.cells.lookup x = some a)) → Q () s') (hf : autoParam (X.fn x = true ∨ X.env.scope.names.lookup x = some .local) au1._auto_1) : wpAny M A (storeName X.env x u) Q E s := by
 obtain ⟨m, hn, hl⟩ := id I.loc
 have hcls : (X.env.scope.kind == .class || (X.env.scope.kind == .module && X.env.locals != X.env.globals)) = false := by rw [I.ok.kind]; rfl
 have hiσ : i < σ.length := by rw [I.len]; exact (List.getElem?_eq_some_iff.mp hi).1
 have cne := I.cne
 have tracked : ∀ {a : Addr} {h' : Heap}, (∃ o, s.heap.get? a = some o ∧ H a = none) → Heap.SameBut a s.heap h' → HOk X.prog X.w H h' := fun {a h'} ha hs b ob e => by
  obtain ⟨_, _, hfree⟩ := ha
  refine (I.hok b ob e).stay (fun c w' hc q => (hs.2 c ?_).trans q) (fun _ q => q) fun _ _ q => q
  rintro rfl
  rcases hc with rfl | hc
  · rw [hfree] at e; cases e
  · rw [hfree] at hc; cases hc
 rcases hx with hk | hk
 · refine wpAny_storeName_local hk hn (fun h' hn' hs => ?_) hcls
   obtain ⟨oL, _, _, hoL, _⟩ := id hn
   refine h _ ⟨I.ok, I.os, I.bare, ⟨fun b o e n hb hx => ?_, fun b o e n hb hx => ?_, I.base.free, fun b o e hx => ?_, I.base.tups, I.base.frzs, I.base.tbls⟩, ⟨_, hn', fun j y v' e1 e2 e3 => ?_⟩, fun y c e => ?_, I.free, I.freeC, fun p hp => ?_, tracked ⟨oL, hoL, I.free⟩ hs, by simpa using I.len⟩ ⟨_, hs, .inl rfl⟩
   · exact (hs.2 b (Nat.ne_of_lt (Nat.lt_of_lt_of_le (Heap.lt_size e) I.ok.above))).trans (I.base.keep b o e n hb hx)
   · obtain ⟨sl, e1⟩ := I.base.slot b o e n hb hx
     exact ⟨sl, (hs.2 b (Nat.ne_of_lt (Nat.lt_of_lt_of_le (Heap.lt_size e) I.ok.above))).trans e1⟩
   · obtain ⟨o', e1⟩ := I.base.there b o e hx
     exact ⟨o', (hs.2 b (Nat.ne_of_lt (Nat.lt_of_lt_of_le (Heap.lt_size e) I.ok.above))).trans e1⟩
   · by_cases hj : j = i
     · subst hj
       rw [hi] at e1; cases e1
       rw [List.getElem?_set_self hiσ] at e2
       cases e2
       exact ⟨u, r, .inl ⟨hk, by simp⟩⟩
     · rw [List.getElem?_set_ne (Ne.symm hj)] at e2
       obtain ⟨u', r', q⟩ := hl j y v' e1 e2 e3
       refine ⟨u', r', ?_⟩
       rcases q with ⟨k, e⟩ | ⟨k, c, e, z⟩
       · refine .inl ⟨k, ?_⟩
         have : y ≠ x := fun e => hj (nodup_ix hN e1 (e ▸ hi))
         simp [this, e]
       · exact .inr ⟨k, c, e, z.sameBut hs (cne y c e)⟩
   · obtain ⟨w', z⟩ := I.cell y c e
     exact ⟨w', z.sameBut hs (cne y c e)⟩
   · obtain ⟨e, n, ne, nf, d⟩ := I.pin p hp
     exact ⟨(hs.2 p.1 ne).trans e, n, ne, nf, d⟩
 · have hfn : X.fn x = true := by
     rcases hf with z | z
     · exact z
     · rw [z] at hk; cases hk
   obtain ⟨c, hc⟩ := I.ok.has x (.inl hk)
   obtain ⟨w', z⟩ := I.cell x c hc
   refine wpAny_storeName_cell I.ok.kind hk hc z (fun h' hc' hs => ?_)
   obtain ⟨oc, hoc, hocd⟩ := id z
   refine h { s with heap := h' } ⟨I.ok, I.os, I.bare, ⟨fun b o e n hb hx => ?_, fun b o e n hb hx => ?_, I.base.free, fun b o e hx => ?_, I.base.tups, I.base.frzs, I.base.tbls⟩, ⟨m, hn.sameBut hs (Ne.symm (cne x c hc)), fun j y v' e1 e2 e3 => ?_⟩, fun y c' e => ?_, I.free, I.freeC, fun p hp => ?_, tracked ⟨oc, hoc, I.freeC x c hc⟩ hs, by simpa using I.len⟩ ⟨c, hs, .inr hc⟩
   · exact (hs.2 b (Nat.ne_of_lt (Nat.lt_of_lt_of_le (Heap.lt_size e) (I.ok.cab x c hfn hc)))).trans (I.base.keep b o e n hb hx)
   · obtain ⟨sl, e1⟩ := I.base.slot b o e n hb hx
     exact ⟨sl, (hs.2 b (Nat.ne_of_lt (Nat.lt_of_lt_of_le (Heap.lt_size e) (I.ok.cab x c hfn hc)))).trans e1⟩
   · obtain ⟨o', e1⟩ := I.base.there b o e hx
     exact ⟨o', (hs.2 b (Nat.ne_of_lt (Nat.lt_of_lt_of_le (Heap.lt_size e) (I.ok.cab x c hfn hc)))).trans e1⟩
   · by_cases hj : j = i
     · subst hj
       rw [hi] at e1; cases e1
       rw [List.getElem?_set_self hiσ] at e2
       cases e2
       exact ⟨u, r, .inr ⟨.inl hk, c, hc, hc'⟩⟩
     · rw [List.getElem?_set_ne (Ne.symm hj)] at e2
       obtain ⟨u', r', q⟩ := hl j y v' e1 e2 e3
       refine ⟨u', r', ?_⟩
       rcases q with q | ⟨k, c', e, z'⟩
       · exact .inl q
       · refine .inr ⟨k, c', e, z'.sameBut hs ?_⟩
         rintro rfl
         exact hj (nodup_ix hN e1 (I.ok.inj _ _ _ e hc ▸ hi))
   · by_cases hcc : c' = c
     · subst hcc; exact ⟨_, hc'⟩
     · obtain ⟨w2, z2⟩ := I.cell y c' e
       exact ⟨w2, z2.sameBut hs hcc⟩
   · obtain ⟨e, n, ne, nf, d⟩ := I.pin p hp
     refine ⟨(hs.2 p.1 ?_).trans e, n, ne, nf, d⟩
     intro q
     rw [q, hoc] at e
     have q' : oc = p.2 := Option.some.inj e
     exact d w' (by rw [← q']; exact hocd)
theorem store_ok {M : Model} {A : Around} {E : Value → Shared → Prop} {i : Nat} {x : Str} {v : V} {u : Value} {Q : Unit → Shared → Prop} (I : Inv X pins σ H s) (hN : X.N.Nodup) (hi : X.N[i]? = some x) (hx : Loc X.env.scope x) (r : RelV v u)
  (h : ∀ s', Inv X pins (σ.set i (some v)) H s' → Q () s') (hf : autoParam (X.fn x = true ∨ X.env.scope.names.lookup x = some .local) au1._auto_1) : wpAny M A (storeName X.env x u) Q E s :=
 store_ok2 I hN hi hx r (fun s' I' _ => h s' I') hf
theorem Inv.call' {s' : Shared} {ch : List Addr} (I : Inv X pins σ H s) (ho : s'.os = s.os) (u : Un (frs X.stack) ch H H' s.heap s'.heap) (hok : HOk X.prog X.w H' s'.heap) (hg : AllBare s'.gens)
  (hch : ∀ b ∈ ch, (b ∈ X.ex ∨ X.s₀.heap.objs.size ≤ b) ∧ b ≠ X.env.locals ∧ (∀ x c, X.env.cells.lookup x = some c → c ≠ b) ∧ ∀ p ∈ X.pn ++ pins, p.1 ≠ b) : Inv X pins σ H' s' := by
 obtain ⟨h', g', d', t', o'⟩ := s'
 have e : o' = s.os := ho
 subst e
 exact I.call (g' := g') (t' := t') (d' := d') u hok hg hch
end
abbrev XK := Value → Option Addr → Hp → Prop
abbrev St := List (Option V)
abbrev VK := V → Hp → Prop
abbrev TE := St → Hp → VK → Prop
abbrev TT := St → Hp → (Bool → Hp → Prop) → Prop
abbrev TA := St → Hp → (List V → Hp → Prop) → Prop
structure Ends where
 nx : St → Hp → Prop
 rt : VK
 bk : St → Hp → Prop := fun _ _ => False
 ct : St → Hp → Prop := fun _ _ => False
abbrev TS := Ends → St → Hp → Prop
inductive EP (X : Cx) (pins : List (Addr × Obj)) (σ : St) (Q : VK) (u : Value) (s' : Shared) : Prop
 | mk (v : V) (H' : Hp) (h1 : Inv X pins σ H' s') (h2 : RelV v u) (h3 : Q v H')
inductive TP (X : Cx) (pins : List (Addr × Obj)) (σ : St) (Q : Bool → Hp → Prop) (b : Bool) (s' : Shared) : Prop
 | mk (H' : Hp) (h1 : Inv X pins σ H' s') (h2 : Q b H')
inductive AP (X : Cx) (pins : List (Addr × Obj)) (σ : St) (Q : List V → Hp → Prop) (us : List Value) (s' : Shared) : Prop
 | mk (vs : List V) (H' : Hp) (h1 : Inv X pins σ H' s') (h2 : Vals vs us) (h3 : Q vs H')
inductive SPn (X : Cx) (pins : List (Addr × Obj)) (P : St → Hp → Prop) (s' : Shared) : Prop
 | mk (σ' : St) (H' : Hp) (h1 : Inv X pins σ' H' s') (h2 : P σ' H')
inductive SPr (X : Cx) (pins : List (Addr × Obj)) (P : VK) (u : Value) (s' : Shared) : Prop
 | mk (v : V) (σ' : St) (H' : Hp) (h1 : Inv X pins σ' H' s') (h2 : RelV v u) (h3 : P v H')
def SP (X : Cx) (pins : List (Addr × Obj)) (D : Ends) (f : Flow) (s' : Shared) : Prop :=
 match f with
 | .next => SPn X pins D.nx s'
 | .brk => SPn X pins D.bk s'
 | .cont => SPn X pins D.ct s'
 | .ret u => SPr X pins D.rt u s'
def PE (X : Cx) (e : Expr) (t : TE) : Prop :=
 ∀ (pins : List (Addr × Obj)) (s : Shared) (σ : St) (H : Hp) (Q : VK), Inv X pins σ H s → t σ H Q → wpAny (model X.prog X.w) X.A (eval e X.env) (EP X pins σ Q) X.xe s
def PT (X : Cx) (e : Expr) (t : TT) : Prop :=
 ∀ (pins : List (Addr × Obj)) (s : Shared) (σ : St) (H : Hp) (Q : Bool → Hp → Prop), Inv X pins σ H s → t σ H Q → wpAny (model X.prog X.w) X.A (isTrue e X.env (eval e X.env)) (TP X pins σ Q) X.xe s
def PW (X : Cx) (e : Expr) (t : TT) : Prop :=
 ∀ (whole : Sem Value) (pins : List (Addr × Obj)) (s : Shared) (σ : St) (H : Hp) (Q : Bool → Hp → Prop), Inv X pins σ H s → t σ H Q → wpAny (model X.prog X.w) X.A (isTrue e X.env whole) (TP X pins σ Q) X.xe s
theorem PW.pt {X : Cx} {e : Expr} {t : TT} (h : PW X e t) : PT X e t := h _
def PA (X : Cx) (es : List Expr) (t : TA) : Prop :=
 ∀ (pos : Pos) (pins : List (Addr × Obj)) (s : Shared) (σ : St) (H : Hp) (Q : List V → Hp → Prop), Inv X pins σ H s → t σ H Q → wpAny (model X.prog X.w) X.A (spliced (backTo pos (starEach es X.env))) (AP X pins σ Q) X.xe s
def PS (X : Cx) (st : Stmt) (t : TS) : Prop :=
 ∀ (pins : List (Addr × Obj)) (s : Shared) (σ : St) (H : Hp) (D : Ends), Inv X pins σ H s → t D σ H → wpAny (model X.prog X.w) X.A (exec st X.env) (SP X pins D) X.xe s
def PSs (X : Cx) (st : List Stmt) (t : TS) : Prop :=
 ∀ (pins : List (Addr × Obj)) (s : Shared) (σ : St) (H : Hp) (D : Ends), Inv X pins σ H s → t D σ H → wpAny (model X.prog X.w) X.A (execs st X.env) (SP X pins D) X.xe s
theorem thn {α : Type} {t : Sem α} {Q Q' : α → Shared → Prop} {M : Model} {A : Around} {E : Value → Shared → Prop} {s : Shared} (h : wpAny M A t Q E s) (hQ : ∀ a s, Q a s → Q' a s) : wpAny M A t Q' E s := wpAny_mono h hQ fun _ _ x => x
end L2
namespace L2
open PySem PySem.Spec PyProof.Rows
section
variable {X : Cx}
def tVar (i : Nat) : TE := fun σ H Q => ∃ v, σ[i]? = some (some v) ∧ Q v H
def tC (v : V) : TE := fun _ H Q => Q v H
theorem pe_var {i : Nat} {x : Str} {pos : Pos} (hN : X.N[i]? = some x) (hv : Vis X.env.scope x) (hd : autoParam ((x == ("__debug__" : Str)) = false) au2._auto_1) (hcd : autoParam ((x == ("__classdict__" : Str)) = false) au2._auto_1) : PE X (.Name x pos) (tVar i) := by
 intro pins s σ H Q I h
 obtain ⟨v, e, h⟩ := h
 obtain ⟨m, hn, hl⟩ := I.loc
 obtain ⟨u, r, l⟩ := hl i x v hN e hv
 have fin : EP X pins σ Q u s := ⟨v, H, I, r, h⟩
 rcases l with ⟨hk, hm⟩ | ⟨hk, c, hc, hcell⟩
 · exact wpAny_Name (wpAny_loadName_local I.ok.kind hk hn hm fin) hd
 · rcases hk with hk | hk
   · exact wpAny_Name (wpAny_loadName_cell I.ok.kind hk hc hcell fin) hd
   · exact wpAny_Name (wpAny_loadName_free I.ok.kind hk hc hcell fin hcd) hd
theorem pe_int {i j pos} : PE X (.Constant (.int i) j pos) (tC (.int i)) := fun _ _ _ H _ I h => wpAny_Constant_int ⟨.int i, H, I.tok _, ⟨_, rfl⟩, h⟩
theorem pe_bl {b j pos} : PE X (.Constant (.bool b) j pos) (tC (.bl b)) := fun _ _ _ H _ I h => Constant_bool ⟨.bl b, H, I, rfl, h⟩
theorem pe_non {j pos} : PE X (.Constant .none j pos) (tC .non) := fun _ _ _ H _ I h => Constant_none ⟨.non, H, I, rfl, h⟩
theorem pe_str {x j pos} : PE X (.Constant (.str x) j pos) (tC (.str x)) := fun _ _ _ H _ I h => Calls.Constant_str ⟨.str x, H, I.tok _, ⟨_, rfl⟩, h⟩
def Gl (X : Cx) (x : Str) : Prop := X.env.kindOf x = some .globalImplicit
theorem ld_glob {E : Value → Shared → Prop} {pins : List (Addr × Obj)} {s : Shared} {σ : St} {H : Hp} {x : Str} {u : Value} {pos : Pos} {Q : Value → Shared → Prop} (I : Inv X pins σ H s) (hg : Gl X x) (hm : X.mg x = some u) (h : Q u s)
  (hd : autoParam ((x == ("__debug__" : Str)) = false) au2._auto_1) : wpAny (model X.prog X.w) X.A (eval (.Name x pos) X.env) Q E s :=
 Calls.Name_function_global I.ok.kind hg (Calls.loadGlobal_global (by rw [I.ok.glob]; exact I.mod.glob.keeps I.bk) hm h) hd
theorem ld_blt {E : Value → Shared → Prop} {pins : List (Addr × Obj)} {s : Shared} {σ : St} {H : Hp} {x : Str} {u : Value} {pos : Pos} {Q : Value → Shared → Prop} (I : Inv X pins σ H s) (hg : Gl X x) (hm : X.mg x = none) (hv : bootBuiltins x = some u) (h : Q u s)
  (hn : autoParam (x ≠ "__name__") au2._auto_1) (hd : autoParam ((x == ("__debug__" : Str)) = false) au2._auto_1) : wpAny (model X.prog X.w) X.A (eval (.Name x pos) X.env) Q E s := by
 obtain ⟨mb, h1, h2⟩ := I.mod.blt
 exact Calls.Name_function_global I.ok.kind hg (Calls.loadGlobal_builtin (by rw [I.ok.glob]; exact I.mod.glob.keeps I.bk) hm (by rw [I.ok.blt]; exact h1.keeps I.bk) ((h2 x hn).trans hv) h) hd
theorem pe_glob {x : Str} {v : V} {u : Value} {pos : Pos} (hg : Gl X x) (hm : X.mg x = some u) (r : RelV v u) (hd : autoParam ((x == ("__debug__" : Str)) = false) au2._auto_1) : PE X (.Name x pos) (tC v) :=
 fun _ _ _ H _ I h => ld_glob I hg hm ⟨v, H, I, r, h⟩ hd
theorem pe_bltn {x : Str} {v : V} {u : Value} {pos : Pos} (hg : Gl X x) (hm : X.mg x = none) (hv : bootBuiltins x = some u) (r : RelV v u) (hn : autoParam (x ≠ "__name__") au2._auto_1) (hd : autoParam ((x == ("__debug__" : Str)) = false) au2._auto_1) : PE X (.Name x pos) (tC v) :=
 fun _ _ _ H _ I h => ld_blt I hg hm hv ⟨v, H, I, r, h⟩ hn hd
variable {a b : Expr} {ta tb : TE} {pos : Pos}
def PC (X : Cx) (op : CmpOp) (a b : Expr) (t : TE) : Prop :=
 ∀ (pins : List (Addr × Obj)) (s : Shared) (σ : St) (H : Hp) (Q : VK), Inv X pins σ H s → t σ H Q →
  wpAny (model X.prog X.w) X.A (eval a X.env) (fun v s₁ => wpAny (model X.prog X.w) X.A (eval b X.env) (fun u s₂ => wpAny (model X.prog X.w) X.A (compareOp op v u) (EP X pins σ Q) X.xe s₂) X.xe s₁) X.xe s
theorem nobehind (b : Expr) {op : CmpOp} (h : op ≠ .In) (h2 : op ≠ .NotIn) : behindInMarks op b = false := by
 have e1 : (op == CmpOp.In) = false := by cases op <;> first | rfl | exact absurd rfl h
 have e2 : (op == CmpOp.NotIn) = false := by cases op <;> first | rfl | exact absurd rfl h2
 cases b <;> simp [behindInMarks, e1, e2]
def tIsN (ta : TE) : TE := fun σ H Q => ta σ H fun x H1 => Q (.bl (decide (x = .non))) H1
def tNotN (ta : TE) : TE := fun σ H Q => ta σ H fun x H1 => Q (.bl (!decide (x = .non))) H1
theorem RelV.none_iff {x : V} {v : Value} (r : RelV x v) : (v == Value.none) = decide (x = .non) := by
 cases x with
 | non => cases r; rfl
 | bl _ => cases r; rfl
 | int _ => obtain ⟨t, rfl⟩ := r; rfl
 | str _ => obtain ⟨t, rfl⟩ := r; rfl
 | byt _ => obtain ⟨t, rfl⟩ := r; rfl
 | flt _ => obtain ⟨t, rfl⟩ := r; rfl
 | ref _ => cases r; rfl
 | ty _ => cases r; rfl
theorem pc_isN {j pos'} (ha : PE X a ta) : PC X .Is a (.Constant .none j pos') (tIsN ta) := by
 intro pins s σ H Q I h
 refine thn (ha pins s σ H _ I h) fun v s1 zz4 => ?_
 obtain ⟨x, H1, I1, r1, q1⟩ := zz4
 exact Constant_none (is_none_gen ⟨.bl _, H1, I1, by rw [r1.none_iff]; rfl, q1⟩)
theorem pc_notN {j pos'} (ha : PE X a ta) : PC X .IsNot a (.Constant .none j pos') (tNotN ta) := by
 intro pins s σ H Q I h
 refine thn (ha pins s σ H _ I h) fun v s1 zz5 => ?_
 obtain ⟨x, H1, I1, r1, q1⟩ := zz5
 exact Constant_none (isnot_none_gen ⟨.bl _, H1, I1, by rw [r1.none_iff]; rfl, q1⟩)
def tB (t : TE) : TT := fun σ H Q => t σ H fun x H1 => ∃ c, x = .bl c ∧ Q c H1
theorem pe_cmp {op : CmpOp} {t : TE} (h : PC X op a b t) (h1 : autoParam (behindInMarks op b = false) au3._auto_1) : PE X (.Compare a [op] [b] pos) t := fun pins s σ H Q I hw => wpAny_Compare1 (h pins s σ H Q I hw) h1
theorem pt_cmp {op : CmpOp} {t : TE} (h : PC X op a b t) (h1 : autoParam (behindInMarks op b = false) au3._auto_1) : PT X (.Compare a [op] [b] pos) (tB t) := by
 intro pins s σ H Q I hw
 refine wpAny_isTrue_Compare1 (thn (h pins s σ H _ I hw) fun v s1 h1 => thn h1 fun u s2 h2 => thn h2 fun c s3 zz6 => ?_) h1
 obtain ⟨x, H1, I1, r1, q1⟩ := zz6
 obtain ⟨d, rfl, q⟩ := q1
 cases r1
 exact wpAny_truthy_bool ⟨H1, I1, q⟩
theorem pt_val {e : Expr} {t : TE} (h : PE X e t) (he : autoParam (∀ whole, isTrue e X.env whole = (do let v ← whole; standAt e.pos; holding [v] (truthy v))) au4._auto_1) : PT X e (tB t) := by
 intro pins s σ H Q I hw
 refine isTrue_plain (thn (h pins s σ H _ I hw) fun v s1 zz7 => ?_) (he _)
 obtain ⟨x, H1, I1, r1, q1⟩ := zz7
 obtain ⟨d, rfl, q⟩ := q1
 cases r1
 exact wpAny_truthy_bool ⟨H1, I1, q⟩
variable {tA tB' : TT} {rest : List Expr}
def tAnd (t u : TT) : TT := fun σ H Q => t σ H fun c H1 => if c = true then u σ H1 Q else Q false H1
def tOr (t u : TT) : TT := fun σ H Q => t σ H fun c H1 => if c = true then Q true H1 else u σ H1 Q
def tNot (t : TT) : TT := fun σ H Q => t σ H fun c H1 => Q (!c) H1
theorem pw_and1 (ha : PT X a tA) : PW X (.BoolOp .And [a] pos) tA := by
 intro wh pins s σ H Q I h
 refine isTrue_and (thn (ha pins s σ H Q I h) fun c s1 e => ?_)
 cases c with
 | true => exact isTrue_and_nil e
 | false => exact e
theorem pw_or1 (ha : PT X a tA) : PW X (.BoolOp .Or [a] pos) tA := by
 intro wh pins s σ H Q I h
 refine isTrue_or (thn (ha pins s σ H Q I h) fun c s1 e => ?_)
 cases c with
 | false => exact isTrue_or_nil e
 | true => exact e
theorem pw_and (ha : PT X a tA) (hb : PW X (.BoolOp .And (b :: rest) pos) tB') : PW X (.BoolOp .And (a :: b :: rest) pos) (tAnd tA tB') := by
 intro wh pins s σ H Q I h
 refine isTrue_and (thn (ha pins s σ H _ I h) fun c s1 zz8 => ?_)
 obtain ⟨H1, I1, q1⟩ := zz8
 cases c with
 | true => exact hb wh pins s1 σ H1 Q I1 q1
 | false => exact ⟨H1, I1, q1⟩
theorem pw_or (ha : PT X a tA) (hb : PW X (.BoolOp .Or (b :: rest) pos) tB') : PW X (.BoolOp .Or (a :: b :: rest) pos) (tOr tA tB') := by
 intro wh pins s σ H Q I h
 refine isTrue_or (thn (ha pins s σ H _ I h) fun c s1 zz9 => ?_)
 obtain ⟨H1, I1, q1⟩ := zz9
 cases c with
 | true => exact ⟨H1, I1, q1⟩
 | false => exact hb wh pins s1 σ H1 Q I1 q1
theorem pt_not (ha : PT X a tA) : PT X (.UnaryOp .Not a pos) (tNot tA) := by
 intro pins s σ H Q I h
 refine isTrue_not (wpAny_mono (ha pins s σ H (fun c H1 => Q (!c) H1) I h) (fun c s' z => ?_) fun _ _ z => z)
 obtain ⟨H', I', q⟩ := z
 exact ⟨H', I', q⟩
def tAndV (ta tb : TE) : TE := fun σ H Q => ta σ H fun x H1 => ∃ c, x = .bl c ∧ if c = true then tb σ H1 Q else Q (.bl false) H1
def tOrV (ta tb : TE) : TE := fun σ H Q => ta σ H fun x H1 => ∃ c, x = .bl c ∧ if c = true then Q (.bl true) H1 else tb σ H1 Q
def tNotV (ta : TE) : TE := fun σ H Q => ta σ H fun x H1 => ∃ c, x = .bl c ∧ Q (.bl (!c)) H1
theorem pe_one {op} {t : TE} (h : PE X a t) : PE X (.BoolOp op [a] pos) t := fun pins s σ H Q I hw => BoolOp_one (h pins s σ H Q I hw)
theorem pe_and (ha : PE X a ta) (hb : PE X (.BoolOp .And (b :: rest) pos) tb) : PE X (.BoolOp .And (a :: b :: rest) pos) (tAndV ta tb) := by
 intro pins s σ H Q I h
 refine BoolOp_and (thn (ha pins s σ H _ I h) fun v s1 zz10 => ?_)
 obtain ⟨x, H1, I1, r1, q1⟩ := zz10
 obtain ⟨c, rfl, q1⟩ := q1
 cases r1
 refine wpAny_truthy_bool ?_
 cases c with
 | true => exact hb pins s1 σ H1 Q I1 q1
 | false => exact ⟨.bl false, H1, I1, rfl, q1⟩
theorem pe_or (ha : PE X a ta) (hb : PE X (.BoolOp .Or (b :: rest) pos) tb) : PE X (.BoolOp .Or (a :: b :: rest) pos) (tOrV ta tb) := by
 intro pins s σ H Q I h
 refine BoolOp_or (thn (ha pins s σ H _ I h) fun v s1 zz11 => ?_)
 obtain ⟨x, H1, I1, r1, q1⟩ := zz11
 obtain ⟨c, rfl, q1⟩ := q1
 cases r1
 refine wpAny_truthy_bool ?_
 cases c with
 | false => exact hb pins s1 σ H1 Q I1 q1
 | true => exact ⟨.bl true, H1, I1, rfl, q1⟩
theorem pe_not (ha : PE X a ta) : PE X (.UnaryOp .Not a pos) (tNotV ta) := by
 intro pins s σ H Q I h
 refine UnaryOp_ (thn (ha pins s σ H _ I h) fun v s1 zz12 => ?_)
 obtain ⟨x, H1, I1, r1, q1⟩ := zz12
 obtain ⟨c, rfl, q1⟩ := q1
 cases r1
 exact not_of (wpAny_truthy_bool ⟨.bl (!c), H1, I1, rfl, q1⟩)
end
end L2
namespace L2
open PySem PySem.Spec PyProof.Rows
def SqL (K : PySem.W.Frag) (H : Hp) (a : Addr) (xs : List V) : Prop :=
 Rd H a (.lst xs) ∨
  ∃ (o : Obj) (its : Array Value) (n : Nat), K.lookup a = some o ∧ o.cls = .type "list" ∧ o.dict = none ∧ o.data = .seq its n ∧ its.size ≤ sizeLine ∧ Vals xs its.toList
def SqT (K : PySem.W.Frag) (H : Hp) (a : Addr) (xs : List V) : Prop :=
 Rd H a (.tup xs) ∨
  ∃ (o : Obj) (its : Array Value) (n : Nat), K.lookup a = some o ∧ o.cls = .type "tuple" ∧ o.data = .seq its n ∧ its.size ≤ sizeLine ∧ Vals xs its.toList
noncomputable def absV : Value → Option V
 | .none => some .non
 | .bool b => some (.bl b)
 | .int i _ => some (.int i)
 | .str x _ => some (.str x)
 | .bytes b _ => some (.byt b)
 | .float b _ => some (.flt b)
 | .ref a => some (.ref a)
 | .type n => some (.ty n)
 | _ => none
theorem RelV.abs {x : V} {u : Value} (r : RelV x u) : absV u = some x := by
 cases x with
 | non => cases r; rfl
 | bl _ => cases r; rfl
 | int _ => obtain ⟨t, rfl⟩ := r; rfl
 | str _ => obtain ⟨t, rfl⟩ := r; rfl
 | byt _ => obtain ⟨t, rfl⟩ := r; rfl
 | flt _ => obtain ⟨t, rfl⟩ := r; rfl
 | ref _ => cases r; rfl
 | ty _ => cases r; rfl
theorem RelV.inj {x y : V} {u : Value} (r : RelV x u) (q : RelV y u) : x = y := Option.some.inj (r.abs.symm.trans q.abs)
theorem Vals.inj : ∀ {xs ys : List V} {us : List Value}, Vals xs us → Vals ys us → xs = ys
 | _, _, _, .nil, .nil => rfl
 | _, _, _, .cons r t, .cons r' t' => by rw [r.inj r', Vals.inj t t']
section
variable {X : Cx} {pins : List (Addr × Obj)} {σ : St} {H : Hp} {s : Shared} {a : Addr} {xs ys : List V}
theorem SqL.of {K : PySem.W.Frag} (h : H a = some (.lst xs)) : SqL K H a xs := .inl (.inl h)
theorem SqT.of {K : PySem.W.Frag} (h : H a = some (.tup xs)) : SqT K H a xs := .inl (.inl h)
theorem Inv.list (I : Inv X pins σ H s) (h : SqL X.K H a xs) : ∃ its : List Value, Vals xs its ∧ PlainL s.heap a its.toArray ∧ xs.length ≤ sizeLine := by
 rcases h with h | ⟨o, its, n, hk, hc, hd, hs, hz, r⟩
 · obtain ⟨z, its, n, r, e⟩ := h.ok I.hok
   exact ⟨its, r, ⟨_, n, e, rfl, rfl, rfl⟩, z⟩
 · refine ⟨its.toList, r, ⟨o, n, I.kIn a o hk, hc, hd, by simpa using hs⟩, ?_⟩
   have e := r.length
   simp only [Array.length_toList] at e
   lia
theorem Inv.tuple (I : Inv X pins σ H s) (h : SqT X.K H a xs) : ∃ its : List Value, Vals xs its ∧ IsTup s.heap a its.toArray ∧ xs.length ≤ sizeLine := by
 rcases h with h | ⟨o, its, n, hk, hc, hs, hz, r⟩
 · obtain ⟨z, its, r, p⟩ := h.ok I.hok
   exact ⟨its, r, p.tup, z⟩
 · refine ⟨its.toList, r, ⟨o, I.kIn a o hk, hc, n, by simpa using hs⟩, ?_⟩
   have e := r.length
   simp only [Array.length_toList] at e
   lia
theorem Inv.list_inj (I : Inv X pins σ H s) (h : SqL X.K H a xs) (h' : SqL X.K H a ys) : xs = ys := by
 obtain ⟨its, r, ⟨o, n, e, _, _, d⟩, _⟩ := I.list h
 obtain ⟨its', r', ⟨o', n', e', _, _, d'⟩, _⟩ := I.list h'
 rw [e] at e'; cases e'
 rw [d] at d'
 injection d' with d1 _
 have : its = its' := by simpa using congrArg Array.toList d1
 subst this
 exact r.inj r'
theorem Inv.tuple_inj (I : Inv X pins σ H s) (h : SqT X.K H a xs) (h' : SqT X.K H a ys) : xs = ys := by
 obtain ⟨its, r, ⟨o, e, _, n, d⟩, _⟩ := I.tuple h
 obtain ⟨its', r', ⟨o', e', _, n', d'⟩, _⟩ := I.tuple h'
 rw [e] at e'; cases e'
 rw [d] at d'
 injection d' with d1 _
 have : its = its' := by simpa using congrArg Array.toList d1
 subst this
 exact r.inj r'
end
noncomputable abbrev Cx.wish (X : Cx) (E : Value → Shared → Prop) : Cx := { X with xe := E }
noncomputable abbrev Cx.nox (X : Cx) : Cx := X.wish fun _ _ => False
theorem Cx.Ok.wish {X : Cx} (ok : X.Ok) (E : Value → Shared → Prop) : (X.wish E).Ok :=
 ⟨ok.mod, ok.kind, ok.glob, ok.blt, ok.above, ok.inj, ok.has, ok.cab, ok.hd, ok.frames, ok.stk, ok.exf, ok.bs, ok.bsz, ok.noex, ok.exfs, ok.funs, ok.frf⟩
theorem Cx.Ok.unwish {X : Cx} {E : Value → Shared → Prop} (ok : (X.wish E).Ok) : X.Ok :=
 ⟨ok.mod, ok.kind, ok.glob, ok.blt, ok.above, ok.inj, ok.has, ok.cab, ok.hd, ok.frames, ok.stk, ok.exf, ok.bs, ok.bsz, ok.noex, ok.exfs, ok.funs, ok.frf⟩
section
variable {X : Cx} {pins : List (Addr × Obj)} {σ : St} {H : Hp} {s : Shared} {E : Value → Shared → Prop}
theorem Inv.wish (I : Inv X pins σ H s) (E : Value → Shared → Prop) : Inv (X.wish E) pins σ H s := ⟨I.ok.wish E, I.os, I.bare, I.base, I.loc, I.cell, I.free, I.freeC, I.pin, I.hok, I.len⟩
theorem Inv.unwish (I : Inv (X.wish E) pins σ H s) : Inv X pins σ H s := ⟨I.ok.unwish, I.os, I.bare, I.base, I.loc, I.cell, I.free, I.freeC, I.pin, I.hok, I.len⟩
theorem SP.unwish {D : Ends} {f : Flow} {s' : Shared} (h : SP (X.wish E) pins D f s') : SP X pins D f s' := by
 cases f with
 | next => obtain ⟨σ', H', I, q⟩ := h; exact ⟨σ', H', I.unwish, q⟩
 | brk => obtain ⟨σ', H', I, q⟩ := h; exact ⟨σ', H', I.unwish, q⟩
 | cont => obtain ⟨σ', H', I, q⟩ := h; exact ⟨σ', H', I.unwish, q⟩
 | ret u => obtain ⟨v, σ', H', I, r, q⟩ := h; exact ⟨v, σ', H', I.unwish, r, q⟩
theorem PSs.nox {st : List Stmt} {t : TS} (h : PSs X.nox st t) : PSs X st t := fun pins s σ H D I hw =>
 wpAny_mono (h pins s σ H D (I.wish _) hw) (fun _ _ q => q.unwish) fun _ _ z => False.elim z
end
section
variable {X : Cx} {st : Stmt} {rest : List Stmt} {t u : TS} {e : Expr} {te : TE} {pos : Pos}
def tNext : TS := fun D σ H => D.nx σ H
def tSeq (t u : TS) : TS := fun D σ H => t { D with nx := u D } σ H
theorem pss_nil : PSs X [] tNext := fun _ _ σ H _ I h => wpAny_execs_nil ⟨σ, H, I, h⟩
theorem pss_cons (h1 : PS X st t) (h2 : PSs X rest u) : PSs X (st :: rest) (tSeq t u) := by
 intro pins s σ H D I h
 refine wpAny_execs_cons (thn (h1 pins s σ H { D with nx := u D } I h) fun f s1 q => ?_)
 cases f with
 | next =>
  obtain ⟨σ', H', I', q⟩ := q
  exact h2 pins s1 σ' H' D I' q
 | ret v => exact q
 | brk => exact q
 | cont => exact q
theorem pss_one (h1 : PS X st t) : PSs X [st] t := by
 intro pins s σ H D I h
 refine wpAny_execs_cons (thn (h1 pins s σ H D I h) fun f s1 q => ?_)
 cases f with
 | next => exact wpAny_execs_nil q
 | ret v => exact q
 | brk => exact q
 | cont => exact q
theorem Inv.quiet {pins : List (Addr × Obj)} {σ : St} {H : Hp} {s : Shared} (I : Inv X pins σ H s) : interactive X.env = false := by simp [interactive, I.ok.kind]
def tDrop (te : TE) : TS := fun D σ H => te σ H fun _ H1 => D.nx σ H1
theorem ps_expr (he : PE X e te) (hs : autoParam (swapsWith e none pos.line X.env = pure false) au5._auto_1) : PS X (.Expr e pos) (tDrop te) := by
 intro pins s σ H D I h
 exact wpAny_Expr_any (thn (he pins s σ H _ I h) fun v s1 zz16 => (by obtain ⟨x, H1, I1, r1, q1⟩ := zz16; exact (⟨σ, H1, I1, q1⟩))) I.quiet hs
def tRet (te : TE) : TS := fun D σ H => te σ H D.rt
theorem ps_ret (he : PE X e te) : PS X (.Return (some e) pos) (tRet te) := by
 intro pins s σ H D I h
 exact wpAny_Return_some (thn (he pins s σ H _ I h) fun v s1 zz17 => (by obtain ⟨x, H1, I1, r1, q1⟩ := zz17; exact (⟨x, σ, H1, I1, r1, q1⟩)))
def tIfS (c : TT) (t u : TS) : TS := fun D σ H => c σ H fun b H1 => if b = true then t D σ H1 else u D σ H1
theorem ps_if {c : Expr} {a b : List Stmt} {tc : TT} (hc : PT X c tc) (ha : PSs X a t) (hb : PSs X b u) : PS X (.If c a b pos) (tIfS tc t u) := by
 intro pins s σ H D I h
 refine wpAny_If (thn (hc pins s σ H _ I h) fun d s1 zz18 => ?_)
 obtain ⟨H1, I1, q1⟩ := zz18
 cases d with
 | true => exact ha pins s1 σ H1 D I1 q1
 | false => exact hb pins s1 σ H1 D I1 q1
end
abbrev TG := V → St → Hp → (St → Hp → Prop) → Prop
abbrev TGs := List V → St → Hp → (St → Hp → Prop) → Prop
def PG (X : Cx) (target : Expr) (t : TG) : Prop :=
 ∀ (pins : List (Addr × Obj)) (s : Shared) (σ : St) (H : Hp) (v : V) (u : Value) (Q : St → Hp → Prop), Inv X pins σ H s → RelV v u → t v σ H Q →
  wpAny (model X.prog X.w) X.A (assign target X.env u) (fun _ s' => SPn X pins Q s') X.xe s
def PGs (X : Cx) (ts : List Expr) (t : TGs) : Prop :=
 ∀ (pins : List (Addr × Obj)) (s : Shared) (σ : St) (H : Hp) (vs : List V) (us : List Value) (Q : St → Hp → Prop), Inv X pins σ H s → Vals vs us → t vs σ H Q →
  wpAny (model X.prog X.w) X.A (assignInOrder ((assignEach ts X.env).map (·.2)) us) (fun _ s' => SPn X pins Q s') X.xe s
abbrev TSet := V → V → V → Hp → (Hp → Prop) → Prop
def PSet (X : Cx) (t : TSet) : Prop :=
 ∀ (pins : List (Addr × Obj)) (s : Shared) (σ : St) (H : Hp) (o i v : V) (ov iv u : Value) (Q : Hp → Prop), Inv X pins σ H s → RelV o ov → RelV i iv → RelV v u → t o i v H Q →
  wpAny (model X.prog X.w) X.A (setItem ov iv u) (fun _ s' => ∃ H', Inv X pins σ H' s' ∧ Q H') X.xe s
abbrev TIp := V → V → Hp → VK → Prop
def PIp (X : Cx) (op : Operator) (t : TIp) : Prop :=
 ∀ (pins : List (Addr × Obj)) (s : Shared) (σ : St) (H : Hp) (x y : V) (v u : Value) (Q : VK), Inv X pins σ H s → RelV x v → RelV y u → t x y H Q →
  wpAny (model X.prog X.w) X.A (inplaceOp op v u) (EP X pins σ Q) X.xe s
section
variable {X : Cx} {pos : Pos}
def gName (i : Nat) : TG := fun v σ H Q => Q (σ.set i (some v)) H
theorem pg_name {i : Nat} {x : Str} (hN : X.N.Nodup) (hi : X.N[i]? = some x) (hx : Loc X.env.scope x) (hf : autoParam (X.fn x = true ∨ X.env.scope.names.lookup x = some .local) au1._auto_1) : PG X (.Name x pos) (gName i) := by
 intro pins s σ H v u Q I r h
 exact wpAny_assign_Name (store_ok I hN hi hx r (fun s' I' => ⟨_, H, I', h⟩) hf)
def gNil : TGs := fun vs σ H Q => vs = [] ∧ Q σ H
def gCons (t : TG) (u : TGs) : TGs := fun vs σ H Q => ∃ v r, vs = v :: r ∧ t v σ H fun σ' H' => u r σ' H' Q
theorem pgs_nil : PGs X [] gNil := by
 intro pins s σ H vs us Q I r h
 obtain ⟨e, h⟩ := h
 subst e
 cases r
 exact assignInOrder_nil ⟨σ, H, I, h⟩
theorem pgs_cons {e : Expr} {es : List Expr} {t : TG} {u : TGs} (h1 : PG X e t) (h2 : PGs X es u)
  (hs : autoParam ((assignEach (e :: es) X.env).map (·.2) = assign e X.env :: (assignEach es X.env).map (·.2)) au5._auto_1) : PGs X (e :: es) (gCons t u) := by
 intro pins s σ H vs us Q I r h
 obtain ⟨v, vr, e1, h⟩ := h
 subst e1
 cases r with
 | cons r rr =>
  rw [hs]
  refine assignInOrder_cons (thn (h1 pins s σ H _ _ _ I r h) fun _ s1 zz19 => ?_)
  obtain ⟨σ1, H1, I1, q1⟩ := zz19
  exact h2 pins s1 σ1 H1 _ _ Q I1 rr q1
def gTup (K : PySem.W.Frag) (n : Nat) (t : TGs) : TG := fun v σ H Q => ∃ a xs, v = .ref a ∧ SqT K H a xs ∧ xs.length = n ∧ t xs σ H Q
theorem pg_tup {es : List Expr} {k : Nat} {t : TGs} {n : Nat} (hc : X.calm = true) (h : PGs X es t)
  (hn : autoParam ((assignEach es X.env).length = n) au5._auto_1) (hst : autoParam ((assignEach es X.env).findIdx? (·.1) = none) au5._auto_1) : PG X (.Tuple es k pos) (gTup X.K n t) := by
 intro pins s σ H v u Q I r hw
 obtain ⟨a, xs, e1, hq, hl, hw⟩ := hw
 subst e1
 cases r
 obtain ⟨its, rv, ht, hz⟩ := I.tuple hq
 refine assign_Tuple_tuple (I.ok.hd hc) ht (by simp [hn, ← hl, rv.length]) hst fun h' hx => ?_
 have I1 : Inv X pins σ H { s with heap := h' } := I.kept (t' := s.toks) fun b o e => hx b o (Nat.ne_of_lt (Heap.lt_size e)) e
 exact h pins _ σ H xs _ Q I1 (by simpa using rv) hw
def gSub (to ti : TE) (t : TSet) : TG := fun v σ H Q => to σ H fun o H1 => ti σ H1 fun i H2 => t o i v H2 fun H3 => Q σ H3
theorem pg_sub {o i : Expr} {to ti : TE} {t : TSet} (ho : PE X o to) (hi : PE X i ti) (hs : PSet X t)
  (ha : autoParam (∀ v, assign (.Subscript o i pos) X.env v = (do
   let ov ← holding [v] (eval o X.env)
   let iv ← holding [v, ov] (eval i X.env)
   standAt pos
   holding [v, ov, iv] (setItem ov iv v)
   release [v, ov, iv] [])) au4._auto_1) : PG X (.Subscript o i pos) (gSub to ti t) := by
 intro pins s σ H v u Q I r h
 rw [ha]
 refine wpAny_bind (wpAny_holding (thn (ho pins s σ H _ I h) fun ov s1 zz20 => ?_))
 obtain ⟨x, H1, I1, r1, q1⟩ := zz20
 refine wpAny_bind (wpAny_holding (thn (hi pins s1 σ H1 _ I1 q1) fun iv s2 zz21 => ?_))
 obtain ⟨y, H2, I2, r2, q2⟩ := zz21
 refine wpAny_bind (wpAny_standAt (wpAny_bind (wpAny_holding (thn (hs pins s2 σ H2 x y v ov iv u _ I2 r1 r2 r q2) fun _ s3 zz22 => ?_))))
 obtain ⟨H3, I3, q3⟩ := zz22
 exact wpAny_release ⟨σ, H3, I3, q3⟩
def tAsg (te : TE) (g : TG) : TS := fun D σ H => te σ H fun x H1 => g x σ H1 D.nx
theorem ps_asg {tg e : Expr} {te : TE} {g : TG} (he : PE X e te) (hg : PG X tg g) (hs : autoParam (swapsWithSole [tg] e pos.line X.env = pure false) au5._auto_1) (hw : autoParam (swappedStores [tg] e X.env = pure none) au5._auto_1)
  (h1 : autoParam ((assignEach [tg] X.env).map (·.2) = [assign tg X.env]) au5._auto_1) : PS X (.Assign [tg] e pos) (tAsg te g) := by
 intro pins s σ H D I h
 refine wpAny_Assign_stores (thn (he pins s σ H _ I h) fun v s1 zz23 => ?_) hs hw
 obtain ⟨x, H1, I1, r1, q1⟩ := zz23
 rw [h1]
 exact thn (hg pins s1 σ H1 x v _ I1 r1 q1) fun _ s2 q => q
theorem ps_set {i : Nat} {x : Str} {e : Expr} {te : TE} {pos' : Pos} (hN : X.N.Nodup) (hi : X.N[i]? = some x) (hx : Loc X.env.scope x) (he : PE X e te) (hs : autoParam (swapsWith e (some (.Name x pos')) pos.line X.env = pure false) au5._auto_1) (hf : autoParam (X.fn x = true ∨ X.env.scope.names.lookup x = some .local) au1._auto_1) :
  PS X (.Assign [.Name x pos'] e pos) (tAsg te (gName i)) := by
 intro pins s σ H D I h
 refine wpAny_Assign_Name (thn (he pins s σ H _ I h) fun v s1 zz24 => ?_) hs
 obtain ⟨y, H1, I1, r1, q1⟩ := zz24
 exact store_ok I1 hN hi hx r1 (fun s2 I2 => ⟨_, H1, I2, q1⟩) hf
def tAug (i : Nat) (te : TE) (ti : TIp) : TS := fun D σ H => ∃ x, σ[i]? = some (some x) ∧ te σ H fun y H1 => ti x y H1 fun z H2 => D.nx (σ.set i (some z)) H2
theorem ps_aug {i : Nat} {x : Str} {e : Expr} {te : TE} {op : Operator} {ti : TIp} {pos' : Pos} (hN : X.N.Nodup) (hi : X.N[i]? = some x) (hx : Loc X.env.scope x) (he : PE X e te) (ho : PIp X op ti) (hf : autoParam (X.fn x = true ∨ X.env.scope.names.lookup x = some .local) au1._auto_1) :
  PS X (.AugAssign (.Name x pos') op e pos) (tAug i te ti) := by
 intro pins s σ H D I h
 obtain ⟨v, e1, h⟩ := h
 obtain ⟨m, hn, hl⟩ := I.loc
 have vis : Vis X.env.scope x := by rcases hx with k | k; exact .inl k; exact .inr (.inl k)
 obtain ⟨u, r, l⟩ := hl i x v hi e1 vis
 refine wpAny_AugAssign_Name ?_
 have go : wpAny (model X.prog X.w) X.A (eval e X.env) (fun w s₂ => wpAny (model X.prog X.w) X.A (inplaceOp op u w) (fun r s₃ => wpAny (model X.prog X.w) X.A (storeName X.env x r) (fun _ => SP X pins D .next) X.xe s₃) X.xe s₂) X.xe s := by
  refine thn (he pins s σ H _ I h) fun w s1 zz26 => ?_
  obtain ⟨y, H1, I1, r1, q1⟩ := zz26
  refine thn (ho pins s1 σ H1 v y u w _ I1 r r1 q1) fun z s2 zz27 => ?_
  obtain ⟨zv, H2, I2, r2, q2⟩ := zz27
  exact store_ok I2 hN hi hx r2 (fun s3 I3 => ⟨_, H2, I3, q2⟩) hf
 rcases l with ⟨hk, hm⟩ | ⟨hk, c, hc, hcell⟩
 · exact wpAny_loadName_local I.ok.kind hk hn hm go
 · rcases hk with hk | hk
   · exact wpAny_loadName_cell I.ok.kind hk hc hcell go
   · rcases hx with k | k
     · have : X.env.scope.names.lookup x = some .free := hk
       rw [k] at this; cases this
     · have : X.env.scope.names.lookup x = some .free := hk
       rw [k] at this; cases this
end
section
variable {X : Cx} {pos : Pos}
def tWhile (c : TT) (tb : TS) : TS := fun D σ H => ∃ W : Nat → St → Hp → Prop, (∃ m, W m σ H) ∧ ∀ m σ H, W m σ H →
 c σ H fun b H1 => if b = true then ∃ N : St → Hp → Prop, (∀ σ' H', N σ' H' → ∃ m', m' < m ∧ W m' σ' H') ∧ tb { D with nx := N, ct := N, bk := D.nx } σ H1 else D.nx σ H1
theorem ps_while {c : Expr} {body : List Stmt} {tc : TT} {tb : TS} (hp : PassesOwn (model X.prog X.w) X.A X.env X.xe) (hc : PT X c tc) (hb : PSs X body tb) : PS X (.While c body [] pos) (tWhile tc tb) := by
 intro pins s σ H D I h
 obtain ⟨W, ⟨m0, w0⟩, turn⟩ := h
 refine wpAny_While (codeAny_whileLoop (fun n s' => ∃ σ' H', Inv X pins σ' H' s' ∧ W n σ' H') ?_ m0 ⟨σ, H, I, w0⟩)
 rintro n s1 ⟨σ1, H1, I1, w1⟩
 refine wpAny_passesOwn hp (thn (hc pins s1 σ1 H1 _ I1 (turn n σ1 H1 w1)) fun b s2 zz34 => ?_)
 obtain ⟨H2, I2, q2⟩ := zz34
 cases b with
 | true =>
  obtain ⟨N, hN, q2⟩ := q2
  rw [if_pos rfl]
  refine wpAny_passesOwn hp (thn (hb pins s2 σ1 H2 _ I2 q2) fun f s3 q3 => ?_)
  cases f with
  | next =>
   obtain ⟨σ3, H3, I3, n3⟩ := q3
   obtain ⟨m', hm, w3⟩ := hN σ3 H3 n3
   exact ⟨m', hm, σ3, H3, I3, w3⟩
  | cont =>
   obtain ⟨σ3, H3, I3, n3⟩ := q3
   obtain ⟨m', hm, w3⟩ := hN σ3 H3 n3
   exact ⟨m', hm, σ3, H3, I3, w3⟩
  | brk => exact q3
  | ret v => exact q3
 | false =>
  rw [if_neg Bool.false_ne_true]
  exact wpAny_execs_nil ⟨σ1, H2, I2, q2⟩
end
structure It where
 go : Nat → Hp → Prop
 yld : Nat → Hp → V → Hp → Prop
 stop : Nat → Hp → Prop
def FpOk (X : Cx) (pins : List (Addr × Obj)) (H : Hp) (b : Addr) : Prop :=
 H b = none ∧ b ≠ X.env.locals ∧ b ∉ X.fs ∧ (b ∈ X.ex ∨ X.s₀.heap.objs.size ≤ b) ∧ (∀ x c, X.env.cells.lookup x = some c → c ≠ b) ∧ ∀ p ∈ X.pn ++ pins, p.1 ≠ b
theorem Inv.fpOk {X : Cx} {pins : List (Addr × Obj)} {σ : St} {H H' : Hp} {s : Shared} {b : Addr} (I : Inv X pins σ H s) (hb : s.heap.objs.size ≤ b) (hn : H' b = none) : FpOk X pins H' b := by
 refine ⟨hn, Nat.ne_of_gt (Nat.lt_of_lt_of_le I.lt hb), I.nofs hb, .inr (Nat.le_trans I.sz hb), fun x c e z => ?_, fun p hp z => ?_⟩
 · obtain ⟨v, q⟩ := I.cell x c e
   exact absurd (Nat.lt_of_lt_of_le q.lt (by rw [z]; exact hb)) (Nat.lt_irrefl _)
 · exact absurd (Nat.lt_of_lt_of_le (Heap.lt_size (I.pin p hp).1) (by rw [z]; exact hb)) (Nat.lt_irrefl _)
structure Turn (P : Program) (w : World) (K : PySem.W.Frag) (tg : Expr) (J : It) (fp : List Addr) (it : Addr) (tn : Nat → Heap → Prop) : Prop where
 mem : it ∈ fp
 obj : ∀ i h, tn i h → ∀ b ∈ fp, ∃ o, h.get? b = some o ∧ ∀ v, o.data ≠ .cell v
 keep : ∀ i h h', tn i h → (∀ b ∈ fp, ∀ o, h.get? b = some o → h'.get? b = some o) → tn i h'
 item : ∀ (X : Cx), X.prog = P → X.w = w → X.K = K → X.calm = true → ∀ (i : Nat) (pins : List (Addr × Obj)) (s : Shared) (σ : St) (H : Hp) (E : Value → Shared → Prop), Inv X pins σ H s → (∀ b ∈ fp, FpOk X pins H b) → tn i s.heap → J.go i H →
  wpAny (model P w) X.A (pyNext (.ref it)) (fun r s1 => ∃ u, r = some u ∧
   wpAny (model P w) X.A (letOwnedTupleGo tg (.ref it) u) (fun _ s2 => ∃ x H', Inv X pins σ H' s2 ∧ RelV x u ∧ J.yld i H x H' ∧ tn (i + 1) s2.heap ∧ ∀ b ∈ fp, H' b = none) E s1) E s
 done : ∀ (X : Cx), X.prog = P → X.w = w → X.K = K → X.calm = true → ∀ (i : Nat) (pins : List (Addr × Obj)) (s : Shared) (σ : St) (H : Hp) (E : Value → Shared → Prop), Inv X pins σ H s → (∀ b ∈ fp, FpOk X pins H b) → tn i s.heap → J.stop i H →
  wpAny (model P w) X.A (pyNext (.ref it)) (fun r s1 => r = none ∧ Inv X pins σ H s1) E s
 self : ∀ (A : Around) (i : Nat) (s : Shared) (Q : Value → Shared → Prop) (E : Value → Shared → Prop), tn i s.heap → Q (.ref it) s → wpAny (model P w) A (pyIter (.ref it)) Q E s
abbrev TI := St → Hp → (It → Hp → Prop) → Prop
def PIE (X : Cx) (pins : List (Addr × Obj)) (σ : St) (tg : Expr) (R : It → Hp → Prop) (itv : Value) (s2 : Shared) : Prop :=
 ∃ (it : Addr) (fp : List Addr) (tn : Nat → Heap → Prop) (J : It) (H' : Hp), itv = .ref it ∧ Inv X pins σ H' s2 ∧ Turn X.prog X.w X.K tg J fp it tn ∧ tn 0 s2.heap ∧ (∀ b ∈ fp, FpOk X pins H' b) ∧ R J H'
def PI (X : Cx) (tg iter : Expr) (wi : TI) : Prop :=
 ∀ (pins : List (Addr × Obj)) (s : Shared) (σ : St) (H : Hp) (R : It → Hp → Prop), Inv X pins σ H s → wi σ H R →
  wpAny (model X.prog X.w) X.A (eval iter X.env) (fun v s1 => wpAny (model X.prog X.w) X.A (pyIter v) (PIE X pins σ tg R) X.xe s1) X.xe s
theorem go_of {M : Model} {A : Around} {E : Value → Shared → Prop} {s : Shared} {tg : Expr} {it : Addr} {u : Value} {o : Obj} {n : String} {vs : Array Value} {Q : Unit → Shared → Prop} (ho : s.heap.get? it = some o) (hc : o.cls = .type n) (hd : o.data = .fields vs)
  (hn : ["enumerate", "zip", "dict_itemiterator", "dict_reverseitemiterator", "odict_iterator", "itertools.zip_longest", "itertools.pairwise"].contains n = false) (hQ : Q () s) : wpAny M A (letOwnedTupleGo tg (.ref it) u) Q E s := by
 unfold letOwnedTupleGo
 cases tg <;> first
  | exact wpAny_pure hQ
  | (cases u <;> first
    | exact wpAny_pure hQ
    | (refine wpAny_bind (wpAny_load ho ?_)
       rw [hc, hd]
       show wpAny M A (if (["enumerate", "zip", "dict_itemiterator", "dict_reverseitemiterator", "odict_iterator", "itertools.zip_longest", "itertools.pairwise"].contains n && vs[0]? == some (rawInt _)) = true then _ else _) Q E s
       rw [if_neg (by intro h; rw [hn, Bool.false_and] at h; cases h)]
       exact wpAny_pure hQ))
noncomputable def Itl (K : PySem.W.Frag) (a : Addr) : It :=
 ⟨fun i H => ∃ xs x, SqL K H a xs ∧ xs[i]? = some x, fun i H x H' => H' = H ∧ ∀ xs, SqL K H a xs → xs[i]? = some x, fun i H => ∃ xs, SqL K H a xs ∧ xs.length ≤ i⟩
noncomputable def Itt (K : PySem.W.Frag) (a : Addr) : It :=
 ⟨fun i H => ∃ xs x, SqT K H a xs ∧ xs[i]? = some x, fun i H x H' => H' = H ∧ ∀ xs, SqT K H a xs → xs[i]? = some x, fun i H => ∃ xs, SqT K H a xs ∧ xs.length ≤ i⟩
noncomputable def Itr (lo : Int) (n : Nat) : It := ⟨fun i _ => i < n, fun i H x H' => H' = H ∧ x = .int (lo + i), fun i _ => n ≤ i⟩
theorem turn_list {P : Program} {w : World} {K : PySem.W.Frag} {tg : Expr} (a it : Addr) : Turn P w K tg (Itl K a) [it] it (fun i h => h.IsListIter it a i) where
 mem := by simp
 obj := fun i h st b hb => by
  have e : b = it := by simpa using hb
  subst e
  obtain ⟨o, e, c, d⟩ := st
  exact ⟨o, e, fun v z => by rw [d] at z; cases z⟩
 keep := fun i h h' st k => st.at fun o e => k it (by simp) o e
 item := by
  intro X hP hw hK hc i pins s σ H E I hf st hg
  subst hP hw hK
  obtain ⟨xs, x, hq, hx⟩ := hg
  obtain ⟨its, rv, p, hz⟩ := I.list hq
  obtain ⟨u, hu, ru⟩ := rv.get hx
  obtain ⟨f0, f1, f2, f3, f4, f5⟩ := hf it (by simp)
  refine wpAny_pyNext_list_item st p.isList (x := u) (by simpa using hu) fun h' st' sb => ?_
  have I1 : Inv X pins σ H { s with heap := h' } := I.turned (t' := s.toks) (fun b o hb e => (sb.2 b hb).trans e) f0 f1 f3 f4 f5
  obtain ⟨o, e, c, d⟩ := id st'
  exact ⟨u, rfl, go_of (s := { s with heap := h' }) e c d (by decide) ⟨x, H, I1, ru, ⟨rfl, fun ys hy => by rw [I.list_inj hy hq]; exact hx⟩, st', fun b hb => (hf b hb).1⟩⟩
 done := by
  intro X hP hw hK hc i pins s σ H E I hf st hg
  subst hP hw hK
  obtain ⟨xs, hq, hx⟩ := hg
  obtain ⟨its, rv, p, hz⟩ := I.list hq
  obtain ⟨f0, f1, f2, f3, f4, f5⟩ := hf it (by simp)
  have hl := rv.length
  exact wpAny_pyNext_list_end (I.ok.hd hc) st p.isList (by simp; lia) fun h' eb => ⟨rfl, I.turned (t' := s.toks) (fun b o hb e => eb b o hb e) f0 f1 f3 f4 f5⟩
 self := fun _ _ _ _ _ st h => wpAny_pyIter_listiter st h
theorem turn_tuple {P : Program} {w : World} {K : PySem.W.Frag} {tg : Expr} (a it : Addr) : Turn P w K tg (Itt K a) [it] it (fun i h => h.IsTupleIter it a i) where
 mem := by simp
 obj := fun i h st b hb => by
  have e : b = it := by simpa using hb
  subst e
  obtain ⟨o, e, c, d⟩ := st
  exact ⟨o, e, fun v z => by rw [d] at z; cases z⟩
 keep := fun i h h' st k => st.at fun o e => k it (by simp) o e
 item := by
  intro X hP hw hK hc i pins s σ H E I hf st hg
  subst hP hw hK
  obtain ⟨xs, x, hq, hx⟩ := hg
  obtain ⟨its, rv, p, hz⟩ := I.tuple hq
  obtain ⟨u, hu, ru⟩ := rv.get hx
  obtain ⟨f0, f1, f2, f3, f4, f5⟩ := hf it (by simp)
  refine wpAny_pyNext_tuple_item st (show s.heap.IsTuple a its.toArray from p) (x := u) (by simpa using hu) fun h' st' sb => ?_
  have I1 : Inv X pins σ H { s with heap := h' } := I.turned (t' := s.toks) (fun b o hb e => (sb.2 b hb).trans e) f0 f1 f3 f4 f5
  obtain ⟨o, e, c, d⟩ := id st'
  exact ⟨u, rfl, go_of (s := { s with heap := h' }) e c d (by decide) ⟨x, H, I1, ru, ⟨rfl, fun ys hy => by rw [I.tuple_inj hy hq]; exact hx⟩, st', fun b hb => (hf b hb).1⟩⟩
 done := by
  intro X hP hw hK hc i pins s σ H E I hf st hg
  subst hP hw hK
  obtain ⟨xs, hq, hx⟩ := hg
  obtain ⟨its, rv, p, hz⟩ := I.tuple hq
  obtain ⟨f0, f1, f2, f3, f4, f5⟩ := hf it (by simp)
  have hl := rv.length
  exact wpAny_pyNext_tuple_end (I.ok.hd hc) st (show s.heap.IsTuple a its.toArray from p) (by simp; lia) fun h' eb => ⟨rfl, I.turned (t' := s.toks) (fun b o hb e => eb b o hb e) f0 f1 f3 f4 f5⟩
 self := fun _ _ _ _ _ st h => wpAny_pyIter_tupleiter st h
theorem turn_range {P : Program} {w : World} {K : PySem.W.Frag} {tg : Expr} (it : Addr) (lo : Int) (n : Nat) : Turn P w K tg (Itr lo n) [it] it (fun i h => IsRangeIter h it (lo + (i : Nat) * 1) ((n : Int) - (i : Nat)) 1) where
 mem := by simp
 obj := fun i h st b hb => by
  have e : b = it := by simpa using hb
  subst e
  exact ⟨_, st, fun v z => by
   have z' : Data.fields _ = Data.cell v := z
   cases z'⟩
 keep := fun i h h' st k => k it (by simp) _ st
 item := by
  intro X hP hw hK hc i pins s σ H E I hf st hg
  subst hP hw hK
  obtain ⟨f0, f1, f2, f3, f4, f5⟩ := hf it (by simp)
  have W := Walks.range (prog := X.prog) (w := X.w) (I.ok.hd hc) it lo 1 n
  refine W.item i s _ _ hg st fun v h' tk hv st' kk => ?_
  obtain ⟨t, rfl⟩ := hv
  have I1 : Inv X pins σ H { s with heap := h', toks := tk } := I.turned (fun b o hb e => kk b o (by simpa using hb) e) f0 f1 f3 f4 f5
  refine ⟨_, rfl, go_of (s := { s with heap := h', toks := tk }) (n := "range_iterator") st' rfl rfl (by decide) ⟨.int (lo + i), H, I1, ⟨t, ?_⟩, ⟨rfl, rfl⟩, st', fun b hb => (hf b hb).1⟩⟩
  rw [Int.mul_one]
 done := by
  intro X hP hw hK hc i pins s σ H E I hf st hg
  subst hP hw hK
  obtain ⟨f0, f1, f2, f3, f4, f5⟩ := hf it (by simp)
  exact wpAny_pyNext_range_end (I.ok.hd hc) st (by have : n ≤ i := hg; lia) fun h' eb => ⟨rfl, I.turned (t' := s.toks) (fun b o hb e => eb b o hb e) f0 f1 f3 f4 f5⟩
 self := fun _ _ _ _ _ st h => wpAny_pyIter_rangeiter st h
end L2
namespace L2
open PySem PySem.Spec PyProof.Rows
section
variable {X : Cx} {tg : Expr}
def iList (K : PySem.W.Frag) (tl : TE) : TI := fun σ H R => tl σ H fun x H1 => ∃ a, x = .ref a ∧ (∃ xs, SqL K H1 a xs) ∧ R (Itl K a) H1
def iTup (K : PySem.W.Frag) (tl : TE) : TI := fun σ H R => tl σ H fun x H1 => ∃ a, x = .ref a ∧ (∃ xs, SqT K H1 a xs) ∧ R (Itt K a) H1
theorem pi_list {l : Expr} {tl : TE} (hl : PE X l tl) : PI X tg l (iList X.K tl) := by
 intro pins s σ H R I h
 refine thn (hl pins s σ H _ I h) fun v s1 zz35 => ?_
 obtain ⟨x, H1, I1, r1, q1⟩ := zz35
 obtain ⟨a, e, ⟨xs, hq⟩, q⟩ := q1
 subst e
 cases r1
 obtain ⟨its, rv, p, hz⟩ := I1.list hq
 refine wpAny_pyIter_list p.isList ?_
 refine ⟨s1.heap.objs.size, [s1.heap.objs.size], _, _, H1, rfl, I1.kept (t' := s1.toks) fun b o e => Heap.get?_push_of_some _ e, turn_list a _, ⟨_, Heap.get?_push_size _ rfl, rfl, rfl⟩, fun b hb => ?_, q⟩
 have e : b = s1.heap.objs.size := by simpa using hb
 subst e
 exact I1.fpOk (Nat.le_refl _) (I1.hok.fresh (Nat.le_refl _))
theorem pi_tup {l : Expr} {tl : TE} (hl : PE X l tl) : PI X tg l (iTup X.K tl) := by
 intro pins s σ H R I h
 refine thn (hl pins s σ H _ I h) fun v s1 zz36 => ?_
 obtain ⟨x, H1, I1, r1, q1⟩ := zz36
 obtain ⟨a, e, ⟨xs, hq⟩, q⟩ := q1
 subst e
 cases r1
 obtain ⟨its, rv, p, hz⟩ := I1.tuple hq
 refine wpAny_pyIter_tuple (show s1.heap.IsTuple a its.toArray from p) ?_
 refine ⟨s1.heap.objs.size, [s1.heap.objs.size], _, _, H1, rfl, I1.kept (t' := s1.toks) fun b o e => Heap.get?_push_of_some _ e, turn_tuple a _, ⟨_, Heap.get?_push_size _ rfl, rfl, rfl⟩, fun b hb => ?_, q⟩
 have e : b = s1.heap.objs.size := by simpa using hb
 subst e
 exact I1.fpOk (Nat.le_refl _) (I1.hok.fresh (Nat.le_refl _))
theorem range_it {pins : List (Addr × Obj)} {σ : St} {H : Hp} {s : Shared} {R : It → Hp → Prop} {E : Value → Shared → Prop} {lo hi : Int} {t u v : Tok} {tk : Nat} (I : Inv X pins σ H s) (h1 : -(2 ^ 62) ≤ lo) (h2 : lo < 2 ^ 62) (h3 : -(2 ^ 62) ≤ hi) (h4 : hi < 2 ^ 62)
  (q : R (Itr lo (hi - lo).toNat) H) : wpAny (model X.prog X.w) X.A (pyIter (.ref s.heap.objs.size)) (PIE X pins σ tg R) E { s with heap := s.heap.push { cls := .type "range", data := .fields #[.int lo t, .int hi u, .int 1 v] }, toks := tk } := by
 refine wpAny_pyIter_range (IsRange.new ..) (small_one h1 h2 h3 h4) ?_
 have I1 : Inv X pins σ H { s with heap := s.heap.push { cls := .type "range", data := .fields #[.int lo t, .int hi u, .int 1 v] }, toks := tk } := I.kept fun b o e => Heap.get?_push_of_some _ e
 refine ⟨(s.heap.push { cls := .type "range", data := .fields #[.int lo t, .int hi u, .int 1 v] }).objs.size, [(s.heap.push { cls := .type "range", data := .fields #[.int lo t, .int hi u, .int 1 v] }).objs.size], _, _, H, rfl,
  I1.kept (t' := tk) fun b o e => Heap.get?_push_of_some _ e, turn_range _ lo (hi - lo).toNat, ?_, fun b hb => ?_, q⟩
 · have e1 : lo + ((0 : Nat) : Int) * 1 = lo := by simp
   have e2 : (((hi - lo).toNat : Nat) : Int) - ((0 : Nat) : Int) = Builtin.Range.rangeSize lo hi 1 := by rw [rangeSize_one]; split <;> lia
   show IsRangeIter _ _ (lo + ((0 : Nat) : Int) * 1) ((((hi - lo).toNat : Nat) : Int) - ((0 : Nat) : Int)) 1
   rw [e1, e2]
   exact Heap.get?_push_size _ rfl
 · have e : b = (s.heap.push { cls := .type "range", data := .fields #[.int lo t, .int hi u, .int 1 v] }).objs.size := by simpa using hb
   subst e
   exact I1.fpOk (Nat.le_refl _) (I1.hok.fresh (Nat.le_refl _))
def iRng1 (ta : TA) : TI := fun σ H R => ta σ H fun vs H1 => ∃ j : Int, vs = [.int j] ∧ -(2 ^ 62) ≤ j ∧ j < 2 ^ 62 ∧ R (Itr 0 j.toNat) H1
def iRng2 (ta : TA) : TI := fun σ H R => ta σ H fun vs H1 => ∃ i j : Int, vs = [.int i, .int j] ∧ (-(2 ^ 62) ≤ i ∧ i < 2 ^ 62 ∧ -(2 ^ 62) ≤ j ∧ j < 2 ^ 62) ∧ R (Itr i (j - i).toNat) H1
theorem pi_range1 {a : Expr} {ta : TA} {p pos : Pos} (hg : Gl X "range") (hm : X.mg "range" = none) (ha : PA X [a] ta) (hs : autoParam (starEach [a] X.env = [(false, eval a X.env)]) au5._auto_1) : PI X tg (.Call (.Name "range" p) [a] [] pos) (iRng1 ta) := by
 intro pins s σ H R I h
 refine Call_ (ld_blt I hg hm boot_range (PyProof.Rows.callWith_type1 (thn (ha pos pins s σ H _ I h) fun us s1 zz37 => ?_) hs rfl))
 obtain ⟨vs, H1, I1, r1, q1⟩ := zz37
 obtain ⟨j, e, q1, q2, q⟩ := q1
 subst e
 cases r1 with
 | cons r rr =>
  cases rr
  obtain ⟨t, rfl⟩ := r
  exact call_range_1 (range_it I1 (by lia) (by lia) q1 q2 (by simpa using q))
theorem pi_range2 {a b : Expr} {ta : TA} {p pos : Pos} (hg : Gl X "range") (hm : X.mg "range" = none) (ha : PA X [a, b] ta) (hs : autoParam (starEach [a, b] X.env = [(false, eval a X.env), (false, eval b X.env)]) au5._auto_1) (hs2 : autoParam (starEach [b] X.env = [(false, eval b X.env)]) au5._auto_1) :
  PI X tg (.Call (.Name "range" p) [a, b] [] pos) (iRng2 ta) := by
 intro pins s σ H R I h
 refine Call_ (ld_blt I hg hm boot_range (PyProof.Rows.callWith_type1 (thn (ha pos pins s σ H _ I h) fun us s1 zz38 => ?_) (by rw [hs, hs2]) (by rw [hs2]; rfl)))
 obtain ⟨vs, H1, I1, r1, q1⟩ := zz38
 obtain ⟨i, j, e, ⟨q1, q2, q3, q4⟩, q⟩ := q1
 subst e
 cases r1 with
 | cons r rr =>
  cases rr with
  | cons r' rr =>
   cases rr
   obtain ⟨t, rfl⟩ := r
   obtain ⟨t', rfl⟩ := r'
   exact call_range_2 (range_it I1 q1 q2 q3 q4 q)
def tFor (wi : TI) (g : TG) (tb : TS) : TS := fun D σ H => wi σ H fun J H1 => ∃ W : Nat → Nat → St → Hp → Prop, (∃ m, W 0 m σ H1) ∧ ∀ i m σ H, W i m σ H →
 (J.stop i H ∧ D.nx σ H) ∨ (J.go i H ∧ ∃ N : St → Hp → Prop, (∀ σ' H', N σ' H' → ∃ m', m' < m ∧ W (i + 1) m' σ' H') ∧ ∀ x H', J.yld i H x H' → g x σ H' fun σ2 H2 => tb { D with nx := N, ct := N, bk := D.nx } σ2 H2)
noncomputable def pinsAt (fp : List Addr) (h : Heap) : List (Addr × Obj) := fp.filterMap fun b => (h.get? b).map fun o => (b, o)
theorem mem_pinsAt {fp : List Addr} {h : Heap} {b : Addr} {o : Obj} (hb : b ∈ fp) (e : h.get? b = some o) : (b, o) ∈ pinsAt fp h := List.mem_filterMap.mpr ⟨b, hb, by rw [e]; rfl⟩
theorem of_pinsAt {fp : List Addr} {h : Heap} {p : Addr × Obj} (hp : p ∈ pinsAt fp h) : p.1 ∈ fp ∧ h.get? p.1 = some p.2 := by
 obtain ⟨b, hb, e⟩ := List.mem_filterMap.mp hp
 cases q : h.get? b with
 | none => rw [q] at e; cases e
 | some o =>
  rw [q] at e
  have e' : (b, o) = p := Option.some.inj e
  subst e'
  exact ⟨hb, q⟩
theorem Inv.pinned {pins : List (Addr × Obj)} {σ : St} {H : Hp} {s : Shared} {fp : List Addr} (I : Inv X pins σ H s) (hf : ∀ b ∈ fp, FpOk X pins H b) (ho : ∀ b ∈ fp, ∃ o, s.heap.get? b = some o ∧ ∀ v, o.data ≠ .cell v) : Inv X (pins ++ pinsAt fp s.heap) σ H s :=
 I.pins_of fun p hp => (List.mem_append.mp hp).elim (fun z => I.pin p (List.mem_append_right _ z)) fun z => by
  obtain ⟨hb, e⟩ := of_pinsAt z
  obtain ⟨f0, f1, f2, _⟩ := hf p.1 hb
  obtain ⟨o, e', d⟩ := ho p.1 hb
  rw [e] at e'; cases e'
  exact ⟨e, f0, f1, f2, d⟩
theorem Inv.unpinned {pins pl : List (Addr × Obj)} {σ : St} {H : Hp} {s : Shared} (I : Inv X (pins ++ pl) σ H s) : Inv X pins σ H s := I.pins_of fun p hp => I.pin p (List.mem_append_right _ (List.mem_append_left _ hp))
theorem ps_for {iter : Expr} {body : List Stmt} {wi : TI} {g : TG} {tb : TS} {pos : Pos} (hp : PassesOwn (model X.prog X.w) X.A X.env X.xe) (hc : X.calm = true) (hi : PI X tg iter wi) (hg : PG X tg g) (hb : PSs X body tb)
  (hs : autoParam (∀ x, foldedSetIterable iter X.env x = pure x) au4._auto_1) : PS X (.For tg iter body [] pos) (tFor wi g tb) := by
 intro pins s σ H D I h
 refine wpAny_For (thn (hi pins s σ H _ I h) fun v s1 h1 => thn h1 fun itv s2 h2 => ?_) hs
 obtain ⟨it, fp, tn, J, H2, e, I2, T, st2, f2, W, ⟨m0, w0⟩, turn⟩ := h2
 subst e
 have stat : ∀ {H' : Hp}, (∀ b ∈ fp, H' b = none) → ∀ b ∈ fp, FpOk X pins H' b := fun hn b hb => ⟨hn b hb, (f2 b hb).2⟩
 refine codeAny_forLoop_any (fun n s' => ∃ i σ' H', Inv X pins σ' H' s' ∧ tn i s'.heap ∧ (∀ b ∈ fp, H' b = none) ∧ W i n σ' H') ?_ m0 ⟨0, σ, H2, I2, st2, fun b hb => (f2 b hb).1, w0⟩
 rintro n s3 ⟨i, σ3, H3, I3, st3, fr3, w3⟩
 rcases turn i n σ3 H3 w3 with ⟨stop, qn⟩ | ⟨go, N, hN, step⟩
 · refine wpAny_passesOwn hp (thn (T.done X rfl rfl rfl hc i pins s3 σ3 H3 X.xe I3 (stat fr3) st3 stop) fun r s4 zz39 => ?_)
   obtain ⟨hr, I4⟩ := zz39
   subst hr
   exact wpAny_execs_nil ⟨σ3, H3, I4, qn⟩
 · refine wpAny_passesOwn hp (thn (T.item X rfl rfl rfl hc i pins s3 σ3 H3 X.xe I3 (stat fr3) st3 go) fun r s4 zz40 => ?_)
   obtain ⟨u, hr, h4⟩ := zz40
   subst hr
   refine wpAny_passesOwn hp (thn h4 fun _ s5 zz41 => ?_)
   obtain ⟨x, H5, I5, r5, y5, st5, fr5⟩ := zz41
   have I5' := I5.pinned (stat fr5) (T.obj _ _ st5)
   refine wpAny_passesOwn hp (thn (hg _ s5 σ3 H5 x u _ I5' r5 (step x H5 y5)) fun _ s6 zz42 => ?_)
   obtain ⟨σ6, H6, I6, q6⟩ := zz42
   refine wpAny_passesOwn hp (thn (hb _ s6 σ6 H6 _ I6 q6) fun f s7 q7 => ?_)
   have again : ∀ {σ7 : St} {H7 : Hp}, Inv X (pins ++ pinsAt fp s5.heap) σ7 H7 s7 → N σ7 H7 → ∃ m, m < n ∧ ∃ i σ' H', Inv X pins σ' H' s7 ∧ tn i s7.heap ∧ (∀ b ∈ fp, H' b = none) ∧ W i m σ' H' := fun {σ7 H7} I7 n7 => by
    obtain ⟨m', hm, w7⟩ := hN σ7 H7 n7
    refine ⟨m', hm, i + 1, σ7, H7, I7.unpinned, T.keep _ _ _ st5 fun b hb o e => (I7.pin (b, o) (List.mem_append_right _ (List.mem_append_right _ (mem_pinsAt hb e)))).1, fun b hb => ?_, w7⟩
    obtain ⟨o, e, d⟩ := T.obj _ _ st5 b hb
    exact (I7.pin (b, o) (List.mem_append_right _ (List.mem_append_right _ (mem_pinsAt hb e)))).2.1
   cases f with
   | next => obtain ⟨σ7, H7, I7, n7⟩ := q7; exact again I7 n7
   | cont => obtain ⟨σ7, H7, I7, n7⟩ := q7; exact again I7 n7
   | brk => obtain ⟨σ7, H7, I7, q7⟩ := q7; exact ⟨σ7, H7, I7.unpinned, q7⟩
   | ret v => obtain ⟨x7, σ7, H7, I7, r7, q7⟩ := q7; exact ⟨x7, σ7, H7, I7.unpinned, r7, q7⟩
end
end L2
namespace L2
open PySem PySem.Spec PyProof.Rows
abbrev R2 := V → V → Hp → VK → Prop
def OpR (X : Cx) (f : Value → Value → Sem Value) (r : R2) : Prop :=
 ∀ (pins : List (Addr × Obj)) (s : Shared) (σ : St) (H : Hp) (x y : V) (v u : Value) (Q : VK), Inv X pins σ H s → RelV x v → RelV y u → r x y H Q →
  wpAny (model X.prog X.w) X.A (f v u) (EP X pins σ Q) X.xe s
def UnR (X : Cx) (f : Value → Sem Value) (r : V → Hp → VK → Prop) : Prop :=
 ∀ (pins : List (Addr × Obj)) (s : Shared) (σ : St) (H : Hp) (x : V) (v : Value) (Q : VK), Inv X pins σ H s → RelV x v → r x H Q →
  wpAny (model X.prog X.w) X.A (f v) (EP X pins σ Q) X.xe s
def CallR (X : Cx) (f : Value) (r : List V → Hp → VK → Prop) : Prop :=
 ∀ (pins : List (Addr × Obj)) (s : Shared) (σ : St) (H : Hp) (xs : List V) (us : List Value) (Q : VK), Inv X pins σ H s → Vals xs us → r xs H Q →
  wpAny (model X.prog X.w) X.A (call f us) (EP X pins σ Q) X.xe s
def TruR (X : Cx) (r : V → Hp → (Bool → Hp → Prop) → Prop) : Prop :=
 ∀ (pins : List (Addr × Obj)) (s : Shared) (σ : St) (H : Hp) (x : V) (v : Value) (Q : Bool → Hp → Prop), Inv X pins σ H s → RelV x v → r x H Q →
  wpAny (model X.prog X.w) X.A (truthy v) (TP X pins σ Q) X.xe s
def tOp (r : R2) (ta tb : TE) : TE := fun σ H Q => ta σ H fun x H1 => tb σ H1 fun y H2 => r x y H2 Q
def tUn (r : V → Hp → VK → Prop) (ta : TE) : TE := fun σ H Q => ta σ H fun x H1 => r x H1 Q
def rI (C : Int → Int → Prop) (g : Int → Int → V) : R2 := fun x y H Q => ∃ i j, x = .int i ∧ y = .int j ∧ C i j ∧ Q (g i j) H
def rI0 (g : Int → Int → V) : R2 := fun x y H Q => ∃ i j, x = .int i ∧ y = .int j ∧ Q (g i j) H
def rU (g : Int → V) : V → Hp → VK → Prop := fun x H Q => ∃ i, x = .int i ∧ Q (g i) H
section
variable {X : Cx} {a b c : Expr} {ta tb tc : TE} {pos : Pos}
theorem binT (ha : PE X a ta) (hb : PE X b tb) {pins : List (Addr × Obj)} {s : Shared} {σ : St} {H : Hp} {R : V → V → Hp → Prop} (I : Inv X pins σ H s)
  (h : ta σ H fun x H1 => tb σ H1 fun y H2 => R x y H2) {Q : Value → Shared → Prop} {f : Value → Value → Sem Value}
  (hf : ∀ v u s2 x y H2, Inv X pins σ H2 s2 → RelV x v → RelV y u → R x y H2 → wpAny (model X.prog X.w) X.A (f v u) Q X.xe s2) :
  wpAny (model X.prog X.w) X.A (eval a X.env) (fun v s₁ => wpAny (model X.prog X.w) X.A (eval b X.env) (fun u s₂ => wpAny (model X.prog X.w) X.A (f v u) Q X.xe s₂) X.xe s₁) X.xe s := by
 refine thn (ha pins s σ H _ I h) fun v s1 zz44 => ?_
 obtain ⟨x, H1, I1, r1, q1⟩ := zz44
 refine thn (hb pins s1 σ H1 _ I1 q1) fun u s2 zz45 => ?_
 obtain ⟨y, H2, I2, r2, q2⟩ := zz45
 exact hf v u s2 x y H2 I2 r1 r2 q2
theorem pe_op {op : Operator} {r : R2} (ho : OpR X (binaryOp op) r) (ha : PE X a ta) (hb : PE X b tb) : PE X (.BinOp a op b pos) (tOp r ta tb) := by
 intro pins s σ H Q I h
 exact wpAny_BinOp (binT ha hb I h fun v u s2 x y H2 I2 rx ry q => ho pins s2 σ H2 x y v u Q I2 rx ry q)
theorem pe_un {op : UnaryOp} {r : V → Hp → VK → Prop} (ho : UnR X (unaryOp op) r) (ha : PE X a ta) : PE X (.UnaryOp op a pos) (tUn r ta) := by
 intro pins s σ H Q I h
 exact UnaryOp_ (thn (ha pins s σ H _ I h) fun v s1 zz46 => (by obtain ⟨x, H1, I1, r1, q1⟩ := zz46; exact (ho pins s1 σ H1 x v Q I1 r1 q1)))
theorem opI {f : Value → Value → Sem Value} {C : Int → Int → Prop} {g : Int → Int → Int}
  (rule : ∀ (i j : Int) (t u : Tok) (s : Shared) (Q : Value → Shared → Prop) (E : Value → Shared → Prop), C i j → Q (.int (g i j) s.toks) { s with toks := s.toks + 1 } → wpAny (model X.prog X.w) X.A (f (.int i t) (.int j u)) Q E s) :
  OpR X f (rI C fun i j => .int (g i j)) := by
 intro pins s σ H x y v u Q I rx ry h
 obtain ⟨i, j, rfl, rfl, hc, q⟩ := h
 obtain ⟨t, rfl⟩ := rx
 obtain ⟨t', rfl⟩ := ry
 exact rule i j t t' s _ _ hc ⟨.int (g i j), H, I.tok _, ⟨_, rfl⟩, q⟩
theorem opI0 {f : Value → Value → Sem Value} {g : Int → Int → Int}
  (rule : ∀ (i j : Int) (t u : Tok) (s : Shared) (Q : Value → Shared → Prop) (E : Value → Shared → Prop), Q (.int (g i j) s.toks) { s with toks := s.toks + 1 } → wpAny (model X.prog X.w) X.A (f (.int i t) (.int j u)) Q E s) :
  OpR X f (rI0 fun i j => .int (g i j)) := by
 intro pins s σ H x y v u Q I rx ry h
 obtain ⟨i, j, rfl, rfl, q⟩ := h
 obtain ⟨t, rfl⟩ := rx
 obtain ⟨t', rfl⟩ := ry
 exact rule i j t t' s _ _ ⟨.int (g i j), H, I.tok _, ⟨_, rfl⟩, q⟩
theorem opB0 {f : Value → Value → Sem Value} {g : Int → Int → Bool}
  (rule : ∀ (i j : Int) (t u : Tok) (s : Shared) (Q : Value → Shared → Prop) (E : Value → Shared → Prop), Q (.bool (g i j)) s → wpAny (model X.prog X.w) X.A (f (.int i t) (.int j u)) Q E s) :
  OpR X f (rI0 fun i j => .bl (g i j)) := by
 intro pins s σ H x y v u Q I rx ry h
 obtain ⟨i, j, rfl, rfl, q⟩ := h
 obtain ⟨t, rfl⟩ := rx
 obtain ⟨t', rfl⟩ := ry
 exact rule i j t t' s _ _ ⟨.bl (g i j), H, I, rfl, q⟩
def CDiv (i j : Int) : Prop := 0 < j ∧ j < 1073741824
def CPow (i j : Int) : Prop := 0 ≤ j ∧ j ≤ 1000000 ∧ i.natAbs < 2 ^ 64
def CMul (i j : Int) : Prop := (-(2 ^ 64) < i ∧ i < 2 ^ 64) ∨ (-(2 ^ 64) < j ∧ j < 2 ^ 64)
theorem CMul.ok {i j : Int} (h : CMul i j) : IntMulOk i j := by
 rcases h with ⟨h1, h2⟩ | ⟨h1, h2⟩
 · exact .of_left (intBits_le_64 h1 h2)
 · exact .of_right (intBits_le_64 h1 h2)
theorem op_add : OpR X (binaryOp .Add) (rI0 fun i j => .int (i + j)) := opI0 fun _ _ _ _ _ _ _ q => add_int q
theorem op_sub : OpR X (binaryOp .Sub) (rI0 fun i j => .int (i - j)) := opI0 fun _ _ _ _ _ _ _ q => sub_int q
theorem op_mul : OpR X (binaryOp .Mult) (rI CMul fun i j => .int (i * j)) := opI fun _ _ _ _ _ _ _ hc q => mul_int q hc.ok
theorem op_fdiv : OpR X (binaryOp .FloorDiv) (rI CDiv fun i j => .int (i / j)) := opI fun i j _ _ _ _ _ hc q => by
 have h1 : (0 : Int) < j := hc.1
 have h2 : j < 1073741824 := hc.2
 exact floordiv_int (by lia) (by rw [Int.fdiv_eq_ediv_of_nonneg i (by lia)]; exact q) (.inl (PyProof.noPylong_small (by lia)))
theorem op_mod : OpR X (binaryOp .Mod) (rI (fun _ j => 0 < j) fun i j => .int (i % j)) := opI fun i j _ _ _ _ _ hc q => by
 have h1 : (0 : Int) < j := hc
 exact mod_int' (by lia) (by rw [Int.fmod_eq_emod_of_nonneg i (by lia)]; exact q)
theorem op_pow : OpR X (binaryOp .Pow) (rI CPow fun i j => .int (i ^ j.toNat)) := opI fun _ _ _ _ _ _ _ hc q => pow_int_small hc.1 hc.2.1 hc.2.2 q
theorem unI {f : Value → Sem Value} {g : Int → Int}
  (rule : ∀ (i : Int) (t : Tok) (s : Shared) (Q : Value → Shared → Prop) (E : Value → Shared → Prop), Q (.int (g i) s.toks) { s with toks := s.toks + 1 } → wpAny (model X.prog X.w) X.A (f (.int i t)) Q E s) :
  UnR X f (rU fun i => .int (g i)) := by
 intro pins s σ H x v Q I rx h
 obtain ⟨i, rfl, q⟩ := h
 obtain ⟨t, rfl⟩ := rx
 exact rule i t s _ _ ⟨.int (g i), H, I.tok _, ⟨_, rfl⟩, q⟩
theorem un_neg : UnR X (unaryOp .USub) (rU fun i => .int (-i)) := unI fun _ _ _ _ _ q => neg_int q
end
noncomputable def scal : V → V → Bool
 | .non, .non => true | .non, .int _ => true | .int _, .non => true | .non, .bl _ => true | .bl _, .non => true | .non, .str _ => true | .str _, .non => true
 | .int _, .int _ => true | .bl _, .bl _ => true | .str _, .str _ => true | .byt _, .byt _ => true
 | .int _, .str _ => true | .str _, .int _ => true | .bl _, .str _ => true | .str _, .bl _ => true
 | _, _ => false
def rEq : R2 := fun x y H Q => scal x y = true ∧ Q (.bl (decide (x = y))) H
def rNe : R2 := fun x y H Q => scal x y = true ∧ Q (.bl (!decide (x = y))) H
theorem dec_int {i j : Int} : decide (V.int i = V.int j) = (i == j) := by
 rw [Bool.eq_iff_iff]
 simp
theorem dec_bl {i j : Bool} : decide (V.bl i = V.bl j) = (i == j) := by
 rw [Bool.eq_iff_iff]
 simp
theorem dec_str {i j : Str} : decide (V.str i = V.str j) = (i == j) := by
 rw [Bool.eq_iff_iff]
 simp
theorem dec_byt {i j : Array UInt8} : decide (V.byt i = V.byt j) = (i.toList == j.toList) := by
 rw [Bool.eq_iff_iff]
 cases i
 cases j
 simp
section
variable {X : Cx} {a b c : Expr} {ta tb tc : TE} {pos : Pos}
theorem fin_bl {pins : List (Addr × Obj)} {σ : St} {H : Hp} {s : Shared} {Q : VK} {k k' : Bool} (I : Inv X pins σ H s) (q : Q (.bl k) H) (e : k = k') : EP X pins σ Q (.bool k') s := by
 subst e
 exact ⟨.bl k, H, I, rfl, q⟩
theorem op_eq : OpR X (compareOp .Eq) rEq := by
 intro pins s σ H x y v u Q I rx ry h
 obtain ⟨hs, q⟩ := h
 cases x with
 | non =>
  cases rx
  cases y with
  | non => cases ry; exact PySem.EqNone.eq_none_none (fin_bl I q rfl)
  | bl j => cases ry; exact PySem.EqNone.eq_none_bool (fin_bl I q rfl)
  | int j => obtain ⟨t', rfl⟩ := ry; exact PySem.EqNone.eq_none_int (fin_bl I q rfl)
  | str j => obtain ⟨t', rfl⟩ := ry; exact PySem.EqNone.eq_none_str (fin_bl I q rfl)
  | _ => exact absurd (show false = true from hs) Bool.false_ne_true
 | bl i =>
  cases rx
  cases y with
  | non => cases ry; exact PySem.EqNone.eq_bool_none (fin_bl I q rfl)
  | bl j => cases ry; exact eq_bool (fin_bl I q dec_bl)
  | str j => obtain ⟨t', rfl⟩ := ry; exact PySem.EqMixed.eq_bool_str (fin_bl I q rfl)
  | _ => exact absurd (show false = true from hs) Bool.false_ne_true
 | int i =>
  obtain ⟨t, rfl⟩ := rx
  cases y with
  | non => cases ry; exact PySem.EqNone.eq_int_none (fin_bl I q rfl)
  | int j => obtain ⟨t', rfl⟩ := ry; exact eq_int (fin_bl I q dec_int)
  | str j => obtain ⟨t', rfl⟩ := ry; exact PySem.EqMixed.eq_int_str (fin_bl I q rfl)
  | _ => exact absurd (show false = true from hs) Bool.false_ne_true
 | str i =>
  obtain ⟨t, rfl⟩ := rx
  cases y with
  | non => cases ry; exact PySem.EqNone.eq_str_none (fin_bl I q rfl)
  | bl j => cases ry; exact PySem.EqMixed.eq_str_bool (fin_bl I q rfl)
  | int j => obtain ⟨t', rfl⟩ := ry; exact PySem.EqMixed.eq_str_int (fin_bl I q rfl)
  | str j => obtain ⟨t', rfl⟩ := ry; exact eq_str (fin_bl I q dec_str)
  | _ => exact absurd (show false = true from hs) Bool.false_ne_true
 | byt i =>
  obtain ⟨t, rfl⟩ := rx
  cases y with
  | byt j => obtain ⟨t', rfl⟩ := ry; exact PySem.W.eq_bytes (fin_bl I q dec_byt)
  | _ => exact absurd (show false = true from hs) Bool.false_ne_true
 | _ => exact absurd (show false = true from hs) Bool.false_ne_true
theorem op_ne : OpR X (compareOp .NotEq) rNe := by
 intro pins s σ H x y v u Q I rx ry h
 obtain ⟨hs, q⟩ := h
 cases x with
 | non =>
  cases rx
  cases y with
  | non => cases ry; exact PySem.EqNone.ne_none_none (fin_bl I q rfl)
  | bl j => cases ry; exact PySem.EqNone.ne_none_bool (fin_bl I q rfl)
  | int j => obtain ⟨t', rfl⟩ := ry; exact PySem.EqNone.ne_none_int (fin_bl I q rfl)
  | str j => obtain ⟨t', rfl⟩ := ry; exact PySem.EqNone.ne_none_str (fin_bl I q rfl)
  | _ => exact absurd (show false = true from hs) Bool.false_ne_true
 | bl i =>
  cases rx
  cases y with
  | non => cases ry; exact PySem.EqNone.ne_bool_none (fin_bl I q rfl)
  | bl j => cases ry; exact ne_bool (fin_bl I q (congrArg not dec_bl))
  | str j => obtain ⟨t', rfl⟩ := ry; exact PySem.EqMixed.ne_bool_str (fin_bl I q rfl)
  | _ => exact absurd (show false = true from hs) Bool.false_ne_true
 | int i =>
  obtain ⟨t, rfl⟩ := rx
  cases y with
  | non => cases ry; exact PySem.EqNone.ne_int_none (fin_bl I q rfl)
  | int j => obtain ⟨t', rfl⟩ := ry; exact ne_int (fin_bl I q (congrArg not dec_int))
  | str j => obtain ⟨t', rfl⟩ := ry; exact PySem.EqMixed.ne_int_str (fin_bl I q rfl)
  | _ => exact absurd (show false = true from hs) Bool.false_ne_true
 | str i =>
  obtain ⟨t, rfl⟩ := rx
  cases y with
  | non => cases ry; exact PySem.EqNone.ne_str_none (fin_bl I q rfl)
  | bl j => cases ry; exact PySem.EqMixed.ne_str_bool (fin_bl I q rfl)
  | int j => obtain ⟨t', rfl⟩ := ry; exact PySem.EqMixed.ne_str_int (fin_bl I q rfl)
  | str j => obtain ⟨t', rfl⟩ := ry; exact ne_str (fin_bl I q (congrArg not dec_str))
  | _ => exact absurd (show false = true from hs) Bool.false_ne_true
 | byt i =>
  obtain ⟨t, rfl⟩ := rx
  cases y with
  | byt j => obtain ⟨t', rfl⟩ := ry; exact PySem.W.ne_bytes (fin_bl I q (congrArg not dec_byt))
  | _ => exact absurd (show false = true from hs) Bool.false_ne_true
 | _ => exact absurd (show false = true from hs) Bool.false_ne_true
theorem op_lt : OpR X (compareOp .Lt) (rI0 fun i j => .bl (decide (i < j))) := opB0 fun _ _ _ _ _ _ _ q => lt_int q
theorem op_le : OpR X (compareOp .LtE) (rI0 fun i j => .bl (decide (i ≤ j))) := opB0 fun _ _ _ _ _ _ _ q => le_int q
theorem op_gt : OpR X (compareOp .Gt) (rI0 fun i j => .bl (decide (j < i))) := opB0 fun _ _ _ _ _ _ _ q => gt_int q
theorem op_ge : OpR X (compareOp .GtE) (rI0 fun i j => .bl (decide (j ≤ i))) := opB0 fun _ _ _ _ _ _ _ q => ge_int q
theorem nomark (b : Expr) {op : CmpOp} (h : autoParam (op ≠ .In) au2._auto_1) (h2 : autoParam (op ≠ .NotIn) au2._auto_1) : behindInMarks op b = false := by
 have e1 : (op == CmpOp.In) = false := by cases op <;> first | rfl | exact absurd rfl h
 have e2 : (op == CmpOp.NotIn) = false := by cases op <;> first | rfl | exact absurd rfl h2
 cases b <;> simp [behindInMarks, e1, e2]
theorem pe_cmpR {op : CmpOp} {r : R2} (ho : OpR X (compareOp op) r) (ha : PE X a ta) (hb : PE X b tb) (hm : behindInMarks op b = false) : PE X (.Compare a [op] [b] pos) (tOp r ta tb) := by
 intro pins s σ H Q I h
 exact wpAny_Compare1 (binT ha hb I h fun v u s2 x y H2 I2 rx ry q => ho pins s2 σ H2 x y v u Q I2 rx ry q) hm
def tTest (t : TE) : TT := fun σ H Q => t σ H fun x H' => ∃ k, x = .bl k ∧ Q k H'
theorem pt_cmpR {op : CmpOp} {r : R2} (ho : OpR X (compareOp op) r) (ha : PE X a ta) (hb : PE X b tb) (hm : behindInMarks op b = false) : PT X (.Compare a [op] [b] pos) (tTest (tOp r ta tb)) := by
 intro pins s σ H Q I h
 refine wpAny_isTrue_Compare1 (thn (ha pins s σ H _ I h) fun v s1 ⟨x, H1, I1, r1, q1⟩ => thn (hb pins s1 σ H1 _ I1 q1) fun u s2 ⟨y, H2, I2, r2, q2⟩ =>
  thn (ho pins s2 σ H2 x y v u _ I2 r1 r2 q2) fun c s3 ⟨z, H3, I3, r3, k, e, q3⟩ => ?_) hm
 subst e
 cases r3
 exact wpAny_truthy_bool ⟨H3, I3, q3⟩
def tChain (r r' : R2) (ta tb tc : TE) : TE := fun σ H Q => ta σ H fun x H1 => tb σ H1 fun y H2 => r x y H2 fun z H3 => ∃ k, z = .bl k ∧
 (if k = true then tc σ H3 fun w' H4 => r' y w' H4 Q else Q (.bl false) H3)
theorem pt_chain {op op' : CmpOp} {r r' : R2} (ho : OpR X (compareOp op) r) (ho' : OpR X (compareOp op') r') (ha : PE X a ta) (hb : PE X b tb) (hc : PE X c tc)
  (hm : autoParam (lastMarks [op, op'] [b, c] = false) au6._auto_1) : PT X (.Compare a [op, op'] [b, c] pos) (tTest (tChain r r' ta tb tc)) := by
 intro pins s σ H Q I h
 refine isTrue_chain (thn (ha pins s σ H _ I h) fun v s1 ⟨x, H1, I1, r1, q1⟩ => test_link (thn (hb pins s1 σ H1 _ I1 q1) fun u s2 ⟨y, H2, I2, r2, q2⟩ =>
  thn (ho pins s2 σ H2 x y v u _ I2 r1 r2 q2) fun d s3 ⟨z, H3, I3, r3, k, e, q3⟩ => ?_)) hm
 subst e
 cases r3
 refine wpAny_truthy_bool ?_
 cases k with
 | false =>
  obtain ⟨k', e', q'⟩ := q3
  cases e'
  exact ite_ff ⟨H3, I3, q'⟩
 | true =>
  refine ite_tt (test_last (thn (hc pins s3 σ H3 _ I3 q3) fun w' s4 ⟨z', H4, I4, r4, q4⟩ => thn (ho' pins s4 σ H4 y z' u w' _ I4 r2 r4 q4) fun d' s5 zz58 => ?_))
  obtain ⟨z2, H5, I5, r5, k2, e2, q5⟩ := zz58
  subst e2
  cases r5
  exact wpAny_truthy_bool ⟨H5, I5, q5⟩
def TruV (K : PySem.W.Frag) (x : V) (H : Hp) (k : Bool) : Prop :=
 match x with
 | .non => k = false
 | .bl b => k = b
 | .int i => k = (i != 0)
 | .str y => y.length ≤ sizeLine ∧ k = ((y.length : Int) != 0)
 | .byt y => y.size ≤ sizeLine ∧ k = ((y.size : Int) != 0)
 | .ref p => (∃ xs, SqL K H p xs ∧ k = !xs.isEmpty) ∨ (∃ xs, SqT K H p xs ∧ k = !xs.isEmpty) ∨ ∃ kvs, H p = some (.dK kvs) ∧ k = !kvs.isEmpty
 | _ => False
theorem isEmpty_kv {κ : Type} {kvs : List (κ × V)} {vs : List (κ × Value)} (r : KV kvs vs) : (!vs.isEmpty) = !kvs.isEmpty := by
 cases r <;> rfl
theorem isEmpty_of {xs : List V} {its : List Value} (r : Vals xs its) : (!its.toArray.isEmpty) = !xs.isEmpty := by
 cases r <;> simp
theorem line63 : (sizeLine : Nat) < 2 ^ 63 := by rw [sizeLine_eq]; decide
theorem tru_ok : TruR X (fun x H Q => ∃ k, TruV X.K x H k ∧ Q k H) := by
 intro pins s σ H x v Q I rx h
 obtain ⟨k, e, q⟩ := h
 have hl := line63
 have hs : sizeLine = 16777216 := sizeLine_eq
 cases x with
 | non =>
  cases rx
  have e' : k = false := e
  subst e'
  exact truthy_none ⟨H, I, q⟩
 | bl b =>
  cases rx
  have e' : k = b := e
  subst e'
  exact wpAny_truthy_bool ⟨H, I, q⟩
 | int i =>
  obtain ⟨t, rfl⟩ := rx
  have e' : k = (i != 0) := e
  subst e'
  exact PySem.P.truthy_int ⟨H, I, q⟩
 | str y =>
  obtain ⟨t, rfl⟩ := rx
  obtain ⟨hy, e'⟩ : y.length ≤ sizeLine ∧ k = ((y.length : Int) != 0) := e
  subst e'
  exact PySem.P.truthy_str (by lia) ⟨H, I.tok _, q⟩
 | byt y =>
  obtain ⟨t, rfl⟩ := rx
  obtain ⟨hy, e'⟩ : y.size ≤ sizeLine ∧ k = ((y.size : Int) != 0) := e
  subst e'
  exact PySem.W.truthy_bytes (by lia) ⟨H, I.tok _, q⟩
 | ref p =>
  cases rx
  have e' : (∃ xs, SqL X.K H p xs ∧ k = !xs.isEmpty) ∨ (∃ xs, SqT X.K H p xs ∧ k = !xs.isEmpty) ∨ ∃ kvs, H p = some (.dK kvs) ∧ k = !kvs.isEmpty := e
  rcases e' with ⟨xs, hx, e'⟩ | ⟨xs, hx, e'⟩ | ⟨kvs, hx, e'⟩
  · subst e'
    obtain ⟨its, r, pl, hz⟩ := I.list hx
    have hlen := r.length
    exact wpAny_truthy_list pl.isList (by simp only [List.size_toArray]; lia) ⟨H, I.tok _, by rw [isEmpty_of r]; exact q⟩
  · subst e'
    obtain ⟨its, r, pl, hz⟩ := I.tuple hx
    have hlen := r.length
    exact truthy_tuple pl (by simp only [List.size_toArray]; lia) ⟨H, I.tok _, by rw [isEmpty_of r]; exact q⟩
  · subst e'
    obtain ⟨hz, hS, vs, r, m⟩ : kvs.length ≤ sizeLine ∧ (p == sysModules) = false ∧ ∃ vs, KV kvs vs ∧ s.heap.DictOf (mixKind X.prog X.w) p vs := I.hok p _ hx
    have hlen : kvs.length = vs.length := Paired.length r
    exact wpAny_truthy_dict hS m (by lia) ⟨H, I.tok _, by rw [isEmpty_kv r]; exact q⟩
 | _ => exact (show False from e).elim
theorem pt_truth (ha : PE X a ta) (he : ∀ whole, isTrue a X.env whole = (do let v ← whole; standAt a.pos; holding [v] (truthy v))) :
  PT X a (fun σ H Q => ta σ H fun x H' => ∃ k, TruV X.K x H' k ∧ Q k H') := by
 intro pins s σ H Q I h
 exact isTrue_plain (thn (ha pins s σ H _ I h) fun v s1 zz59 => (by obtain ⟨x, H1, I1, r1, q1⟩ := zz59; exact (tru_ok pins s1 σ H1 x v Q I1 r1 q1))) (he _)
theorem vals1 {x : V} {us : List Value} (r : Vals [x] us) : ∃ u, us = [u] ∧ RelV x u := by
 cases r with
 | cons r1 r2 => cases r2; exact ⟨_, rfl, r1⟩
theorem vals2 {x y : V} {us : List Value} (r : Vals [x, y] us) : ∃ u w', us = [u, w'] ∧ RelV x u ∧ RelV y w' := by
 cases r with
 | cons r1 r2 =>
  cases r2 with
  | cons r3 r4 => cases r4; exact ⟨_, _, rfl, r1, r3⟩
theorem call_max2 (hc : X.calm = true) : CallR X (.builtin "max") (fun xs H Q => ∃ i j, xs = [.int i, .int j] ∧ Q (.int (if j > i then j else i)) H) := by
 intro pins s σ H xs us Q I r h
 obtain ⟨i, j, rfl, q⟩ := h
 obtain ⟨u, w', rfl, ⟨t, rfl⟩, ⟨t', rfl⟩⟩ := vals2 r
 refine max_two_ints (I.ok.hd hc) fun h' tk k => ⟨_, H, I.kept k, ?_, q⟩
 by_cases hj : j > i
 · rw [if_pos hj, if_pos hj]; exact ⟨_, rfl⟩
 · rw [if_neg hj, if_neg hj]; exact ⟨_, rfl⟩
theorem call_min2 (hc : X.calm = true) : CallR X (.builtin "min") (fun xs H Q => ∃ i j, xs = [.int i, .int j] ∧ Q (.int (if j < i then j else i)) H) := by
 intro pins s σ H xs us Q I r h
 obtain ⟨i, j, rfl, q⟩ := h
 obtain ⟨u, w', rfl, ⟨t, rfl⟩, ⟨t', rfl⟩⟩ := vals2 r
 refine min_two_ints (I.ok.hd hc) fun h' tk k => ⟨_, H, I.kept k, ?_, q⟩
 by_cases hj : j < i
 · rw [if_pos hj, if_pos hj]; exact ⟨_, rfl⟩
 · rw [if_neg hj, if_neg hj]; exact ⟨_, rfl⟩
theorem call_int1 : CallR X (.type "int") (fun xs H Q => (∃ i, xs = [.int i] ∧ Q (.int i) H) ∨ ∃ k, xs = [.bl k] ∧ Q (.int (if k then 1 else 0)) H) := by
 intro pins s σ H xs us Q I r h
 rcases h with ⟨i, rfl, q⟩ | ⟨k, rfl, q⟩
 · obtain ⟨u, rfl, t, rfl⟩ := vals1 r
   exact call_int_int ⟨.int i, H, I, ⟨_, rfl⟩, q⟩
 · obtain ⟨u, rfl, r1⟩ := vals1 r
   cases r1
   exact call_int_bool ⟨.int (if k then 1 else 0), H, I.tok _, ⟨_, rfl⟩, q⟩
end
end L2
namespace L2
open PySem PySem.Spec PyProof.Rows
structure ObjM (h : Heap) (x dx C : Addr) (mA : Str → Option Value) : Prop where
 obj : h.get? x = some (PySem.W.instObj C dx)
 ns : h.Ns1 dx mA
 ne : dx ≠ x
theorem lookIn_ns {h : Heap} {dx : Addr} {mA : Str → Option Value} (n : h.Ns1 dx mA) : ∃ od, h.get? dx = some od ∧ ∀ name, PySem.W.lookIn name od = some (mA name) := by
 obtain ⟨o, es, ep, ho, hd, hk, _, hm⟩ := n
 refine ⟨o, ho, fun name => ?_⟩
 have e := hm name
 unfold nsFind findBy at e
 rw [← Array.find?_toList] at e
 unfold PySem.W.lookIn
 rw [hd]
 dsimp only
 split
 · rename_i y q
   rw [q] at e
   exact congrArg some e
 · rename_i q
   rw [q] at e
   have a : es.toList.any (·.refKey) = false := by
    rw [List.any_eq_false]
    intro y hy
    obtain ⟨z, t, hkey⟩ := hk y (Array.mem_toList_iff.mp hy)
    simp [DictEntry.refKey, hkey]
   have a' : ¬ es.toList.any (·.refKey) = true := by rw [a]; exact Bool.false_ne_true
   rw [if_neg a']
   exact congrArg some e
theorem ObjM.look {h : Heap} {x dx C : Addr} {mA : Str → Option Value} (I : ObjM h x dx C mA) : ∃ od, PySem.W.InstAt h x (PySem.W.instObj C dx) C (some od) ∧ ∀ name, PySem.W.lookIn name od = some (mA name) :=
 let ⟨od, ho, hl⟩ := lookIn_ns I.ns
 ⟨od, ⟨I.obj, rfl, rfl, ho⟩, hl⟩
theorem RelO.some_of {v : V} {o : Option Value} (r : RelO (some v) o) : ∃ u, o = some u ∧ RelV v u := by
 cases o with
 | none => exact (show False from r).elim
 | some u => exact ⟨u, rfl, r⟩
section
variable {P : Program} {w : World} {H H' : Hp} {h h' : Heap} {a C dx : Addr} {fs fs' : List (Str × V)}
theorem ins_get (hok : HOk P w H h) (e : H a = some (.ins C dx fs)) : ∃ mA, ObjM h a dx C mA ∧ (∀ f, RelO (fs.lookup f) (mA f)) ∧ PySem.Within mA (fs.map (·.1)) ∧ fs.length ≤ 1000 ∧ H dx = some (.own a) := by
 obtain ⟨d, z, ne, ob, mA, n, r, q⟩ := (show ObjOk P w H h a (.ins C dx fs) from hok a _ e)
 exact ⟨mA, ⟨ob, n, ne⟩, r, q, z, d⟩
end
structure Cls (K : PySem.W.Frag) (C : Addr) : Prop where
 pg : PySem.W.plainGet K C Str.empty = true
 hd : PySem.W.hasDictIn K C = true
 po : PySem.W.plainOver K C = true
 sa : PySem.W.findIn K (.ref C) "__setattr__" = some (some (.builtin "object.__setattr__"))
theorem Cls.get {K : PySem.W.Frag} {C : Addr} (c : Cls K C) (f : Str) : PySem.W.plainGet K C f = true := c.pg
section
variable {X : Cx} {pins : List (Addr × Obj)} {σ : St} {H : Hp} {s : Shared} {A : Around} {E : Value → Shared → Prop} {Q : Value → Shared → Prop} {c : Value} {b : Bool}
inductive TyOf (K : PySem.W.Frag) (H : Hp) : V → Value → Prop where
 | non : TyOf K H .non (.type "NoneType")
 | bl (x : Bool) : TyOf K H (.bl x) (.type "bool")
 | int (i : Int) : TyOf K H (.int i) (.type "int")
 | str (x : Str) : TyOf K H (.str x) (.type "str")
 | flt (x : UInt64) : TyOf K H (.flt x) (.type "float")
 | lst {a : Addr} {xs : List V} (e : H a = some (.lst xs)) : TyOf K H (.ref a) (.type "list")
 | frz {a : Addr} {o : Obj} {xs : List V} (e : H a = some (.frz o (.lst xs))) : TyOf K H (.ref a) (.type "list")
 | tup {a : Addr} {xs : List V} (e : H a = some (.tup xs)) : TyOf K H (.ref a) (.type "tuple")
 | dK {a : Addr} {kvs : List (Key × V)} (e : H a = some (.dK kvs)) : TyOf K H (.ref a) (.type "dict")
 | dT {a : Addr} {kvs : List (List Key × V)} (e : H a = some (.dT kvs)) : TyOf K H (.ref a) (.type "dict")
 | ins {a C dx : Addr} {fs : List (Str × V)} (e : H a = some (.ins C dx fs)) (cl : Cls K C) (ha : PySem.W.findIn K (.ref C) "__class__" = some (some (.builtin "object.__class__")))
   (hn : PySem.W.specialIn K (.builtin "object.__class__") "__get__" = some (some (.builtin "getset_descriptor.__get__"))) (htk : PySem.W.takesIn K (.builtin "object.__class__") = some true)
   (hm : PySem.W.mroIn K C (.type "object") = some true) : TyOf K H (.ref a) (.ref C)
theorem isinst_ok {x : V} {u t : Value} (I : Inv X pins σ H s) (rx : RelV x u) (ty : TyOf X.K H x t) (e : PySem.W.kitOne X.K t c = some b) (h : ∀ tk, Q (.bool b) { s with toks := tk }) :
  wpAny (model X.prog X.w) A (call (.builtin "isinstance") [u, c]) Q E s := by
 cases ty with
 | non => cases (show u = Value.none from rx); exact PySem.W.kia_one PySem.W.kitx_none I.kIn True.intro e (fun z => nomatch z) h
 | bl y => cases (show u = Value.bool y from rx); exact PySem.W.kia_one PySem.W.kitx_bool I.kIn True.intro e (fun z => nomatch z) h
 | int i => obtain ⟨t, q⟩ := (show ∃ t, u = Value.int i t from rx); cases q; exact PySem.W.kia_one PySem.W.kitx_int I.kIn True.intro e (fun z => nomatch z) h
 | str y => obtain ⟨t, q⟩ := (show ∃ t, u = Value.str y t from rx); cases q; exact PySem.W.kia_one PySem.W.kitx_str I.kIn True.intro e (fun z => nomatch z) h
 | flt y => obtain ⟨t, q⟩ := (show ∃ t, u = Value.float y t from rx); cases q; exact PySem.W.kia_one PySem.W.kitx_float I.kIn True.intro e (fun z => nomatch z) h
 | @lst a xs ea =>
  cases (show u = Value.ref a from rx)
  obtain ⟨_, _, n, _, h1⟩ := (show ObjOk X.prog X.w H s.heap a (.lst xs) from I.hok a _ ea)
  exact PySem.W.kia_one PySem.W.kitx_list I.kIn ⟨_, h1, rfl⟩ e (fun z => nomatch z) h
 | @frz a ob xs ea =>
  cases (show u = Value.ref a from rx)
  obtain ⟨_, _, _, n, _, h1⟩ := (show ObjOk X.prog X.w H s.heap a (.frz ob (.lst xs)) from I.hok a _ ea)
  exact PySem.W.kia_one PySem.W.kitx_list I.kIn ⟨_, h1, rfl⟩ e (fun z => nomatch z) h
 | @tup a xs ea =>
  cases (show u = Value.ref a from rx)
  obtain ⟨_, _, _, p⟩ := (show ObjOk X.prog X.w H s.heap a (.tup xs) from I.hok a _ ea)
  obtain ⟨o, h1, h2, _⟩ := p
  exact PySem.W.kia_one PySem.W.kitx_tuple I.kIn ⟨o, h1, h2⟩ e (fun z => nomatch z) h
 | @dK a kvs ea =>
  cases (show u = Value.ref a from rx)
  obtain ⟨_, _, vs, _, p⟩ := (show ObjOk X.prog X.w H s.heap a (.dK kvs) from I.hok a _ ea)
  obtain ⟨o, es, ep, h1, h2, _⟩ := p
  exact PySem.W.kia_one PySem.W.kitx_dict I.kIn ⟨o, h1, h2.1⟩ e (fun z => nomatch z) h
 | @dT a kvs ea =>
  cases (show u = Value.ref a from rx)
  obtain ⟨_, _, xs, _, o, es, ep, h1, h2, _⟩ := (show ObjOk X.prog X.w H s.heap a (.dT kvs) from I.hok a _ ea)
  exact PySem.W.kia_one PySem.W.kitx_dict I.kIn ⟨o, h1, h2.1⟩ e (fun z => nomatch z) h
 | @ins a C dx fs ea cl ha hn htk hm =>
  cases (show u = Value.ref a from rx)
  obtain ⟨mA, O, _⟩ := ins_get I.hok ea
  obtain ⟨od, J, _⟩ := O.look
  exact PySem.W.kia_one (PySem.W.kitx_own (cl.get _) cl.hd ha hn htk hm) I.kIn J e (fun z => nomatch z) h
end
end L2
namespace L2
open PySem PySem.Spec PyProof.Rows
structure Room (k : Nat) (A : Around) : Prop where
 hd : A.handled = none
 dp : A.depth + 3 * k + 5 < recursionLimit
 un : A.units + 16 * k + 200 < cLine
 gd : A.guards = some []
theorem Room.mono {j k : Nat} {A : Around} (r : Room k A) (h : j ≤ k) : Room j A := ⟨r.hd, by have := r.dp; lia, by have := r.un; lia, r.gd⟩
theorem Room.deeper {k : Nat} {A : Around} (r : Room (k + 1) A) (env : Env) : Room k (A.deeper env) :=
 ⟨r.hd, by have := r.dp; show A.depth + 1 + 3 * k + 5 < _; lia, by have := r.un; show A.units + 3 + 16 * k + 200 < _; lia, r.gd⟩
theorem Room.depth {k : Nat} {A : Around} (r : Room k A) : A.depth < recursionLimit := by have := r.dp; lia
theorem Room.units {k : Nat} {A : Around} (r : Room k A) : A.units + 64 < cLine := by have := r.un; lia
theorem Room.units0 {k : Nat} {A : Around} (r : Room k A) : A.units < cLine := by have := r.un; lia
def tNil : TA := fun _ H Q => Q [] H
def tCons (ta : TE) (tr : TA) : TA := fun σ H Q => ta σ H fun x H1 => tr σ H1 fun xs H2 => Q (x :: xs) H2
section
variable {X : Cx} {e : Expr} {es : List Expr} {te : TE} {t : TA} {pos : Pos}
theorem pa_nil : PA X [] tNil := fun _ _ _ _ H Q I h => Calls.spliced_nil ⟨[], H, I, .nil, h⟩
theorem pa_cons (ha : PE X e te) (hr : PA X es t) (hs : autoParam (starEach (e :: es) X.env = (false, eval e X.env) :: starEach es X.env) au5._auto_1) : PA X (e :: es) (tCons te t) := by
 intro pos pins s σ H Q I h
 rw [hs]
 show wpAny _ _ (spliced ((false, eval e X.env) :: backTo pos (starEach es X.env))) _ _ s
 refine Calls.spliced_cons (thn (ha pins s σ H _ I h) fun u s1 zz68 => ?_)
 obtain ⟨x, H1, I1, r1, q1⟩ := zz68
 exact thn (hr pos pins s1 σ H1 _ I1 q1) fun us s2 zz69 => (by obtain ⟨xs, H2, I2, r2, q2⟩ := zz69; exact (⟨x :: xs, H2, I2, .cons r1 r2, q2⟩))
def tTup (t : TA) : TE := fun σ H Q => t σ H fun xs H1 => xs.length ≤ sizeLine ∧ ∀ p, H1 p = none → Q (.ref p) (upd H1 p (.tup xs))
def tLst (t : TA) : TE := fun σ H Q => t σ H fun xs H1 => xs.length ≤ sizeLine ∧ ∀ p, H1 p = none → Q (.ref p) (upd H1 p (.lst xs))
theorem pe_tup {x1} (h : PA X es t) : PE X (.Tuple es x1 pos) (tTup t) := by
 intro pins s σ H Q I hq
 refine wpAny_Tuple_spliced (thn (h pos pins s σ H _ I hq) fun us s1 ⟨xs, H1, I1, r, z, q⟩ => ⟨by rw [← r.length]; exact z, ?_⟩)
 have hf : H1 s1.heap.objs.size = none := I1.hok.fresh (Nat.le_refl _)
 refine ⟨.ref s1.heap.objs.size, upd H1 s1.heap.objs.size (.tup xs), I1.laid (t' := s1.toks) (fun b u e => Heap.get?_push_of_some _ e) (Nat.le_refl _) ?_, rfl, q _ hf⟩
 exact ⟨z, us, r, ⟨_, Heap.get?_push_size _ rfl, rfl, rfl, _, rfl⟩⟩
theorem pe_lst (h : PA X es t) : PE X (.List es pos) (tLst t) := by
 intro pins s σ H Q I hq
 refine wpAny_List_spliced (thn (h pos pins s σ H _ I hq) fun us s1 ⟨xs, H1, I1, r, z, q⟩ => ⟨by rw [← r.length]; exact z, ?_⟩)
 have hf : H1 s1.heap.objs.size = none := I1.hok.fresh (Nat.le_refl _)
 refine ⟨.ref s1.heap.objs.size, upd H1 s1.heap.objs.size (.lst xs), I1.laid (t' := s1.toks) (fun b u e => Heap.get?_push_of_some _ e) (Nat.le_refl _) ?_, rfl, q _ hf⟩
 exact ⟨z, us, 0, r, Heap.get?_push_size _ rfl⟩
end
abbrev Sp := List V → Hp → VK → XK → Prop
abbrev CXT := List Env → Hp → Shared → XK → Value → Shared → Prop
structure Env0 (P : Program) (w : World) (K : PySem.W.Frag) (mg : Str → Option Value) (base : Heap) (A : Around) (outer : List Env) (s : Shared) (H : Hp) : Prop where
 frames : A.frames = some outer
 mod : Mod K mg base
 bs : ∀ b o, base.get? b = some o → s.heap.get? b = some o ∧ H b = none
 bsz : base.objs.size ≤ s.heap.objs.size
 funs : s.heap.FunFrames base outer
 frf : ∀ b ∈ frs outer, H b = none
 hok : HOk P w H s.heap
 bare : AllBare s.gens
def CE (outer : List Env) (P : Program) (w : World) (H : Hp) (s : Shared) (Q : VK) (u : Value) (s' : Shared) : Prop :=
 ∃ v H', s'.os = s.os ∧ AllBare s'.gens ∧ Un (frs outer) [] H H' s.heap s'.heap ∧ HOk P w H' s'.heap ∧ RelV v u ∧ Q v H'
def CR (CX : CXT) (outer : List Env) (P : Program) (w : World) (H : Hp) (s : Shared) (Q : VK) (E : XK) (r : Result) (s' : Shared) : Prop :=
 match r with
 | .ok (.ret u) => CE outer P w H s Q u s'
 | .ok _ => False
 | .error e => CX outer H s E e s'
structure FnOk (P : Program) (w : World) (K : PySem.W.Frag) (mg : Str → Option Value) (base : Heap) (CX : CXT) (k : Nat) (f : Addr) (fd : FuncData) (ps : List Str) (sp : Sp) : Prop where
 len : ∀ vs H Q E, sp vs H Q E → vs.length = ps.length
 run : ∀ (A : Around) (outer : List Env) (s : Shared) (H : Hp) (args : Args) (us : List Value) (vs : List V) (Q : VK) (E : XK), Room k A → Env0 P w K mg base A outer s H → BindsTo s fd args (ps.zip us) → Vals vs us → sp vs H Q E →
  codeAny (model P w) A (.call (.ref f) args) (CR CX outer P w H s Q E) s
theorem FnOk.imp {P : Program} {w : World} {K : PySem.W.Frag} {mg : Str → Option Value} {base : Heap} {CX : CXT} {k : Nat} {f : Addr} {fd : FuncData} {ps : List Str} {sp sp' : Sp} (F : FnOk P w K mg base CX k f fd ps sp)
  (h : ∀ vs H Q E, sp' vs H Q E → sp vs H Q E) : FnOk P w K mg base CX k f fd ps sp' :=
 ⟨fun vs H Q E q => F.len vs H Q E (h _ _ _ _ q), fun A outer s H args us vs Q E hr he hb hv hs => F.run A outer s H args us vs Q E hr he hb hv (h _ _ _ _ hs)⟩
section
variable {X : Cx} {pins : List (Addr × Obj)} {σ : St} {H : Hp} {s s' : Shared}
theorem Inv.env0 (I : Inv X pins σ H s) : Env0 X.prog X.w X.K X.mg X.base X.A X.stack s H :=
 ⟨I.ok.frames, I.ok.mod, I.bs, Nat.le_trans I.ok.bsz I.sz, I.stack, I.stkFree, I.hok, I.bare⟩
theorem Inv.after {Q : VK} {u : Value} (I : Inv X pins σ H s) (h : CE X.stack X.prog X.w H s Q u s') : EP X pins σ Q u s' := by
 obtain ⟨v, H', os, bare, un, hok, r, q⟩ := h
 obtain ⟨hh, g, d, t, os'⟩ := s'
 obtain rfl : os' = s.os := os
 exact ⟨v, H', I.call (h' := hh) (g' := g) (d' := d) (t' := t) (ch := []) un hok bare (fun b z => absurd z (by simp)), r, q⟩
end
def tCall (sp : Sp) (dvs : List V) (E : XK) (t : TA) : TE := fun σ H Q => t σ H fun vs H1 => sp (vs ++ dvs) H1 Q E
def Binds (K : PySem.W.Frag) (fd : FuncData) (ps : List Str) (ds : List Value) : Prop :=
 ∀ (s : Shared) (us : List Value), K.In s.heap → (us ++ ds).length = ps.length → BindsTo s fd ⟨us, []⟩ (ps.zip (us ++ ds))
theorem Binds.all {K : PySem.W.Frag} {fd : FuncData} {ps : List Str} (h : ∀ us : List Value, us.length = ps.length → bindArgs fd ⟨us, []⟩ = pure (ps.zip us)) : Binds K fd ps [] := fun s us _ hl => by
 rw [List.append_nil] at hl ⊢
 exact .of_eq (h us hl)
def Passes (CX : CXT) (X : Cx) (E : XK) : Prop := ∀ (pins : List (Addr × Obj)) (σ : St) (H : Hp) (s : Shared) (e : Value) (s' : Shared), Inv X pins σ H s → CX X.stack H s E e s' → X.xe e s'
section
variable {X : Cx} {CX : CXT} {k : Nat} {f C : Addr} {fd : FuncData} {ps : List Str} {sp : Sp} {dvs : List V} {ds : List Value} {E : XK} {x m : Str} {p pos apos : Pos} {e o : Expr} {es : List Expr} {ta : TE} {t : TA}
theorem run_fn {pins : List (Addr × Obj)} {σ : St} {H : Hp} {s : Shared} {Q : VK} {us : List Value} {vs : List V} (F : FnOk X.prog X.w X.K X.mg X.base CX k f fd ps sp) (hr : Room k X.A) (hb : Binds X.K fd ps ds) (hd : Vals dvs ds) (hx : Passes CX X E)
  (I : Inv X pins σ H s) (r : Vals vs us) (h : sp (vs ++ dvs) H Q E) : wpAny (model X.prog X.w) X.A (call (.ref f) us) (EP X pins σ Q) X.xe s := by
 have r2 : Vals (vs ++ dvs) (us ++ ds) := r.append hd
 have hl : (us ++ ds).length = ps.length := by rw [← r2.length]; exact F.len _ _ _ _ h
 refine wpAny_call (codeAny_mono (F.run X.A X.stack s H ⟨us, []⟩ (us ++ ds) (vs ++ dvs) Q E hr I.env0 (hb s us I.kIn hl) r2 h) fun r s' hq => ?_)
 cases r with
 | error e => exact hx pins σ H s e s' I hq
 | ok fl =>
  cases fl with
  | ret u => exact I.after hq
  | next => exact False.elim hq
  | brk => exact False.elim hq
  | cont => exact False.elim hq
theorem pe_call (F : FnOk X.prog X.w X.K X.mg X.base CX k f fd ps sp) (hr : Room k X.A) (hg : Gl X x) (hm : X.mg x = some (.ref f)) (hk : PySem.W.keepIn X.K (.ref f) = true) (hb : Binds X.K fd ps ds) (hd : Vals dvs ds) (hx : Passes CX X E)
  (ha : PA X (e :: es) t) (hdb : autoParam ((x == ("__debug__" : Str)) = false) au2._auto_1) (he : autoParam (starEach (e :: es) X.env = (false, eval e X.env) :: starEach es X.env) au5._auto_1) (hpl : autoParam ((backTo pos (starEach es X.env)).any (·.1) = false) au5._auto_1) :
  PE X (.Call (.Name x p) (e :: es) [] pos) (tCall sp dvs E t) := by
 intro pins s σ H Q I h
 refine wpAny_Call_Name_kw (ld_glob I hg hm ?_ hdb)
 refine PySem.W.callWith_K (h₀ := X.base) I.ok.mod.kin hk (thn (ha pos pins s σ H _ I h) fun us s1 ⟨vs, H1, I1, r, q⟩ => ⟨I1.kIn, ?_⟩) he hpl
 exact run_fn F hr hb hd hx I1 r q
end
def PK (X : Cx) (kws : List Keyword) (t : TA) : Prop :=
 ∀ (pos : Pos) (pins : List (Addr × Obj)) (s : Shared) (σ : St) (H : Hp) (Q : List V → Hp → Prop), Inv X pins σ H s → t σ H Q → wpAny (model X.prog X.w) X.A (evalAll ((backToKw pos (keywordEach kws X.env)).map (·.2))) (AP X pins σ Q) X.xe s
section
variable {X : Cx} {CX : CXT} {k : Nat} {f C : Addr} {fd : FuncData} {ps ks : List Str} {sp : Sp} {E : XK} {x m : Str} {p pos apos kpos : Pos} {e o : Expr} {es : List Expr} {kws : List Keyword} {te ta : TE} {t tk : TA} {nm : Option Str}
theorem pk_nil : PK X [] tNil := fun _ _ _ _ H Q I h => wpAny_evalAll_nil ⟨[], H, I, .nil, h⟩
theorem pk_cons (ha : PE X e te) (hr : PK X kws t) : PK X (⟨nm, e, kpos⟩ :: kws) (tCons te t) := by
 intro pos pins s σ H Q I h
 show wpAny _ _ (evalAll ((do let v ← eval e X.env; standAt pos; pure v) :: (backToKw pos (keywordEach kws X.env)).map (·.2))) _ _ s
 refine wpAny_evalAll_cons (wpAny_bind (thn (ha pins s σ H _ I h) fun u s1 ⟨x, H1, I1, r1, q1⟩ => wpAny_bind (wpAny_standAt (wpAny_pure ?_))))
 exact thn (hr pos pins s1 σ H1 _ I1 q1) fun us s2 zz78 => (by obtain ⟨xs, H2, I2, r2, q2⟩ := zz78; exact (⟨x :: xs, H2, I2, .cons r1 r2, q2⟩))
variable {g : List Value → List Value → List Value} {gV : List V → List V → List V}
end
structure FnScope (N P : List Str) (sc : Scope) : Prop where
 kind : sc.kind = .function
 co : sc.isCoroutine = false
 gen : sc.isGenerator = false
 nd : N.Nodup
 pre : N.take P.length = P
 par : ∀ x ∈ P, sc.names.lookup x = some .local ∨ sc.names.lookup x = some .cell
 nofree : ∀ y ∈ sc.names, y.2 ≠ .free
theorem bindL_out {kindOf : Str → Option NameKind} {x : Str} : ∀ {binds : List (Str × Value)} {m : Str → Option Value}, (∀ v, (x, v) ∉ binds) → bindL kindOf binds m x = m x
 | [], _, _ => rfl
 | (n, v) :: r, m, h => by
  unfold bindL
  rw [bindL_out fun w hw => h w (List.mem_cons_of_mem _ hw)]
  split
  · have : x ≠ n := by rintro rfl; exact h v List.mem_cons_self
    simp [this]
  · rfl
theorem bindC_out {kindOf : Str → Option NameKind} {x : Str} : ∀ {binds : List (Str × Value)} {m : Str → Option Value}, (∀ v, (x, v) ∉ binds) → bindC kindOf binds m x = m x
 | [], _, _ => rfl
 | (n, v) :: r, m, h => by
  unfold bindC
  rw [bindC_out fun w hw => h w (List.mem_cons_of_mem _ hw)]
  split
  · rfl
  · have : x ≠ n := by rintro rfl; exact h v List.mem_cons_self
    simp [this]
theorem bindL_get {kindOf : Str → Option NameKind} {x : Str} {v : Value} : ∀ {P : List Str} {vs : List Value} {i : Nat} {m : Str → Option Value}, P.Nodup → P[i]? = some x → vs[i]? = some v → kindOf x = some .local →
  bindL kindOf (P.zip vs) m x = some v
 | [], _, _, _, _, h, _, _ => by simp at h
 | _ :: _, [], _, _, _, _, h, _ => by simp at h
 | p :: P, w :: vs, 0, m, nd, h1, h2, hk => by
  simp at h1 h2; subst h1; subst h2
  show bindL kindOf ((p, w) :: P.zip vs) m p = _
  unfold bindL
  rw [bindL_out fun v hv => (List.nodup_cons.mp nd).1 (List.of_mem_zip hv).1, if_pos hk]
  simp
 | p :: P, w :: vs, i + 1, m, nd, h1, h2, hk => by
  show bindL kindOf ((p, w) :: P.zip vs) m x = _
  unfold bindL
  exact bindL_get (i := i) (List.nodup_cons.mp nd).2 (by simpa using h1) (by simpa using h2) hk
theorem bindC_get {kindOf : Str → Option NameKind} {x : Str} {v : Value} : ∀ {P : List Str} {vs : List Value} {i : Nat} {m : Str → Option Value}, P.Nodup → P[i]? = some x → vs[i]? = some v → kindOf x ≠ some .local →
  bindC kindOf (P.zip vs) m x = some v
 | [], _, _, _, _, h, _, _ => by simp at h
 | _ :: _, [], _, _, _, _, h, _ => by simp at h
 | p :: P, w :: vs, 0, m, nd, h1, h2, hk => by
  simp at h1 h2; subst h1; subst h2
  show bindC kindOf ((p, w) :: P.zip vs) m p = _
  unfold bindC
  rw [bindC_out fun v hv => (List.nodup_cons.mp nd).1 (List.of_mem_zip hv).1, if_neg hk]
  simp
 | p :: P, w :: vs, i + 1, m, nd, h1, h2, hk => by
  show bindC kindOf ((p, w) :: P.zip vs) m x = _
  unfold bindC
  exact bindC_get (i := i) (List.nodup_cons.mp nd).2 (by simpa using h1) (by simpa using h2) hk
noncomputable def start (N : List Str) (vs : List V) : St := vs.map some ++ List.replicate (N.length - vs.length) none
noncomputable def cxOf (CX : CXT) (P : Program) (w : World) (K : PySem.W.Frag) (mg : Str → Option Value) (base : Heap) (N : List Str) (qual : Str) (scope : Scope) (f : Addr) (cd : Value) (A : Around) (outer : List Env) (s : Shared) (H : Hp) (E : XK) : Cx where
 prog := P
 w := w
 K := K
 mg := mg
 base := base
 A := A.deeper (envOfC qual scope s.heap.objs.size f cd)
 N := N
 s₀ := s
 H₀ := H
 env := envOfC qual scope s.heap.objs.size f cd
 outer := outer
 stack := envOfC qual scope s.heap.objs.size f cd :: outer
 ex := []
 calm := true
 fn := fun _ => true
 pn := []
 xe := fun e s' => wpAny (model P w) (A.deeper (envOfC qual scope s.heap.objs.size f cd)) (leaving (envOfC qual scope s.heap.objs.size f cd) e) (fun _ s'' => CX outer H s E e s'') (fun e' s'' => CX outer H s E e' s'') s'
theorem cell_has {sc : Scope} {n : Nat} {x : Str} (h : sc.names.lookup x = some .cell) : ∃ c, (cellsFrom n sc.names []).lookup x = some c := by
 have q := PySem.W.cellsFrom_some sc.names n [] (.inl h)
 exact Option.isSome_iff_exists.mp q
theorem inv_start {CX : CXT} {P : Program} {w : World} {K : PySem.W.Frag} {mg : Str → Option Value} {base : Heap} {N ps : List Str} {qual : Str} {scope : Scope} {f : Addr} {cd : Value} {A : Around} {outer : List Env} {s s1 : Shared} {H : Hp} {E : XK} {us : List Value} {vs : List V}
  (S : FnScope N ps scope) (hd : A.handled = none) (e0 : Env0 P w K mg base A outer s H) (hl : vs.length = ps.length) (r : Vals vs us)
  (x : InCallC s s.heap.objs.size (bindL (envOfC qual scope s.heap.objs.size f cd).kindOf (ps.zip us) fun _ => none) (cellsFrom (s.heap.objs.size + 1) scope.names []) (bindC (envOfC qual scope s.heap.objs.size f cd).kindOf (ps.zip us) fun _ => none) s1) :
  Inv (cxOf CX P w K mg base N qual scope f cd A outer s H E) [] (start N vs) H s1 := by
 have hpl : ps.length ≤ N.length := by have := congrArg List.length S.pre; rw [List.length_take] at this; lia
 obtain ⟨h1, tk, rfl, hk⟩ := x.done
 have noA : ∀ b : Addr, b ∉ (cxOf CX P w K mg base N qual scope f cd A outer s H E).ex := fun b z => absurd (show b ∈ ([] : List Addr) from z) (by simp)
 refine ⟨⟨e0.mod, S.kind, rfl, rfl, Nat.le_refl _, fun y z c h1 h2 => ?_, fun y hy => ?_, fun y c _ h => ?_, fun _ => hd, Around.frames_deeper e0.frames, .inr ⟨rfl, rfl⟩, fun b z => absurd z (noA b), e0.bs, e0.bsz, fun b _ _ => noA b, fun b z => absurd z (noA b), e0.funs, e0.frf⟩,
  rfl, e0.bare, Un.kept hk, ⟨_, x.toInCall.ns, fun i y v h1 h2 h3 => ?_⟩, fun y c h => ⟨_, x.cell y c h⟩, e0.hok.fresh (Nat.le_refl _), fun y c h => ?_, fun p hp => absurd (show p ∈ ([] : List (Addr × Obj)) from hp) (by simp), e0.hok.kept hk, ?_⟩
 · exact name_of_addr x.apart (PySem.mem_of_lookup h1) (PySem.mem_of_lookup h2)
 · have hy : scope.names.lookup y = some .cell ∨ scope.names.lookup y = some .free := hy
   rcases hy with hy | hy
   · exact cell_has hy
   · exact absurd rfl (S.nofree _ (PySem.mem_of_lookup hy))
 · exact Nat.le_of_lt (x.above y c (PySem.mem_of_lookup h))
 · have hi : i < vs.length := by
     unfold start at h2
     by_cases hi : i < vs.length
     · exact hi
     · rw [List.getElem?_append_right (by simpa using hi)] at h2
       rw [List.getElem?_replicate] at h2
       split at h2 <;> cases h2
   have ha : vs[i]? = some v := by
    unfold start at h2
    rw [List.getElem?_append_left (by simpa using hi), List.getElem?_map] at h2
    cases e : vs[i]? with
    | none => rw [e] at h2; cases h2
    | some a => rw [e] at h2; cases h2; rfl
   obtain ⟨u, hu, rv⟩ := r.get ha
   have hp : ps[i]? = some y := by
    rw [← S.pre, List.getElem?_take_of_lt (by lia)]; exact h1
   have ndP : ps.Nodup := by rw [← S.pre]; exact S.nd.sublist (List.take_sublist _ _)
   refine ⟨u, rv, ?_⟩
   rcases S.par y (List.mem_of_getElem? hp) with k | k
   · exact .inl ⟨k, bindL_get ndP hp hu k⟩
   · obtain ⟨c, e⟩ := cell_has (n := s.heap.objs.size + 1) k
     refine .inr ⟨.inl k, c, e, ?_⟩
     have q := x.cell y c e
     rw [bindC_get ndP hp hu (by show scope.names.lookup y ≠ _; rw [k]; decide)] at q
     exact q
 · exact e0.hok.fresh (Nat.le_of_lt (x.above y c (PySem.mem_of_lookup h)))
 · unfold start
   show _ = N.length
   rw [List.length_append, List.length_map, List.length_replicate]
   lia
theorem fn_of {CX : CXT} {P : Program} {w : World} {K : PySem.W.Frag} {mg : Str → Option Value} {base : Heap} {k : Nat} {f : Addr} {name qual : Str} {params : Arguments} {body : List Stmt} {scope : Scope} {dV kV doc pm cdv ct oc : Value} {an od : Option Addr}
  {osl : Array (Option Value)} {N ps : List Str} {sp : Sp} (lk : K.lookup f = some ⟨oc, od, .func (PySem.W.fnOf name qual params body scope dV kV doc pm an cdv ct), osl⟩) (hcd : PySem.W.codeIn K cdv qual = true) (S : FnScope N ps scope)
  (len : ∀ vs H Q E, sp vs H Q E → vs.length = ps.length)
  (hbody : ∀ (A : Around) (outer : List Env) (s : Shared) (H : Hp) (vs : List V) (Q : VK) (E : XK), Room k (A.deeper (envOfC qual scope s.heap.objs.size f cdv)) → sp vs H Q E →
   ∃ t, PSs (cxOf CX P w K mg base N qual scope f cdv A outer s H E) body t ∧ t { nx := fun _ H' => Q .non H', rt := Q } (start N vs) H) :
  FnOk P w K mg base CX (k + 1) f (PySem.W.fnOf name qual params body scope dV kV doc pm an cdv ct) ps sp := by
 refine ⟨len, fun A outer s H args us vs Q E hr e0 hb r hsp => ?_⟩
 have hl := len _ _ _ _ hsp
 have KX : K.In s.heap := e0.mod.kin.keeps fun b o e => (e0.bs b o e).1
 have lim : s.heap.NoLimit := e0.mod.nolimit.keeps fun b o e => (e0.bs b o e).1
 have hkind : ∀ y ∈ ps.zip us, scope.names.lookup y.1 = some .local ∨ (scope.names.lookup y.1 = some .cell ∧ ((cellsFrom (s.heap.objs.size + 1) scope.names []).lookup y.1).isSome = true) := fun zz81 hy => (by obtain ⟨n, v⟩ := zz81; exact (by
  rcases S.par n (List.of_mem_zip hy).1 with q | q
  · exact .inl q
  · exact .inr ⟨q, PySem.W.cellsFrom_some _ _ _ (.inl q)⟩))
 refine codeAny_call_function hr.depth (KX _ _ lk) rfl S.co S.gen rfl (PySem.W.codeRec_of KX hcd) (hb _ _ _ _ ?_)
 refine wpAny_newFunctionEnv_cells S.kind hkind fun env he s1 x => ?_
 subst he
 refine ⟨lim.keeps x.toInCall.keep, codeAny_func ?_⟩
 obtain ⟨t, ht, hq⟩ := hbody A outer s H vs Q E (hr.deeper _) hsp
 have I : Inv (cxOf CX P w K mg base N qual scope f cdv A outer s H E) [] (start N vs) H s1 := inv_start S hr.hd e0 hl r x
 refine wpAny_mono (ht [] s1 (start N vs) H _ I hq) (fun fl s' hs => ?_) fun e s' hs => hs
 have fin : ∀ {σ' : St} {H' : Hp} {v : V} {u : Value}, Inv (cxOf CX P w K mg base N qual scope f cdv A outer s H E) [] σ' H' s' → RelV v u → Q v H' → CE outer P w H s Q u s' :=
  fun {σ' H' v u} J rv q => ⟨v, H', J.os, J.bare, J.base, J.hok, rv, q⟩
 cases fl with
 | ret u =>
  obtain ⟨v, σ', H', J, rv, q⟩ := hs
  exact fin J rv q
 | next =>
  obtain ⟨σ', H', J, q⟩ := hs
  exact fin (v := V.non) (u := Value.none) J rfl q
 | brk =>
  obtain ⟨_, _, _, q⟩ := hs
  exact False.elim q
 | cont =>
  obtain ⟨_, _, _, q⟩ := hs
  exact False.elim q
end L2
namespace L2
open PySem PySem.Spec PyProof.Rows
section
variable {X : Cx} {x : Str} {p pos : Pos} {e : Expr} {es : List Expr} {t : TA} {id T : String} {r : List V → Hp → VK → Prop}
def tCB (r : List V → Hp → VK → Prop) (t : TA) : TE := fun σ H Q => t σ H fun vs H1 => r vs H1 Q
theorem pe_callB (hc : CallR X (.builtin id) r) (hg : Gl X x) (hm : X.mg x = none) (hv : bootBuiltins x = some (.builtin id)) (ha : PA X (e :: es) t) (hn : autoParam (x ≠ "__name__") au2._auto_1) (hdb : autoParam ((x == ("__debug__" : Str)) = false) au2._auto_1)
  (he : autoParam (starEach (e :: es) X.env = (false, eval e X.env) :: starEach es X.env) au5._auto_1) (hpl : autoParam ((backTo pos (starEach es X.env)).any (·.1) = false) au5._auto_1) : PE X (.Call (.Name x p) (e :: es) [] pos) (tCB r t) := by
 intro pins s σ H Q I h
 refine wpAny_Call_Name_kw (ld_blt I hg hm hv ?_ hn hdb)
 exact PyProof.Rows.callWith_builtin1 (thn (ha pos pins s σ H _ I h) fun us s1 zz82 => (by obtain ⟨vs, H1, I1, r1, q1⟩ := zz82; exact (hc pins s1 σ H1 vs us Q I1 r1 q1))) he hpl
theorem pe_callTy (hc : CallR X (.type T) r) (hg : Gl X x) (hm : X.mg x = none) (hv : bootBuiltins x = some (.type T)) (ha : PA X (e :: es) t) (hn : autoParam (x ≠ "__name__") au2._auto_1) (hdb : autoParam ((x == ("__debug__" : Str)) = false) au2._auto_1)
  (he : autoParam (starEach (e :: es) X.env = (false, eval e X.env) :: starEach es X.env) au5._auto_1) (hpl : autoParam ((backTo pos (starEach es X.env)).any (·.1) = false) au5._auto_1) : PE X (.Call (.Name x p) (e :: es) [] pos) (tCB r t) := by
 intro pins s σ H Q I h
 refine wpAny_Call_Name_kw (ld_blt I hg hm hv ?_ hn hdb)
 exact PyProof.Rows.callWith_type1 (thn (ha pos pins s σ H _ I h) fun us s1 zz83 => (by obtain ⟨vs, H1, I1, r1, q1⟩ := zz83; exact (hc pins s1 σ H1 vs us Q I1 r1 q1))) he hpl
end
end L2
namespace HT
open PySem PyProof.Rows
section
variable {prog : Program} {w : World} {A : Around} {E : Value → Shared → Prop} {s : Shared}
theorem cat_tup {t b : Addr} {vs ws : List Value} {Q : Value → Shared → Prop} (ht : IsTup s.heap t vs.toArray) (hb : IsTup s.heap b ws.toArray) (hv : vs ≠ [])
  (h1 : ws = [] → Q (.ref t) s) (h2 : ws ≠ [] → Q (.ref s.heap.objs.size) { s with heap := s.heap.push { cls := .type "tuple", data := .seq (vs ++ ws).toArray } })
  (hsz : vs.length + ws.length ≤ sizeLine) : wpAny (model prog w) A (binaryOp .Add (.ref t) (.ref b)) Q E s := by
 obtain ⟨⟨cls, dd, data, sl⟩, ho, hc, n, hd⟩ := id ht
 obtain ⟨⟨cls2, dd2, data2, sl2⟩, ho2, hc2, n2, hd2⟩ := id hb
 simp only at hc hd hc2 hd2
 subst hc hd hc2 hd2
 have e : vs.toArray ++ ws.toArray = (vs ++ ws).toArray := by simp
 by_cases hw : ws = []
 · exact concat_meets ⟨_, ho, rfl⟩ ⟨_, ho2, rfl⟩ noFill_tuple_add seq_tuple_add PySem.F.slot_tuple_add PySem.F.entry_tuple_add (PySem.F.args_tuple_add_2 _ _)
     (tuple_addW1 t b vs.toArray ws.toArray n n2 dd dd2 sl sl2 (by simpa using hv) (by simp [hw])) ⟨ho, ho2, h1 hw⟩
 · refine concat_meets ⟨_, ho, rfl⟩ ⟨_, ho2, rfl⟩ noFill_tuple_add seq_tuple_add PySem.F.slot_tuple_add PySem.F.entry_tuple_add (PySem.F.args_tuple_add_2 _ _)
     (tuple_addW2 t b vs.toArray ws.toArray n n2 dd dd2 sl sl2 (by simpa using hv) (by simpa using hw) (by rw [List.size_toArray, List.size_toArray]; exact hsz)) ⟨ho, ho2, ?_⟩
   rw [e]
   exact h2 hw
noncomputable def sIx (n d : Nat) : Option Int → Nat
 | none => d
 | some v => if v < 0 then (v + (n : Int)).toNat else min v.toNat n
theorem sIx_none (n d : Nat) : sIx n d none = d := rfl
theorem sIx_nat (n d k : Nat) : sIx n d (some (k : Int)) = min k n := by
 show (if (k : Int) < 0 then ((k : Int) + (n : Int)).toNat else min (k : Int).toNat n) = min k n
 rw [if_neg (by lia), Int.toNat_natCast]
theorem sIx_le (n d : Nat) (hd : d ≤ n) (o : Option Int) : sIx n d o ≤ n := by
 cases o with
 | none => exact hd
 | some v =>
  show (if v < 0 then (v + (n : Int)).toNat else min v.toNat n) ≤ n
  by_cases hv : v < 0
  · rw [if_pos hv]; lia
  · rw [if_neg hv]; exact Nat.min_le_right _ _
theorem clip_eq (v : Int) (n d : Nat) : (if v < 0 then max (v + (n : Int)) 0 else min v (n : Int)) = ((sIx n d (some v) : Nat) : Int) := by
 show (if v < 0 then max (v + (n : Int)) 0 else min v (n : Int)) = (((if v < 0 then (v + (n : Int)).toNat else min v.toNat n) : Nat) : Int)
 by_cases hv : v < 0
 · simp only [if_pos hv]; lia
 · simp only [if_neg hv]; lia
theorem adjust_gen (lo hi : Option Int) (n : Nat) : Builtin.Slice.sliceAdjust lo hi 1 (n : Int) = (((sIx n 0 lo : Nat) : Int), ((sIx n n hi : Nat) : Int)) := by
 have h1 : ¬ ((1 : Int) < 0) := by lia
 unfold Builtin.Slice.sliceAdjust
 simp only [h1, if_false]
 refine Prod.ext ?_ ?_
 · cases lo with
   | none => rfl
   | some v => exact clip_eq v n 0
 · cases hi with
   | none => rfl
   | some v => exact clip_eq v n n
theorem places_gen (i j : Nat) : Builtin.Slice.slicePlaces (i : Int) (j : Int) 1 = j - i := by
 unfold Builtin.Slice.slicePlaces
 have h1 : (1 : Int) > 0 := by lia
 simp only [h1, if_true, Int.ediv_one]
 split <;> lia
theorem slicePart_ {v : Value} {o : Option Int} {Q : Option Int → Shared → Prop} (p : IsPart v o) (h : Q o s) : wpAny (model prog w) A (Builtin.Slice.slicePartIndex v) Q E s := by
 cases p with
 | none => exact slicePart_none h
 | int i t => exact slicePart_int h
theorem sliceApplied_gen {sl : Addr} {vl vu : Value} {lo hi : Option Int} {n : Nat} {Q : Int × Int × Nat → Shared → Prop} (hs : s.heap.IsSliceOf sl vl vu .none) (pl : IsPart vl lo) (pu : IsPart vu hi)
  (h : Q (((sIx n 0 lo : Nat) : Int), 1, sIx n n hi - sIx n 0 lo) s) : wpAny (model prog w) A (Builtin.Slice.sliceApplied (.ref sl) (pure (n : Int))) Q E s := by
 obtain ⟨os, hos, hcs, hds⟩ := id hs
 unfold Builtin.Slice.sliceApplied Builtin.Slice.sliceFields
 refine wpAny_bind (wpAny_bind (wpAny_field hos hds (x := vl) rfl (wpAny_bind (wpAny_field hos hds (x := vu) rfl (wpAny_bind (wpAny_field hos hds (x := .none) rfl (wpAny_pure ?_)))))))
 refine wpAny_bind (slicePart_none ?_)
 show wpAny _ _ (if ((1 : Int) == 0) = true then _ else _) _ _ s
 rw [if_neg (by decide)]
 refine wpAny_bind (slicePart_ pl (wpAny_bind (slicePart_ pu (wpAny_bind (wpAny_pure ?_)))))
 show wpAny _ _ (match Builtin.Slice.sliceAdjust lo hi 1 (n : Int) with | (lo, hi) => pure (lo, (1 : Int), Builtin.Slice.slicePlaces lo hi 1)) _ _ s
 rw [adjust_gen lo hi n]
 show wpAny _ _ (pure (((sIx n 0 lo : Nat) : Int), (1 : Int), Builtin.Slice.slicePlaces ((sIx n 0 lo : Nat) : Int) ((sIx n n hi : Nat) : Int) 1)) _ _ s
 rw [places_gen]
 exact wpAny_pure h
theorem pick_gen (xs : Array Value) (i k : Nat) : ((List.range k).filterMap fun (m : Nat) => xs[((i : Int) + (m : Int) * 1).toNat]?).toArray = ((xs.toList.drop i).take k).toArray := by
 have e : (fun (m : Nat) => xs[((i : Int) + (m : Int) * 1).toNat]?) = fun m => xs[i + m]? := by
  funext m
  have : ((i : Int) + (m : Int) * 1).toNat = i + m := by lia
  rw [this]
 rw [e]
 have := pick_run xs i k
 rw [List.filterMap_map] at this
 have e2 : ((fun x => xs[x]?) ∘ fun x => i + x) = fun m => xs[i + m]? := rfl
 rw [e2] at this
 rw [this]
theorem getItem_tuple_cut {t sl : Addr} {items : Array Value} {vl vu : Value} {lo hi : Option Int} {Q : Value → Shared → Prop} (ht : IsTup s.heap t items) (hs : s.heap.IsSliceOf sl vl vu .none) (pl : IsPart vl lo) (pu : IsPart vu hi)
  (hw : ¬ (sIx items.size 0 lo = 0 ∧ sIx items.size items.size hi = items.size))
  (h : Q (.ref s.heap.objs.size) { s with heap := s.heap.push { cls := .type "tuple", data := .seq ((items.toList.drop (sIx items.size 0 lo)).take (sIx items.size items.size hi - sIx items.size 0 lo)).toArray } })
  (hsz : items.size ≤ sizeLine) : wpAny (model prog w) A (getItem (.ref t) (.ref sl)) Q E s := by
 have htake : sizeOk (.seq ((items.toList.drop (sIx items.size 0 lo)).take (sIx items.size items.size hi - sIx items.size 0 lo)).toArray) := by
  show ((items.toList.drop (sIx items.size 0 lo)).take (sIx items.size items.size hi - sIx items.size 0 lo)).toArray.size ≤ sizeLine
  rw [List.size_toArray, List.length_take, List.length_drop, Array.length_toList]
  lia
 have hj : sIx items.size items.size hi ≤ items.size := sIx_le _ _ (Nat.le_refl _) hi
 obtain ⟨os, hos, hcs, hds⟩ := id hs
 have hTs : s.TypeIs (.ref sl) "slice" := ⟨os, hos, hcs⟩
 unfold getItem
 try with_reducible refine wpAny_holding ?_
 first | refine wpAny_bind (wpAny_pure ?_) | skip
 refine wpAny_bind (wpAny_sequenceKey ht.typeIs (by decide) ?_)
 refine wpAny_bind (wpAny_callSpecial?_slot (name := Str.ofString "__getitem__") ht.typeIs PyProof.Rows.slot_tuple_getitem
  (wpAny_call_entry PyProof.Rows.slot_tuple_getitem ht.typeIs entry_tuple_getitem ?_ (args_tuple_getitem _ _)))
 show wpAny _ _ (Builtin.Tuple.tupleItemsOf (.ref t) >>= _) _ _ s
 refine wpAny_bind (tupleItemsOf_ ht ?_)
 refine wpAny_bind (wpAny_typeOf hTs ?_)
 rw [if_pos (by decide)]
 refine wpAny_bind (sliceApplied_gen hs pl pu ?_)
 have hno : ¬ ((((sIx items.size 0 lo : Nat) : Int) == 0 && (1 : Int) == 1 && (sIx items.size items.size hi - sIx items.size 0 lo) == items.size) = true) := by
  intro q
  rw [Bool.and_eq_true, Bool.and_eq_true] at q
  have q1 : ((sIx items.size 0 lo : Nat) : Int) = 0 := eq_of_beq q.1.1
  have q2 : sIx items.size items.size hi - sIx items.size 0 lo = items.size := eq_of_beq q.2
  exact hw ⟨by lia, by lia⟩
 show wpAny _ _ (if (((sIx items.size 0 lo : Nat) : Int) == 0 && (1 : Int) == 1 && (sIx items.size items.size hi - sIx items.size 0 lo) == items.size) = true then _ else _) _ _ s
 rw [if_neg hno, pick_gen]
 first
  | exact wpAny_bind (m := Builtin.Tuple.tupleExact _) (wpAny_newObj_type (wpAny_pure ⟨_, rfl, wpAny_pure h⟩) htake)
  | exact wpAny_bind (m := Builtin.Tuple.tupleExact _) (wpAny_newObj_type (wpAny_bind (wpAny_pure (wpAny_pure ⟨_, rfl, wpAny_pure h⟩))) htake)
  | exact wpAny_bind (wpAny_bind (m := Builtin.Tuple.tupleExact _) (wpAny_newObj_type (wpAny_pure (wpAny_pure ⟨_, rfl, wpAny_pure h⟩)) htake))
  | exact wpAny_bind (wpAny_bind (m := Builtin.Tuple.tupleExact _) (wpAny_newObj_type (wpAny_pure ⟨_, rfl, wpAny_pure h⟩) htake))
end
end HT
namespace L2
open PySem PySem.Spec PyProof.Rows
abbrev TO := St → Hp → (Option Int → Hp → Prop) → Prop
def PO (X : Cx) (e : Option Expr) (t : TO) : Prop :=
 ∀ (pins : List (Addr × Obj)) (s : Shared) (σ : St) (H : Hp) (Q : Option Int → Hp → Prop), Inv X pins σ H s → t σ H Q →
  wpAny (model X.prog X.w) X.A (evalPart e X.env) (fun u s' => ∃ o H', Inv X pins σ H' s' ∧ IsPart u o ∧ Q o H') X.xe s
def tNoPart : TO := fun _ H Q => Q none H
def tPart (t : TE) : TO := fun σ H Q => t σ H fun x H1 => ∃ i, x = .int i ∧ Q (some i) H1
section
variable {X : Cx} {e : Expr} {te : TE} {lo hi : Option Expr} {tl th : TO} {pos p2 : Pos}
theorem po_none : PO X none tNoPart := by
 intro pins s σ H Q I h
 rw [evalPart_none]
 exact wpAny_pure ⟨none, H, I, .none, h⟩
theorem po_some (h : PE X e te) : PO X (some e) (tPart te) := by
 intro pins s σ H Q I hw
 rw [evalPart_some]
 refine thn (h pins s σ H _ I hw) fun u s1 zz84 => ?_
 obtain ⟨x, H1, I1, r1, q1⟩ := zz84
 obtain ⟨i, rfl, q⟩ := q1
 obtain ⟨t, rfl⟩ := r1
 exact ⟨some i, H1, I1, .int i t, q⟩
def SlR (X : Cx) (r : V → Option Int → Option Int → Hp → VK → Prop) : Prop :=
 ∀ (pins : List (Addr × Obj)) (s : Shared) (σ : St) (H : Hp) (x : V) (v vl vu : Value) (lo hi : Option Int) (sl : Addr) (Q : VK), Inv X pins σ H s → RelV x v → s.heap.IsSliceOf sl vl vu .none → IsPart vl lo → IsPart vu hi → r x lo hi H Q →
  ∃ T id, typeLookup (.type T) "__getitem__" = pure (some (.builtin id)) ∧ s.TypeIs v T ∧ wpAny (model X.prog X.w) X.A (getItem v (.ref sl)) (EP X pins σ Q) X.xe s
def tSl (r : V → Option Int → Option Int → Hp → VK → Prop) (te : TE) (tl th : TO) : TE := fun σ H Q => te σ H fun x H1 => tl σ H1 fun l H2 => th σ H2 fun u H3 => r x l u H3 Q
theorem pe_slice {r : V → Option Int → Option Int → Hp → VK → Prop} (hr : SlR X r) (he : PE X e te) (hl : PO X lo tl) (hu : PO X hi th) : PE X (.Subscript e (.Slice lo hi none p2) pos) (tSl r te tl th) := by
 intro pins s σ H Q I h
 refine Subscript_ (thn (he pins s σ H _ I h) fun v s1 zz85 => ?_)
 obtain ⟨x, H1, I1, r1, q1⟩ := zz85
 refine wpAny_Slice (thn (hl pins s1 σ H1 _ I1 q1) fun vl s2 ⟨l, H2, I2, pl, q2⟩ => thn (hu pins s2 σ H2 _ I2 q2) fun vu s3 zz87 => ?_)
 obtain ⟨u, H3, I3, pu, q3⟩ := zz87
 rw [evalPart_none]
 refine wpAny_pure ?_
 have I4 : Inv X pins σ H3 { s3 with heap := s3.heap.push { cls := .type "slice", data := .fields #[vl, vu, .none] } } := I3.kept (t' := s3.toks) fun b ob q => Heap.get?_push_of_some _ q
 obtain ⟨T, id, hT, ht, hg⟩ := hr pins { s3 with heap := s3.heap.push { cls := .type "slice", data := .fields #[vl, vu, .none] } } σ H3 x v vl vu l u s3.heap.objs.size Q I4 r1 (Heap.IsSliceOf.new ..) pl pu q3
 show wpAny (model X.prog X.w) X.A (subscriptTail e (.Slice lo hi none p2) v (.ref s3.heap.objs.size)) (EP X pins σ Q) X.xe { s3 with heap := s3.heap.push { cls := .type "slice", data := .fields #[vl, vu, .none] } }
 exact tail_any (ops := [.ref s3.heap.objs.size, v]) ht hT hg (by with_unfolding_all rfl)
noncomputable def cutV (xs : List V) (lo hi : Option Int) : List V := (xs.drop (HT.sIx xs.length 0 lo)).take (HT.sIx xs.length xs.length hi - HT.sIx xs.length 0 lo)
theorem cutV_length (xs : List V) (lo hi : Option Int) : (cutV xs lo hi).length ≤ xs.length := by
 unfold cutV
 rw [List.length_take, List.length_drop]
 lia
theorem Vals.nil_iff {xs : List V} {us : List Value} (r : Vals xs us) : us = [] ↔ xs = [] := by
 cases r with
 | nil => simp
 | cons _ _ => simp
end
end L2
namespace L2
open PySem PySem.Spec PyProof.Rows
noncomputable def ixN (n : Nat) (i : Int) : Option Nat := if 0 ≤ i then (if i < n then some i.toNat else none) else if -(n : Int) ≤ i then some (i + n).toNat else none
noncomputable def atI {α : Type} (xs : List α) (i : Int) : Option α := (ixN xs.length i).bind fun j => xs[j]?
theorem ixN_seq {n : Nat} {i : Int} {j : Nat} (h : ixN n i = some j) : seqIndex? i n = some j ∧ j < n ∧ -(n : Int) ≤ i ∧ i < n := by
 unfold ixN at h
 by_cases h0 : 0 ≤ i
 · rw [if_pos h0] at h
   by_cases h1 : i < n
   · rw [if_pos h1] at h
     have e : i.toNat = j := Option.some.inj h
     exact ⟨by rw [seqIndex_of h0 h1, e], by lia, by lia, h1⟩
   · rw [if_neg h1] at h; cases h
 · rw [if_neg h0] at h
   by_cases h1 : -(n : Int) ≤ i
   · rw [if_pos h1] at h
     have e : (i + n).toNat = j := Option.some.inj h
     exact ⟨by rw [seqIndex_neg (by lia) h1, e], by lia, h1, by lia⟩
   · rw [if_neg h1] at h; cases h
theorem atI_get {α : Type} {xs : List α} {i : Int} {v : α} (h : atI xs i = some v) : ∃ j, seqIndex? i xs.length = some j ∧ xs[j]? = some v ∧ j < xs.length ∧ -(xs.length : Int) ≤ i ∧ i < xs.length := by
 unfold atI at h
 cases e : ixN xs.length i with
 | none => rw [e] at h; cases h
 | some j =>
  rw [e] at h
  obtain ⟨h1, h2, h3, h4⟩ := ixN_seq e
  exact ⟨j, h1, h, h2, h3, h4⟩
theorem atI_nat {α : Type} {xs : List α} {j : Nat} {v : α} (h : xs[j]? = some v) : atI xs (j : Int) = some v := by
 have hj : j < xs.length := (List.getElem?_eq_some_iff.mp h).1
 have e : ixN xs.length (j : Int) = some j := by
  unfold ixN
  rw [if_pos (by lia), if_pos (by lia)]; simp
 unfold atI; rw [e]; exact h
def PlainIx (b : Expr) : Prop := ∀ o i, subscripted b false o i = operate [o, i] (getItem o i)
def IxR (X : Cx) (r : R2) : Prop :=
 ∀ (value slice : Expr) (pins : List (Addr × Obj)) (s : Shared) (σ : St) (H : Hp) (x y : V) (v u : Value) (Q : VK), Inv X pins σ H s → RelV x v → RelV y u → r x y H Q →
  subscripted slice false v u = operate [v, u] (getItem v u) → wpAny (model X.prog X.w) X.A (subscriptTail value slice v u) (EP X pins σ Q) X.xe s
def MtR (X : Cx) (id : String) (r : V → List V → Hp → VK → Prop) : Prop :=
 ∀ (pins : List (Addr × Obj)) (s : Shared) (σ : St) (H : Hp) (x : V) (xs : List V) (v : Value) (us : List Value) (Q : VK), Inv X pins σ H s → RelV x v → Vals xs us → r x xs H Q →
  wpAny (model X.prog X.w) X.A (call (.builtin id) (v :: us)) (EP X pins σ Q) X.xe s
section
variable {X : Cx} {a b : Expr} {ta tb : TE} {pos : Pos}
theorem IxR.or {r r' : R2} (h : IxR X r) (h' : IxR X r') : IxR X (fun x y H Q => r x y H Q ∨ r' x y H Q) := by
 intro value slice pins s σ H x y v u Q I rx ry q hs
 rcases q with q | q
 · exact h value slice pins s σ H x y v u Q I rx ry q hs
 · exact h' value slice pins s σ H x y v u Q I rx ry q hs
theorem pe_ix {r : R2} (hr : IxR X r) (ha : PE X a ta) (hb : PE X b tb) (hs : PlainIx b) : PE X (.Subscript a b pos) (tOp r ta tb) := by
 intro pins s σ H Q I h
 exact Subscript_ (binT ha hb I h fun v u s2 x y H2 I2 rx ry q => hr a b pins s2 σ H2 x y v u Q I2 rx ry q (hs _ _))
def rIxL (K : PySem.W.Frag) : R2 := fun x y H Q => ∃ p xs i v, x = .ref p ∧ y = .int i ∧ SqL K H p xs ∧ atI xs i = some v ∧ Q v H
def rIxT (K : PySem.W.Frag) : R2 := fun x y H Q => ∃ p xs i v, x = .ref p ∧ y = .int i ∧ SqT K H p xs ∧ atI xs i = some v ∧ Q v H
def rIxS : R2 := fun x y H Q => ∃ z i c, x = .str z ∧ y = .int i ∧ z.length ≤ sizeLine ∧ atI z.cps.toList i = some c ∧ Q (.str ⟨#[c]⟩) H
theorem ix_list : IxR X (rIxL X.K) := by
 intro value slice pins s σ H x y v u Q I rx ry h hs
 obtain ⟨p, xs, i, z, rfl, rfl, hq, he, q⟩ := h
 cases rx
 obtain ⟨t, rfl⟩ := ry
 obtain ⟨its, r, pl, hz⟩ := I.list hq
 obtain ⟨j, h1, h2, h3, h4, h5⟩ := atI_get he
 obtain ⟨w, ew, rw'⟩ := r.get h2
 have hl := r.length
 have hn := line63
 have fin : EP X pins σ Q w s := ⟨z, H, I, rw', q⟩
 by_cases h0 : 0 ≤ i
 · have hj : i.toNat = j := by
     rw [seqIndex_of h0 h5] at h1
     exact Option.some.inj h1
   exact item_listR pl.isList h0 (by lia) (by rw [hj]; simpa using ew) fin hs
 · have hj : (i + (its.toArray.size : Int)).toNat = j := by
     rw [seqIndex_neg (by lia) h4] at h1
     rw [List.size_toArray, ← hl]
     exact Option.some.inj h1
   exact subscriptTail_builtinR (x := w) pl.isList.typeIs slot_list_getitem.lookup
    (wpAny_getItem_list_neg (Q := fun r s' => r = w ∧ EP X pins σ Q r s') pl.isList (by lia) (by rw [List.size_toArray] <;> lia) (by lia) (by rw [hj]; simpa using ew) ⟨rfl, fin⟩) hs
theorem ix_tup : IxR X (rIxT X.K) := by
 intro value slice pins s σ H x y v u Q I rx ry h hs
 obtain ⟨p, xs, i, z, rfl, rfl, hq, he, q⟩ := h
 cases rx
 obtain ⟨t, rfl⟩ := ry
 obtain ⟨its, r, pl, hz⟩ := I.tuple hq
 obtain ⟨j, h1, h2, h3, h4, h5⟩ := atI_get he
 obtain ⟨w, ew, rw'⟩ := r.get h2
 have hl := r.length
 have hn := line63
 have fin : EP X pins σ Q w s := ⟨z, H, I, rw', q⟩
 exact subscriptTail_builtinR (x := w) pl.typeIs slot_tuple_getitem.lookup
  (getItem_tuple (j := j) (Q := fun r s' => r = w ∧ EP X pins σ Q r s') pl (by lia) (by lia) (by rw [List.size_toArray, ← hl]; exact h1) (by simpa using ew) ⟨rfl, fin⟩) hs
theorem ix_str : IxR X rIxS := by
 intro value slice pins s σ H x y v u Q I rx ry h hs
 obtain ⟨z, i, c, rfl, rfl, hz, he, q⟩ := h
 obtain ⟨t, rfl⟩ := rx
 obtain ⟨t', rfl⟩ := ry
 obtain ⟨j, h1, h2, h3, h4, h5⟩ := atI_get he
 have hl : z.cps.toList.length = z.length := by simp [Str.length]
 rw [hl] at h1 h4 h5
 have hn := line63
 exact tail_any (typeIs_str s z t) slot_str_getitem.lookup (getItem_str (c := c) (by
  have e1 : decide (i < -(2 ^ 63 : Int)) = false := decide_eq_false (by lia)
  have e2 : decide (i ≥ 2 ^ 63) = false := decide_eq_false (by lia)
  rw [e1, e2, Bool.or_false]) (by rw [h1]; simpa using h2) ⟨.str ⟨#[c]⟩, H, I.tok _, ⟨_, rfl⟩, q⟩) hs
def rIx (K : PySem.W.Frag) : R2 := fun x y H Q => rIxL K x y H Q ∨ rIxT K x y H Q ∨ rIxS x y H Q
theorem ix_seq : IxR X (rIx X.K) := ix_list.or (ix_tup.or ix_str)
theorem mapSeq_set (its : List Value) (n j : Nat) (u : Value) : Obj.mapSeq (·.setIfInBounds j u) { cls := .type "list", data := .seq its.toArray n } = { cls := .type "list", data := .seq (its.set j u).toArray n } := by
 simp [Obj.mapSeq]
theorem Inv.lst {pins : List (Addr × Obj)} {σ : St} {H : Hp} {s : Shared} {p : Addr} {xs : List V} (I : Inv X pins σ H s) (h : H p = some (.lst xs)) :
  ∃ (its : List Value) (n : Nat), Vals xs its ∧ s.heap.get? p = some { cls := .type "list", data := .seq its.toArray n } ∧ xs.length ≤ sizeLine := by
 obtain ⟨z, its, n, r, e⟩ := I.hok p _ h
 exact ⟨its, n, r, e, z⟩
theorem Inv.lstUpd {pins : List (Addr × Obj)} {σ : St} {H : Hp} {s : Shared} {p : Addr} {xs ys : List V} {its its' : List Value} {n n' : Nat} {f : Obj → Obj} (I : Inv X pins σ H s) (h : H p = some (.lst xs))
  (ho : s.heap.get? p = some { cls := .type "list", data := .seq its.toArray n }) (hf : f { cls := .type "list", data := .seq its.toArray n } = { cls := .type "list", data := .seq its'.toArray n' }) (r : Vals ys its') (hz : ys.length ≤ sizeLine) (t : Nat) :
  Inv X pins σ (upd H p (.lst ys)) { s with heap := s.heap.update p f, toks := t } := by
 have e : (s.heap.update p f).get? p = some { cls := .type "list", data := .seq its'.toArray n' } := by
  rw [Heap.get?_update_self f ho (by rw [hf] <;> rfl), hf]
 refine I.write (x := p) (e := p) (by rw [h]; trivial) (.inl rfl) (fun b u hb q => (Heap.get?_update_other _ _ (Ne.symm hb)).trans q) ⟨_, e⟩ ?_
 exact ⟨hz, its', n', r, e⟩
def rSetL : V → V → V → Hp → (Hp → Prop) → Prop := fun o i v H Q => ∃ p xs k j, o = .ref p ∧ i = .int k ∧ H p = some (.lst xs) ∧ ixN xs.length k = some j ∧ Q (upd H p (.lst (xs.set j v)))
theorem set_list : PSet X rSetL := by
 intro pins s σ H o i v ov iv u Q I ro ri rv h
 obtain ⟨p, xs, k, j, rfl, rfl, hp, hj, q⟩ := h
 cases ro
 obtain ⟨t, rfl⟩ := ri
 obtain ⟨its, n, r, ho, hz⟩ := I.lst hp
 obtain ⟨h1, h2, h3, h4⟩ := ixN_seq hj
 have hl := r.length
 have hn := line63
 have I' : Inv X pins σ (upd H p (.lst (xs.set j v))) { s with heap := s.heap.update p (Obj.mapSeq (·.setIfInBounds j u)) } :=
  I.lstUpd hp ho (mapSeq_set its n j u) (r.set rv j) (by rw [List.length_set]; exact hz) s.toks
 by_cases h0 : 0 ≤ k
 · have hk : k.toNat = j := by
     rw [seqIndex_of h0 h4] at h1
     exact Option.some.inj h1
   exact PySem.W.ki_setAt ho h0 (by lia) (by rw [List.size_toArray, ← hl]; exact h4) (by rw [hk]; exact ⟨_, I', q⟩)
 · have hk : (k + (its.toArray.size : Int)).toNat = j := by
     rw [seqIndex_neg (by lia) h3] at h1
     rw [List.size_toArray, ← hl]
     exact Option.some.inj h1
   exact PySem.W.ki_setBack ho (by lia) (by rw [List.size_toArray, ← hl]; exact h3) (by lia) (by rw [hk]; exact ⟨_, I', q⟩)
theorem slice_bounds (lo hi : Option Int) (n : Nat) : (sliceBounds lo hi none n).1 = ((HT.sIx n 0 lo : Nat) : Int) ∧ (sliceBounds lo hi none n).2.1 = ((HT.sIx n n hi : Nat) : Int) ∧ (sliceBounds lo hi none n).2.2 = 1 := by
 refine ⟨?_, ?_, rfl⟩
 · cases lo with
   | none => simp [sliceBounds, HT.sIx]
   | some i =>
    simp only [sliceBounds, HT.sIx, Option.getD_none, show (1 : Int) > 0 by decide, if_true]
    by_cases h : i < 0
    · simp only [h, if_true] <;> lia
    · simp only [h, if_false] <;> lia
 · cases hi with
   | none => simp [sliceBounds, HT.sIx]
   | some i =>
    simp only [sliceBounds, HT.sIx, Option.getD_none, show (1 : Int) > 0 by decide, if_true]
    by_cases h : i < 0
    · simp only [h, if_true] <;> lia
    · simp only [h, if_false] <;> lia
theorem slicePick_cut (its : List Value) (lo hi : Option Int) : slicePick its.toArray lo hi none = ((its.drop (HT.sIx its.length 0 lo)).take (HT.sIx its.length its.length hi - HT.sIx its.length 0 lo)).toArray := by
 obtain ⟨h1, h2, h3⟩ := slice_bounds lo hi its.toArray.size
 unfold slicePick
 rw [h1, h2, h3]
 simp only [sliceRange_one, pick_run, List.size_toArray] <;> rfl
def rSlL (K : PySem.W.Frag) : V → Option Int → Option Int → Hp → VK → Prop := fun x lo hi H Q => ∃ a xs, x = .ref a ∧ SqL K H a xs ∧ ∀ p, H p = none → Q (.ref p) (upd H p (.lst (cutV xs lo hi)))
theorem sl_list : SlR X (rSlL X.K) := by
 intro pins s σ H x v vl vu lo hi sl Q I rx hs pl pu h
 obtain ⟨a, xs, rfl, hx, q⟩ := h
 cases rx
 obtain ⟨its, r, ht, hz⟩ := I.list hx
 have hlen := r.length
 refine ⟨"list", _, slot_list_getitem.lookup, ht.isList.typeIs, ?_⟩
 refine wpAny_getItem_list_slice ht.isList hs pl pu .none (by simp) ?_ (by rw [List.size_toArray] <;> lia)
 rw [slicePick_cut, ← hlen]
 refine ⟨.ref s.heap.objs.size, _, I.laid (t' := s.toks) (o := .lst (cutV xs lo hi)) (fun b ob q => Heap.get?_push_of_some _ q) (Nat.le_refl _) ?_, rfl, q _ (I.hok.fresh (Nat.le_refl _))⟩
 exact ⟨Nat.le_trans (cutV_length xs lo hi) hz, _, 0, (r.drop (HT.sIx xs.length 0 lo)).take (HT.sIx xs.length xs.length hi - HT.sIx xs.length 0 lo), Heap.get?_push_size _ rfl⟩
noncomputable def flatV : V → Bool
 | .non => true
 | .bl _ => true
 | .int _ => true
 | .str _ => true
 | _ => false
noncomputable def eqV : V → V → Bool
 | .non, .non => true
 | .bl a, .bl b => a == b
 | .bl a, .int b => (if a then 1 else 0) == b
 | .int a, .bl b => a == (if b then 1 else 0)
 | .int a, .int b => a == b
 | .str a, .str b => a == b
 | _, _ => false
theorem eqAt_V {A : Around} {s : Shared} {y x : V} {u v : Value} (ry : RelV y u) (rx : RelV x v) (fy : flatV y = true) (fx : flatV x = true) : SeqAt.EqAt A s u v (eqV y x) := by
 cases y with
 | non =>
  cases ry
  cases x with
  | non => cases rx; exact SeqAt.EqAt.same _
  | bl b => cases rx; exact SeqAt.EqAt.none_bool b
  | int b => obtain ⟨t, rfl⟩ := rx; exact SeqAt.EqAt.none_int b t
  | str b => obtain ⟨t, rfl⟩ := rx; exact SeqAt.EqAt.none_str b t
  | _ => exact absurd (show false = true from fx) Bool.false_ne_true
 | bl a =>
  cases ry
  cases x with
  | non => cases rx; exact SeqAt.EqAt.bool_none a
  | bl b => cases rx; exact SeqAt.EqAt.bool_bool a b
  | int b => obtain ⟨t, rfl⟩ := rx; exact SeqAt.EqAt.bool_int a b t
  | str b => obtain ⟨t, rfl⟩ := rx; exact SeqAt.EqAt.bool_str a b t
  | _ => exact absurd (show false = true from fx) Bool.false_ne_true
 | int a =>
  obtain ⟨t', rfl⟩ := ry
  cases x with
  | non => cases rx; exact SeqAt.EqAt.int_none a t'
  | bl b => cases rx; exact SeqAt.EqAt.int_bool a t' b
  | int b => obtain ⟨t, rfl⟩ := rx; exact SeqAt.EqAt.int_int a t' b t
  | str b => obtain ⟨t, rfl⟩ := rx; exact SeqAt.EqAt.int_str a t' b t
  | _ => exact absurd (show false = true from fx) Bool.false_ne_true
 | str a =>
  obtain ⟨t', rfl⟩ := ry
  cases x with
  | non => cases rx; exact SeqAt.EqAt.str_none a t'
  | bl b => cases rx; exact SeqAt.EqAt.str_bool a t' b
  | int b => obtain ⟨t, rfl⟩ := rx; exact SeqAt.EqAt.str_int a t' b t
  | str b => obtain ⟨t, rfl⟩ := rx; exact SeqAt.EqAt.str_str a t' b t
  | _ => exact absurd (show false = true from fx) Bool.false_ne_true
 | _ => exact absurd (show false = true from fy) Bool.false_ne_true
noncomputable def eqU (x : V) (u : Value) : Bool := match u with
 | .none => eqV .non x
 | .bool b => eqV (.bl b) x
 | .int i _ => eqV (.int i) x
 | .str z _ => eqV (.str z) x
 | _ => false
theorem eqU_of {x y : V} {u : Value} (r : RelV y u) (f : flatV y = true) : eqU x u = eqV y x := by
 cases y with
 | non => cases r; rfl
 | bl b => cases r; rfl
 | int i => obtain ⟨t, rfl⟩ := r; rfl
 | str z => obtain ⟨t, rfl⟩ := r; rfl
 | _ => exact absurd (show false = true from f) Bool.false_ne_true
theorem any_eqU {x : V} : ∀ {xs : List V} {us : List Value}, Vals xs us → xs.all flatV = true → us.any (eqU x) = xs.any fun y => eqV y x
 | _, _, .nil, _ => rfl
 | y :: xs, u :: us, .cons r t, f => by
  rw [List.all_cons, Bool.and_eq_true] at f
  rw [List.any_cons, List.any_cons, eqU_of r f.1, any_eqU t f.2]
theorem mem_eqAt {A : Around} {s : Shared} {x : V} {v : Value} (rx : RelV x v) (fx : flatV x = true) : ∀ {xs : List V} {us : List Value}, Vals xs us → xs.all flatV = true → ∀ u ∈ us, SeqAt.EqAt A s u v (eqU x u)
 | _, _, .nil, _ => fun u hu => by cases hu
 | y :: xs, u :: us, .cons r t, f => fun u' hu => by
  rw [List.all_cons, Bool.and_eq_true] at f
  rcases List.mem_cons.mp hu with rfl | hu
  · rw [eqU_of r f.1]; exact eqAt_V r rx f.1 fx
  · exact mem_eqAt rx fx t f.2 u' hu
noncomputable def inV (x : V) (xs : List V) : Bool := xs.any fun y => eqV y x
def rIn (K : PySem.W.Frag) (neg : Bool) : R2 := fun x y H Q => ∃ p xs, y = .ref p ∧ (SqL K H p xs ∨ SqT K H p xs) ∧ flatV x = true ∧ xs.all flatV = true ∧ Q (.bl (if neg then !inV x xs else inV x xs)) H
theorem op_notIn_seq : OpR X (compareOp .NotIn) (rIn X.K true) := by
 intro pins s σ H x y v u Q I rx ry h
 obtain ⟨p, xs, rfl, hq, fx, fs, q⟩ := h
 cases ry
 rcases hq with hq | hq
 · obtain ⟨its, r, pl, hz⟩ := I.list hq
   refine SeqAt.notIn_listAt (eqU x) pl.isList (fun w hw => mem_eqAt rx fx r fs w (by simpa using hw)) ⟨.bl _, H, I, rfl, ?_⟩
   rw [show its.toArray.any (eqU x) = its.any (eqU x) by simp, any_eqU r fs]
   exact q
 · obtain ⟨its, r, pl, hz⟩ := I.tuple hq
   refine SeqAt.notIn_tupleAt (eqU x) pl (fun w hw => mem_eqAt rx fx r fs w (by simpa using hw)) ⟨.bl _, H, I, rfl, ?_⟩
   rw [show its.toArray.any (eqU x) = its.any (eqU x) by simp, any_eqU r fs]
   exact q
theorem call_len_seq : CallR X (.builtin "len") (fun xs H Q => ∃ p ys, xs = [.ref p] ∧ (SqL X.K H p ys ∨ SqT X.K H p ys) ∧ Q (.int ys.length) H) := by
 intro pins s σ H xs us Q I r h
 obtain ⟨p, ys, rfl, hq, q⟩ := h
 obtain ⟨u, rfl, rx⟩ := vals1 r
 cases rx
 have hn := line63
 rcases hq with hq | hq
 · obtain ⟨its, r', pl, hz⟩ := I.list hq
   have hlen := r'.length
   exact Calls.call_len_list pl.isList (by simp only [List.size_toArray] <;> lia) ⟨.int ys.length, H, I.tok _, ⟨s.toks + 1, by rw [List.size_toArray, hlen]⟩, q⟩
 · obtain ⟨its, r', pl, hz⟩ := I.tuple hq
   have hlen := r'.length
   exact len_tuple pl (by simp only [List.size_toArray] <;> lia) ⟨.int ys.length, H, I.tok _, ⟨s.toks + 1, by rw [List.size_toArray, hlen]⟩, q⟩
theorem call_list_of : CallR X (.type "list") (fun xs H Q => ∃ p ys, xs = [.ref p] ∧ (SqL X.K H p ys ∨ SqT X.K H p ys) ∧ ∀ l, H l = none → Q (.ref l) (upd H l (.lst ys))) := by
 intro pins s σ H xs us Q I r h
 obtain ⟨p, ys, rfl, hq, q⟩ := h
 obtain ⟨u, rfl, rx⟩ := vals1 r
 cases rx
 have fin : ∀ (its : List Value), Vals ys its → ys.length ≤ sizeLine → ∀ (h' : Heap) (c' : Nat), (∀ b o', s.heap.get? b = some o' → h'.get? b = some o') →
   h'.get? s.heap.objs.size = some { cls := .type "list", dict := none, data := .seq its.toArray c', slots := #[] } → EP X pins σ Q (.ref s.heap.objs.size) { s with heap := h' } := fun its r' hz h' c' kp e =>
  ⟨.ref s.heap.objs.size, _, I.laid (t' := s.toks) kp (Nat.le_refl _) (show ObjOk X.prog X.w _ h' _ (.lst ys) from ⟨hz, its, c', r', e⟩), rfl, q _ (I.hok.fresh (Nat.le_refl _))⟩
 rcases hq with hq | hq
 · obtain ⟨its, r', pl, hz⟩ := I.list hq
   have hlen := r'.length
   obtain ⟨o, ho, hc, n, hd⟩ := pl.isList
   exact call_list_seq p (.inl rfl) ho hc hd (fun h' c' kp e => fin its r' hz h' c' kp e) (by simp only [List.size_toArray] <;> lia)
 · obtain ⟨its, r', pl, hz⟩ := I.tuple hq
   have hlen := r'.length
   obtain ⟨o, ho, hc, n, hd⟩ := pl
   exact call_list_seq p (.inr rfl) ho hc hd (fun h' c' kp e => fin its r' hz h' c' kp e) (by simp only [List.size_toArray] <;> lia)
theorem call_tuple_of : CallR X (.type "tuple") (fun xs H Q => ∃ p ys, xs = [.ref p] ∧ ((SqL X.K H p ys ∧ ∀ l, H l = none → Q (.ref l) (upd H l (.tup ys))) ∨ (SqT X.K H p ys ∧ Q (.ref p) H))) := by
 intro pins s σ H xs us Q I r h
 obtain ⟨p, ys, rfl, h⟩ := h
 obtain ⟨u, rfl, rx⟩ := vals1 r
 cases rx
 rcases h with ⟨hq, q⟩ | ⟨hq, q⟩
 · obtain ⟨its, r', pl, hz⟩ := I.list hq
   have hlen := r'.length
   refine call_tuple_list pl.isList (fun h' kp => ?_) (by simp only [List.size_toArray] <;> lia)
   have I1 : Inv X pins σ H { s with heap := h' } := I.kept (t' := s.toks) kp
   have I2 : Inv X pins σ (upd H h'.objs.size (.tup ys)) { s with heap := h'.push { cls := .type "tuple", data := .seq its.toArray } } :=
    I1.laid (t' := s.toks) (fun b o e => Heap.get?_push_of_some _ e) (Nat.le_refl _) (show ObjOk X.prog X.w _ _ _ (.tup ys) from ⟨hz, its, r', IsTp.new _ _⟩)
   exact ⟨.ref h'.objs.size, _, I2, rfl, q _ (I1.hok.fresh (Nat.le_refl _))⟩
 · obtain ⟨its, r', pl, hz⟩ := I.tuple hq
   exact call_tuple_same pl ⟨.ref p, H, I, rfl, q⟩
def tyV (K : PySem.W.Frag) (T : String) (x : V) (H : Hp) : Prop := match x with
 | .str _ => T = "str"
 | .int _ => T = "int"
 | .ref p => (T = "list" ∧ ∃ xs, SqL K H p xs) ∨ (T = "tuple" ∧ ∃ o, K.lookup p = some o ∧ o.cls = .type "tuple" ∧ o.dict = none) ∨
   (T = "dict" ∧ ((∃ kvs, H p = some (.dK kvs)) ∨ ∃ kvs, H p = some (.dT kvs))) ∨ (T = "set" ∧ ∃ S n, H p = some (.set S n)) ∨ (T = "tuple" ∧ ∃ xs, H p = some (.tup xs))
 | _ => False
theorem tyV_is {pins : List (Addr × Obj)} {σ : St} {H : Hp} {s : Shared} {T : String} {x : V} {v : Value} (I : Inv X pins σ H s) (r : RelV x v) (ty : tyV X.K T x H) :
  s.TypeIs v T ∧ ∀ a, v = .ref a → ∃ ob, s.heap.get? a = some ob ∧ ob.dict = none := by
 cases x with
 | str z =>
  obtain ⟨t, rfl⟩ := r
  cases (show T = "str" from ty)
  exact ⟨typeIs_str s z t, fun _ e => nomatch e⟩
 | int i =>
  obtain ⟨t, rfl⟩ := r
  cases (show T = "int" from ty)
  exact ⟨typeIs_int s i t, fun _ e => nomatch e⟩
 | ref p =>
  cases r
  rcases ty with ⟨rfl, xs, hq⟩ | ⟨rfl, o, hk, hc, hd⟩ | ⟨rfl, hk⟩ | ⟨rfl, S, n, hk⟩ | ⟨rfl, xs, hk⟩
  · obtain ⟨its, _, pl, _⟩ := I.list hq
    refine ⟨pl.isList.typeIs, fun a e => ?_⟩
    cases e
    obtain ⟨o, n, e, c, hd, _⟩ := pl
    exact ⟨o, e, hd⟩
  · refine ⟨⟨o, I.kIn p o hk, hc⟩, fun a e => ?_⟩
    cases e
    exact ⟨o, I.kIn _ o hk, hd⟩
  · have z : ∃ o, s.heap.get? p = some o ∧ o.ExactDict := by
      rcases hk with ⟨kvs, hk⟩ | ⟨kvs, hk⟩
      · obtain ⟨_, _, _, _, o, _, _, e, ex, _⟩ := I.hok p _ hk
        exact ⟨o, e, ex⟩
      · obtain ⟨_, _, _, _, o, _, _, e, ex, _⟩ := I.hok p _ hk
        exact ⟨o, e, ex⟩
    obtain ⟨o, e, ex⟩ := z
    refine ⟨⟨o, e, ex.1⟩, fun a e2 => ?_⟩
    cases e2
    exact ⟨o, e, ex.2.1⟩
  · obtain ⟨o, _, _, _, e, ex, _⟩ := I.hok p _ hk
    refine ⟨⟨o, e, ex.1⟩, fun a e2 => ?_⟩
    cases e2
    exact ⟨o, e, ex.2.1⟩
  · obtain ⟨_, _, _, o, e, c, dn, _⟩ := (show ObjOk X.prog X.w H s.heap p (.tup xs) from I.hok p _ hk)
    refine ⟨⟨o, e, c⟩, fun a e2 => ?_⟩
    cases e2
    exact ⟨o, e, dn⟩
 | _ => exact False.elim ty
def tBM0 (K : PySem.W.Frag) (T : String) (r : V → List V → Hp → VK → Prop) (to : TE) : TE := fun σ H Q => to σ H fun x H1 => tyV K T x H1 ∧ r x [] H1 Q
def tBM (K : PySem.W.Frag) (T : String) (r : V → List V → Hp → VK → Prop) (to : TE) (t : TA) : TE := fun σ H Q => to σ H fun x H1 => tyV K T x H1 ∧ t σ H1 fun xs H2 => r x xs H2 Q
variable {o e : Expr} {es : List Expr} {to : TE} {t : TA} {name : Str} {apos cpos : Pos} {T id : String} {r : V → List V → Hp → VK → Prop}
theorem pe_bm0 (pa : PlainAttrs T) (slot : Slot T name id) (hty : typeOf (.builtin id) = pure (.type "method_descriptor")) (hm : MtR X id r) (ho : PE X o to)
  (hbase : autoParam (attributeBase o name X.env (eval o X.env) = eval o X.env) au5._auto_1) (hline : autoParam ((apos.endLine == cpos.line) = true) au5._auto_1) : PE X (.Call (.Attribute o name apos) [] [] cpos) (tBM0 X.K T r to) := by
 intro pins s σ H Q I h
 refine wpAny_Call_method0_late hbase hline (thn (ho pins s σ H _ I h) fun v s1 zz88 => ?_)
 obtain ⟨x, H1, I1, r1, ty, q1⟩ := zz88
 obtain ⟨h1, h2⟩ := tyV_is I1 r1 ty
 exact ⟨T, id, pa, slot, hty, h1, h2, Calls.callWith_builtin rfl (PySem.evalArgs_none (hm pins s1 σ H1 x [] v [] Q I1 r1 .nil q1))⟩
theorem pe_bm (pa : PlainAttrs T) (slot : Slot T name id) (hty : typeOf (.builtin id) = pure (.type "method_descriptor")) (hm : MtR X id r) (ho : PE X o to) (ha : PA X (e :: es) t)
  (hbase : autoParam (attributeBase o name X.env (eval o X.env) = eval o X.env) au5._auto_1)
  (hfew : autoParam (((backTo cpos (starEach (e :: es) X.env)).all (fun x => !x.1) && (backToKw cpos (keywordEach [] X.env)).all (fun x => x.1.isSome)
   && decide ((e :: es).length + ([] : List Keyword).length + (if ([] : List Keyword).isEmpty then 0 else 1) < 30)) = true) au5._auto_1)
  (hline : autoParam ((apos.endLine == cpos.line) = true) au5._auto_1) (hs : autoParam (starEach (e :: es) X.env = (false, eval e X.env) :: starEach es X.env) au5._auto_1) (hplain : autoParam ((backTo cpos (starEach es X.env)).any (·.1) = false) au5._auto_1) :
  PE X (.Call (.Attribute o name apos) (e :: es) [] cpos) (tBM X.K T r to t) := by
 intro pins s σ H Q I h
 refine wpAny_Call_method_late hbase hfew hline rfl (thn (ho pins s σ H _ I h) fun v s1 zz89 => ?_)
 obtain ⟨x, H1, I1, r1, ty, q1⟩ := zz89
 obtain ⟨h1, h2⟩ := tyV_is I1 r1 ty
 refine ⟨T, id, pa, slot, hty, h1, h2, ?_⟩
 have hA := ha cpos pins s1 σ H1 _ I1 q1
 rw [hs] at hA ⊢
 refine Calls.callWith_builtin (by show (false || (backTo cpos (starEach es X.env)).any (·.1)) = false; rw [hplain] <;> rfl) (Calls.evalArgs_plain ?_)
 exact thn hA fun us s2 zz90 => (by obtain ⟨vs, H2, I2, r2, q2⟩ := zz90; exact (hm pins s2 σ H2 x vs v us Q I2 r1 r2 q2))
end
end L2
namespace L2
open PySem PySem.Spec PyProof.Rows
def MtM (X : Cx) (id : String) (r : V → List V → Hp → VK → Prop) : Prop :=
 ∀ (pins : List (Addr × Obj)) (s : Shared) (σ : St) (H : Hp) (x : V) (xs : List V) (v : Value) (us : List Value) (Q : VK), Inv X pins σ H s → RelV x v → Vals xs us → r x xs H Q →
  wpAny (model X.prog X.w) X.A (call (.builtin id) (v :: us)) (EP X pins σ Q) X.xe s
theorem Vals.one : ∀ {x : V} {us : List Value}, Vals [x] us → ∃ u, us = [u] ∧ RelV x u
 | _, _, .cons r .nil => ⟨_, rfl, r⟩
theorem Vals.zero : ∀ {us : List Value}, Vals [] us → us = []
 | _, .nil => rfl
theorem Vals.dropLast {xs : List V} {us : List Value} (h : Vals xs us) : Vals xs.dropLast us.dropLast := by
 induction h with
 | nil => exact .nil
 | cons r t ih =>
  cases t with
  | nil => exact .nil
  | cons q t' => exact .cons r ih
theorem Vals.rep {xs : List V} {us : List Value} (h : Vals xs us) : ∀ k : Nat, Vals (List.replicate k xs).flatten (List.replicate k us).flatten
 | 0 => .nil
 | k + 1 => by
  rw [List.replicate_succ, List.replicate_succ, List.flatten_cons, List.flatten_cons]
  exact Vals.append h (Vals.rep h k)
theorem erase_last {α : Type} (l : List α) : l.eraseIdx (l.length - 1) = l.dropLast := by
 induction l with
 | nil => rfl
 | cons a r ih =>
  cases r with
  | nil => rfl
  | cons b r =>
   have e : (a :: b :: r).length - 1 = ((b :: r).length - 1) + 1 := by
    have h1 : (a :: b :: r).length = r.length + 2 := rfl
    have h2 : (b :: r).length = r.length + 1 := rfl
    lia
   rw [e, List.eraseIdx_cons_succ, ih]
   all_goals rfl
theorem foldl_rep (its : List Value) : ∀ (k : Nat) (acc : List Value),
  List.foldl (fun x1 x2 => x1 ++ x2) acc.toArray (List.replicate k its.toArray) = (acc ++ (List.replicate k its).flatten).toArray
 | 0, acc => by simp
 | k + 1, acc => by
  have e : acc.toArray ++ its.toArray = (acc ++ its).toArray := by simp
  have e2 : (acc ++ its) ++ (List.replicate k its).flatten = acc ++ (List.replicate (k + 1) its).flatten := by
   rw [List.replicate_succ, List.flatten_cons, List.append_assoc]
  rw [← e2, ← foldl_rep its k (acc ++ its), ← e, List.replicate_succ, List.foldl_cons]
section
variable {X : Cx} {pins : List (Addr × Obj)} {σ : St} {H : Hp} {s : Shared} {l b : Addr} {xs ys zs : List V}
theorem Inv.lset {its its' : List Value} {n : Nat} {f : Array Value → Array Value} {t' : Nat} (I : Inv X pins σ H s) (hH : H l = some (.lst xs))
  (e : s.heap.get? l = some { cls := .type "list", data := .seq its.toArray n }) (hf : f its.toArray = its'.toArray) (hv : Vals ys its') (hz : ys.length ≤ sizeLine) :
  Inv X pins σ (upd H l (.lst ys)) { s with heap := s.heap.update l (Obj.mapSeq f), toks := t' } := by
 have q := PySem.IsL.update e f
 rw [hf] at q
 refine I.write (x := l) (e := l) (by rw [hH]; exact trivial) (.inl rfl) (fun b' u hb hu => (Heap.get?_update_other s.heap (Obj.mapSeq f) (Ne.symm hb)).trans hu) ⟨_, q⟩ ?_
 exact ⟨hz, its', _, hv, q⟩
theorem Inv.lnew {its : List Value} {t' : Nat} (I : Inv X pins σ H s) (hv : Vals ys its) (hz : ys.length ≤ sizeLine) :
  Inv X pins σ (upd H s.heap.objs.size (.lst ys)) { s with heap := s.heap.push { cls := .type "list", data := .seq its.toArray }, toks := t' } :=
 I.laid (fun _ _ q => Heap.get?_push_of_some _ q) (Nat.le_refl _) ⟨hz, its, 0, hv, Heap.get?_push_size _ rfl⟩
theorem Inv.fresh (I : Inv X pins σ H s) : H s.heap.objs.size = none := I.hok.fresh (Nat.le_refl _)
theorem Inv.lstM (I : Inv X pins σ H s) (hH : H l = some (.lst xs)) : xs.length ≤ sizeLine ∧ ∃ (its : List Value) (n : Nat), Vals xs its ∧ xs.length = its.length ∧ s.heap.get? l = some { cls := .type "list", data := .seq its.toArray n } := by
 obtain ⟨z, its, n, r, e⟩ := I.hok l _ hH
 exact ⟨z, its, n, r, r.length, e⟩
theorem notLongL {n : Nat} (h : n ≤ sizeLine) : Builtin.List.listTooLong n = false := by
 unfold Builtin.List.listTooLong
 exact decide_eq_false (by lia)
end
section
variable {X : Cx}
def rAppend : V → List V → Hp → VK → Prop := fun x vs H Q => ∃ l xs y, x = .ref l ∧ vs = [y] ∧ H l = some (.lst xs) ∧ xs.length < sizeLine ∧ Q .non (upd H l (.lst (xs ++ [y])))
theorem mt_append : MtM X "list.append" rAppend := by
 intro pins s σ H x vs v us Q I rx rv h
 obtain ⟨l, xs, y, rfl, rfl, hH, hz, q⟩ := h
 cases rx
 obtain ⟨u, rfl, ru⟩ := rv.one
 obtain ⟨z, its, n, r, hl, e⟩ := I.lstM hH
 refine call_meets F.slot_list_append ⟨_, e, rfl⟩ F.entry_list_append (F.args_list_append_2 _ _) (PySem.list_append l its.toArray n u (by rw [List.size_toArray]; lia)) ⟨e, ?_⟩
 refine ⟨.non, _, I.lset (its' := its ++ [u]) hH e (by simp) (r.append (.cons ru .nil)) ?_, rfl, q⟩
 rw [List.length_append, List.length_singleton]
 lia
def rPop : V → List V → Hp → VK → Prop := fun x vs H Q => ∃ l xs y, x = .ref l ∧ vs = [] ∧ H l = some (.lst xs) ∧ xs[xs.length - 1]? = some y ∧ Q y (upd H l (.lst xs.dropLast))
theorem mt_pop : MtM X "list.pop" rPop := by
 intro pins s σ H x vs v us Q I rx rv h
 obtain ⟨l, xs, y, rfl, rfl, hH, hy, q⟩ := h
 cases rx
 have hus := rv.zero
 subst hus
 obtain ⟨z, its, n, r, hl, e⟩ := I.lstM hH
 obtain ⟨u, hu, ru⟩ := r.get hy
 have hy' : its.toArray[its.toArray.size - 1]? = some u := by
  show its.toArray[its.length - 1]? = some u
  rw [← Array.getElem?_toList, ← hl]
  exact hu
 refine call_meets F.slot_list_pop ⟨_, e, rfl⟩ F.entry_list_pop (F.args_list_pop_1 _) (MeetsSeq.list_pop_last l its.toArray n u hy' (by rw [List.size_toArray]; lia)) ⟨e, ?_⟩
 refine ⟨y, _, I.lset (its' := its.dropLast) hH e ?_ r.dropLast ?_, ru, q⟩
 · show its.toArray.eraseIdxIfInBounds (its.toArray.size - 1) = its.dropLast.toArray
   rw [List.size_toArray, List.eraseIdxIfInBounds_toArray, erase_last]
 · rw [List.length_dropLast]
   lia
def rCat : R2 := fun x y H Q => ∃ l b xs zs, x = .ref l ∧ y = .ref b ∧ H l = some (.lst xs) ∧ H b = some (.lst zs) ∧ xs.length + zs.length ≤ sizeLine ∧ ∀ p, H p = none → Q (.ref p) (upd H p (.lst (xs ++ zs)))
theorem op_cat : OpR X (binaryOp .Add) rCat := by
 intro pins s σ H x y v u Q I rx ry h
 obtain ⟨l, b, xs, zs, rfl, rfl, hH, hB, hz, q⟩ := h
 cases rx
 cases ry
 obtain ⟨z, its, n, r, hl, e⟩ := I.lstM hH
 obtain ⟨z2, its2, n2, r2, hl2, e2⟩ := I.lstM hB
 refine PySem.P.add_list e e2 ?_ (by rw [List.size_toArray, List.size_toArray]; lia)
 have ea : its.toArray ++ its2.toArray = (its ++ its2).toArray := by simp
 rw [ea]
 exact ⟨.ref _, _, I.lnew (t' := s.toks) (r.append r2) (by rw [List.length_append]; lia), rfl, q _ I.fresh⟩
def rRep : R2 := fun x y H Q => ∃ l k xs, x = .ref l ∧ y = .int k ∧ H l = some (.lst xs) ∧ -(2 ^ 63) ≤ k ∧ k < 2 ^ 63 ∧ xs.length * k.toNat ≤ sizeLine ∧
 ∀ p, H p = none → Q (.ref p) (upd H p (.lst (List.replicate k.toNat xs).flatten))
theorem len_rep {α : Type} (xs : List α) (k : Nat) : (List.replicate k xs).flatten.length = k * xs.length := by
 induction k with
 | zero => simp
 | succ k ih => rw [List.replicate_succ, List.flatten_cons, List.length_append, ih, Nat.succ_mul, Nat.add_comm]
theorem op_rep : OpR X (binaryOp .Mult) rRep := by
 intro pins s σ H x y v u Q I rx ry h
 obtain ⟨l, k, xs, rfl, rfl, hH, h1, h2, hz, q⟩ := h
 cases rx
 obtain ⟨t, rfl⟩ := ry
 obtain ⟨z, its, n, r, hl, e⟩ := I.lstM hH
 have hlen : its.toArray.size * k.toNat ≤ sizeLine := by rw [List.size_toArray, ← hl]; exact hz
 have hcap : ¬ its.toArray.size * k.toNat > (2 ^ 63 - 1) / 8 := by
  have : (sizeLine : Nat) ≤ (2 ^ 63 - 1) / 8 := by decide
  lia
 have hfit : ¬ (!Builtin.List.listFitsIndex k) = true := by
  rw [fitsIndex_both h1 h2]
  exact Bool.false_ne_true
 have hlong : ¬ Builtin.List.listTooLong (its.toArray.size * k.toNat) = true := by
  rw [notLongL hlen]
  exact Bool.false_ne_true
 have hnew : List.foldl (fun x1 x2 => x1 ++ x2) #[] (List.replicate (if its.toArray.isEmpty = true then 0 else k.toNat) its.toArray) = (List.replicate k.toNat its).flatten.toArray := by
  have f0 : ∀ m : Nat, List.foldl (fun x1 x2 => x1 ++ x2) #[] (List.replicate m its.toArray) = (List.replicate m its).flatten.toArray := fun m => by
   have := foldl_rep its m []
   rw [List.nil_append] at this
   exact this
  rw [f0]
  cases its with
  | nil => simp
  | cons a r' => rw [if_neg (by simp)]
 refine wpAny_binaryOp_repeat_ref (T := "list") (U := "int") (by decide) ⟨_, e, rfl⟩ (fun s' => typeIs_int s' k t) noFill_list_mul F.fills_int_mul F.slot_int_rmul repeat_list F.slot_int_index.lookup
  (call_meets F.slot_int_rmul (typeIs_int s k t) F.entry_int_rmul (F.args_int_rmul_2 _ _) (int___rmul___int_list k t l its.toArray n)
   ⟨e, rfl, ⟨_, e, rfl⟩, call_meets F.slot_list_mul ⟨_, e, rfl⟩ F.entry_list_mul (F.args_list_mul_2 _ _) (AutoListH.list___mul___list_int_3 l its.toArray n k t hfit hcap hlong) ⟨e, ?_⟩⟩)
 rw [hnew]
 exact ⟨.ref _, _, I.lnew (t' := s.toks) (r.rep k.toNat) (by rw [len_rep, Nat.mul_comm]; exact hz), rfl, q _ I.fresh⟩
end
end L2
namespace L2
open PySem PySem.Spec PyProof.Rows
section
variable {κ : Type} [DecidableEq κ]
noncomputable def valV (kvs : List (κ × V)) (k : κ) : Option V := (kvs.find? fun kv => decide (kv.1 = k)).map (·.2)
noncomputable def putK (kvs : List (κ × V)) (k : κ) (v : V) : List (κ × V) :=
 if (kvs.any fun kv => decide (kv.1 = k)) = true then kvs.map (fun kv => if kv.1 = k then (kv.1, v) else kv) else kvs ++ [(k, v)]
theorem valV_pos {p : κ × V} {r : List (κ × V)} {k : κ} (e : p.1 = k) : valV (p :: r) k = some p.2 := by simp [valV, List.find?_cons, e]
theorem valV_neg {p : κ × V} {r : List (κ × V)} {k : κ} (e : ¬ p.1 = k) : valV (p :: r) k = valV r k := by simp [valV, List.find?_cons, e]
theorem valV_any (k : κ) : ∀ kvs : List (κ × V), (kvs.any fun kv => decide (kv.1 = k)) = (valV kvs k).isSome
 | [] => rfl
 | p :: r => by
  rw [List.any_cons]
  by_cases e : p.1 = k
  · simp only [valV_pos e, decide_eq_true e, Bool.true_or, Option.isSome_some]
  · rw [valV_neg e, decide_eq_false e, Bool.false_or]; exact valV_any k r
theorem length_putK (kvs : List (κ × V)) (k : κ) (v : V) : (putK kvs k v).length ≤ kvs.length + 1 := by
 unfold putK
 split
 · rw [List.length_map]; lia
 · rw [List.length_append, List.length_cons, List.length_nil]; lia
theorem RelO.isSome_eq {o : Option V} {u : Option Value} (r : RelO o u) : o.isSome = u.isSome := by
 cases o with
 | none => cases u with
  | none => rfl
  | some _ => exact (show False from r).elim
 | some _ => cases u with
  | none => exact (show False from r).elim
  | some _ => rfl
theorem KV.val {kvs : List (κ × V)} {vs : List (κ × Value)} (r : KV kvs vs) (k : κ) : RelO (valV kvs k) (valueAt vs k) := by
 unfold KV at r
 induction r with
 | nil => exact True.intro
 | @cons p q ps qs h t ih =>
  obtain ⟨h1, h2⟩ := h
  by_cases e : p.1 = k
  · have e' : q.1 = k := h1.symm.trans e
    have b : valueAt (q :: qs) k = some q.2 := by simp [valueAt, List.find?_cons, e']
    rw [valV_pos e, b]; exact h2
  · have e' : ¬ q.1 = k := fun z => e (h1.trans z)
    have b : valueAt (q :: qs) k = valueAt qs k := by simp [valueAt, List.find?_cons, e']
    rw [valV_neg e, b]; exact ih
theorem KV.any {kvs : List (κ × V)} {vs : List (κ × Value)} (r : KV kvs vs) (k : κ) : (kvs.any fun kv => decide (kv.1 = k)) = vs.any fun kv => decide (kv.1 = k) := by
 unfold KV at r
 induction r with
 | nil => rfl
 | cons h t ih => rw [List.any_cons, List.any_cons, ih, h.1]
theorem KV.repl {kvs : List (κ × V)} {vs : List (κ × Value)} (r : KV kvs vs) (k : κ) {y : V} {u : Value} (ry : RelV y u) :
  KV (kvs.map fun kv => if kv.1 = k then (kv.1, y) else kv) (vs.map fun kv => if kv.1 = k then (kv.1, u) else kv) := by
 unfold KV at r ⊢
 induction r with
 | nil => exact .nil
 | @cons p q ps qs h t ih =>
  rw [List.map_cons, List.map_cons]
  refine .cons ?_ ih
  obtain ⟨h1, h2⟩ := h
  by_cases e : p.1 = k
  · rw [if_pos e, if_pos (h1.symm.trans e)]; exact ⟨h1, ry⟩
  · rw [if_neg e, if_neg (fun z => e (h1.trans z))]; exact ⟨h1, h2⟩
theorem KV.put {kvs : List (κ × V)} {vs : List (κ × Value)} (r : KV kvs vs) (k : κ) {y : V} {u : Value} (ry : RelV y u) : KV (putK kvs k y) (stored vs k u) := by
 unfold putK stored
 rw [r.any k]
 by_cases e : (vs.any fun kv => decide (kv.1 = k)) = true
 · rw [if_pos e, if_pos e]; exact r.repl k ry
 · rw [if_neg e, if_neg e]; exact Paired.snoc r ⟨rfl, ry⟩
theorem KV.length {kvs : List (κ × V)} {vs : List (κ × Value)} (r : KV kvs vs) : kvs.length = vs.length := Paired.length r
end
theorem kV_is {P : Program} {w : World} {k : Key} {u : Value} (r : RelV (kV k) u) : (mixKind P w).is k u = true := by
 cases k with
 | inl i => obtain ⟨t, e⟩ := (show ∃ t, u = Value.int i t from r); subst e; exact mixKind_int P w i t
 | inr x => obtain ⟨t, e⟩ := (show ∃ t, u = Value.str x t from r); subst e; exact mixKind_str P w x t
theorem items_are {P : Program} {w : World} : ∀ {ks : List Key} {us : List Value}, Vals (ks.map kV) us → ItemsAre (mixKind P w) ks us
 | [], _, r => by rw [List.map_nil] at r; cases r; exact .nil
 | k :: ks, _, r => by
  rw [List.map_cons] at r
  cases r with
  | cons h t => exact .cons (kV_is h) (items_are t)
abbrev KT (H : Hp) : List (List Key × V) → List (List Key × Addr × Value) → Prop := Paired fun p q => p.1 = q.1 ∧ H q.2.1 = some (.tup (p.1.map kV)) ∧ RelV p.2 q.2.2
theorem KT.val {H : Hp} {kvs : List (List Key × V)} {xs : List (List Key × Addr × Value)} (r : KT H kvs xs) (k : List Key) : RelO (valV kvs k) ((atKey xs k).map (·.2)) := by
 induction r with
 | nil => exact True.intro
 | @cons p q ps qs h t ih =>
  obtain ⟨h1, _, h2⟩ := h
  by_cases e : p.1 = k
  · have e' : q.1 = k := h1.symm.trans e
    have b : atKey (q :: qs) k = some q.2 := by simp [atKey, List.find?_cons, e']
    rw [valV_pos e, b]; exact h2
  · have e' : ¬ q.1 = k := fun z => e (h1.trans z)
    have b : atKey (q :: qs) k = atKey qs k := by simp [atKey, List.find?_cons, e']
    rw [valV_neg e, b]; exact ih
theorem KT.repl {H : Hp} {kvs : List (List Key × V)} {xs : List (List Key × Addr × Value)} (r : KT H kvs xs) (k : List Key) {y : V} {u : Value} (ry : RelV y u) :
  KT H (kvs.map fun kv => if kv.1 = k then (kv.1, y) else kv) (xs.map (putAt k u)) := by
 induction r with
 | nil => exact .nil
 | @cons p q ps qs h t ih =>
  rw [List.map_cons, List.map_cons]
  refine .cons ?_ ih
  obtain ⟨h1, h2, h3⟩ := h
  unfold putAt
  by_cases e : p.1 = k
  · rw [if_pos e, if_pos (h1.symm.trans e)]; exact ⟨h1, h2, ry⟩
  · rw [if_neg e, if_neg (fun z => e (h1.trans z))]; exact ⟨h1, h2, h3⟩
theorem KT.put {H : Hp} {kvs : List (List Key × V)} {xs : List (List Key × Addr × Value)} (r : KT H kvs xs) (k : List Key) {b : Addr} {y : V} {u : Value} (hb : H b = some (.tup (k.map kV))) (ry : RelV y u) :
  KT H (putK kvs k y) (storedH xs k b u) := by
 have e : (kvs.any fun kv => decide (kv.1 = k)) = (atKey xs k).isSome := by
  rw [valV_any, (r.val k).isSome_eq, Option.isSome_map]
 unfold putK storedH
 rw [e]
 by_cases q : (atKey xs k).isSome = true
 · rw [if_pos q, if_pos q]; exact r.repl k ry
 · rw [if_neg q, if_neg q]; exact Paired.snoc r ⟨rfl, hb, ry⟩
theorem KT.keeps {H H' : Hp} {kvs : List (List Key × V)} {xs : List (List Key × Addr × Value)} (r : KT H kvs xs) (ht : ∀ b ys, H b = some (.tup ys) → H' b = some (.tup ys)) : KT H' kvs xs :=
 Paired.mapP r fun _ _ z => ⟨z.1, ht _ _ z.2.1, z.2.2⟩
section
variable {P : Program} {w : World} {H : Hp} {h : Heap} {a : Addr}
theorem rd_of {u : HO} (ok : HOk P w H h) (e : Rd H a u) : ObjOk P w H h a u := e.ok ok
theorem dk_rd {kvs : List (Key × V)} (ok : HOk P w H h) (e : Rd H a (.dK kvs)) : kvs.length ≤ sizeLine ∧ (a == sysModules) = false ∧ ∃ vs, KV kvs vs ∧ h.DictOf (mixKind P w) a vs :=
 show ObjOk P w H h a (.dK kvs) from rd_of ok e
theorem dk_of {kvs : List (Key × V)} (ok : HOk P w H h) (e : H a = some (.dK kvs)) : kvs.length ≤ sizeLine ∧ (a == sysModules) = false ∧ ∃ vs, KV kvs vs ∧ h.DictOf (mixKind P w) a vs := dk_rd ok (.inl e)
theorem key_of {ks : List Key} (ok : HOk P w H h) (e : H a = some (.tup (ks.map kV))) : (tupleKind (mixKind P w)).is h ks a := by
 obtain ⟨_, its, r, o, h1, h2, _, n, h3⟩ := (show ObjOk P w H h a (.tup (ks.map kV)) from ok a _ e)
 exact ⟨o, its.toArray, n, h1, h2, h3, by simpa using items_are r⟩
theorem dt_rd {kvs : List (List Key × V)} (ok : HOk P w H h) (e : Rd H a (.dT kvs)) : kvs.length ≤ sizeLine ∧ (a == sysModules) = false ∧
  ∃ xs, KT H kvs xs ∧ h.DictOfH (tupleKind (mixKind P w)) a xs := by
 obtain ⟨z, y, xs, r, o, es, ep, h1, h2, h3, h4, h5⟩ := (show ObjOk P w H h a (.dT kvs) from rd_of ok e)
 refine ⟨z, y, xs, r, o, es, ep, h1, h2, h3, h4, fun x hx => ?_, h5⟩
 have all : ∀ {l : List (List Key × V)} {m : List (List Key × Addr × Value)}, KT H l m → ∀ x ∈ m, (tupleKind (mixKind P w)).is h x.1 x.2.1 := by
  intro l m q
  induction q with
  | nil => intro x hx; exact nomatch hx
  | @cons p q ps qs hq t ih =>
   intro x hx
   rcases List.mem_cons.mp hx with e | hx
   · subst e
     exact key_of ok (by rw [← hq.1]; exact hq.2.1)
   · exact ih x hx
 exact all r x hx
theorem dt_of {kvs : List (List Key × V)} (ok : HOk P w H h) (e : H a = some (.dT kvs)) : kvs.length ≤ sizeLine ∧ (a == sysModules) = false ∧
  ∃ xs, KT H kvs xs ∧ h.DictOfH (tupleKind (mixKind P w)) a xs := dt_rd ok (.inl e)
end
def DGet (H : Hp) (a : Addr) (y : V) (r : Option V) : Prop :=
 (∃ kvs k, Rd H a (.dK kvs) ∧ y = kV k ∧ r = valV kvs k) ∨ ∃ kvs k b, Rd H a (.dT kvs) ∧ y = .ref b ∧ H b = some (.tup (k.map kV)) ∧ r = valV kvs k
def DPut (H : Hp) (a : Addr) (y v : V) (H' : Hp) : Prop :=
 (∃ kvs k, H a = some (.dK kvs) ∧ y = kV k ∧ kvs.length < sizeLine ∧ H' = upd H a (.dK (putK kvs k v))) ∨
 ∃ kvs k b, H a = some (.dT kvs) ∧ y = .ref b ∧ H b = some (.tup (k.map kV)) ∧ kvs.length < sizeLine ∧ H' = upd H a (.dT (putK kvs k v))
theorem DGet.k {H : Hp} {a : Addr} {kvs : List (Key × V)} {k : Key} (e : H a = some (.dK kvs)) : DGet H a (kV k) (valV kvs k) := .inl ⟨kvs, k, .inl e, rfl, rfl⟩
theorem DPut.k {H : Hp} {a : Addr} {kvs : List (Key × V)} {k : Key} {v : V} (e : H a = some (.dK kvs)) (hl : kvs.length < sizeLine) : DPut H a (kV k) v (upd H a (.dK (putK kvs k v))) := .inl ⟨kvs, k, e, rfl, hl, rfl⟩
section
variable {X : Cx} {pins : List (Addr × Obj)} {σ : St} {H : Hp} {s : Shared} {a : Addr} {y v : V} {u r : Value} {o : Option V} {A : Around} {E : Value → Shared → Prop}
theorem Inv.big (I : Inv X pins σ H s) : sysModules < s.heap.objs.size := by
 have h : mainGlobals < s.heap.objs.size := (I.mod.glob.keeps I.bk).lt
 exact Nat.lt_trans (by decide) h
theorem d_getItem {Q : Value → Shared → Prop} (hu : A.units + 1 < cLine) (I : Inv X pins σ H s) (g : DGet H a y (some v)) (ry : RelV y u) (h : ∀ w' s', Inv X pins σ H s' → RelV v w' → Q w' s') :
  wpAny (model X.prog X.w) A (getItem (.ref a) u) Q E s := by
 rcases g with ⟨kvs, k, e, ey, l⟩ | ⟨kvs, k, b, e, ey, eb, l⟩
 · subst ey
   obtain ⟨z, hd, vs, rel, dd⟩ := dk_rd I.hok e
   obtain ⟨w', hw, rw'⟩ := RelO.some_of (v := v) (o := valueAt vs k) (by rw [l]; exact rel.val k)
   exact wpAny_getItem_of (kV_is ry) dd.mapOf hw (h w' _ (I.tok _) rw')
 · subst ey
   cases (show u = Value.ref b from ry)
   obtain ⟨z, hd, xs, rel, dd⟩ := dt_rd I.hok e
   obtain ⟨w', hw, rw'⟩ := RelO.some_of (v := v) (o := (atKey xs k).map (·.2)) (by rw [l]; exact rel.val k)
   obtain ⟨p, hp, hp2⟩ := Option.map_eq_some_iff.mp hw
   refine wpAny_getItem_heap (tupleKind_room_in1 hu) (key_of I.hok eb) dd hp ?_
   rw [hp2]
   exact h w' _ (I.tok _) rw'
theorem d_in {Q : Value → Shared → Prop} (hu : A.units + 1 < cLine) (I : Inv X pins σ H s) (g : DGet H a y o) (ry : RelV y u) (h : ∀ s', Inv X pins σ H s' → Q (.bool o.isSome) s') :
  wpAny (model X.prog X.w) A (compareOp .In u (.ref a)) Q E s := by
 rcases g with ⟨kvs, k, e, ey, l⟩ | ⟨kvs, k, b, e, ey, eb, l⟩
 · subst ey
   obtain ⟨z, hd, vs, rel, dd⟩ := dk_rd I.hok e
   refine wpAny_in_of (kV_is ry) hd dd.mapOf ?_
   rw [← (rel.val k).isSome_eq, ← l]
   exact h _ (I.tok _)
 · subst ey
   cases (show u = Value.ref b from ry)
   obtain ⟨z, hd, xs, rel, dd⟩ := dt_rd I.hok e
   refine wpAny_in_heap (tupleKind_room_in1 hu) (key_of I.hok eb) hd dd ?_
   have q := (rel.val k).isSome_eq
   rw [Option.isSome_map] at q
   rw [← q, ← l]
   exact h _ (I.tok _)
theorem d_notIn {Q : Value → Shared → Prop} (hu : A.units + 1 < cLine) (I : Inv X pins σ H s) (g : DGet H a y o) (ry : RelV y u) (h : ∀ s', Inv X pins σ H s' → Q (.bool (!o.isSome)) s') :
  wpAny (model X.prog X.w) A (compareOp .NotIn u (.ref a)) Q E s := by
 rcases g with ⟨kvs, k, e, ey, l⟩ | ⟨kvs, k, b, e, ey, eb, l⟩
 · subst ey
   obtain ⟨z, hd, vs, rel, dd⟩ := dk_rd I.hok e
   refine wpAny_notIn_of (kV_is ry) hd dd.mapOf ?_
   rw [← (rel.val k).isSome_eq, ← l]
   exact h _ (I.tok _)
 · subst ey
   cases (show u = Value.ref b from ry)
   obtain ⟨z, hd, xs, rel, dd⟩ := dt_rd I.hok e
   refine wpAny_notIn_heap (tupleKind_room_in1 hu) (key_of I.hok eb) hd dd ?_
   have q := (rel.val k).isSome_eq
   rw [Option.isSome_map] at q
   rw [← q, ← l]
   exact h _ (I.tok _)
theorem d_write {h' : Heap} {t' : Nat} {ob : HO} (I : Inv X pins σ H s) (mu : Mut (H a)) (hs : Heap.SameBut a s.heap h') (he : ∃ q, h'.get? a = some q) (new : ObjOk X.prog X.w (upd H a ob) h' a ob) :
  Inv X pins σ (upd H a ob) { s with heap := h', toks := t' } :=
 I.write (x := a) (e := a) mu (.inl rfl) (fun b q hb z => (hs.2 b hb).trans z) he new
theorem dk_new {P : Program} {w : World} {H' : Hp} {h' : Heap} {kvs : List (Key × V)} {vs : List (Key × Value)} (z : kvs.length ≤ sizeLine) (hd : (a == sysModules) = false) (rel : KV kvs vs) (dd : h'.DictOf (mixKind P w) a vs) :
  ObjOk P w H' h' a (.dK kvs) := ⟨z, hd, vs, rel, dd⟩
theorem d_setItem {H' : Hp} {Q : Unit → Shared → Prop} (hu : A.units + 1 < cLine) (I : Inv X pins σ H s) (g : DPut H a y v H') (ry : RelV y u) (rv : RelV v r) (h : ∀ s', Inv X pins σ H' s' → Q () s') :
  wpAny (model X.prog X.w) A (setItem (.ref a) u r) Q E s := by
 rcases g with ⟨kvs, k, e, ey, l, eH⟩ | ⟨kvs, k, b, e, ey, eb, l, eH⟩
 · subst ey eH
   obtain ⟨z, hd, vs, rel, dd⟩ := dk_of I.hok e
   have hz : vs.length ≤ sizeLine := by rw [← rel.length]; exact z
   have hl : (putK kvs k v).length ≤ sizeLine := by have := length_putK kvs k v; lia
   refine wpAny_setItem_pairs (hsz := hz) (kV_is ry) dd fun h' dd' hs => h _ ?_
   have he : ∃ q, h'.get? a = some q := let ⟨q, _, _, hq, _⟩ := dd'; ⟨q, hq⟩
   exact d_write I (by rw [e]; exact True.intro) hs he (dk_new hl hd (rel.put k rv) dd')
 · subst ey eH
   cases (show u = Value.ref b from ry)
   obtain ⟨z, hd, xs, rel, dd⟩ := dt_of I.hok e
   have hz : xs.length ≤ sizeLine := by rw [← Paired.length rel]; exact z
   have hl : (putK kvs k v).length ≤ sizeLine := by have := length_putK kvs k v; lia
   refine wpAny_setItem_heap (hsz := hz) (tupleKind_room_in1 hu) (key_of I.hok eb) dd fun h' dd' hs => h _ ?_
   obtain ⟨q, es, ep, hq, h2, h3, h4, _, h5⟩ := dd'
   refine d_write I (by rw [e]; exact True.intro) hs ⟨q, hq⟩ ⟨hl, hd, _, (rel.put k eb rv).keeps fun c ys ec => ?_, q, es, ep, hq, h2, h3, h4, h5⟩
   rw [upd_ne (ne_of ec e (fun z => nomatch z))]
   exact ec
end
section
variable {X : Cx} {pins : List (Addr × Obj)} {σ : St} {H : Hp} {s : Shared} {a : Addr} {kvs : List (Key × V)} {k : Key} {u : Value} {A : Around} {E : Value → Shared → Prop}
theorem d_len {Q : Value → Shared → Prop} (I : Inv X pins σ H s) (e : Rd H a (.dK kvs)) (h : ∀ t s', Inv X pins σ H s' → Q (.int kvs.length t) s') : wpAny (model X.prog X.w) A (call (.builtin "len") [.ref a]) Q E s := by
 obtain ⟨z, hd, vs, rel, dd⟩ := dk_rd I.hok e
 refine call_len_dict hd dd (by rw [← rel.length]; rw [sizeLine_eq] at z; lia) ?_
 rw [← rel.length]
 exact h _ _ (I.tok _)
end
def NoSl (i : Expr) : Prop := ∀ ov iv, subscripted i false ov iv = operate [ov, iv] (getItem ov iv)
theorem subD_of {prog : Program} {w : World} {A : Around} {E : Value → Shared → Prop} {s : Shared} {env : Env} {value slice : Expr} {pos : Pos} {T id : String} {Q : Value → Shared → Prop}
  (hl : typeLookup (.type T) "__getitem__" = pure (some (.builtin id))) (hs : NoSl slice)
  (h : wpAny (model prog w) A (eval value env) (fun o s₁ => wpAny (model prog w) A (eval slice env) (fun i s₂ => s₂.TypeIs o T ∧ wpAny (model prog w) A (getItem o i) Q E s₂) E s₁) E s) :
  wpAny (model prog w) A (eval (.Subscript value slice pos) env) Q E s := by
 refine Subscript_ (wpAny_mono h (fun o s₁ h₁ => wpAny_mono h₁ (fun i s₂ h₂ => ?_) fun _ _ x => x) fun _ _ x => x)
 obtain ⟨hT, h₂⟩ := h₂
 unfold subscriptTail
 refine wpAny_bind ?_
 rw [getitemInPython_of_ne hT.not_modules]
 refine wpAny_bind (wpAny_specialOf hT hl ?_)
 have fin : wpAny (model prog w) A (subscripted slice false o i) (fun r s₃ => wpAny (model prog w) A (letTemporaryGo value o r >>= fun _ => pure r) Q E s₃) E s₂ := by
  rw [hs o i]
  exact wpAny_operating (wpAny_mono h₂ (fun r s₃ h₃ => wpAny_bind (wpAny_letTemporaryGo (wpAny_pure h₃))) fun _ _ x => x)
 first
  | exact wpAny_pure (wpAny_bind fin)
  | exact wpAny_bind (wpAny_pure (wpAny_bind fin))
  | exact wpAny_bind fin
theorem dict_typeIs {X : Cx} {pins : List (Addr × Obj)} {σ : St} {H : Hp} {s : Shared} {a : Addr} {y : V} {o : Option V} (I : Inv X pins σ H s) (g : DGet H a y o) : s.TypeIs (.ref a) "dict" := by
 rcases g with ⟨kvs, k, e, _, _⟩ | ⟨kvs, k, b, e, _, _, _⟩
 · obtain ⟨_, _, vs, _, dd⟩ := dk_rd I.hok e
   exact dd.typeIs
 · obtain ⟨_, _, xs, _, dd⟩ := dt_rd I.hok e
   exact dd.typeIs
def tDGet (td ty : TE) : TE := fun σ H Q => td σ H fun x H1 => ty σ H1 fun y H2 => ∃ a v, x = .ref a ∧ DGet H2 a y (some v) ∧ Q v H2
def tDIn (ty td : TE) : TE := fun σ H Q => ty σ H fun y H1 => td σ H1 fun x H2 => ∃ a o, x = .ref a ∧ DGet H2 a y o ∧ Q (.bl o.isSome) H2
def tDNotIn (ty td : TE) : TE := fun σ H Q => ty σ H fun y H1 => td σ H1 fun x H2 => ∃ a o, x = .ref a ∧ DGet H2 a y o ∧ Q (.bl (!o.isSome)) H2
def sDPut (td ty tv : TE) : TS := fun D σ H => tv σ H fun v H1 => td σ H1 fun x H2 => ty σ H2 fun y H3 => ∃ a H4, x = .ref a ∧ DPut H3 a y v H4 ∧ D.nx σ H4
section
variable {X : Cx} {o i e value : Expr} {pos pos' tpos : Pos} {td ty tv : TE}
theorem pe_dget (hu : X.A.units + 1 < cLine) (ho : PE X o td) (hi : PE X i ty) (hs : NoSl i) : PE X (.Subscript o i pos) (tDGet td ty) := by
 intro pins s σ H Q I h
 refine subD_of PySem.F.slot_dict_getitem.lookup hs (thn (ho pins s σ H _ I h) fun u s1 ⟨x, H1, I1, rx, q1⟩ => thn (hi pins s1 σ H1 _ I1 q1) fun iv s2 zz92 => ?_)
 obtain ⟨y, H2, I2, ry, a, v, ex, g, q2⟩ := zz92
 subst ex
 obtain rfl : u = Value.ref a := rx
 exact ⟨dict_typeIs I2 g, d_getItem hu I2 g ry fun w' s3 I3 rw' => ⟨v, H2, I3, rw', q2⟩⟩
theorem pc_din (hu : X.A.units + 1 < cLine) (hi : PE X i ty) (ho : PE X o td) : PC X .In i o (tDIn ty td) := by
 intro pins s σ H Q I h
 refine thn (hi pins s σ H _ I h) fun iv s1 ⟨y, H1, I1, ry, q1⟩ => thn (ho pins s1 σ H1 _ I1 q1) fun u s2 zz94 => ?_
 obtain ⟨x, H2, I2, rx, a, ov, ex, g, q2⟩ := zz94
 subst ex
 obtain rfl : u = Value.ref a := rx
 exact d_in hu I2 g ry fun s3 I3 => ⟨.bl ov.isSome, H2, I3, rfl, q2⟩
theorem pc_dnotin (hu : X.A.units + 1 < cLine) (hi : PE X i ty) (ho : PE X o td) : PC X .NotIn i o (tDNotIn ty td) := by
 intro pins s σ H Q I h
 refine thn (hi pins s σ H _ I h) fun iv s1 ⟨y, H1, I1, ry, q1⟩ => thn (ho pins s1 σ H1 _ I1 q1) fun u s2 zz96 => ?_
 obtain ⟨x, H2, I2, rx, a, ov, ex, g, q2⟩ := zz96
 subst ex
 obtain rfl : u = Value.ref a := rx
 exact d_notIn hu I2 g ry fun s3 I3 => ⟨.bl (!ov.isSome), H2, I3, rfl, q2⟩
theorem ps_dput (hu : X.A.units + 1 < cLine) (ho : PE X o td) (hi : PE X i ty) (hv : PE X value tv) (hs : swapsWith value (some (.Subscript o i pos')) pos.line X.env = pure false) :
  PS X (.Assign [.Subscript o i pos'] value pos) (sDPut td ty tv) := by
 intro pins s σ H D I h
 refine wpAny_Assign_Subscript (thn (hv pins s σ H _ I h) fun r s1 ⟨v, H1, I1, rv, q1⟩ => thn (ho pins s1 σ H1 _ I1 q1) fun u s2 ⟨x, H2, I2, rx, q2⟩ => thn (hi pins s2 σ H2 _ I2 q2) fun iv s3 zz99 => ?_) hs
 obtain ⟨y, H3, I3, ry, a, H4, ex, g, q3⟩ := zz99
 subst ex
 obtain rfl : u = Value.ref a := rx
 exact d_setItem hu I3 g ry rv fun s4 I4 => ⟨σ, H4, I4, q3⟩
end
theorem dk_empty {P : Program} {w : World} {H : Hp} (h : Heap) (hb : sysModules < h.objs.size) : ObjOk P w H (h.push { cls := .type "dict", data := .dict #[] }) h.objs.size (.dK []) :=
 ⟨Nat.zero_le _, beq_eq_false_iff_ne.mpr (Ne.symm (Nat.ne_of_lt hb)), [], .nil, Heap.DictOf.new h⟩
def tDNewK : TE := fun _ H Q => ∀ p, H p = none → Q (.ref p) (upd H p (.dK []))
section
variable {X : Cx} {pos : Pos}
theorem pe_dnewK : PE X (.Dict [] [] pos) tDNewK := fun pins s σ H Q I h =>
 wpAny_Dict_empty ⟨.ref s.heap.objs.size, _, I.laid (a := s.heap.objs.size) (o := .dK []) (t' := s.toks) (fun _ _ q => Heap.get?_push_of_some _ q) (Nat.le_refl _) (dk_empty s.heap I.big), rfl, h _ (I.hok.fresh (Nat.le_refl _))⟩
end
def tPairs : List (TE × TE) → St → Hp → (List (V × V) → Hp → Prop) → Prop
 | [], _, H, Q => Q [] H
 | (tk, tv) :: r, σ, H, Q => tk σ H fun x H1 => tv σ H1 fun y H2 => tPairs r σ H2 fun ps H3 => Q ((x, y) :: ps) H3
abbrev VV : List (V × V) → List (Value × Value) → Prop := Paired fun p q => RelV p.1 q.1 ∧ RelV p.2 q.2
def PPs (X : Cx) (pos : Pos) (keys : List (Option Expr)) (values : List Expr) (trs : List (TE × TE)) : Prop :=
 ∀ (pins : List (Addr × Obj)) (s : Shared) (σ : St) (H : Hp) (Q : List (V × V) → Hp → Prop), Inv X pins σ H s → tPairs trs σ H Q →
  wpAny (model X.prog X.w) X.A (evalPairs (pairTrees keys values X.env pos)) (fun vs s' => ∃ ps H', Inv X pins σ H' s' ∧ VV ps vs ∧ Q ps H') X.xe s
theorem pps_nil {X : Cx} {pos : Pos} : PPs X pos [] [] [] := fun pins s σ H Q I h => pairTrees_nil_walk ⟨[], H, I, .nil, h⟩
theorem pps_cons {X : Cx} {pos : Pos} {k v : Expr} {ks : List (Option Expr)} {vs : List Expr} {tk tv : TE} {trs : List (TE × TE)} (hk : PE X k tk) (hv : PE X v tv) (hr : PPs X pos ks vs trs) :
  PPs X pos (some k :: ks) (v :: vs) ((tk, tv) :: trs) := fun pins s σ H Q I h =>
 pairTrees_cons_walk (thn (hk pins s σ H _ I h) fun u s1 zz106 => (by obtain ⟨x, H1, I1, rx, q1⟩ := zz106; exact (thn (hv pins s1 σ H1 _ I1 q1) fun w2 s2 zz107 => (by obtain ⟨y, H2, I2, ry, q2⟩ := zz107; exact (
  thn (hr pins s2 σ H2 _ I2 q2) fun ws s3 zz108 => (by obtain ⟨ps, H3, I3, rel, q3⟩ := zz108; exact (⟨(x, y) :: ps, H3, I3, .cons ⟨rx, ry⟩ rel, q3⟩)))))))
noncomputable def mergeK (kvs more : List (Key × V)) : List (Key × V) := more.foldl (fun acc kv => putK acc kv.1 kv.2) kvs
theorem KV.merge : ∀ {more : List (Key × V)} {rs : List (Key × Value)} {kvs : List (Key × V)} {vs : List (Key × Value)}, KV more rs → KV kvs vs → KV (mergeK kvs more) (merged vs rs) := by
 intro more rs kvs vs r
 unfold KV at r
 induction r generalizing kvs vs with
 | nil => intro q; exact q
 | @cons p q ps qs h t ih =>
  intro r0
  have e : KV (putK kvs p.1 p.2) (stored vs q.1 q.2) := by
   have := r0.put p.1 h.2
   rw [← h.1]; exact this
  exact ih e
theorem length_mergeK : ∀ (more kvs : List (Key × V)), (mergeK kvs more).length ≤ kvs.length + more.length
 | [], kvs => by show kvs.length ≤ kvs.length + 0; lia
 | p :: r, kvs => by
  have h1 := length_mergeK r (putK kvs p.1 p.2)
  have h2 := length_putK kvs p.1 p.2
  show (mergeK (putK kvs p.1 p.2) r).length ≤ _
  rw [List.length_cons]; lia
theorem carries_of {P : Program} {w : World} : ∀ {kvs : List (Key × V)} {ws : List (Value × Value)}, VV (kvs.map fun kv => (kV kv.1, kv.2)) ws → ∃ rs, Carries (mixKind P w) ws rs ∧ KV kvs rs
 | [], _, r => by rw [List.map_nil] at r; cases r; exact ⟨[], True.intro, .nil⟩
 | p :: kvs, _, r => by
  rw [List.map_cons] at r
  cases r with
  | @cons a b as bs h t =>
   obtain ⟨rs, c, q⟩ := carries_of (P := P) (w := w) t
   obtain ⟨b1, b2⟩ := b
   exact ⟨(p.1, b2) :: rs, ⟨kV_is h.1, rfl, c⟩, .cons ⟨rfl, h.2⟩ q⟩
def tDisp (trs : List (TE × TE)) : TE := fun σ H Q => ∀ p, H p = none → tPairs trs σ (upd H p (.dK [])) fun ps H2 => H2 p = some (.dK []) ∧ ∃ kvs : List (Key × V), ps = kvs.map (fun kv => (kV kv.1, kv.2)) ∧ kvs.length ≤ 15 ∧ Q (.ref p) (upd H2 p (.dK (mergeK [] kvs)))
theorem pe_disp {X : Cx} {pos : Pos} {keys : List (Option Expr)} {values : List Expr} {trs : List (TE × TE)} (h : PPs X pos keys values trs) (hall : keys.all (·.isSome) = true) (hl : keys.length = values.length) (h0 : keys ≠ [])
  (h15 : keys.length ≤ 15) : PE X (.Dict keys values pos) (tDisp trs) := by
 intro pins s σ H Q I q
 have hn := I.hok.fresh (Nat.le_refl s.heap.objs.size)
 have I1 := I.laid (a := s.heap.objs.size) (o := .dK []) (h' := s.heap.push { cls := .type "dict", data := .dict #[] }) (t' := s.toks) (fun _ _ q => Heap.get?_push_of_some _ q) (Nat.le_refl _) (dk_empty s.heap I.big)
 refine wpAny_Dict_walk (knd := mixKind X.prog X.w) hall hl h0 h15 (thn (h pins _ σ _ _ I1 (q _ hn)) fun ws s2 zz109 => ?_)
 obtain ⟨ps, H2, I2, rel, e, kvs, ep, lk, q2⟩ := zz109
 subst ep
 obtain ⟨rs, c, rk⟩ := carries_of (P := X.prog) (w := X.w) rel
 obtain ⟨z, hd, vs0, r0, dd⟩ := dk_of I2.hok e
 cases r0
 refine ⟨rs, c, dd, fun h' dd' hs => ⟨.ref s.heap.objs.size, _, ?_, rfl, q2⟩⟩
 have hz : (mergeK [] kvs).length ≤ sizeLine := by
  have h1 := length_mergeK kvs []
  rw [List.length_nil] at h1
  rw [sizeLine_eq]; lia
 have he : ∃ q, h'.get? s.heap.objs.size = some q := let ⟨q, _, _, hq, _⟩ := dd'; ⟨q, hq⟩
 exact d_write I2 (by rw [e]; exact True.intro) hs he (dk_new hz hd (rk.merge .nil) dd')
end L2
namespace Att
open PySem PySem.W PySem.Calls PyProof.Rows
theorem ints_of_wellAll {P : Params} {h : Heap} : ∀ (ns : List Int) (vs : List Value), WellAll P h vs (ns.map WData.int) → IntsAre vs ns := by
 intro ns
 induction ns with
 | nil =>
  intro vs w
  rw [List.map_nil] at w
  cases w
  exact .nil
 | cons n ns ih =>
  intro vs w
  rw [List.map_cons] at w
  cases w with
  | cons a b =>
   cases a
   exact .cons _ _ (ih _ b)
theorem script_of {l : OpenLaw} {n : Nat} (hn : l.most = some n) {P : Params} {h : Heap} {args : List WData} {vals : List Value}
  (hpre : l.row.toRowW.claim.pre args = true) (hwl : WellAll P h vals args) :
  ∃ a vs ns, vals = [Value.ref a] ∧ args = [WData.list (ns.map WData.int)] ∧ h.get? a = some { cls := .type "list", data := .seq vs.toArray } ∧ IntsAre vs ns ∧ ns.length ≤ n := by
 have hsh : WShape.hasAll [] args [.list .int] = true := (pre_splitW hpre).1
 have hc : l.pre.holds [] { args := args } = true := (pre_splitW hpre).2
 obtain ⟨d, r, rfl, h1, h2⟩ := hasAllW_cons hsh
 obtain rfl := hasAllW_nil h2
 obtain ⟨xs, rfl, h3⟩ := hasW_list h1
 obtain ⟨ns, rfl⟩ := items_int h3
 have hlen : ns.length ≤ n := by
  unfold OpenLaw.pre at hc
  have h4 : (WTm.not (.lt (.lit (.int (n : Int))) (.len (.arg 0)))).holds [] { args := [.list (ns.map .int)] } = true := by
   have h4 := (holds_andW hc).1
   rw [hn] at h4
   exact h4
  have h5 := condW_of h4 (w_not (w_lt w_lit (w_len_list (w_arg rfl))))
  rw [List.length_map] at h5
  refine Nat.le_of_not_lt fun q => ?_
  have q' : (n : Int) < ((ns.length : Nat) : Int) := by lia
  first
   | (rw [decide_eq_true q'] at h5; exact absurd h5 (by decide))
   | (simp at h5; lia)
 cases hwl with
 | cons w1 w2 =>
  cases w2
  cases w1 with
  | list ho hall => exact ⟨_, _, ns, rfl, rfl, ho, ints_of_wellAll ns _ hall, hlen⟩
theorem post_true (l : OpenLaw) (args : List WData) : l.row.toRowW.claim.post args (.bool true) args = true :=
 postW_of (r := l.row.toRowW) (X := (true == true))
  (show WShape.has [] (.bool true) .bool = true by first | rfl | decide | simp [WShape.has, WShape.arms, WShape.armsAll])
  (show (WTm.eq .res (.lit (.bool true))).value [] { args := args, res := some (.bool true), after := args } = some (.bool (true == true)) from w_eq_bool (w_res rfl) w_lit) rfl
theorem attach_call {l : OpenLaw} {n : Nat} {q : Program} {loose : List Str} {XP : (Str → Option Value) → Heap → Prop} {YP : World → Heap → Prop} {d : DefRec}
  (hn : l.most = some n) (hdf : d.params.defaults = [])
  (call : ∀ (w : World) (s₀ s₁ : Shared) (mg mb : Str → Option Value) (fa : Addr) (o : Obj) (pm cd doc : Value) (a : Addr) (vs : List Value) (ns : List Int),
   Ground q loose [] XP w s₀ mg mb s₁.heap → YP w s₁.heap →
   s₁.heap.get? fa = some o → o.data = .func (docDef d.name d.params d.body d.scope pm cd doc) → s₁.heap.CodeRec cd d.name → mg d.name = some (.ref fa) →
   s₁.heap.get? a = some { cls := .type "list", data := .seq vs.toArray } → IntsAre vs ns → ns.length ≤ n → s₁.gens = #[] →
   codeAny (model l.prog w) callerA (.call (.ref fa) ⟨[.ref a], []⟩) (fun r s' => r = .ok (.ret (.bool true)) ∧ OldK s₁.heap s'.heap ∧ s'.os = s₁.os ∧ AllBare s'.gens) s₁) :
  WalkO q loose XP YP l.row.toRowW d [] (fun f vs => PySem.call f vs) := by
 intro w s₀ s₁ mg mb G Y fa o pm cd doc dV kV ho hd hcd hD hmg hg args vals as hpre hlay hrd hwl hlo
 obtain rfl : dV = .none := Dflts.none hD hdf
 obtain rfl : kV = .none := Dflts.noKw hD
 obtain ⟨a, vs, ns, rfl, rfl, hobj, hints, hlen⟩ := script_of hn hpre hwl
 refine enter_call (codeAny_mono (call w s₀ s₁ mg mb fa o pm cd doc a vs ns G Y ho (fd_plain hd) hcd hmg hobj hints hlen hg) fun r s' hq => ?_)
 obtain ⟨rfl, h2, h3, h4⟩ := hq
 exact ⟨.inl ⟨.bool true, .bool true, [], rfl, fun _ => rfl, .bool true, post_true l _, fun _ => ⟨List.Pairwise.nil, fun _ hm => (nomatch hm)⟩⟩, h2, h3, h4⟩
end Att
namespace L2
open PySem PySem.Spec PyProof.Rows
theorem vals_ints : ∀ {vs : List Value} {ns : List Int}, IntsAre vs ns → Vals (ns.map V.int) vs
 | _, _, .nil => .nil
 | _, _, .cons n t h => .cons ⟨t, rfl⟩ (vals_ints h)
def Only (H : Hp) : Prop := ∀ b, H b = none ∨ ∃ o xs, H b = some (.frz o (.lst xs))
theorem law_call {P : Program} {w : World} {K : PySem.W.Frag} {mg mb : Str → Option Value} {CX : CXT} {k : Nat} {fa a : Addr} {fd : FuncData} {x : Str} {sp : Sp} {s₁ : Shared} {vs : List Value} {ns : List Int}
  (KX : K.In s₁.heap) (hns : s₁.heap.Ns mainGlobals mg) (hb : s₁.heap.Ns builtinsNs mb) (hbb : ∀ x : Str, x ≠ "__name__" → mb x = bootBuiltins x) (hlim : s₁.heap.NoLimit) (hg : s₁.gens = #[])
  (ha : s₁.heap.get? a = some { cls := .type "list", data := .seq vs.toArray }) (hi : IntsAre vs ns) (hl : ns.length ≤ sizeLine) (hr : Room k callerA)
  (F : ∀ base : Heap, K.In base → base.Ns mainGlobals mg → FnOk P w K mg base CX k fa fd [x] sp) (hbind : ∀ (s : Shared) (u : Value), BindsTo s fd ⟨[u], []⟩ [(x, u)])
  (hsp : ∀ H : Hp, Only H → SqL K H a (ns.map V.int) → sp [.ref a] H (fun v _ => v = .bl true) fun _ _ _ => False)
  (hCX : ∀ H e s', CX [] H s₁ (fun _ _ _ => False) e s' → False) :
  codeAny (model P w) callerA (.call (.ref fa) ⟨[.ref a], []⟩) (fun r s' => r = .ok (.ret (.bool true)) ∧ OldK s₁.heap s'.heap ∧ s'.os = s₁.os ∧ AllBare s'.gens) s₁ := by
 have rv := vals_ints hi
 have lenV := hi.length
 have core : ∀ H : Hp, Only H → SqL K H a (ns.map V.int) → HOk P w H s₁.heap → (∀ b, H b ≠ none → b = a) → (H a ≠ none → K.lookup a = none) →
   codeAny (model P w) callerA (.call (.ref fa) ⟨[.ref a], []⟩) (fun r s' => r = .ok (.ret (.bool true)) ∧ OldK s₁.heap s'.heap ∧ s'.os = s₁.os ∧ AllBare s'.gens) s₁ := by
  intro H hO hS hok hA hK
  have base_of : ∀ {b : Addr} {o : Obj}, s₁.heap.get? b = some o → H b = none → (hidT s₁.heap H).get? b = some o := fun e n => hidT_get e n
  have noA : ∀ {b : Addr} {o : Obj} {es : Array DictEntry} {ep : Nat}, s₁.heap.get? b = some o → o.data = .dict es ep → H b = none := fun {b o es ep} e d => by
   cases q : H b with
   | none => rfl
   | some u =>
    have e' : b = a := hA b (by rw [q]; simp)
    subst e'
    rw [ha] at e; cases e
    have d' : Data.seq vs.toArray _ = Data.dict es ep := d
    cases d'
  have nsK : ∀ {b : Addr} {m : Str → Option Value}, s₁.heap.Ns b m → (hidT s₁.heap H).Ns b m := fun {b m} zz122 => (by obtain ⟨o, es, ep, e, d, r⟩ := zz122; exact (⟨o, es, ep, base_of e (noA e d), d, r⟩))
  have hKb : K.In (hidT s₁.heap H) := fun b o e => base_of (KX b o e) (by
   cases q : H b with
   | none => rfl
   | some u =>
    have e' : b = a := hA b (by rw [q]; simp)
    subst e'
    rw [hK (by rw [q]; simp)] at e; cases e)
  have hM : Mod K mg (hidT s₁.heap H) := ⟨hKb, nsK hns, ⟨mb, nsK hb, hbb⟩, let ⟨mc, h1, h2⟩ := hlim; ⟨mc, nsK h1, h2⟩⟩
  have e0 : Env0 P w K mg (hidT s₁.heap H) callerA [] s₁ H := ⟨rfl, hM, fun b o e => of_hidT e, Nat.le_of_eq (hidT_size _ _), trivial, fun b hb => absurd (show b ∈ ([] : List Addr) from hb) (by simp), hok, .of_eq hg⟩
  refine codeAny_mono ((F _ hKb (nsK hns)).run callerA [] s₁ H ⟨[.ref a], []⟩ [.ref a] [.ref a] _ _ hr e0 (hbind s₁ (.ref a)) (.cons rfl .nil) (hsp H hO hS)) fun r s' h => ?_
  cases r with
  | error e => exact (hCX H e s' h).elim
  | ok fl =>
   cases fl with
   | next => exact False.elim h
   | brk => exact False.elim h
   | cont => exact False.elim h
   | ret u =>
    obtain ⟨v, H', os, bare, un, hok', r', q⟩ := h
    have q' : v = .bl true := q
    subst q'
    obtain rfl : u = Value.bool true := r'
    refine ⟨rfl, OldK.of_keep fun b o e => ?_, os, bare⟩
    cases q : H b with
    | none => exact un.keep b o e q (by intro z; exact absurd (show b ∈ ([] : List Addr) from z) (by simp)) (by simp)
    | some u =>
     rcases hO b with z | ⟨ob, xs, z⟩
     · rw [q] at z; cases z
     · have z2 := un.frzs b ob _ z
       obtain ⟨e1, _⟩ := hok b _ z
       obtain ⟨e2, _⟩ := hok' b _ z2
       rw [e] at e1; cases e1
       exact e2
 cases hk : K.lookup a with
 | some o =>
  have e := KX a o hk
  rw [ha] at e
  cases e
  refine core (fun _ => none) (fun _ => .inl rfl) (.inr ⟨_, vs.toArray, _, hk, rfl, rfl, rfl, by rw [List.size_toArray, lenV]; exact hl, by simpa using rv⟩) (fun b u z => by have z' : (none : Option HO) = some u := z; cases z') (fun b z => absurd rfl z) fun z => absurd rfl z
 | none =>
  refine core (fun b => if b = a then some (.frz { cls := .type "list", data := .seq vs.toArray } (.lst (ns.map V.int))) else none) (fun b => ?_) (.inl (.inr ⟨{ cls := .type "list", data := .seq vs.toArray }, if_pos rfl⟩)) (fun b u z => ?_) (fun b z => ?_) fun _ => hk
  · by_cases hb : b = a
    · exact .inr ⟨_, _, if_pos hb⟩
    · exact .inl (if_neg hb)
  · by_cases hb : b = a
    · have z' := (if_pos hb).symm.trans z
      cases z'
      subst hb
      exact ⟨ha, by rw [List.length_map]; exact hl, vs, _, rv, ha⟩
    · have z' := (if_neg hb).symm.trans z
      cases z'
  · by_cases hb : b = a
    · exact hb
    · exact absurd (if_neg hb) z
end L2
namespace L2
open PySem PySem.Spec PyProof.Rows
theorem walk_of {l : PySem.W.OpenLaw} {n k : Nat} {q : Program} {loose : List Str} {XP : (Str → Option Value) → Heap → Prop} {YP : World → Heap → Prop} {d : DefRec} {K : Params → PySem.W.Frag} {CX : World → CXT} {sp : World → Sp} {x : Str}
  (hn : l.most = some n) (hn2 : n ≤ sizeLine) (hdf : d.params.defaults = []) (hr : Room k callerA)
  (hY : ∀ (w : World) (h : Heap), YP w h → (K w.params).In h)
  (F : ∀ (w : World) (mg : Str → Option Value) (fa : Addr) (h : Heap), (K w.params).In h → h.Ns mainGlobals mg → mg d.name = some (.ref fa) →
   ∃ fd : FuncData, (∀ (s : Shared) (u : Value), BindsTo s fd ⟨[u], []⟩ [(x, u)]) ∧
    ∀ base : Heap, (K w.params).In base → base.Ns mainGlobals mg → FnOk l.prog w (K w.params) mg base (CX w) k fa fd [x] (sp w))
  (hsp : ∀ (w : World) (H : Hp) (a : Addr) (ns : List Int), ns.length ≤ n → Only H → SqL (K w.params) H a (ns.map V.int) → sp w [.ref a] H (fun v _ => v = .bl true) fun _ _ _ => False)
  (hCX : ∀ (w : World) (H : Hp) (s : Shared) (e : Value) (s' : Shared), CX w [] H s (fun _ _ _ => False) e s' → False) :
  PySem.W.WalkO q loose XP YP l.row.toRowW d [] (fun f vs => PySem.call f vs) := by
 refine Att.attach_call hn hdf fun w s₀ s₁ mg mb fa o pm cd doc a vs ns G Y ho hd hcd hmg hobj hints hlen hg => ?_
 have KX := hY w _ Y
 obtain ⟨fd, hb, hF⟩ := F w mg fa _ KX G.T.g hmg
 exact law_call KX G.T.g G.T.b G.T.builtins G.T.nolimit hg hobj hints (Nat.le_trans hlen hn2) hr hF hb (fun H hO hS => hsp w H a ns hlen hO hS) fun H e s' => hCX w H s₁ e s'
end L2
namespace L2
open PySem PySem.Spec PyProof.Rows
noncomputable def defArgs (s : Stmt) : Arguments := match s with
 | .FunctionDef _ a _ _ _ _ _ _ _ _ => a
 | _ => { posonlyargs := [], args := [], vararg := none, kwonlyargs := [], kw_defaults := [], kwarg := none, defaults := [] }
noncomputable def defBody (s : Stmt) : List Stmt := match s with
 | .FunctionDef _ _ b _ _ _ _ _ _ _ => b
 | _ => []
noncomputable def defScope (s : Stmt) : Scope := match s with
 | .FunctionDef _ _ _ _ _ _ sc _ _ _ => sc
 | _ => { kind := .function, names := [], isGenerator := false, isCoroutine := false }
abbrev CX0 : CXT := fun _ _ _ _ _ _ => False
abbrev E0 : XK := fun _ _ _ => False
theorem pass0 {X : Cx} : Passes CX0 X E0 := fun _ _ _ _ _ _ _ h => h.elim
structure Fun (K : PySem.W.Frag) (x qual : Str) (st : Stmt) (f : Addr) (fd : FuncData) : Prop where
 ex : ∃ (oc : Value) (od : Option Addr) (kV doc pm : Value) (an : Option Addr) (cdv ct : Value) (osl : Array (Option Value)),
  fd = PySem.W.fnOf x qual (defArgs st) (defBody st) (defScope st) .none kV doc pm an cdv ct ∧ K.lookup f = some ⟨oc, od, .func fd, osl⟩ ∧ PySem.W.codeIn K cdv qual = true
 kp : PySem.W.keepIn K (.ref f) = true
section
variable {P : Program} {w : World} {K : PySem.W.Frag} {mg : Str → Option Value} {base : Heap}
theorem Fun.ok {x qual : Str} {st : Stmt} {f : Addr} {fd : FuncData} {N ps : List Str} {k : Nat} {sp : Sp} (F : Fun K x qual st f fd) (S : FnScope N ps (defScope st)) (len : ∀ vs H Q E, sp vs H Q E → vs.length = ps.length)
  (hbody : ∀ (cdv : Value) (A : Around) (outer : List Env) (s : Shared) (H : Hp) (vs : List V) (Q : VK) (E : XK), Room k (A.deeper (envOfC qual (defScope st) s.heap.objs.size f cdv)) → sp vs H Q E →
   ∃ t, PSs (cxOf CX0 P w K mg base N qual (defScope st) f cdv A outer s H E).nox (defBody st) t ∧ t { nx := fun _ H' => Q .non H', rt := Q } (start N vs) H) : FnOk P w K mg base CX0 (k + 1) f fd ps sp := by
 obtain ⟨oc, od, kV, doc, pm, an, cdv, ct, osl, rfl, lk, hcd⟩ := F.ex
 refine fn_of lk hcd S len fun A outer s H vs Q E hr hsp => ?_
 obtain ⟨t, h, q⟩ := hbody cdv A outer s H vs Q E hr hsp
 exact ⟨t, h.nox, q⟩
theorem Fun.binds {x qual : Str} {st : Stmt} {f : Addr} {fd : FuncData} {ps : List Str} (F : Fun K x qual st f fd)
  (h : ∀ (kV doc pm : Value) (an : Option Addr) (cdv ct : Value) (us : List Value), us.length = ps.length → bindArgs (PySem.W.fnOf x qual (defArgs st) (defBody st) (defScope st) .none kV doc pm an cdv ct) ⟨us, []⟩ = pure (ps.zip us)) : Binds K fd ps [] := by
 obtain ⟨oc, od, kV, doc, pm, an, cdv, ct, osl, rfl, lk, hcd⟩ := F.ex
 exact .all (h kV doc pm an cdv ct)
theorem fun_mk {x qual : Str} {st : Stmt} {f : Addr} {oc : Value} {od an : Option Addr} {osl : Array (Option Value)} {kV doc pm cdv ct : Value} (l : K.lookup f = some ⟨oc, od, .func (PySem.W.fnOf x qual (defArgs st) (defBody st) (defScope st) .none kV doc pm an cdv ct), osl⟩)
  (c : PySem.W.codeIn K cdv qual = true) (k : PySem.W.keepIn K (.ref f) = true) : Fun K x qual st f (PySem.W.fnOf x qual (defArgs st) (defBody st) (defScope st) .none kV doc pm an cdv ct) := ⟨⟨oc, od, kV, doc, pm, an, cdv, ct, osl, rfl, l, c⟩, k⟩
end
theorem hu_of {A : Around} {k : Nat} (hr : Room k A) : A.units + 1 < cLine := Nat.lt_of_le_of_lt (Nat.add_le_add_left (by decide : 1 ≤ 64) _) hr.units
theorem small1000 {n : Nat} (h : n ≤ 1000) : n < sizeLine := Nat.lt_of_le_of_lt h (by decide)
section
variable {X : Cx}
theorem pv (i : Nat) {x : Str} {pos : Pos} (hN : autoParam (X.N[i]? = some x) au5._auto_1) (hv : autoParam (Vis X.env.scope x) au7._auto_1) (hd : autoParam ((x == ("__debug__" : Str)) = false) au2._auto_1)
  (hcd : autoParam ((x == ("__classdict__" : Str)) = false) au2._auto_1) : PE X (.Name x pos) (tVar i) := pe_var hN hv hd hcd
theorem call_lenD : CallR X (.builtin "len") (fun xs H Q => ∃ a kvs, xs = [V.ref a] ∧ H a = some (.dK kvs) ∧ Q (.int kvs.length) H) := by
 intro pins s σ H xs us Q I r h
 obtain ⟨a, kvs, rfl, ha, q⟩ := h
 obtain ⟨u, rfl, ru⟩ := vals1 r
 cases ru
 exact d_len I (.inl ha) fun t s' I' => ⟨.int kvs.length, H, I', ⟨t, rfl⟩, q⟩
end
theorem iteF {A B : Prop} (h : B) : if false = true then A else B := by
 rw [if_neg Bool.false_ne_true]
 exact h
theorem iteT {A B : Prop} (h : A) : if true = true then A else B := by
 rw [if_pos rfl]
 exact h
theorem ite2 {c A B : Prop} [Decidable c] (h1 : c → A) (h2 : ¬ c → B) : if c then A else B := by
 by_cases h : c
 · rw [if_pos h]
   exact h1 h
 · rw [if_neg h]
   exact h2 h
def Same (H H' : Hp) : Prop := ∀ b o, H b = some o → H' b = some o
theorem Same.seq {K : PySem.W.Frag} {H H' : Hp} {a : Addr} {xs : List V} (e : Same H H') (h : SqL K H a xs) : SqL K H' a xs := by
 rcases h with (h | ⟨o, h⟩) | h
 · exact .inl (.inl (e _ _ h))
 · exact .inl (.inr ⟨o, e _ _ h⟩)
 · exact .inr h
end L2
end
section
namespace L2
open PySem PySem.Spec PyProof.Rows
noncomputable def blkEnv (scope : Scope) (cl : List (Str × Addr)) (C : Addr) (env : Env) : Env :=
 { scope := relabel scope env, locals := C, globals := env.globals, cells := cellsFrom (C + 1) scope.names cl, qual := env.qual, func := none, code := env.code, frame := env.frame, builtins := env.builtins }
noncomputable def blk (X : Cx) (N : List Str) (scope : Scope) (s : Shared) (H : Hp) (cl : List (Str × Addr)) (C : Addr) (ex : List Addr) : Cx :=
 { X with N := N, s₀ := s, H₀ := H, env := blkEnv scope cl C X.env, outer := X.stack, ex := ex, fn := fun x => decide (scope.names.lookup x = some .cell), pn := [], xe := fun _ _ => False }
theorem cellsFrom_app : ∀ (names : List (Str × NameKind)) (n : Nat) (acc : List (Str × Addr)), cellsFrom n names acc = cellsFrom n names [] ++ acc
 | [], _, _ => rfl
 | (name, kind) :: r, n, acc => by
  unfold cellsFrom
  split
  · rw [cellsFrom_app r (n + 1) ((name, n) :: acc), cellsFrom_app r (n + 1) [(name, n)], List.append_assoc]; rfl
  · exact cellsFrom_app r n acc
theorem cellsFrom_mem : ∀ (names : List (Str × NameKind)) (n : Nat) {x : Str} {c : Addr}, (x, c) ∈ cellsFrom n names [] → (x, NameKind.cell) ∈ names
 | [], _, _, _, h => by simp [cellsFrom] at h
 | (name, kind) :: r, n, x, c, h => by
  unfold cellsFrom at h
  split at h
  · rename_i hk
    rw [cellsFrom_app] at h
    rcases List.mem_append.mp h with q | q
    · exact List.mem_cons_of_mem _ (cellsFrom_mem r _ q)
    · have e : (x, c) = (name, n) := by simpa using q
      cases e
      have : kind = .cell := by simpa using hk
      subst this
      exact List.mem_cons_self
  · exact List.mem_cons_of_mem _ (cellsFrom_mem r _ h)
theorem lookup_mem_nd {α : Type} : ∀ {l : List (Str × α)} {x : Str} {v : α}, (l.map (·.1)).Nodup → (x, v) ∈ l → l.lookup x = some v
 | (k, w) :: r, x, v, nd, h => by
  rw [List.map_cons] at nd
  obtain ⟨h1, h2⟩ := List.nodup_cons.mp nd
  rw [List.lookup_cons]
  rcases List.mem_cons.mp h with e | h'
  · cases e; simp
  · have hne : (x == k) = false := by
      rw [beq_eq_false_iff_ne]
      intro e
      exact h1 (e ▸ List.mem_map.mpr ⟨(x, v), h', rfl⟩)
    rw [hne]
    exact lookup_mem_nd h2 h'
theorem lookup_relabel {env : Env} : ∀ {names : List (Str × NameKind)} {x : Str} {k : NameKind},
  (names.map fun (n, k) => if (k == NameKind.free && env.scope.kind == .function && env.kindOf n == some .cell) then (n, NameKind.cell) else (n, k)).lookup x = some k →
  names.lookup x = some k ∨ (k = .cell ∧ names.lookup x = some .free)
 | [], _, _, h => by simp at h
 | (n, k0) :: r, x, k, h => by
  have ih := @lookup_relabel env r x k
  rw [List.map_cons] at h
  cases hx : x == n with
  | true =>
   by_cases hc : (k0 == NameKind.free && env.scope.kind == .function && env.kindOf n == some .cell) = true
   · dsimp only at h
     rw [if_pos hc, List.lookup_cons, hx] at h
     cases h
     right
     refine ⟨rfl, ?_⟩
     rw [List.lookup_cons, hx]
     simp only [Bool.and_eq_true] at hc
     have : k0 = .free := by simpa using hc.1.1
     rw [this]
   · dsimp only at h
     rw [if_neg hc, List.lookup_cons, hx] at h
     left
     rw [List.lookup_cons, hx]
     exact h
  | false =>
   have h' : (r.map fun (n, k) => if (k == NameKind.free && env.scope.kind == .function && env.kindOf n == some .cell) then (n, NameKind.cell) else (n, k)).lookup x = some k := by
    by_cases hc : (k0 == NameKind.free && env.scope.kind == .function && env.kindOf n == some .cell) = true
    · dsimp only at h
      rw [if_pos hc, List.lookup_cons, hx] at h
      exact h
    · dsimp only at h
      rw [if_neg hc, List.lookup_cons, hx] at h
      exact h
   rw [List.lookup_cons, hx]
   exact ih h'
theorem lookup_relabel_free {env : Env} : ∀ {names : List (Str × NameKind)} {x : Str}, names.lookup x = some .free →
  (names.map fun (n, k) => if (k == NameKind.free && env.scope.kind == .function && env.kindOf n == some .cell) then (n, NameKind.cell) else (n, k)).lookup x = some .free ∨
  (names.map fun (n, k) => if (k == NameKind.free && env.scope.kind == .function && env.kindOf n == some .cell) then (n, NameKind.cell) else (n, k)).lookup x = some .cell
 | [], _, h => by simp at h
 | (n, k0) :: r, x, h => by
  have ih := @lookup_relabel_free env r x
  rw [List.map_cons]
  dsimp only
  cases hx : x == n with
  | true =>
   rw [List.lookup_cons, hx] at h
   cases h
   by_cases hc : (NameKind.free == NameKind.free && env.scope.kind == .function && env.kindOf n == some .cell) = true
   · right; rw [if_pos hc, List.lookup_cons, hx]
   · left; rw [if_neg hc, List.lookup_cons, hx]
  | false =>
   rw [List.lookup_cons, hx] at h
   by_cases hc : (k0 == NameKind.free && env.scope.kind == .function && env.kindOf n == some .cell) = true
   · rw [if_pos hc]; simp only [List.lookup_cons, hx]; exact ih h
   · rw [if_neg hc]; simp only [List.lookup_cons, hx]; exact ih h
theorem closure_of {scope : Scope} {env : Env} (h : ∀ x ∈ scope.names, x.2 = .free → ∃ c, env.cells.lookup x.1 = some c) :
  ∃ cl, closureFor scope env = pure cl ∧ (∀ x c, (x, c) ∈ cl → env.cells.lookup x = some c) ∧ ∀ x, (x, NameKind.free) ∈ scope.names → ∃ c, (x, c) ∈ cl := by
 have gen : ∀ (names : List (Str × NameKind)) (acc : List (Str × Addr)), (∀ x ∈ names, x.2 = .free → ∃ c, env.cells.lookup x.1 = some c) → (∀ x c, (x, c) ∈ acc → env.cells.lookup x = some c) →
   ∃ cl, (forIn names acc (fun (x : Str × NameKind) (cs : List (Str × Addr)) => match x with | (name, kind) => if kind == .free then (do let a ← cellOf env name; pure (ForInStep.yield ((name, a) :: cs))) else pure (ForInStep.yield cs)) : Sem (List (Str × Addr))) = pure cl ∧
    (∀ x c, (x, c) ∈ cl → env.cells.lookup x = some c) ∧ (∀ p ∈ acc, p ∈ cl) ∧ ∀ x, (x, NameKind.free) ∈ names → ∃ c, (x, c) ∈ cl := by
  intro names
  induction names with
  | nil => intro acc _ ha; exact ⟨acc, by rw [List.forIn_nil], ha, fun _ hp => hp, fun x hx => by simp at hx⟩
  | cons p r ih =>
   intro acc hn ha
   obtain ⟨n, k⟩ := p
   rw [List.forIn_cons]
   by_cases hk : (k == NameKind.free) = true
   · have hk' : k = .free := by simpa using hk
     obtain ⟨c, hc⟩ := hn (n, k) List.mem_cons_self hk'
     obtain ⟨cl, e1, e2, e3, e4⟩ := ih ((n, c) :: acc) (fun x hx => hn x (List.mem_cons_of_mem _ hx)) (fun x c' hx => by
      rcases List.mem_cons.mp hx with e | hx
      · cases e; exact hc
      · exact ha x c' hx)
     refine ⟨cl, ?_, e2, fun q hq => e3 q (List.mem_cons_of_mem _ hq), fun x hx => ?_⟩
     · dsimp only
       rw [if_pos hk]
       have : cellOf env n = pure c := by unfold cellOf; rw [hc]
       rw [this]
       exact e1
     · rcases List.mem_cons.mp hx with e | hx
       · cases e; exact ⟨c, e3 _ List.mem_cons_self⟩
       · exact e4 x hx
   · obtain ⟨cl, e1, e2, e3, e4⟩ := ih acc (fun x hx => hn x (List.mem_cons_of_mem _ hx)) ha
     refine ⟨cl, ?_, e2, e3, fun x hx => ?_⟩
     · dsimp only
       rw [if_neg hk]
       exact e1
     · rcases List.mem_cons.mp hx with e | hx
       · cases e; exact absurd rfl hk
       · exact e4 x hx
 obtain ⟨cl, e1, e2, _, e4⟩ := gen scope.names [] h (fun _ _ hx => nomatch hx)
 refine ⟨cl, ?_, e2, e4⟩
 unfold closureFor
 first
  | exact e1
  | (simp only [bind_pure]; exact e1)
section
variable {prog : Program} {w : World} {A : Around} {R : Result → Shared → Prop} {s : Shared}
theorem compLoop_own {elt target iter : Expr} {ifs : List Expr} {scope : Scope} {pos : Pos} {it acc : Value} {env : Env} (I : Nat → Shared → Prop)
  (turn : ∀ n s, I n s → wpAny (model prog w) A (pyNext it) (fun r s₁ => match r with
   | none => R (.ok .next) s₁
   | some v => wpAny (model prog w) A (letOwnedTupleGo target it v) (fun _ s₀ => wpAny (model prog w) A (assign target env v) (fun _ s₂ =>
     wpAny (model prog w) A (forIn ifs true fun c r => if r = true then do let ok ← isTrue c env (eval c env); pure (ForInStep.yield ok) else pure (ForInStep.yield r)) (fun ok s₃ =>
      if ok = true then wpAny (model prog w) A (eval elt env) (fun x s₄ =>
       wpAny (model prog w) A (call (.builtin "list.append") [acc, x]) (fun _ s₅ => ∃ m, m < n ∧ I m s₅) (fun _ _ => False) s₄) (fun _ _ => False) s₃
      else ∃ m, m < n ∧ I m s₃) (fun _ _ => False) s₂) (fun _ _ => False) s₀) (fun _ _ => False) s₁) (fun _ _ => False) s)
  (n : Nat) (h : I n s) : codeAny (model prog w) A (.compLoop (.ListComp elt [⟨target, iter, ifs, 0⟩] scope pos) 0 it acc env) R s := by
 refine codeAny_loop rfl I (fun n s hI => ?_) n h
 show wpAny _ A ((compTurn (.ListComp elt [⟨target, iter, ifs, 0⟩] scope pos) 0 it acc env).onRaise (fun x => do noteFrame x env; theTreesLotGoes x)) _ _ s
 refine wpAny_noted ?_
 rw [compTurn_list]
 refine wpAny_bind (wpAny_standAt (wpAny_bind (wpAny_mono (turn n s hI) (fun r s₁ h₁ => ?_) fun _ _ h' => h'.elim)))
 cases r with
 | none => exact wpAny_pure h₁
 | some v =>
  refine wpAny_bind (wpAny_mono h₁ (fun _ s₀ h₀ => ?_) fun _ _ h' => h'.elim)
  refine wpAny_bind (wpAny_mono h₀ (fun _ s₂ h₂ => wpAny_bind (wpAny_mono h₂ (fun ok s₃ h₃ => ?_) fun _ _ h' => h'.elim)) fun _ _ h' => h'.elim)
  cases ok with
  | false => exact wpAny_pure ⟨rfl, h₃⟩
  | true =>
   exact wpAny_bind (wpAny_bind (wpAny_mono h₃ (fun x s₄ h₄ => wpAny_bind (wpAny_mono h₄ (fun _ s₅ h₅ => wpAny_pure (wpAny_pure ⟨rfl, h₅⟩)) fun _ _ h' => h'.elim)) fun _ _ h' => h'.elim))
end
def PF (X : Cx) (ifs : List Expr) (t : TT) : Prop :=
 ∀ (pins : List (Addr × Obj)) (s : Shared) (σ : St) (H : Hp) (Q : Bool → Hp → Prop), Inv X pins σ H s → t σ H Q →
  wpAny (model X.prog X.w) X.A (forIn ifs true fun c r => if r = true then do let ok ← isTrue c X.env (eval c X.env); pure (ForInStep.yield ok) else pure (ForInStep.yield r)) (TP X pins σ Q) X.xe s
def tTrue : TT := fun _ H Q => Q true H
theorem pf_nil {X : Cx} : PF X [] tTrue := fun _ _ _ H _ I h => wpAny_tests_nil ⟨H, I, h⟩
theorem pf_one {X : Cx} {c : Expr} {t : TT} (h : PT X c t) : PF X [c] t := fun pins s σ H Q I hw => wpAny_tests_one (h pins s σ H Q I hw)
noncomputable def st0 (nt : Nat) (js : List Nat) (σ : St) : St := List.replicate nt none ++ js.map fun j => (σ[j]?).join
structure CpOk (X : Cx) (N : List Str) (nt : Nat) (js : List Nat) (scope : Scope) : Prop where
 kind : scope.kind = .function
 nd : (scope.names.map (·.1)).Nodup
 len : nt ≤ N.length
 cap : js.map (fun j => X.N[j]?) = (N.drop nt).map some
 fr : ∀ x ∈ N.drop nt, scope.names.lookup x = some .free
 see : ∀ x ∈ scope.names, x.2 = .free → X.env.kindOf x.1 = some .cell ∨ X.env.kindOf x.1 = some .free
section
variable {X : Cx} {N : List Str} {nt : Nat} {js : List Nat} {scope : Scope} {pins : List (Addr × Obj)} {σ : St} {H : Hp} {s : Shared}
theorem CpOk.names (S : CpOk X N nt js scope) : ∀ x ∈ scope.names, x.2 = .local → scope.names.lookup x.1 = some .local := fun x hx e => by
 obtain ⟨n, k⟩ := x
 cases e
 exact lookup_mem_nd S.nd hx
theorem blk_start {cl : List (Str × Addr)} {fp : List Addr} (S : CpOk X N nt js scope) (hc : X.calm = true) (I : Inv X pins σ H s) (hf : ∀ b ∈ fp, FpOk X pins H b) (hfs : ∀ b ∈ fp, b < s.heap.objs.size)
  (c1 : ∀ x c, (x, c) ∈ cl → X.env.cells.lookup x = some c) (c2 : ∀ x, (x, NameKind.free) ∈ scope.names → ∃ c, (x, c) ∈ cl) {tk : Nat} :
  Inv (blk X N scope s H cl s.heap.objs.size fp) [] (st0 nt js σ) H { s with heap := pushCells (s.heap.push { cls := .type "dict", data := .dict #[] }) scope.names, toks := tk } := by
 have keep : ∀ b o, s.heap.get? b = some o → (pushCells (s.heap.push { cls := .type "dict", data := .dict #[] }) scope.names).get? b = some o := fun b o e => pushCells_keeps _ _ b o (Heap.get?_push_of_some _ e)
 have ok := cellsFrom_ok scope.names (s.heap.push { cls := .type "dict", data := .dict #[] }) (s.heap.objs.size + 1) [] ⟨fun _ _ hm => (nomatch hm), List.Pairwise.nil⟩ (by rw [Heap.size_push]; exact Nat.le_refl _)
 rw [Heap.size_push] at ok
 have split : ∀ x c, (cellsFrom (s.heap.objs.size + 1) scope.names cl).lookup x = some c → (x, c) ∈ cellsFrom (s.heap.objs.size + 1) scope.names [] ∨ (x, c) ∈ cl := fun x c e => by
  rw [cellsFrom_app] at e
  exact List.mem_append.mp (PySem.mem_of_lookup e)
 have old : ∀ x c, (x, c) ∈ cl → c < s.heap.objs.size := fun x c h => by
  obtain ⟨v, q⟩ := I.cell x c (c1 x c h)
  exact q.lt
 have new : ∀ x c, (x, c) ∈ cellsFrom (s.heap.objs.size + 1) scope.names [] → s.heap.objs.size + 1 ≤ c := fun x c h => (ok.empty x c h).2
 have fresh : ∀ b, s.heap.objs.size ≤ b → H b = none := fun b hb => I.hok.fresh hb
 have clook : ∀ x, scope.names.lookup x = some .free → ∀ c, X.env.cells.lookup x = some c → (cellsFrom (s.heap.objs.size + 1) scope.names cl).lookup x = some c := fun x hx c hcx => by
  obtain ⟨c', hc'⟩ := c2 x (PySem.mem_of_lookup hx)
  have e1 : (cellsFrom (s.heap.objs.size + 1) scope.names []).lookup x = none := by
   cases e : (cellsFrom (s.heap.objs.size + 1) scope.names []).lookup x with
   | none => rfl
   | some d =>
    have := lookup_mem_nd S.nd (cellsFrom_mem _ _ (PySem.mem_of_lookup e))
    rw [hx] at this; cases this
  have e2 : ∃ d, cl.lookup x = some d := by
   cases e : cl.lookup x with
   | some d => exact ⟨d, rfl⟩
   | none =>
    exfalso
    have : ∀ {l : List (Str × Addr)}, (x, c') ∈ l → l.lookup x ≠ none := fun {l} => by
     induction l with
     | nil => intro h; simp at h
     | cons p r ih =>
      intro h
      obtain ⟨k, v⟩ := p
      rw [List.lookup_cons]
      cases hb : x == k with
      | true => simp
      | false =>
       rcases List.mem_cons.mp h with q | q
       · cases q; simp at hb
       · exact ih q
    exact this hc' e
  obtain ⟨d, hd⟩ := e2
  have : d = c := by
   have := c1 x d (PySem.mem_of_lookup hd)
   rw [hcx] at this; cases this; rfl
  subst this
  rw [cellsFrom_app, List.lookup_append, e1, hd]
  rfl
 have fsx : ∀ b, b ≠ X.env.locals → b ∉ X.fs → b ∉ frs X.stack := fun b h1 h2 hb => (List.mem_cons.mp (I.stkSub b hb)).elim h1 h2
 refine ⟨⟨I.ok.mod, S.kind, I.ok.glob, I.ok.blt, Nat.le_refl _, fun x y c e1 e2 => ?_, fun x hx => ?_, fun x c h1 h2 => ?_, I.ok.hd, I.ok.frames, .inl rfl, fun b hb => ⟨?_, fun x c e => ?_⟩, fun b o e => ⟨I.bk b o e, (I.bs b o e).2⟩, ?_, fun b o e hb => ?_, fun b hb => ?_, I.stack, I.stkFree⟩,
  rfl, I.bare, Un.kept keep, ⟨_, (Heap.Ns.new s.heap (.type "dict")).keeps (pushCells_keeps _ _), fun i x v e1 e2 e3 => ?_⟩, fun x c e => ?_, fresh _ (Nat.le_refl _), fun x c e => ?_, fun p hp => absurd (show p ∈ ([] : List (Addr × Obj)) from hp) (by simp), I.hok.kept keep, ?_⟩
 · rcases split x c e1 with h1 | h1 <;> rcases split y c e2 with h2 | h2
   · exact name_of_addr ok.apart h1 h2
   · exact absurd (Nat.lt_of_lt_of_le (old y c h2) (Nat.le_of_succ_le (new x c h1))) (Nat.lt_irrefl _)
   · exact absurd (Nat.lt_of_lt_of_le (old x c h1) (Nat.le_of_succ_le (new y c h2))) (Nat.lt_irrefl _)
   · exact I.ok.inj x y c (c1 x c h1) (c1 y c h2)
 · have own : scope.names.lookup x = some .cell → ∃ c, (cellsFrom (s.heap.objs.size + 1) scope.names cl).lookup x = some c := fun h => by
     obtain ⟨c, e⟩ := cell_has (n := s.heap.objs.size + 1) h
     exact ⟨c, by rw [cellsFrom_app, List.lookup_append, e]; rfl⟩
   have fre : scope.names.lookup x = some .free → ∃ c, (cellsFrom (s.heap.objs.size + 1) scope.names cl).lookup x = some c := fun h => by
    obtain ⟨c, e⟩ := I.ok.has x (S.see _ (PySem.mem_of_lookup h) rfl)
    exact ⟨c, clook x h c e⟩
   rcases hx with h | h <;> rcases lookup_relabel h with q | ⟨z, q⟩
   · exact own q
   · exact fre q
   · exact fre q
   · cases z
 · have h1 : scope.names.lookup x = some .cell := by simpa [blk] using h1
   obtain ⟨d, e⟩ := cell_has (n := s.heap.objs.size + 1) h1
   have h2 : (cellsFrom (s.heap.objs.size + 1) scope.names cl).lookup x = some c := h2
   rw [cellsFrom_app, List.lookup_append, e] at h2
   have : d = c := by simpa using h2
   subst this
   exact Nat.le_of_succ_le (new x d (PySem.mem_of_lookup e))
 · exact Nat.ne_of_lt (hfs b hb)
 · rcases split x c e with h | h
   · exact Nat.ne_of_gt (Nat.lt_of_lt_of_le (hfs b hb) (Nat.le_of_succ_le (new x c h)))
   · exact (hf b hb).2.2.2.2.1 x c (c1 x c h)
 · exact Nat.le_trans I.ok.bsz I.sz
 · rcases (hf b hb).2.2.2.1 with z | z
   · exact I.ok.noex b o e z
   · exact absurd (Nat.lt_of_lt_of_le (Heap.lt_size e) (Nat.le_trans I.ok.bsz z)) (Nat.lt_irrefl _)
 · exact fsx b (hf b hb).2.1 (hf b hb).2.2.1
 · have hi : nt ≤ i := by
     apply Nat.le_of_not_lt
     intro hlt
     unfold st0 at e2
     rw [List.getElem?_append_left (by simpa using hlt), List.getElem?_replicate, if_pos hlt] at e2
     cases e2
   have e2' : (js.map fun j => (σ[j]?).join)[i - nt]? = some (some v) := by
    unfold st0 at e2
    rw [List.getElem?_append_right (by simpa using hi), List.length_replicate] at e2
    exact e2
   rw [List.getElem?_map] at e2'
   have e1' : (N.drop nt)[i - nt]? = some x := by
    rw [List.getElem?_drop]
    have : nt + (i - nt) = i := by lia
    rw [this]; exact e1
   cases hj : js[i - nt]? with
   | none => rw [hj] at e2'; cases e2'
   | some j =>
    rw [hj] at e2'
    have e2'' : (σ[j]?).join = some v := by simpa using e2'
    have hσ : σ[j]? = some (some v) := by
     cases q : σ[j]? with
     | none => rw [q] at e2''; cases e2''
     | some o => rw [q] at e2''; simpa using e2''
    have hX : X.N[j]? = some x := by
     have := congrArg (fun l => l[i - nt]?) S.cap
     simp only [List.getElem?_map, hj, e1', Option.map_some] at this
     exact Option.some.inj this
    have hfree := S.fr x (List.mem_of_getElem? e1')
    have hk := S.see _ (PySem.mem_of_lookup hfree) rfl
    obtain ⟨m, _, hl⟩ := I.loc
    obtain ⟨u, ru, lk⟩ := hl j x v hX hσ (by rcases hk with q | q; exact .inr (.inl q); exact .inr (.inr q))
    refine ⟨u, ru, ?_⟩
    rcases lk with ⟨hk', _⟩ | ⟨_, c, hc1, hcell⟩
    · rcases hk with q | q <;> rw [q] at hk' <;> cases hk'
    · refine .inr ⟨?_, c, clook x hfree c hc1, hcell.keeps keep⟩
      rcases lookup_relabel_free (env := X.env) hfree with q | q
      · exact .inr q
      · exact .inl q
 · rcases split x c e with h | h
   · exact ⟨none, (ok.empty x c h).1⟩
   · obtain ⟨v, q⟩ := I.cell x c (c1 x c h)
     exact ⟨v, q.keeps keep⟩
 · rcases split x c e with h | h
   · exact fresh _ (Nat.le_of_succ_le (new x c h))
   · exact I.freeC x c (c1 x c h)
 · unfold st0
   show _ = N.length
   rw [List.length_append, List.length_replicate, List.length_map]
   have := congrArg List.length S.cap
   rw [List.length_map, List.length_map, List.length_drop] at this
   have := S.len
   lia
end
end L2
end
section
namespace L2
open PySem PySem.Spec PyProof.Rows
def GLow (nt : Nat) (g : TG) : Prop := ∀ v σ H (Q : St → Hp → Prop), g v σ H Q → g v σ H fun σ' H' => Q σ' H' ∧ σ'.length = σ.length ∧ ∀ k, nt ≤ k → σ'[k]? = σ[k]?
def GLows (nt : Nat) (g : TGs) : Prop := ∀ vs σ H (Q : St → Hp → Prop), g vs σ H Q → g vs σ H fun σ' H' => Q σ' H' ∧ σ'.length = σ.length ∧ ∀ k, nt ≤ k → σ'[k]? = σ[k]?
theorem glow_name {nt i : Nat} (h : autoParam (i < nt) au2._auto_1) : GLow nt (gName i) := fun v σ H Q q => ⟨q, by simp, fun k hk => by rw [List.getElem?_set_ne (by lia)]⟩
theorem glow_nil {nt : Nat} : GLows nt gNil := fun vs σ H Q zz1 => (by obtain ⟨e, q⟩ := zz1; exact (⟨e, q, rfl, fun _ _ => rfl⟩))
def GMono (g : TGs) : Prop := ∀ vs σ H (Q Q' : St → Hp → Prop), (∀ σ' H', Q σ' H' → Q' σ' H') → g vs σ H Q → g vs σ H Q'
theorem gmono_nil : GMono gNil := fun vs σ H Q Q' hq zz2 => (by obtain ⟨e, q⟩ := zz2; exact (⟨e, hq _ _ q⟩))
theorem gmono_name {i : Nat} {u : TGs} (hu : GMono u) : GMono (gCons (gName i) u) := fun vs σ H Q Q' hq zz3 => (by obtain ⟨v, r, e, q⟩ := zz3; exact (⟨v, r, e, hu r _ _ Q Q' hq q⟩))
theorem glow_cons {nt i : Nat} {u : TGs} (h : autoParam (i < nt) au2._auto_1) (hm : GMono u) (hu : GLows nt u) : GLows nt (gCons (gName i) u) := fun vs σ H Q zz1 => (by obtain ⟨v, r, e, q⟩ := zz1; exact (by
 refine ⟨v, r, e, hm _ _ _ _ _ (fun σ' H' z => ?_) (hu r (σ.set i (some v)) H Q q)⟩
 obtain ⟨z1, z2, z3⟩ := z
 refine ⟨z1, by simpa using z2, fun k hk => ?_⟩
 rw [z3 k hk, List.getElem?_set_ne (by lia)]))
theorem glow_tup {nt n : Nat} {K : PySem.W.Frag} {t : TGs} (h : GLows nt t) : GLow nt (gTup K n t) := fun v σ H Q zz5 => (by obtain ⟨a, xs, e, sq, l, q⟩ := zz5; exact (⟨a, xs, e, sq, l, h xs σ H Q q⟩))
def CompW (nt : Nat) (js : List Nat) (g : TG) (tc : TT) (te : TE) (σ : St) (Q : VK) (D : Addr) (J : It) (H0 : Hp) : Prop :=
 ∃ W : Nat → Nat → List V → Hp → Prop, (∃ m, W 0 m [] H0) ∧ ∀ i m acc H, W i m acc H →
  (J.stop i H ∧ Q (.ref D) H) ∨ (J.go i H ∧ acc.length < sizeLine ∧ ∃ B : List V → Hp → Prop, (∀ acc' H', B acc' H' → ∃ m', m' < m ∧ W (i + 1) m' acc' H') ∧ ∀ x H', J.yld i H x H' → g x (st0 nt js σ) H' fun σ2 H2 =>
   tc σ2 H2 fun b H3 => if b = true then te σ2 H3 fun v H4 => H4 D = some (.lst acc) ∧ B (acc ++ [v]) (upd H4 D (.lst (acc ++ [v]))) else B acc H3)
def tComp (nt : Nat) (js : List Nat) (wi : TI) (g : TG) (tc : TT) (te : TE) : TE := fun σ H Q => wi σ H fun J H1 => ∀ D, H1 D = none → CompW nt js g tc te σ Q D J (upd H1 D (.lst []))
section
variable {X : Cx} {N : List Str} {nt : Nat} {js : List Nat} {scope : Scope} {pins : List (Addr × Obj)} {σ : St} {H : Hp} {s : Shared}
theorem wpAny_newEnvC {M : Model} {A : Around} {E : Value → Shared → Prop} {cl : List (Str × Addr)} {env : Env} {Q : Env → Shared → Prop} {s : Shared} (h : ∀ cenv : Env, { cenv with scope := relabel scope env } = blkEnv scope cl s.heap.objs.size env → cenv.locals = s.heap.objs.size → Q cenv { s with heap := pushCells (s.heap.push { cls := .type "dict", data := .dict #[] }) scope.names }) :
  wpAny M A (newFunctionEnv scope env.globals cl [] env.qual none .none (some env)) Q E s := by
 simp only [newFunctionEnv, Option.isSome_some, if_true]
 refine wpAny_bind (wpAny_alloc ?_)
 refine wpAny_bind (wpAny_layCells _ (fun name kind cells => by cases hkc : kind == NameKind.cell <;> simp [hkc]) _ _ _ _ ?_)
 rw [show ({ s with heap := s.heap.push { cls := .type "dict", data := .dict #[] } } : Shared).heap.objs.size = s.heap.objs.size + 1 from Heap.size_push ..]
 first
  | exact wpAny_pure (h _ rfl rfl)
  | exact wpAny_bind (wpAny_pure (wpAny_pure (h _ rfl rfl)))
theorem comp_core {elt tg iter : Expr} {ifs : List Expr} {pos : Pos} {g : TG} {tc : TT} {te : TE} {cl : List (Str × Addr)} {Q : VK} {E : Value → Shared → Prop} {RR : Value → Addr → Result → Shared → Prop}
  (S : CpOk X N nt js scope) (hc : X.calm = true)
  (hg : ∀ s H cl C ex, PG (blk X N scope s H cl C ex) tg g) (hlow : GLow nt g) (hf : ∀ s H cl C ex, PF (blk X N scope s H cl C ex) ifs tc) (he : ∀ s H cl C ex, PE (blk X N scope s H cl C ex) elt te)
  {it : Addr} {fp : List Addr} {tn : Nat → Heap → Prop} {J : It} (I : Inv X pins σ H s) (T : Turn X.prog X.w X.K tg J fp it tn) (st : tn 0 s.heap) (ff : ∀ b ∈ fp, FpOk X pins H b)
  (c1 : ∀ x c, (x, c) ∈ cl → X.env.cells.lookup x = some c) (c2 : ∀ x, (x, NameKind.free) ∈ scope.names → ∃ c, (x, c) ∈ cl)
  (R : ∀ D, H D = none → CompW nt js g tc te σ Q D J (upd H D (.lst [])))
  (fin : ∀ (D C : Addr) (s' : Shared) (H' : Hp), Inv X pins σ H' s' → FpOk X pins H' C → (∃ m, s'.heap.Ns C m) → Q (.ref D) H' → RR (.ref D) C (.ok .next) s') :
  wpAny (model X.prog X.w) X.A (newList []) (fun acc s₃ => wpAny (model X.prog X.w) X.A (newFunctionEnv scope X.env.globals cl [] X.env.qual none .none (some X.env)) (fun cenv s₄ =>
   codeAny (model X.prog X.w) X.A (.compStart (.ListComp elt [⟨tg, iter, ifs, 0⟩] scope pos) 0 (.ref it) acc { cenv with scope := relabel scope X.env }) (RR acc cenv.locals) s₄) E s₃) E s := by
 refine wpAny_newObj_type (wpAny_newEnvC fun cenv ecenv eloc => ?_)
 rw [ecenv, eloc]
 dsimp only
 have hD : H s.heap.objs.size = none := I.hok.fresh (Nat.le_refl _)
 obtain ⟨W, ⟨m0, w0⟩, turn⟩ := R s.heap.objs.size hD
 have kD : ∀ b u, s.heap.get? b = some u → (s.heap.push { cls := .type "list", data := .seq ([] : List Value).toArray }).get? b = some u := fun b u e => Heap.get?_push_of_some _ e
 have I3 : Inv X pins σ (upd H s.heap.objs.size (.lst [])) { s with heap := s.heap.push { cls := .type "list", data := .seq ([] : List Value).toArray }, toks := s.toks } :=
  I.laid kD (Nat.le_refl _) ⟨Nat.zero_le _, [], _, .nil, Heap.get?_push_size _ rfl⟩
 have fs : ∀ b ∈ fp, b < s.heap.objs.size := fun b hb => by
  obtain ⟨o, e, _⟩ := T.obj _ _ st b hb
  exact Heap.lt_size e
 have ff3 : ∀ b ∈ fp, FpOk X pins (upd H s.heap.objs.size (.lst [])) b := fun b hb => ⟨by rw [upd_ne (Nat.ne_of_lt (fs b hb))]; exact (ff b hb).1, (ff b hb).2⟩
 have I4 := blk_start (tk := s.toks) S hc I3 ff3 (fun b hb => by show b < (s.heap.push _).objs.size; rw [Heap.size_push]; exact Nat.lt_succ_of_lt (fs b hb)) c1 c2
 dsimp only at I4
 have gsz : (s.heap.push { cls := .type "list", data := .seq ([] : List Value).toArray }).objs.size = s.heap.objs.size + 1 := Heap.size_push ..
 generalize hY : blk X N scope { s with heap := s.heap.push { cls := .type "list", data := .seq ([] : List Value).toArray }, toks := s.toks } (upd H s.heap.objs.size (.lst [])) cl (s.heap.push { cls := .type "list", data := .seq ([] : List Value).toArray }).objs.size fp = Y at I4
 have hY2 := hY
 have Yenv : Y.env = blkEnv scope cl (s.heap.push { cls := .type "list", data := .seq ([] : List Value).toArray }).objs.size X.env := by rw [← hY]; rfl
 have Yprog : Y.prog = X.prog := by rw [← hY]; rfl
 have Yw : Y.w = X.w := by rw [← hY]; rfl
 have YA : Y.A = X.A := by rw [← hY]; rfl
 have YK : Y.K = X.K := by rw [← hY]; rfl
 have Ycalm : Y.calm = true := by rw [← hY]; exact hc
 have Yxe : Y.xe = fun _ _ => False := by rw [← hY]; rfl
 have Yex : Y.ex = fp := by rw [← hY]; rfl
 have Ypn : Y.pn = [] := by rw [← hY]; rfl
 have Yfs : Y.fs = frs X.stack := by rw [← hY]; rfl
 have Ys0 : Y.s₀ = { s with heap := s.heap.push { cls := .type "list", data := .seq ([] : List Value).toArray }, toks := s.toks } := by rw [← hY]; rfl
 have YH0 : Y.H₀ = upd H s.heap.objs.size (.lst []) := by rw [← hY]; rfl
 have hgY : PG Y tg g := by rw [← hY]; exact hg _ _ _ _ _
 have hfY : PF Y ifs tc := by rw [← hY]; exact hf _ _ _ _ _
 have heY : PE Y elt te := by rw [← hY]; exact he _ _ _ _ _
 have hm : (Y.N.length : Nat) = (st0 nt js σ).length := I4.len.symm
 rw [← Yenv, ← Yprog, ← Yw, ← YA]
 have fpY : ∀ {H' : Hp} (_ : ∀ b ∈ fp, H' b = none), ∀ b ∈ fp, FpOk Y [] H' b := fun {H'} hn b hb => by
  refine ⟨hn b hb, (I4.ok.exf b (by rw [Yex]; exact hb)).1, I4.ok.exfs b (by rw [Yex]; exact hb), .inl (by rw [Yex]; exact hb), (I4.ok.exf b (by rw [Yex]; exact hb)).2, fun p hp => ?_⟩
  rw [Ypn] at hp
  simp at hp
 have back : ∀ {H' : Hp} {s' : Shared} {σ' : St}, Inv Y [] σ' H' s' → Inv X pins σ H' s' ∧ FpOk X pins H' Y.env.locals ∧ ∃ m, s'.heap.Ns Y.env.locals m := fun {H' s' σ'} J => by
  have hb : Un (frs X.stack) fp (upd H s.heap.objs.size (.lst [])) H' (s.heap.push { cls := .type "list", data := .seq ([] : List Value).toArray }) s'.heap := by
   have := J.base
   rw [Yfs, Yex, YH0, Ys0] at this
   exact this
  have loc : Y.env.locals = s.heap.objs.size + 1 := by rw [Yenv]; exact gsz
  have os : s'.os = s.os := by
   have := J.os
   rw [Ys0] at this
   exact this
  have hok : HOk X.prog X.w H' s'.heap := by
   have := J.hok
   rw [Yprog, Yw] at this
   exact this
  refine ⟨I3.call' (ch := fp) os hb hok J.bare fun b hb => ⟨(ff b hb).2.2.2.1, (ff b hb).2.1, (ff b hb).2.2.2.2.1, (ff b hb).2.2.2.2.2⟩, ?_, let ⟨m, q, _⟩ := J.loc; ⟨m, q⟩⟩
  exact I.fpOk (by rw [loc]; exact Nat.le_succ _) J.free
 have loop : codeAny (model Y.prog Y.w) Y.A (.compLoop (.ListComp elt [⟨tg, iter, ifs, 0⟩] scope pos) 0 (.ref it) (.ref s.heap.objs.size) Y.env) (RR (.ref s.heap.objs.size) Y.env.locals)
   { s with heap := pushCells ((s.heap.push { cls := .type "list", data := .seq ([] : List Value).toArray }).push { cls := .type "dict", data := .dict #[] }) scope.names } := by
  refine compLoop_own (fun n s' => ∃ i acc H', Inv Y [] (st0 nt js σ) H' s' ∧ tn i s'.heap ∧ (∀ b ∈ fp, H' b = none) ∧ W i n acc H') ?_ m0
   ⟨0, [], _, I4, T.keep _ _ _ st fun b _ o e => pushCells_keeps _ _ b o (Heap.get?_push_of_some _ (kD b o e)), fun b hb => (ff3 b hb).1, w0⟩
  rintro n s5 ⟨i, acc, H5, I5, st5, fr5, w5⟩
  rcases turn i n acc H5 w5 with ⟨stop, q⟩ | ⟨go, hlen, B, hB, step⟩
  · have hd := T.done Y Yprog Yw YK Ycalm i [] s5 _ H5 (fun _ _ => False) I5 (fpY fr5) st5 stop
    rw [← Yprog, ← Yw] at hd
    refine thn hd fun r s6 zz6 => ?_
    obtain ⟨hr, I6⟩ := zz6
    subst hr
    obtain ⟨b1, b2, b3⟩ := back I6
    exact fin _ _ _ _ b1 b2 b3 q
  · have hd := T.item Y Yprog Yw YK Ycalm i [] s5 _ H5 (fun _ _ => False) I5 (fpY fr5) st5 go
    rw [← Yprog, ← Yw] at hd
    refine thn hd fun r s6 zz7 => ?_
    obtain ⟨u, hr, h6⟩ := zz7
    subst hr
    refine thn h6 fun _ s7 zz8 => ?_
    obtain ⟨x, H7, I7, r7, y7, st7, fr7⟩ := zz8
    have I7' := I7.pinned (fpY fr7) (T.obj _ _ st7)
    have g7 := hlow _ _ _ _ (step x H7 y7)
    have h7 := hgY _ s7 _ H7 x u _ I7' r7 g7
    rw [Yxe] at h7
    refine thn h7 fun _ s8 zz9 => ?_
    obtain ⟨σ8, H8, I8, q8, l8, k8⟩ := zz9
    have h8 := hfY _ s8 σ8 H8 _ I8 q8
    rw [Yxe] at h8
    refine thn h8 fun b s9 zz10 => ?_
    obtain ⟨H9, I9, q9⟩ := zz10
    have again : ∀ {H10 : Hp} {s10 : Shared} {acc' : List V}, Inv Y ([] ++ pinsAt fp s7.heap) σ8 H10 s10 → B acc' H10 → ∃ m, m < n ∧ ∃ i acc H', Inv Y [] (st0 nt js σ) H' s10 ∧ tn i s10.heap ∧ (∀ b ∈ fp, H' b = none) ∧ W i m acc H' := fun {H10 s10 acc'} I10 b10 => by
     obtain ⟨m', hm', w10⟩ := hB acc' H10 b10
     refine ⟨m', hm', i + 1, acc', H10, I10.unpinned.weak l8.symm fun k v e => ?_, T.keep _ _ _ st7 fun b hb o e => (I10.pin (b, o) (List.mem_append_right _ (List.mem_append_right _ (mem_pinsAt hb e)))).1, fun b hb => ?_, w10⟩
     · by_cases hk : nt ≤ k
       · rw [k8 k hk]; exact e
       · exfalso
         unfold st0 at e
         rw [List.getElem?_append_left (by simp; lia), List.getElem?_replicate, if_pos (by lia)] at e
         cases e
     · obtain ⟨o, e, d⟩ := T.obj _ _ st7 b hb
       exact (I10.pin (b, o) (List.mem_append_right _ (List.mem_append_right _ (mem_pinsAt hb e)))).2.1
    cases b with
    | false =>
     rw [if_neg Bool.false_ne_true] at q9 ⊢
     exact again I9 q9
    | true =>
     rw [if_pos rfl] at q9 ⊢
     have h9 := heY _ s9 σ8 H9 _ I9 q9
     rw [Yxe] at h9
     refine thn h9 fun y s10 zz11 => ?_
     obtain ⟨v, H10, I10, r10, hD10, q10⟩ := zz11
     have h10 := (mt_append (X := Y) _ s10 σ8 H10 (.ref s.heap.objs.size) [v] (.ref s.heap.objs.size) [y] (fun _ H' => B (acc ++ [v]) H') I10 rfl (.cons r10 .nil) ⟨_, acc, v, rfl, rfl, hD10, hlen, q10⟩)
     rw [Yxe] at h10
     refine thn h10 fun _ s11 zz12 => ?_
     obtain ⟨_, H11, I11, _, q11⟩ := zz12
     exact again I11 q11
 have eloc2 : (s.heap.push { cls := .type "list", data := .seq ([] : List Value).toArray }).objs.size = Y.env.locals := by rw [Yenv]; rfl
 rw [eloc2]
 exact codeAny_compStart_list loop (by rw [Yprog, Yw, YA] at *; exact T.self _ 0 _ _ _ (T.keep _ _ _ st fun b _ o e => pushCells_keeps _ _ b o (Heap.get?_push_of_some _ (kD b o e))) loop)
theorem pe_comp {elt tg iter : Expr} {ifs : List Expr} {pos : Pos} {wi : TI} {g : TG} {tc : TT} {te : TE} (S : CpOk X N nt js scope) (hc : X.calm = true) (hi : PI X tg iter wi)
  (hg : ∀ s H cl C ex, PG (blk X N scope s H cl C ex) tg g) (hlow : GLow nt g) (hf : ∀ s H cl C ex, PF (blk X N scope s H cl C ex) ifs tc) (he : ∀ s H cl C ex, PE (blk X N scope s H cl C ex) elt te)
  (hs : autoParam (∀ x, foldedSetIterable iter X.env x = pure x) au4._auto_1) : PE X (.ListComp elt [⟨tg, iter, ifs, 0⟩] scope pos) (tComp nt js wi g tc te) := by
 intro pins s σ H Q I h
 obtain ⟨cl, hcl, c1, c2⟩ := closure_of (scope := scope) (env := X.env) fun x hx e => I.ok.has x.1 (S.see x hx e)
 rw [eval_ListComp]
 refine wpAny_comprehension_free (use := none) rfl hs hcl S.kind S.names (thn (hi pins s σ H _ I h) fun v s1 h1 => thn h1 fun itv s2 h2 => ?_)
 obtain ⟨it, fp, tn, J, H2, rfl, I2, T, st2, f2, R⟩ := h2
 refine comp_core (RR := fun acc C => compPost (model X.prog X.w) X.A X.xe none (EP X pins σ Q) acc C) S hc hg hlow hf he I2 T st2 f2 c1 c2 R fun D C s' H' I' fo zz13 q => ?_
 obtain ⟨m, hn⟩ := zz13
 refine ⟨m, hn, fun h' sb => ⟨.ref D, H', ?_, rfl, q⟩⟩
 obtain ⟨f0, f1, _, f3, f4, f5⟩ := fo
 exact I'.turned (t' := s'.toks) (fun b o hb e => (sb.2 b hb).trans e) f0 f1 f3 f4 f5
theorem ps_comp {i : Nat} {y : Str} {elt tg iter : Expr} {ifs : List Expr} {pos pos' py : Pos} {wi : TI} {g : TG} {tc : TT} {te : TE} (hN : X.N.Nodup) (hiN : X.N[i]? = some y) (hy : Loc X.env.scope y) (S : CpOk X N nt js scope) (hc : X.calm = true) (hi : PI X tg iter wi)
  (hg : ∀ s H cl C ex, PG (blk X N scope s H cl C ex) tg g) (hlow : GLow nt g) (hf : ∀ s H cl C ex, PF (blk X N scope s H cl C ex) ifs tc) (he : ∀ s H cl C ex, PE (blk X N scope s H cl C ex) elt te)
  (hsw : autoParam (swapsWith (.ListComp elt [⟨tg, iter, ifs, 0⟩] scope pos) (some (.Name y py)) pos'.line X.env = pure true) au5._auto_1) (hs : autoParam (∀ x, foldedSetIterable iter X.env x = pure x) au4._auto_1)
  (hfn : autoParam (X.fn y = true ∨ X.env.scope.names.lookup y = some .local) au1._auto_1) :
  PS X (.Assign [.Name y py] (.ListComp elt [⟨tg, iter, ifs, 0⟩] scope pos) pos') (tAsg (tComp nt js wi g tc te) (gName i)) := by
 intro pins s σ H D I h
 obtain ⟨cl, hcl, c1, c2⟩ := closure_of (scope := scope) (env := X.env) fun x hx e => I.ok.has x.1 (S.see x hx e)
 rw [exec_Assign_Name_used _ _ _ _ hsw]
 refine wpAny_bind (wpAny_standAt (wpAny_bind ?_))
 show wpAny _ _ (do let _ ← comprehension (.ListComp elt [⟨tg, iter, ifs, 0⟩] scope pos) scope X.env _ (newList []) false (eval iter X.env) (some (assign (.Name y py) X.env))) _ _ s
 refine wpAny_bind (wpAny_mono (wpAny_comprehension_free (use := some (assign (.Name y py) X.env)) (Q := fun _ s' => SP X pins D .next s') rfl hs hcl S.kind S.names
  (thn (hi pins s σ H _ I h) fun v s1 h1 => thn h1 fun itv s2 h2 => ?_)) (fun _ s' hq => wpAny_pure (wpAny_pure hq)) fun _ _ e => e)
 obtain ⟨it, fp, tn, J, H2, rfl, I2, T, st2, f2, R⟩ := h2
 refine comp_core (RR := fun acc C => compPost (model X.prog X.w) X.A X.xe (some (assign (.Name y py) X.env)) (fun _ s' => SP X pins D .next s') acc C) (Q := fun x H1 => gName i x σ H1 D.nx) S hc hg hlow hf he I2 T st2 f2 c1 c2 R fun Da C s' H' I' fo zz14 q => ?_
 obtain ⟨m, hn⟩ := zz14
 show wpAny _ _ (assign (.Name y py) X.env (.ref Da)) _ _ _
 obtain ⟨f0, f1, _, f3, f4, f5⟩ := fo
 refine wpAny_assign_Name (store_ok2 I' hN hiN hy (v := .ref Da) rfl (fun s'' I'' zz15 => ?_) hfn)
 obtain ⟨a, sb, ha⟩ := zz15
 have hCa : C ≠ a := by
  rcases ha with z | z
  · rw [z]; exact f1
  · exact Ne.symm (f4 _ _ z)
 refine ⟨m, hn.sameBut sb hCa, fun h' sb' => ⟨_, H', ?_, q⟩⟩
 exact I''.turned (t' := s''.toks) (fun b o hb e => (sb'.2 b hb).trans e) f0 f1 f3 f4 f5
end
end L2
end
section
namespace L2
open PySem PySem.Spec PyProof.Rows
open AutoSeq1 (wpAny_loadPart')
section
variable {prog : Program} {w : World} {A : Around} {E : Value → Shared → Prop} {s : Shared}
theorem initKw {T newId : String} {me : Value} {more : List Value} {kw : List (Str × Value)} (q1 : typeLookup (.type T) "__init__" = pure (some (.builtin "object.__init__")))
  (q2 : Bind.madeBy (.type T) = pure (some newId)) (q3 : (some newId != some "object.__new__") = true) : Meets (Builtin.«object.__init__» ⟨me :: more, kw⟩) (fun _ R s => s.TypeIs me T ∧ R (.ok (.ret .none)) s) := by
 refine Meets.of_wp fun prog w A R s zz1 => ?_
 obtain ⟨hT, hq⟩ := zz1
 cases more with
 | nil =>
  cases kw with
  | nil => exact wpAny_pure ⟨_, rfl, hq⟩
  | cons p r =>
   repeat (any_goals (first | assumption | wp_step))
   all_goals exact ⟨_, rfl, hq⟩
 | cons a r =>
  repeat (any_goals (first | assumption | wp_step))
  all_goals exact ⟨_, rfl, hq⟩
theorem callTyKw {T newId : String} {B : Builtin} {xs : List Value} {kw : List (Str × Value)} {S : PySem.Spec} {Q : Value → Shared → Prop} (ft : TypeCalled T newId "object.__init__") (hne : (some newId != some "object.__new__") = true)
  (c1 : checkTypeCall T ⟨xs, kw⟩ = pure ()) (c2 : checkBuiltinCall newId ⟨.type T :: xs, kw⟩ = pure ()) (c3 : ∀ ob, argsOk "object.__init__" ⟨ob :: xs, kw⟩) (eN : entryFor table newId = some B) (mt : Meets (B ⟨.type T :: xs, kw⟩) S)
  (h : S A.in1 (wants (fun ob z => z.TypeIs ob T ∧ Q ob z) E) s) : wpAny (model prog w) A (call (.type T) xs kw) Q E s := by
 obtain ⟨c, tl, hmro⟩ := ft.mro
 have hmade := ft.made
 have hsub := ft.sub
 refine wpAny_call (codeAny_of_tree (show wpAny _ _ (callAny (.type T) _) _ _ _ from wpAny_pure ⟨Code.quiet_builtin _ (by decide +kernel), codeAny_builtin F.entry_type_call ?_⟩))
 rw [Around.under_plain (weight_type_call_type T xs kw) (units_type_call_type T xs kw)]
 have k1 := ft.notType
 have k2 := ft.canCreate
 repeat (any_goals (first | assumption | wp_step))
 refine codeAny_mono (codeAny_call_builtin ft.plain eN (wpAny_of_eq c2 (mt prog w A.in1 _ s h))) fun r z hr => ?_
 match r, hr with
 | .error e, hr => exact hr
 | .ok (.ret ob), hr =>
  obtain ⟨hT, hq⟩ := hr
  have l1 := ft.init.lookup
  have l2 := ft.init.bind ob
  repeat (any_goals (first | assumption | wp_step))
  refine codeAny_mono (codeAny_call_builtin ft.init.plain F.entry_object_init (ft.init.check _ _ _ _ _ _ _ _ hT (c3 ob) (initKw ft.init.lookup ft.made hne prog w A.in1 (wants (fun v z' => v = .none ∧ Q ob z') E) z ⟨hT, rfl, hq⟩))) fun r2 z2 hr2 => ?_
  match r2, hr2 with
  | .error e, hr2 => exact hr2
  | .ok (.ret v), hr2 =>
   obtain ⟨rfl, hq2⟩ := hr2
   repeat (any_goals (first | assumption | wp_step))
  | .ok .next, hr2 => exact hr2.elim
  | .ok .brk, hr2 => exact hr2.elim
  | .ok .cont, hr2 => exact hr2.elim
 | .ok .next, hr => exact hr.elim
 | .ok .brk, hr => exact hr.elim
 | .ok .cont, hr => exact hr.elim
end
end L2
end
section
namespace L2
open PySem PySem.Spec PyProof.Rows
open AutoSeq1 (wpAny_loadPart')
noncomputable def enumLaid (h : Heap) (t : Addr) (k : Int) : Heap :=
 (h.push { cls := .type "tuple_iterator", data := .fields #[.ref t, .int 0 0] }).push { cls := .type "enumerate", data := .fields #[.none, .bool false, .ref h.objs.size, rawInt k, .none, .none] }
def enumSpec (t : Addr) (k : Int) : PySem.Spec := fun _ R s => (∃ items, s.heap.IsTuple t items) ∧ R (.ok (.ret (.ref (s.heap.push { cls := .type "tuple_iterator", data := .fields #[.ref t, .int 0 0] }).objs.size))) { s with heap := enumLaid s.heap t k }
theorem enumNewK (t : Addr) (u : Tok) : Meets (Builtin.«enumerate.__new__» ⟨[.type "enumerate", .ref t], [("start", .int 1 u)]⟩) (enumSpec t 1) :=
 .of_wp fun prog w A R s zz2 => (by obtain ⟨⟨items, hT⟩, h⟩ := zz2; exact (by
  obtain ⟨hp, g, d, tk, os⟩ := s
  have hsub := sub_enumerate
  obtain ⟨⟨c, dct, dt, sl⟩, hl, hc, n, hd⟩ := id hT
  replace hc : c = .type "tuple" := hc
  replace hd : dt = .seq items n := hd
  subst hc hd
  wp_walk using wpAny_loadPart' hl
  refine wpAny_stack_any fun st => wpAny_pure ?_
  split
  · rename_i c _ _ _ _ _
    cases (c == Value.type "enumerate") <;> (wp_walk using wpAny_loadPart' hl, wpAny_pyIter_tuple hT; exact ⟨_, rfl, h⟩)
  · wp_walk using wpAny_loadPart' hl, wpAny_pyIter_tuple hT
    exact ⟨_, rfl, h⟩))
theorem enumNew1 (t : Addr) (u : Tok) : Meets (Builtin.«enumerate.__new__» ⟨[.type "enumerate", .ref t, .int 1 u], []⟩) (enumSpec t 1) :=
 .of_wp fun prog w A R s zz3 => (by obtain ⟨⟨items, hT⟩, h⟩ := zz3; exact (by
  obtain ⟨hp, g, d, tk, os⟩ := s
  have hsub := sub_enumerate
  obtain ⟨⟨c, dct, dt, sl⟩, hl, hc, n, hd⟩ := id hT
  replace hc : c = .type "tuple" := hc
  replace hd : dt = .seq items n := hd
  subst hc hd
  wp_walk using wpAny_loadPart' hl
  refine wpAny_stack_any fun st => wpAny_pure ?_
  split
  · rename_i c _ _ _ _ _
    cases (c == Value.type "enumerate") <;> (wp_walk using wpAny_loadPart' hl, wpAny_pyIter_tuple hT; exact ⟨_, rfl, h⟩)
  · wp_walk using wpAny_loadPart' hl, wpAny_pyIter_tuple hT
    exact ⟨_, rfl, h⟩))
end L2
end
section
namespace L2
open PySem PySem.Spec PyProof.Rows
open AutoSeq1 (wpAny_loadPart')
section
variable {prog : Program} {w : World} {A : Around} {E : Value → Shared → Prop} {s : Shared}
theorem tupNext1 {it t : Addr} {j : Nat} {its : Array Value} {y : Value} {Q : Value → Shared → Prop} (a1 : s.heap.IsTupleIter it t j) (a2 : s.heap.IsTuple t its) (a3 : its[j]? = some y)
  (k : ∀ h', h'.IsTupleIter it t (j + 1) → Heap.SameBut it s.heap h' → Q y { s with heap := h' }) : wpAny (model prog w) A (Builtin.SmallTypes.nextOf (.ref it)) Q E s := by
 obtain ⟨ob, b1, b2, b3⟩ := id a1
 obtain ⟨ot, d1, _, nt, d2⟩ := a2
 unfold Builtin.SmallTypes.nextOf
 refine wpAny_bind (wpAny_callSpecial?_slot (name := Str.ofString "__next__") a1.typeIs F.slot_tuple_iterator_next (wpAny_call_entry F.slot_tuple_iterator_next a1.typeIs F.entry_tuple_iterator_next ?_ (F.args_tuple_iterator_next_1 _)))
 show wpAny _ _ (field (.ref it) 0 >>= _) _ _ s; refine wpAny_bind (wpAny_field b1 b3 (x := .ref t) rfl ?_)
 show wpAny _ _ (if (Value.ref t == Value.none) = true then _ else _) _ _ s; rw [if_neg (show ¬ (Value.ref t == Value.none) = true from fun z => nomatch (show false = true from z))]
 show wpAny _ _ (field (.ref it) 1 >>= _) _ _ s; refine wpAny_bind (wpAny_field b1 b3 (x := .int j 0) rfl ?_)
 show wpAny _ _ (seqItems? (.ref t) >>= _) _ _ s; refine wpAny_bind (wpAny_seqItems d1 d2 ?_); simp only [Int.toNat_natCast, a3]
 refine wpAny_bind (wpAny_setField b1 b3 (by simp) (wpAny_pure ⟨y, rfl, wpAny_pure (k _ ⟨_, Heap.get?_update_self _ b1 (Obj.isFreed_of_fields (Obj.data_mapFields b3 _)), (Obj.cls_mapFields ..).trans b2, by rw [Obj.data_mapFields b3]; simp [rawInt]⟩ (Heap.SameBut.update ..))⟩))
theorem tupNext0 {it t : Addr} {j : Nat} {its : Array Value} {Q : Value → Shared → Prop} (hh : A.handled = none) (a1 : s.heap.IsTupleIter it t j) (a2 : s.heap.IsTuple t its) (a3 : its[j]? = none)
  (k : ∀ h' e, Heap.ExtBut it s.heap h' → (∃ o, h'.get? e = some o ∧ o.cls = .type "StopIteration") → E (.ref e) { s with heap := h' }) : wpAny (model prog w) A (Builtin.SmallTypes.nextOf (.ref it)) Q E s := by
 obtain ⟨ob, b1, b2, b3⟩ := id a1
 obtain ⟨ot, d1, _, nt, d2⟩ := a2
 unfold Builtin.SmallTypes.nextOf
 refine wpAny_bind (wpAny_callSpecial?_slot (name := Str.ofString "__next__") a1.typeIs F.slot_tuple_iterator_next (wpAny_call_entry F.slot_tuple_iterator_next a1.typeIs F.entry_tuple_iterator_next ?_ (F.args_tuple_iterator_next_1 _)))
 show wpAny _ _ (field (.ref it) 0 >>= _) _ _ s; refine wpAny_bind (wpAny_field b1 b3 (x := .ref t) rfl ?_)
 show wpAny _ _ (if (Value.ref t == Value.none) = true then _ else _) _ _ s; rw [if_neg (show ¬ (Value.ref t == Value.none) = true from fun z => nomatch (show false = true from z))]
 show wpAny _ _ (field (.ref it) 1 >>= _) _ _ s; refine wpAny_bind (wpAny_field b1 b3 (x := .int j 0) rfl ?_)
 show wpAny _ _ (seqItems? (.ref t) >>= _) _ _ s; refine wpAny_bind (wpAny_seqItems d1 d2 ?_); simp only [Int.toNat_natCast, a3]
 refine wpAny_bind (wpAny_rule (wpAny_bind (wpAny_setField b1 b3 (by simp) ?_)))
 show wpAny _ _ (newExc (.type "StopIteration") [] >>= _) _ _ _
 refine wpAny_bind ?_; simp only [newExc, newTuple]; refine wpAny_bind (wpAny_newObj_type ?_ (by size_fits))
 refine wpAny_bind (m := firstArgMember _ _) (wpAny_of_eq (a := Value.none) (by first | rfl | (simp only [firstArgMember]; rfl)) (wpAny_newObj_type ?_ (by size_fits)))
 simp only [raiseNew]; refine wpAny_bind (wpAny_handled ?_)
 first | rw [show A.in1.handled = none from hh] | rw [hh]
 exact wpAny_bind (wpAny_pure (wpAny_throw (k _ _ (((Heap.SameBut.update ..).extBut.push _).push _) ⟨_, Heap.get?_push_size _ rfl, rfl⟩)))
end
theorem drawsTup {prog : Program} {w : World} {A : Around} (hh : A.handled = none) (it t : Addr) (hne : t ≠ it) (its : Array Value) (k : Nat) :
  Draws prog w A it [it, t] (its.size + k) (fun i v => k ≤ i ∧ its[i - k]? = some v) (fun i h => k ≤ i ∧ h.IsTupleIter it t (i - k) ∧ h.IsTuple t its) where
 live := fun _ _ zz1 => (by obtain ⟨_, st, _⟩ := zz1; exact (let ⟨o, ho, _⟩ := st; ⟨o, ho⟩))
 frame := fun _ _ _ zz2 hk => (by obtain ⟨l, st, st2⟩ := zz2; exact (⟨l, let ⟨o, q, r⟩ := st; ⟨o, hk it (by simp) o q, r⟩, let ⟨o, q, r⟩ := st2; ⟨o, hk t (by simp) o q, r⟩⟩))
 item := fun i s Q E hi ⟨l, st, st2⟩ hQ => by
  have hlt : i - k < its.size := by grind
  refine tupNext1 st st2 (y := its[i - k]) (by simp [hlt]) fun h' q1 q2 => hQ _ h' s.toks ⟨l, by simp [hlt]⟩ ⟨by grind, ?_, ?_⟩ q2
  · rw [show i + 1 - k = i - k + 1 by grind]; exact q1
  · obtain ⟨o, q, r⟩ := st2; exact ⟨o, (q2.2 t hne).trans q, r⟩
 done := fun s Q E zz4 hE => (by obtain ⟨l, st, st2⟩ := zz4; exact (tupNext0 hh st st2 (by simp) hE))
section
variable {X : Cx} {pins : List (Addr × Obj)} {σ : St} {H : Hp} {s : Shared}
theorem Inv.turnedNew {h' : Heap} {t' : Nat} {ch : List Addr} {T : Addr} {o : HO} (I : Inv X pins σ H s) (hc : ∀ b ∈ ch, FpOk X pins H b) (hT : s.heap.objs.size ≤ T) (k : ∀ b u, b ∉ ch → s.heap.get? b = some u → h'.get? b = some u)
  (new : ObjOk X.prog X.w (upd H T o) h' T o) : Inv X pins σ (upd H T o) { s with heap := h', toks := t' } := by
 have nT : H T = none := I.hok.fresh hT
 have ne : ∀ b u, s.heap.get? b = some u → b ≠ T := fun b u e z => absurd (Nat.lt_of_lt_of_le (Heap.lt_size e) (z ▸ hT)) (Nat.lt_irrefl _)
 have trk : ∀ b u, H b = some u → b ∉ ch := fun b u e z => by rw [(hc b z).1] at e; cases e
 refine I.step (g' := s.gens) (d' := s.drawn) (ch := ch) (fun b hb => ?_) (fun b u _ _ hn e _ => k b u hn e) (fun b u _ _ hn e _ => ⟨u.slots, k b u hn e⟩) (fun b u hn e n => by rw [upd_ne (ne b u e)]; exact n)
  (fun b u hn e => ⟨u, k b u hn e⟩) (fun b xs e => by rw [upd_ne (ne_of_none e nT)]; exact e) (fun b ob u e => by rw [upd_ne (ne_of_none e nT)]; exact e) (fun b ps e => ⟨#[], by rw [upd_ne (ne_of_none e nT), e]; simp⟩) (fun m hm => ?_) (fun b u e => ?_) I.bare
 · obtain ⟨f0, f1, f2, f3, f4, f5⟩ := hc b hb
   exact ⟨f3, f1, f4, f5⟩
 · obtain ⟨ob, es, ep, ho, r⟩ := hm
   exact ⟨ob, es, ep, k _ ob (fun z => (hc _ z).2.1 rfl) ho, r⟩
 · by_cases hb : b = T
   · subst hb; rw [upd_same] at e; cases e; exact new
   · rw [upd_ne hb] at e
     refine (I.hok b u e).stay (fun c v hc' q => k c v ?_ q) (fun c q => by rw [upd_ne (ne_of_none q nT)]; exact q) fun c xs q => by rw [upd_ne (ne_of_none q nT)]; exact q
     rcases hc' with z | z
     · rw [z]; exact trk b u e
     · exact trk c _ z
noncomputable def Ite (K : PySem.W.Frag) (a : Addr) (k : Nat) : It :=
 ⟨fun i H => ∃ xs x, SqT K H a xs ∧ xs[i]? = some x, fun i H x H' => ∃ p y, x = .ref p ∧ H p = none ∧ H' = upd H p (.tup [.int ((i + k : Nat) : Int), y]) ∧ ∀ xs, SqT K H a xs → xs[i]? = some y, fun i H => ∃ xs, SqT K H a xs ∧ xs.length = i⟩
theorem turn_enum {P : Program} {w : World} {K : PySem.W.Frag} {es : List Expr} {x1} {tp : Pos} (a e it : Addr) (k : Nat) (hei : e ≠ it) :
  Turn P w K (.Tuple es x1 tp) (Ite K a k) [e, it] e (fun i h => (∃ old, IsEnum h e it ((i + k : Nat) : Int) old) ∧ h.IsTupleIter it a i) where
 mem := by simp
 obj := fun i h st b hb => by
  obtain ⟨⟨old, st1⟩, st2⟩ := st
  rcases List.mem_cons.mp hb with q | q
  · subst q; exact ⟨_, st1, fun v z => nomatch (show Data.fields _ = Data.cell v from z)⟩
  · have q : b = it := by simpa using q
    subst q
    obtain ⟨o, q1, q2, q3⟩ := st2
    exact ⟨o, q1, fun v z => by rw [q3] at z; cases z⟩
 keep := fun i h h' st kk => by
  obtain ⟨⟨old, st1⟩, st2⟩ := st
  exact ⟨⟨old, kk e (by simp) _ st1⟩, st2.at fun o q => kk it (by simp) o q⟩
 item := by
  intro X hP hw hK hc i pins s σ H E I hf st hg
  subst hP hw hK
  obtain ⟨xs, x, hq, hx⟩ := hg
  obtain ⟨its, rv, p, hz⟩ := I.tuple hq
  obtain ⟨u, hu, ru⟩ := rv.get hx
  obtain ⟨⟨old, st1⟩, st2⟩ := st
  have ha : ∃ o, s.heap.get? a = some o := let ⟨o, q, _⟩ := p; ⟨o, q⟩
  have hae : a ≠ e := by
   rintro rfl
   obtain ⟨o, q1, q2, _⟩ := p
   rw [st1] at q1; cases q1; injection q2 with z; exact absurd z (by decide)
  have hai : a ≠ it := by
   rintro rfl
   obtain ⟨o, q1, q2, _⟩ := p
   obtain ⟨o', r1, r2, _⟩ := st2
   rw [r1] at q1; cases q1; rw [r2] at q2; injection q2 with z; exact absurd z (by decide)
  have D := drawsTup (prog := X.prog) (w := X.w) (A := X.A.in1) (I.ok.hd hc) it a hai its.toArray k
  have hlen : i < its.length := (List.getElem?_eq_some_iff.mp hu).1
  refine wpAny_pyNext_enum_itemD D st1 ⟨by lia, by rw [show i + k - k = i by lia]; exact st2, p⟩ (by simp; lia) hei (by simp [hei, Ne.symm hae]) fun y h' tk hy ho hs' ht hsz hk => ?_
  obtain ⟨_, hy⟩ := hy
  rw [show i + k - k = i by lia] at hy
  have ey : y = u := by
   have : its[i]? = some y := by simpa using hy
   rw [hu] at this; cases this; rfl
  subst ey
  refine ⟨_, rfl, ?_⟩
  refine wpAny_letOwnedTupleGo_enum ho fun h2 he2 sb2 => ?_
  have hTlt : e < s.heap.objs.size := Heap.lt_size st1
  have hitlt : it < s.heap.objs.size := let ⟨o, q, _⟩ := st2; Heap.lt_size q
  have I1 : Inv X pins σ (upd H s.heap.objs.size (.tup [.int ((i + k : Nat) : Int), x])) { s with heap := h2, toks := tk + 1 } := by
   refine I.turnedNew (ch := [e, it]) hf (Nat.le_refl _) (fun b o hb q => ?_) ⟨by show 2 ≤ sizeLine; decide, [.int ((i + k : Nat) : Int) tk, y], .cons ⟨_, rfl⟩ (.cons ru .nil), ?_⟩
   · have h1 : b ≠ e := fun z => hb (by simp [z])
     have h2' : b ≠ it := fun z => hb (by simp [z])
     exact (sb2.2 b h1).trans (hk b o h1 h2' q)
   · exact ⟨_, (sb2.2 _ (Nat.ne_of_gt hTlt)).trans ht, rfl, rfl, _, rfl⟩
  refine ⟨.ref s.heap.objs.size, _, I1, rfl, ⟨_, x, rfl, I.hok.fresh (Nat.le_refl _), rfl, fun ys hy => by rw [I.tuple_inj hy hq]; exact hx⟩, ⟨⟨y, ?_⟩, ?_⟩, fun b hb => ?_⟩
  · rw [show ((i + 1 + k : Nat) : Int) = ((i + k : Nat) : Int) + 1 by lia]; exact he2
  · obtain ⟨_, q, _⟩ := hs'
    rw [show i + k + 1 - k = i + 1 by lia] at q
    exact q.at fun o z => (sb2.2 it (Ne.symm hei)).trans z
  · rw [upd_ne (fun z => ?_)]
    · exact (hf b hb).1
    · rcases List.mem_cons.mp hb with q | q
      · subst q; exact absurd (z ▸ hTlt) (Nat.lt_irrefl _)
      · have q : b = it := by simpa using q
        subst q; exact absurd (z ▸ hitlt) (Nat.lt_irrefl _)
 done := by
  intro X hP hw hK hc i pins s σ H E I hf st hg
  subst hP hw hK
  obtain ⟨xs, hq, hx⟩ := hg
  obtain ⟨its, rv, p, hz⟩ := I.tuple hq
  obtain ⟨⟨old, st1⟩, st2⟩ := st
  have hai : a ≠ it := by
   rintro rfl
   obtain ⟨o, q1, q2, _⟩ := p
   obtain ⟨o', r1, r2, _⟩ := st2
   rw [r1] at q1; cases q1; rw [r2] at q2; injection q2 with z; exact absurd z (by decide)
  have hl := rv.length
  have D := drawsTup (prog := X.prog) (w := X.w) (A := X.A.in1) (I.ok.hd hc) it a hai its.toArray k
  obtain ⟨f0, f1, f2, f3, f4, f5⟩ := hf it (by simp)
  refine wpAny_pyNext_enum_endD D st1 ⟨by simp, ?_, p⟩ fun h' eb => ⟨rfl, I.turned (t' := s.toks) (fun b o hb q => eb b o hb q) f0 f1 f3 f4 f5⟩
  rw [show its.toArray.size + k - k = i by simp; lia]
  exact st2
 self := fun A i s Q E st h => by
  obtain ⟨⟨old, st1⟩, _⟩ := st
  exact wpAny_pyIter_enum st1 h
end
end L2
end
section
namespace L2
open PySem PySem.Spec PyProof.Rows
section
variable {X : Cx} {tg : Expr} {a b : Expr} {ta tb : TE} {pos : Pos}
def iEnum1 (K : PySem.W.Frag) (ta : TA) : TI := fun σ H R => ta σ H fun vs H1 => ∃ a, vs = [.ref a, .int 1] ∧ (∃ xs, SqT K H1 a xs) ∧ R (Ite K a 1) H1
def iEnumK (K : PySem.W.Frag) (ta : TA) (tk : TA) : TI := fun σ H R => ta σ H fun vs H1 => tk σ H1 fun zs H2 => ∃ a, vs = [.ref a] ∧ zs = [.int 1] ∧ (∃ xs, SqT K H2 a xs) ∧ R (Ite K a 1) H2
theorem enumLaid_it {pins : List (Addr × Obj)} {σ : St} {H : Hp} {s : Shared} {R : It → Hp → Prop} {E : Value → Shared → Prop} {es : List Expr} {x1} {tp : Pos} {p : Addr} {k : Nat} {tk : Nat} (I : Inv X pins σ H s) (q : R (Ite X.K p k) H) :
  wpAny (model X.prog X.w) X.A (pyIter (.ref (s.heap.push { cls := .type "tuple_iterator", data := .fields #[.ref p, .int 0 0] }).objs.size)) (PIE X pins σ (.Tuple es x1 tp) R) E { s with heap := enumLaid s.heap p k, toks := tk } := by
 have z : (s.heap.push { cls := .type "tuple_iterator", data := .fields #[.ref p, .int 0 0] }).objs.size = s.heap.objs.size + 1 := Heap.size_push ..
 have he : IsEnum (enumLaid s.heap p k) (s.heap.objs.size + 1) s.heap.objs.size k .none := by
  have := Heap.get?_push_size (s.heap.push { cls := .type "tuple_iterator", data := .fields #[.ref p, .int 0 0] }) (o := { cls := .type "enumerate", data := .fields #[.none, .bool false, .ref s.heap.objs.size, rawInt k, .none, .none] }) rfl
  rw [z] at this; exact this
 have hi : (enumLaid s.heap p k).IsTupleIter s.heap.objs.size p 0 := ⟨_, Heap.get?_push_of_some _ (Heap.get?_push_size _ rfl), rfl, rfl⟩
 rw [z]
 refine wpAny_pyIter_enum he ?_
 refine ⟨s.heap.objs.size + 1, [s.heap.objs.size + 1, s.heap.objs.size], _, Ite X.K p k, H, rfl, I.kept fun c o e => Heap.get?_push_of_some _ (Heap.get?_push_of_some _ e), turn_enum p _ _ k (Nat.succ_ne_self _), ⟨⟨.none, ?_⟩, hi⟩, fun c hc => ?_, q⟩
 · rw [Nat.zero_add]; exact he
 · have hle : s.heap.objs.size ≤ c := by
     rcases List.mem_cons.mp hc with q | q
     · rw [q]; exact Nat.le_succ _
     · have q : c = s.heap.objs.size := by simpa using q
       rw [q]; exact Nat.le_refl _
   exact I.fpOk hle (I.hok.fresh hle)
theorem enumType2 (a b : Value) : checkTypeCall "enumerate" ⟨[a, b], []⟩ = pure () := by kernel_rfl
theorem enumNewC2 (a b : Value) : checkBuiltinCall "enumerate.__new__" ⟨[.type "enumerate", a, b], []⟩ = pure () := by kernel_rfl
theorem enumTypeK (a b : Value) : checkTypeCall "enumerate" ⟨[a], [("start", b)]⟩ = pure () := by kernel_rfl
theorem enumNewCK (a b : Value) : checkBuiltinCall "enumerate.__new__" ⟨[.type "enumerate", a], [("start", b)]⟩ = pure () := by kernel_rfl
theorem objInit3 (a b c : Value) : argsOk "object.__init__" ⟨[a, b, c], []⟩ := by unfold argsOk; kernel_rfl
theorem objInitK (a b c : Value) : argsOk "object.__init__" ⟨[a, b], [("start", c)]⟩ := by unfold argsOk; kernel_rfl
theorem pi_enum1 {e f : Expr} {t : TA} {es : List Expr} {x1} {tp p : Pos} (hg : Gl X "enumerate") (hm : X.mg "enumerate" = none) (ha : PA X [e, f] t) (hs : autoParam (starEach [e, f] X.env = [(false, eval e X.env), (false, eval f X.env)]) au5._auto_1) (hs2 : autoParam (starEach [f] X.env = [(false, eval f X.env)]) au5._auto_1) :
  PI X (.Tuple es x1 tp) (.Call (.Name "enumerate" p) [e, f] [] pos) (iEnum1 X.K t) := by
 intro pins s σ H R I h
 refine Call_ (ld_blt I hg hm boot_enumerate (PyProof.Rows.callWith_type1 (thn (ha pos pins s σ H _ I h) fun us s1 zz2 => ?_) (by rw [hs, hs2]) (by rw [hs2]; rfl)))
 obtain ⟨vs, H1, I1, r1, q1⟩ := zz2
 obtain ⟨p, rfl, ⟨xs, hq⟩, q⟩ := q1
 obtain ⟨u, u2, rfl, ru, ⟨tk, rfl⟩⟩ := vals2 r1
 cases ru
 obtain ⟨its, rv, pt, hz⟩ := I1.tuple hq
 exact callTyKw F.called_enumerate (by decide) (enumType2 _ _) (enumNewC2 _ _) (fun obj => objInit3 obj _ _) F.entry_enumerate_new (enumNew1 p tk) ⟨⟨_, pt⟩, ⟨_, Heap.get?_push_size _ rfl, rfl⟩, enumLaid_it (k := 1) I1 q⟩
theorem callWith_tyKw {M : Model} {A : Around} {E : Value → Shared → Prop} {s : Shared} {env : Env} {pos : Pos} {T : String} {Q : Value → Shared → Prop} {e : Expr} {rest : List Expr} {kws : List Keyword}
  (h : wpAny M A (spliced (backTo pos (starEach (e :: rest) env))) (fun vs z => wpAny M A (evalAll ((backToKw pos (keywordEach kws env)).map (·.2))) (fun ks z2 => wpAny M A (call (.type T) vs (((backToKw pos (keywordEach kws env)).filterMap (·.1)).zip ks)) Q E z2) E z) E s)
  (k1 : autoParam (backTo pos (starEach (e :: rest) env) = (false, eval e env) :: backTo pos (starEach rest env)) au5._auto_1) (k2 : autoParam ((backTo pos (starEach (e :: rest) env)).any (·.1) = false) au5._auto_1)
  (k3 : autoParam ((backToKw pos (keywordEach kws env)).all (·.1.isSome) = true) au5._auto_1) (k4 : autoParam ((backToKw pos (keywordEach kws env)).any (·.1.isNone) = false) au5._auto_1) :
  wpAny M A (callWith pos (.type T) [] (backTo pos (starEach (e :: rest) env)) (backToKw pos (keywordEach kws env))) Q E s := by
 have g : wpAny M A (evalArgs (.type T) true (backTo pos (starEach (e :: rest) env)) (backToKw pos (keywordEach kws env))) (fun a z => wpAny M A (call (.type T) ([] ++ a.pos) a.kw) Q E z) E s := by
  rw [k1] at h ⊢
  exact evalArgs_kwB k3 h
 unfold callWith
 refine wpAny_bind (wpAny_holding (wpAny_mono g (fun a z gz => wpAny_bind (wpAny_standAt ?_)) fun _ _ x => x))
 simp only [k2, k4, Bool.or_false]
 exact wpAny_bind (wpAny_pure (wpAny_bind (wpAny_mono gz (fun r z2 hr => wpAny_bind (wpAny_holding (wpAny_point (wpAny_pure hr)))) fun _ _ x => x)))
theorem pi_enumK {e : Expr} {kws : List Keyword} {t tk : TA} {es : List Expr} {x1} {tp p : Pos} (hg : Gl X "enumerate") (hm : X.mg "enumerate" = none) (ha : PA X [e] t) (hk : PK X kws tk)
  (hks : autoParam ((backToKw pos (keywordEach kws X.env)).filterMap (·.1) = (["start"] : List Str)) au5._auto_1) (k1 : autoParam (backTo pos (starEach [e] X.env) = (false, eval e X.env) :: backTo pos (starEach [] X.env)) au5._auto_1) (k2 : autoParam ((backTo pos (starEach [e] X.env)).any (·.1) = false) au5._auto_1)
  (k3 : autoParam ((backToKw pos (keywordEach kws X.env)).all (·.1.isSome) = true) au5._auto_1) (k4 : autoParam ((backToKw pos (keywordEach kws X.env)).any (·.1.isNone) = false) au5._auto_1) :
  PI X (.Tuple es x1 tp) (.Call (.Name "enumerate" p) [e] kws pos) (iEnumK X.K t tk) := by
 intro pins s σ H R I h
 refine wpAny_Call_Name_kw (ld_blt I hg hm boot_enumerate (callWith_tyKw (thn (ha pos pins s σ H _ I h) fun us s1 zz3 => ?_) k1 k2 k3 k4))
 obtain ⟨vs, H1, I1, r1, q1⟩ := zz3
 refine thn (hk pos pins s1 σ H1 _ I1 q1) fun ws s2 zz4 => ?_
 obtain ⟨zs, H2, I2, rz, q2⟩ := zz4
 obtain ⟨p, rfl, rfl, ⟨xs, hq⟩, q⟩ := q2
 obtain ⟨u, rfl, ru⟩ := vals1 r1
 cases ru
 obtain ⟨u2, rfl, ⟨tk2, rfl⟩⟩ := vals1 rz
 obtain ⟨its, rv, pt, hz⟩ := I2.tuple hq
 rw [hks]
 exact callTyKw F.called_enumerate (by decide) (enumTypeK _ _) (enumNewCK _ _) (fun obj => objInitK obj _ _) F.entry_enumerate_new (enumNewK p tk2) ⟨⟨_, pt⟩, ⟨_, Heap.get?_push_size _ rfl, rfl⟩, enumLaid_it (k := 1) I2 q⟩
def rEqNilL (K : PySem.W.Frag) : R2 := fun x y H Q => ∃ p q xs, x = .ref p ∧ y = .ref q ∧ SqL K H p xs ∧ SqL K H q [] ∧ Q (.bl xs.isEmpty) H
def rNeNilL (K : PySem.W.Frag) : R2 := fun x y H Q => ∃ p q xs, x = .ref p ∧ y = .ref q ∧ SqL K H p xs ∧ SqL K H q [] ∧ Q (.bl (!xs.isEmpty)) H
theorem op_eqNilL (hu : X.A.units < cLine) : OpR X (compareOp .Eq) (rEqNilL X.K) := by
 intro pins s σ H x y v u Q I rx ry h
 obtain ⟨p, q, xs, rfl, rfl, h1, h2, hq⟩ := h
 cases rx; cases ry
 obtain ⟨its, rv, pl, _⟩ := I.list h1
 obtain ⟨its2, rv2, pl2, _⟩ := I.list h2
 cases rv2
 cases rv with
 | nil => exact SeqAt.eq_listAt (e := fun _ => true) pl.isList pl2.isList rfl hu (fun j h1 _ => absurd h1 (by simp)) ⟨.bl true, H, I, rfl, hq⟩
 | cons r rr => exact SeqAt.eq_list_lengthsAt pl.isList pl2.isList (by simp) hu ⟨.bl false, H, I, rfl, hq⟩
def CDivW (i j : Int) : Prop := 0 < j ∧ j < 2 ^ 64
theorem noPy {i j : Int} (h1 : 0 < j) (h2 : j < 2 ^ 64) : Builtin.divisionGoesByPylong i j = false := by
 have e : j.natAbs < 2 ^ 64 := by lia
 have l : j.natAbs.log2 < 64 := by
  rw [Nat.log2_lt (by lia)]; exact e
 unfold Builtin.divisionGoesByPylong
 have : ¬ (if (j == 0) = true then 0 else j.natAbs.log2 / 30 + 1) > 300 := by
  split <;> lia
 simp only [decide_eq_false this, Bool.false_and]
theorem call_divmodW : CallR X (.builtin "divmod") (fun xs H Q => ∃ i j, xs = [.int i, .int j] ∧ CDivW i j ∧ ∀ p, H p = none → Q (.ref p) (upd H p (.tup [.int (i / j), .int (i % j)]))) := by
 intro pins s σ H xs us Q I r h
 obtain ⟨i, j, rfl, ⟨h1, h2⟩, q⟩ := h
 obtain ⟨u, u2, rfl, ⟨t, rfl⟩, ⟨t', rfl⟩⟩ := vals2 r
 refine divmod_int (by lia) ?_ (.inl (noPy h1 h2))
 rw [Int.fdiv_eq_ediv_of_nonneg i (by lia), Int.fmod_eq_emod_of_nonneg i (by lia)]
 refine ⟨.ref s.heap.objs.size, _, I.laid (o := .tup [.int (i / j), .int (i % j)]) (fun b o e => Heap.get?_push_of_some _ e) (Nat.le_refl _) ⟨by show 2 ≤ sizeLine; decide, [.int (i / j) s.toks, .int (i % j) (s.toks + 1)], .cons ⟨_, rfl⟩ (.cons ⟨_, rfl⟩ .nil), _, Heap.get?_push_size s.heap rfl, rfl, rfl, 0, rfl⟩, rfl, q _ (I.hok.fresh (Nat.le_refl _))⟩
noncomputable def isTy (T : String) (H : Hp) : V → Option Bool
 | .non => some false
 | .bl _ => some (T == "bool" || T == "int")
 | .int _ => some (T == "int")
 | .str _ => some (T == "str")
 | .ref a => match H a with
  | some (.lst _) => some (T == "list")
  | some (.tup _) => some (T == "tuple")
  | _ => none
 | _ => none
theorem isi_ok {T : String} (hT : T = "int" ∨ T = "bool" ∨ T = "tuple" ∨ T = "list" ∨ T = "str") : CallR X (.builtin "isinstance") (fun xs H Q => ∃ x b, xs = [x, .ty T] ∧ isTy T H x = some b ∧ Q (.bl b) H) := by
 intro pins s σ H xs us Q I r h
 obtain ⟨x, b, rfl, e, q⟩ := h
 obtain ⟨u, u2, rfl, ru, ru2⟩ := vals2 r
 cases (show u2 = Value.type T from ru2)
 have fin : ∀ tk : Nat, EP X pins σ Q (.bool b) { s with toks := tk } := fun tk => ⟨.bl b, H, I.tok _, rfl, q⟩
 cases x with
 | non => cases e; rcases hT with rfl | rfl | rfl | rfl | rfl <;> exact isinst_ok I ru .non rfl fin
 | bl y => cases e; rcases hT with rfl | rfl | rfl | rfl | rfl <;> exact isinst_ok I ru (.bl y) rfl fin
 | int y => cases e; rcases hT with rfl | rfl | rfl | rfl | rfl <;> exact isinst_ok I ru (.int y) rfl fin
 | str y => cases e; rcases hT with rfl | rfl | rfl | rfl | rfl <;> exact isinst_ok I ru (.str y) rfl fin
 | ref a =>
  cases ha : H a with
  | none => simp only [isTy, ha] at e; cases e
  | some o =>
   cases o with
   | lst xs => simp only [isTy, ha] at e; cases e; rcases hT with rfl | rfl | rfl | rfl | rfl <;> exact isinst_ok I ru (.lst ha) rfl fin
   | tup xs => simp only [isTy, ha] at e; cases e; rcases hT with rfl | rfl | rfl | rfl | rfl <;> exact isinst_ok I ru (.tup ha) rfl fin
   | _ => simp only [isTy, ha] at e; cases e
 | _ => cases e
end
end L2
end
section
namespace L2
open PySem PySem.Spec PyProof.Rows
inductive BlsAre : List Value → List Bool → Prop
 | nil : BlsAre [] []
 | cons (b : Bool) {vs : List Value} {bs : List Bool} : BlsAre vs bs → BlsAre (.bool b :: vs) (b :: bs)
theorem BlsAre.of : ∀ {bs : List Bool} {us : List Value}, Vals (bs.map V.bl) us → BlsAre us bs
 | [], _, .nil => .nil
 | b :: bs, _, .cons r rr => by
  cases (show _ = Value.bool b from r)
  exact .cons b (BlsAre.of rr)
theorem BlsAre.get {vs : List Value} {bs : List Bool} (h : BlsAre vs bs) : ∀ (i : Nat) (v : Value), vs[i]? = some v → ∃ b, bs[i]? = some b ∧ v = .bool b := by
 induction h with
 | nil => intro i v e; simp at e
 | cons b _ ih =>
  intro i v e
  cases i with
  | zero => simp at e; subst e; exact ⟨b, rfl, rfl⟩
  | succ i => simpa using ih i v (by simpa using e)
theorem rangeAll (bs : List Bool) : ((List.range bs.length).all fun i => (bs[i]?).getD true) = bs.all id := by
 rw [Bool.eq_iff_iff, List.all_eq_true, List.all_eq_true]
 constructor
 · intro h b hb
   obtain ⟨i, hi, e⟩ := List.getElem_of_mem hb
   have := h i (List.mem_range.mpr hi)
   simp only [List.getElem?_eq_getElem hi, Option.getD_some, e] at this
   exact this
 · intro h i hi
   have hi' := List.mem_range.mp hi
   simp only [List.getElem?_eq_getElem hi', Option.getD_some]
   exact h _ (List.getElem_mem hi')
theorem call_all {X : Cx} (hc : X.calm = true) : CallR X (.builtin "all") (fun xs H Q => ∃ a bs, xs = [.ref a] ∧ SqL X.K H a (List.map V.bl bs) ∧ Q (.bl (bs.all id)) H) := by
 intro pins s σ H xs us Q I r h
 obtain ⟨a, bs, rfl, hq, q⟩ := h
 obtain ⟨u, rfl, ru⟩ := vals1 r
 cases ru
 obtain ⟨its, rv, pl, _⟩ := I.list hq
 have hl := pl.isList
 have hb := BlsAre.of rv
 have hlen : its.length = bs.length := by rw [← rv.length, List.length_map]
 have hlt : a < s.heap.objs.size := by obtain ⟨_, e, _⟩ := hl; exact Heap.lt_size e
 refine call_all_walk (wpAny_pyIter_list hl ?_)
 refine ⟨s.heap.objs.size, [s.heap.objs.size, a], [s.heap.objs.size], its.toArray.size, _, _, fun i => (bs[i]?).getD true, rfl, Walks.list (A := X.A.in1) (I.ok.hd hc) _ a (Nat.ne_of_lt hlt) its.toArray,
  ⟨⟨_, Heap.get?_push_size _ rfl, rfl, rfl⟩, hl.push _⟩, fun i v s' Q' E' hP hQ => ?_, fun h' tk hk => ?_⟩
 · obtain ⟨b, e, rfl⟩ := hb.get i v (by simpa using hP)
   simp only [e, Option.getD_some] at hQ
   exact wpAny_truthy_bool hQ
 · have e : ((List.range its.toArray.size).all fun i => (bs[i]?).getD true) = bs.all id := by
     rw [List.size_toArray, hlen]; exact rangeAll bs
   rw [e]
   exact ⟨.bl (bs.all id), H, I.kept fun b x e => hk b x (fun hm => by rw [List.mem_singleton.mp hm] at e; exact Nat.lt_irrefl _ (Heap.lt_size e)) (Heap.get?_push_of_some _ e), rfl, q⟩
end L2
end
section
namespace L2
open PySem PySem.Spec PyProof.Rows HT
def NewT (H : Hp) (zs : List V) (p : Addr) (H' : Hp) : Prop := (H' = H ∧ H p = some (.tup zs)) ∨ (H p = none ∧ H' = upd H p (.tup zs))
theorem NewT.at {H H' : Hp} {zs : List V} {p : Addr} (h : NewT H zs p H') : H' p = some (.tup zs) := by
 rcases h with ⟨rfl, h⟩ | ⟨_, rfl⟩
 · exact h
 · exact upd_same
theorem NewT.keep {H H' : Hp} {zs : List V} {p : Addr} (h : NewT H zs p H') : Same H H' := by
 rcases h with ⟨rfl, h⟩ | ⟨h, rfl⟩
 · exact fun _ _ e => e
 · exact fun b o e => by rw [upd_ne (ne_of_none e h)]; exact e
section
variable {prog : Program} {w : World} {A : Around} {E : Value → Shared → Prop} {s : Shared}
theorem cat_tup0 {t b : Addr} {vs ws : List Value} {Q : Value → Shared → Prop} (ht : IsTup s.heap t vs.toArray) (hb : IsTup s.heap b ws.toArray) (hv : vs = []) (h : Q (.ref b) s) : wpAny (model prog w) A (binaryOp .Add (.ref t) (.ref b)) Q E s := by
 obtain ⟨⟨c1, d1, t1, l1⟩, a1, a2, n1, a3⟩ := id ht
 obtain ⟨⟨c2, d2, t2, l2⟩, b1, b2, n2, b3⟩ := id hb
 simp only at a2 a3 b2 b3
 subst a2 a3 b2 b3
 exact concat_meets ⟨_, a1, rfl⟩ ⟨_, b1, rfl⟩ noFill_tuple_add seq_tuple_add PySem.F.slot_tuple_add PySem.F.entry_tuple_add (PySem.F.args_tuple_add_2 _ _) (tuple_addW0 t b vs.toArray ws.toArray n1 n2 d1 d2 l1 l2 (by simp [hv])) ⟨a1, b1, h⟩
theorem getItem_tuple_all {t sl : Addr} {items : Array Value} {vl vu : Value} {lo hi : Option Int} {Q : Value → Shared → Prop} (ht : IsTup s.heap t items) (hs : s.heap.IsSliceOf sl vl vu .none) (pl : IsPart vl lo) (pu : IsPart vu hi)
  (hw : sIx items.size 0 lo = 0 ∧ sIx items.size items.size hi = items.size) (h : Q (.ref t) s) : wpAny (model prog w) A (getItem (.ref t) (.ref sl)) Q E s := by
 obtain ⟨os, hos, hcs, hds⟩ := id hs
 have hTs : s.TypeIs (.ref sl) "slice" := ⟨os, hos, hcs⟩
 unfold getItem
 try with_reducible refine wpAny_holding ?_
 first | refine wpAny_bind (wpAny_pure ?_) | skip
 refine wpAny_bind (wpAny_sequenceKey ht.typeIs (by decide) ?_)
 refine wpAny_bind (wpAny_callSpecial?_slot (name := Str.ofString "__getitem__") ht.typeIs PyProof.Rows.slot_tuple_getitem
  (wpAny_call_entry PyProof.Rows.slot_tuple_getitem ht.typeIs entry_tuple_getitem ?_ (args_tuple_getitem _ _)))
 show wpAny _ _ (Builtin.Tuple.tupleItemsOf (.ref t) >>= _) _ _ s
 refine wpAny_bind (tupleItemsOf_ ht ?_)
 refine wpAny_bind (wpAny_typeOf hTs ?_)
 rw [if_pos (by decide)]
 refine wpAny_bind (sliceApplied_gen hs pl pu ?_)
 rw [hw.1, hw.2]
 obtain ⟨ob, k1, k2, k3⟩ := id ht
 show wpAny _ _ (if (((0 : Nat) : Int) == 0 && (1 : Int) == 1 && (items.size - 0) == items.size) = true then _ else _) _ _ s
 rw [if_pos (by simp)]
 wp_walk using AutoSeq1.wpAny_loadPart' k1
 all_goals exact ⟨_, rfl, wpAny_pure h⟩
end
section
variable {X : Cx} {e : Expr} {te : TE} {pos p2 : Pos}
def rCatA : R2 := fun x y H Q => ∃ a b xs ys, x = .ref a ∧ y = .ref b ∧ H a = some (.tup xs) ∧ H b = some (.tup ys) ∧ xs.length + ys.length ≤ sizeLine ∧ ∀ p H', NewT H (xs ++ ys) p H' → Q (.ref p) H'
theorem op_catA : OpR X (binaryOp .Add) rCatA := by
 intro pins s σ H x y v u Q I rx ry h
 obtain ⟨a, b, xs, ys, rfl, rfl, h1, h2, hz, q⟩ := h
 cases rx; cases ry
 obtain ⟨its, r1, p1, _⟩ := I.tuple (SqT.of h1)
 obtain ⟨its2, r2, p2, _⟩ := I.tuple (SqT.of h2)
 by_cases e1 : its = []
 · have ex : xs = [] := r1.nil_iff.mp e1
   refine cat_tup0 p1 p2 e1 ⟨.ref b, H, I, rfl, q b H (.inl ⟨rfl, ?_⟩)⟩
   rw [ex]; exact h2
 · refine cat_tup p1 p2 e1 (fun e2 => ⟨.ref a, H, I, rfl, q a H (.inl ⟨rfl, ?_⟩)⟩) (fun e2 => ?_) (by rw [← r1.length, ← r2.length]; exact hz)
   · have ey : ys = [] := r2.nil_iff.mp e2
     rw [ey, List.append_nil]; exact h1
   · refine ⟨.ref s.heap.objs.size, _, I.laid (t' := s.toks) (o := .tup (xs ++ ys)) (fun b ob q => Heap.get?_push_of_some _ q) (Nat.le_refl _) ⟨by rw [List.length_append]; exact hz, _, r1.append r2, IsTp.new _ _⟩, rfl, q _ _ (.inr ⟨I.hok.fresh (Nat.le_refl _), rfl⟩)⟩
def rSlA : V → Option Int → Option Int → Hp → VK → Prop := fun x lo hi H Q => ∃ a xs, x = .ref a ∧ H a = some (.tup xs) ∧ ∀ p H', NewT H (cutV xs lo hi) p H' → Q (.ref p) H'
theorem sl_tupA : SlR X rSlA := by
 intro pins s σ H x v vl vu lo hi sl Q I rx hs pl pu h
 obtain ⟨a, xs, rfl, hx, q⟩ := h
 cases rx
 obtain ⟨its, r, ht, hz⟩ := I.tuple (SqT.of hx)
 have hlen : its.toArray.size = xs.length := by rw [List.size_toArray]; exact r.length.symm
 refine ⟨"tuple", _, PyProof.Rows.slot_tuple_getitem.lookup, ht.typeIs, ?_⟩
 by_cases hw : sIx xs.length 0 lo = 0 ∧ sIx xs.length xs.length hi = xs.length
 · refine getItem_tuple_all ht hs pl pu (by rw [hlen]; exact hw) ⟨.ref a, H, I, rfl, q a H (.inl ⟨rfl, ?_⟩)⟩
   unfold cutV
   rw [hw.1, hw.2, List.drop_zero, Nat.sub_zero, List.take_length]
   exact hx
 · refine HT.getItem_tuple_cut ht hs pl pu (by rw [hlen]; exact hw) ?_ (by rw [hlen]; exact hz)
   rw [hlen]
   refine ⟨.ref s.heap.objs.size, _, I.laid (t' := s.toks) (o := .tup (cutV xs lo hi)) (fun b ob q => Heap.get?_push_of_some _ q) (Nat.le_refl _) ?_, rfl, q _ _ (.inr ⟨I.hok.fresh (Nat.le_refl _), rfl⟩)⟩
   exact ⟨Nat.le_trans (cutV_length xs lo hi) hz, _, (r.drop (HT.sIx xs.length 0 lo)).take (HT.sIx xs.length xs.length hi - HT.sIx xs.length 0 lo), IsTp.new _ _⟩
end
end L2
end
section
namespace L2
open PySem PySem.Spec PyProof.Rows
theorem atI_int {α : Type} {xs : List α} {i : Int} {v : α} (h : 0 ≤ i) (e : xs[i.toNat]? = some v) : atI xs i = some v := by
 have : i = ((i.toNat : Nat) : Int) := by lia
 rw [this]; exact atI_nat e
theorem ixN_int {n : Nat} {i : Int} (h : 0 ≤ i) (hl : i < n) : ixN n i = some i.toNat := by
 unfold ixN
 rw [if_pos h, if_pos hl]
def Has (P : Program) (w : World) (K : PySem.W.Frag) (mg : Str → Option Value) (base : Heap) (x : Str) (k : Nat) (ps : List Str) (sp : Sp) : Prop :=
 ∃ f fd, mg x = some (.ref f) ∧ PySem.W.keepIn K (.ref f) = true ∧ Binds K fd ps [] ∧ FnOk P w K mg base CX0 k f fd ps sp
theorem pe_has {X : Cx} {x : Str} {k : Nat} {ps : List Str} {sp : Sp} {e : Expr} {es : List Expr} {t : TA} {p pos : Pos} (h : Has X.prog X.w X.K X.mg X.base x k ps sp) (hr : Room k X.A) (hg : Gl X x) (ha : PA X (e :: es) t)
  (hdb : autoParam ((x == ("__debug__" : Str)) = false) au2._auto_1) (he : autoParam (starEach (e :: es) X.env = (false, eval e X.env) :: starEach es X.env) au5._auto_1) (hpl : autoParam ((backTo pos (starEach es X.env)).any (·.1) = false) au5._auto_1) :
  PE X (.Call (.Name x p) (e :: es) [] pos) (tCall sp [] E0 t) := by
 obtain ⟨f, fd, h1, h2, h3, h4⟩ := h
 exact pe_call h4 hr hg h1 h2 h3 .nil pass0 ha hdb he hpl
end L2
namespace LB
open PySem L2 PyProof.Rows
theorem boot_int' : bootBuiltins "int" = some (.type "int") := by decide +kernel
theorem boot_tuple' : bootBuiltins "tuple" = some (.type "tuple") := by decide +kernel
theorem boot_bool' : bootBuiltins "bool" = some (.type "bool") := by decide +kernel
theorem boot_str' : bootBuiltins "str" = some (.type "str") := by decide +kernel
theorem boot_list' : bootBuiltins "list" = some (.type "list") := by decide +kernel
theorem boot_divmod' : bootBuiltins "divmod" = some (.builtin "divmod") := by decide +kernel
theorem kct : ¬ (("cells" : Str) = "turn") := by decide +kernel
noncomputable def bx (c : Addr) (t : Int) : List (Key × V) := [(Sum.inr "cells", .ref c), (Sum.inr "turn", .int t)]
theorem bx_cells (c : Addr) (t : Int) : valV (bx c t) (Sum.inr "cells" : Key) = some (.ref c) := by
 simp [valV, bx]
theorem bx_turn (c : Addr) (t : Int) : valV (bx c t) (Sum.inr "turn" : Key) = some (.int t) := by
 simp [valV, bx, kct]
theorem bx_put (c : Addr) (t u : Int) : putK (bx c t) (Sum.inr "turn" : Key) (.int u) = bx c u := by
 simp [putK, bx, kct]
structure Box (H : Hp) (d c : Addr) (t : Int) : Prop where
 dc : H d = some (.dK (bx c t))
 cs : ∃ ns : List Int, H c = some (.lst (ns.map V.int)) ∧ 0 < ns.length ∧ ns.length ≤ 63
 t0 : 0 ≤ t
 t1 : t ≤ 1000000
theorem Box.ne {H : Hp} {d c : Addr} {t : Int} (b : Box H d c t) : d ≠ c := let ⟨_, h, _⟩ := b.cs; ne_of b.dc h (by intro z; cases z)
def Kp (d c : Addr) (H H' : Hp) : Prop := ∀ b o, H b = some o → b ≠ d → b ≠ c → H' b = some o
theorem Box.same {H H' : Hp} {d c : Addr} {t : Int} (b : Box H d c t) (s : Same H H') : Box H' d c t := ⟨s _ _ b.dc, let ⟨ns, h, r⟩ := b.cs; ⟨ns, s _ _ h, r⟩, b.t0, b.t1⟩
def spTake : Sp := fun vs H Q _ => ∃ (d c : Addr) (t m : Int), vs = [.ref d, .int m] ∧ Box H d c t ∧ t < 1000000 ∧ 0 < m ∧ m < 2 ^ 64 ∧ ∀ (r : Int) (H' : Hp), 0 ≤ r → r < m → Box H' d c (t + 1) → Kp d c H H' → Q (.int r) H'
def spBegin (K : PySem.W.Frag) : Sp := fun vs H Q _ => ∃ (a : Addr) (ns : List Int), vs = [.ref a] ∧ SqL K H a (ns.map V.int) ∧ ns.length ≤ 63 ∧ ∀ (d c : Addr) (H' : Hp), Box H' d c 0 → Same H H' → Q (.ref d) H'
theorem Same.new {p : Addr} {H : Hp} {o : HO} (h : H p = none) : Same H (upd H p o) := fun b u e => by rw [upd_ne (ne_of_none e h)]; exact e
theorem Same.tr {H H1 H2 : Hp} (a : Same H H1) (b : Same H1 H2) : Same H H2 := fun x o e => b x o (a x o e)
end LB
end
section
namespace L2
open PySem PySem.Spec PyProof.Rows
def SIt (h : Heap) (it a : Addr) (xs : Array Value) (k : Nat) : Prop := (h.IsListIter it a k ∧ h.IsList a xs) ∨ (h.IsTupleIter it a k ∧ h.IsTuple a xs)
theorem SIt.ext {h h' : Heap} {it a : Addr} {xs : Array Value} {k : Nat} (z : SIt h it a xs k) (e1 : ∀ o, h.get? it = some o → h'.get? it = some o) (e2 : ∀ o, h.get? a = some o → h'.get? a = some o) : SIt h' it a xs k := by
 rcases z with ⟨z1, z2⟩ | ⟨z1, z2⟩
 · exact .inl ⟨let ⟨o, q, r⟩ := z1; ⟨o, e1 o q, r⟩, let ⟨o, q, r⟩ := z2; ⟨o, e2 o q, r⟩⟩
 · exact .inr ⟨let ⟨o, q, r⟩ := z1; ⟨o, e1 o q, r⟩, let ⟨o, q, r⟩ := z2; ⟨o, e2 o q, r⟩⟩
section
variable {prog : Program} {w : World} {A : Around} {E : Value → Shared → Prop} {s : Shared}
theorem nextS1 {it a : Addr} {xs : Array Value} {k : Nat} {y : Value} {Q : Value → Shared → Prop} (z : SIt s.heap it a xs k) (hne : a ≠ it) (hy : xs[k]? = some y)
  (hQ : ∀ h', SIt h' it a xs (k + 1) → Heap.SameBut it s.heap h' → Q y { s with heap := h' }) : wpAny (model prog w) A (Builtin.SmallTypes.nextOf (.ref it)) Q E s := by
 rcases z with ⟨z1, z2⟩ | ⟨z1, z2⟩
 · exact wpAny_nextOf_list_item z1 z2 hy fun h' q sb => hQ h' (.inl ⟨q, let ⟨o, e, r⟩ := z2; ⟨o, (sb.2 a hne).trans e, r⟩⟩) sb
 · exact tupNext1 z1 z2 hy fun h' q sb => hQ h' (.inr ⟨q, let ⟨o, e, r⟩ := z2; ⟨o, (sb.2 a hne).trans e, r⟩⟩) sb
theorem nextS0 {it a : Addr} {xs : Array Value} {k : Nat} {Q : Value → Shared → Prop} (hh : A.handled = none) (z : SIt s.heap it a xs k) (hy : xs[k]? = none)
  (hE : ∀ h' e, Heap.ExtBut it s.heap h' → (∃ o, h'.get? e = some o ∧ o.cls = .type "StopIteration") → E (.ref e) { s with heap := h' }) : wpAny (model prog w) A (Builtin.SmallTypes.nextOf (.ref it)) Q E s := by
 rcases z with ⟨z1, z2⟩ | ⟨z1, z2⟩
 · exact wpAny_nextOf_list_end hh z1 z2 hy hE
 · exact tupNext0 hh z1 z2 hy hE
theorem zipS_body {z TI TO i1 i2 l1 l2 : Addr} {k1 k2 : Nat} {xs ys : Array Value} {x y a b : Value} {Q : Value → Shared → Prop} (D : ZipApart z TI TO i1 i2 l1 l2) (hz : IsZip s.heap z TI TO .none) (hTI : IsPair s.heap TI (.ref i1) (.ref i2)) (hTO : IsPair s.heap TO a b)
  (h1 : SIt s.heap i1 l1 xs k1) (h2 : SIt s.heap i2 l2 ys k2) (hx : xs[k1]? = some x) (hy : ys[k2]? = some y)
  (hQ : ∀ h', IsZip h' z TI TO (rawInt s.heap.objs.size) → IsPair h' TO x y → SIt h' i1 l1 xs (k1 + 1) → SIt h' i2 l2 ys (k2 + 1) → IsPair h' s.heap.objs.size x y → h'.objs.size = s.heap.objs.size + 1 →
   (∀ c o, c ≠ z → c ≠ TO → c ≠ i1 → c ≠ i2 → s.heap.get? c = some o → h'.get? c = some o) → Q (.ref s.heap.objs.size) { s with heap := h' }) : wpAny (model prog w) A (Builtin.«zip.__next__» ⟨[.ref z], []⟩) (fun fin s' => ∃ v, fin = .done (.ret v) ∧ Q v s') E s := by
 show wpAny _ _ (field (.ref z) 2 >>= _) _ _ _; refine wpAny_bind (wpAny_field hz rfl (x := .bool false) rfl ?_)
 show wpAny _ _ (field (.ref z) 3 >>= _) _ _ _; refine wpAny_bind (wpAny_field hz rfl (x := .ref TI) rfl ?_); refine wpAny_bind (wpAny_seqItems hTI rfl ?_)
 show wpAny _ _ (Builtin.SmallTypes.ownedTupleIsFree (.ref z) >>= _) _ _ _; refine wpAny_bind ?_; unfold Builtin.SmallTypes.ownedTupleIsFree
 refine wpAny_bind (wpAny_field hz rfl (x := .none) rfl (wpAny_pure ?_)); simp only [if_true]; refine wpAny_bind (wpAny_rule ?_)
 refine wpAny_bind (wpAny_field hz rfl (x := .ref TO) rfl ?_); refine wpAny_bind (wpAny_setField_rec hz (by simp) fun h₁ hz₁ hs₁ => ?_)
 replace hz₁ : IsZip h₁ z TI TO .ellipsis := hz₁; refine wpAny_bind ?_; simp only [List.zipIdx_cons, List.zipIdx_nil, List.forIn_cons, List.forIn_nil]
 refine wpAny_bind (wpAny_bind (wpAny_onRaise ?_)); show wpAny _ _ (Builtin.SmallTypes.nextOf (.ref i1) >>= _) _ _ _
 refine wpAny_bind (nextS1 (h1.ext (fun o e => hs₁.extBut _ _ D.i1z e) fun o e => hs₁.extBut _ _ D.l1z e) D.l1i1 hx fun h₂ h1₂ hs₂ => wpAny_pure ?_)
 have hTO₂ : IsPair h₂ TO a b := hs₂.extBut _ _ D.TOi1 (hs₁.extBut _ _ D.TOz hTO); refine wpAny_bind (wpAny_seqItems hTO₂ rfl ?_)
 refine wpAny_bind (wpAny_updateSeq_pair hTO₂ fun h₃ hTO₃ hs₃ => ?_); replace hTO₃ : IsPair h₃ TO x b := hTO₃; refine wpAny_bind (wpAny_letGo (wpAny_pure ?_))
 refine wpAny_bind (wpAny_bind (wpAny_onRaise ?_)); show wpAny _ _ (Builtin.SmallTypes.nextOf (.ref i2) >>= _) _ _ _
 have k3 : ∀ c o, c ≠ z → c ≠ i1 → c ≠ TO → s.heap.get? c = some o → h₃.get? c = some o := fun c o c1 c2 c3 e => hs₃.extBut _ _ c3 (hs₂.extBut _ _ c2 (hs₁.extBut _ _ c1 e))
 refine wpAny_bind (nextS1 (h2.ext (fun o e => k3 _ o D.i2z D.i12.symm D.TOi2.symm e) fun o e => k3 _ o D.l2z D.l2i1 D.l2TO e) D.l2i2 hy fun h₄ h2₄ hs₄ => wpAny_pure ?_)
 have hTO₄ : IsPair h₄ TO x b := hs₄.extBut _ _ D.TOi2 hTO₃; refine wpAny_bind (wpAny_seqItems hTO₄ rfl ?_)
 refine wpAny_bind (wpAny_updateSeq_pair hTO₄ fun h₅ hTO₅ hs₅ => ?_); replace hTO₅ : IsPair h₅ TO x y := hTO₅; refine wpAny_bind (wpAny_letGo (wpAny_pure (wpAny_pure ?_)))
 refine wpAny_bind (wpAny_seqItems hTO₅ rfl ?_); refine wpAny_bind (wpAny_newTuple ?_)
 have hsz : h₅.objs.size = s.heap.objs.size := by rw [hs₅.1, hs₄.1, hs₃.1, hs₂.1, hs₁.1]
 have k5 : ∀ c o, c ≠ z → c ≠ TO → c ≠ i1 → c ≠ i2 → s.heap.get? c = some o → h₅.get? c = some o := fun c o c1 c2 c3 c4 e => hs₅.extBut _ _ c2 (hs₄.extBut _ _ c4 (k3 c o c1 c3 c2 e))
 have hz₅ : IsZip h₅ z TI TO .ellipsis := hs₅.extBut _ _ D.TOz.symm (hs₄.extBut _ _ D.i2z.symm (hs₃.extBut _ _ D.TOz.symm (hs₂.extBut _ _ D.i1z.symm hz₁)))
 have f1 : SIt h₅ i1 l1 xs (k1 + 1) := h1₂.ext (fun o e => hs₅.extBut _ _ D.TOi1.symm (hs₄.extBut _ _ D.i12 (hs₃.extBut _ _ D.TOi1.symm e))) fun o e => hs₅.extBut _ _ D.l1TO (hs₄.extBut _ _ D.l1i2 (hs₃.extBut _ _ D.l1TO e))
 have f2 : SIt h₅ i2 l2 ys (k2 + 1) := h2₄.ext (fun o e => hs₅.extBut _ _ D.TOi2.symm e) fun o e => hs₅.extBut _ _ D.l2TO e
 have zlt : z < h₅.objs.size := Heap.lt_size hz₅
 show wpAny _ _ (Builtin.SmallTypes.ownedTupleHandOut (.ref z) (.ref h₅.objs.size) >>= _) _ _ _; refine wpAny_bind ?_; unfold Builtin.SmallTypes.ownedTupleHandOut
 have hz₆ : IsZip (h₅.push { cls := .type "tuple", data := .seq #[x, y] }) z TI TO .ellipsis := Heap.get?_push_of_some _ hz₅; refine wpAny_bind (wpAny_setField_rec hz₆ (by simp) fun h₇ hz₇ hs₇ => ?_)
 replace hz₇ : IsZip h₇ z TI TO (rawInt h₅.objs.size) := hz₇; refine wpAny_setField_rec hz₇ (by simp) fun h₈ hz₈ hs₈ => ?_
 replace hz₈ : IsZip h₈ z TI TO (rawInt h₅.objs.size) := hz₈
 have up : ∀ c o, c ≠ z → h₅.get? c = some o → h₈.get? c = some o := fun c o c1 e => hs₈.extBut _ _ c1 (hs₇.extBut _ _ c1 (Heap.get?_push_of_some _ e))
 have pT : IsPair h₈ h₅.objs.size x y := hs₈.extBut _ _ (Nat.ne_of_gt zlt) (hs₇.extBut _ _ (Nat.ne_of_gt zlt) (Heap.get?_push_size _ rfl))
 have s8 : h₈.objs.size = h₅.objs.size + 1 := by rw [hs₈.1, hs₇.1, Heap.size_push]
 rw [hsz] at hz₈ pT s8; refine wpAny_pure ⟨_, rfl, ?_⟩; show Q (.ref h₅.objs.size) _; rw [hsz]
 exact hQ h₈ hz₈ (up _ _ D.TOz hTO₅) (f1.ext (fun o e => up _ o D.i1z e) fun o e => up _ o D.l1z e) (f2.ext (fun o e => up _ o D.i2z e) fun o e => up _ o D.l2z e) pT s8 fun c o c1 c2 c3 c4 e => up c o c1 (k5 c o c1 c2 c3 c4 e)
theorem zipS_over {z TI TO i1 i2 l1 l2 : Addr} {k1 k2 : Nat} {xs ys : Array Value} {a b : Value} {Q : Fin → Shared → Prop} (hh : A.handled = none) (D : ZipApart z TI TO i1 i2 l1 l2) (hz : IsZip s.heap z TI TO .none) (hTI : IsPair s.heap TI (.ref i1) (.ref i2)) (hTO : IsPair s.heap TO a b)
  (h1 : SIt s.heap i1 l1 xs k1) (h2 : SIt s.heap i2 l2 ys k2) (hend : xs[k1]? = none ∨ ys[k2]? = none)
  (hE : ∀ h' e, (∀ c o, c ≠ z → c ≠ TO → c ≠ i1 → c ≠ i2 → s.heap.get? c = some o → h'.get? c = some o) → (∃ o, h'.get? e = some o ∧ o.cls = .type "StopIteration") → E (.ref e) { s with heap := h' }) : wpAny (model prog w) A (Builtin.«zip.__next__» ⟨[.ref z], []⟩) Q E s := by
 show wpAny _ _ (field (.ref z) 2 >>= _) _ _ _; refine wpAny_bind (wpAny_field hz rfl (x := .bool false) rfl ?_)
 show wpAny _ _ (field (.ref z) 3 >>= _) _ _ _; refine wpAny_bind (wpAny_field hz rfl (x := .ref TI) rfl ?_); refine wpAny_bind (wpAny_seqItems hTI rfl ?_)
 show wpAny _ _ (Builtin.SmallTypes.ownedTupleIsFree (.ref z) >>= _) _ _ _; refine wpAny_bind ?_; unfold Builtin.SmallTypes.ownedTupleIsFree
 refine wpAny_bind (wpAny_field hz rfl (x := .none) rfl (wpAny_pure ?_)); simp only [if_true]; refine wpAny_bind (wpAny_rule ?_)
 refine wpAny_bind (wpAny_field hz rfl (x := .ref TO) rfl ?_); refine wpAny_bind (wpAny_setField_rec hz (by simp) fun h₁ hz₁ hs₁ => ?_)
 replace hz₁ : IsZip h₁ z TI TO .ellipsis := hz₁; refine wpAny_bind ?_; simp only [List.zipIdx_cons, List.zipIdx_nil, List.forIn_cons, List.forIn_nil]
 refine wpAny_bind (wpAny_bind (wpAny_onRaise ?_)); show wpAny _ _ (Builtin.SmallTypes.nextOf (.ref i1) >>= _) _ _ _
 have g1 : SIt h₁ i1 l1 xs k1 := h1.ext (fun o e => hs₁.extBut _ _ D.i1z e) fun o e => hs₁.extBut _ _ D.l1z e
 cases hx : xs[k1]? with
 | none =>
  refine wpAny_bind (nextS0 hh g1 hx fun h₂ e hs₂ he => ?_); obtain ⟨oe, hoe, hce⟩ := he
  have hz₂ : IsZip h₂ z TI TO .ellipsis := hs₂ _ _ D.i1z.symm hz₁
  have hez : e ≠ z := fun y => by subst y; rw [hz₂] at hoe; cases hoe; simp at hce
  exact wpAny_setField_rec hz₂ (by simp) fun h₃ _ hs₃ => hE h₃ e (fun c o c1 _ c3 _ y => hs₃.extBut _ _ c1 (hs₂ _ _ c3 (hs₁.extBut _ _ c1 y))) ⟨oe, hs₃.extBut _ _ hez hoe, hce⟩
 | some x =>
  have hy : ys[k2]? = none := hend.resolve_left fun q => by rw [hx] at q; cases q
  refine wpAny_bind (nextS1 g1 D.l1i1 hx fun h₂ h1₂ hs₂ => wpAny_pure ?_)
  have hTO₂ : IsPair h₂ TO a b := hs₂.extBut _ _ D.TOi1 (hs₁.extBut _ _ D.TOz hTO); refine wpAny_bind (wpAny_seqItems hTO₂ rfl ?_)
  refine wpAny_bind (wpAny_updateSeq_pair hTO₂ fun h₃ hTO₃ hs₃ => ?_); refine wpAny_bind (wpAny_letGo (wpAny_pure ?_))
  refine wpAny_bind (wpAny_bind (wpAny_onRaise ?_)); show wpAny _ _ (Builtin.SmallTypes.nextOf (.ref i2) >>= _) _ _ _
  have k3 : ∀ c o, c ≠ z → c ≠ i1 → c ≠ TO → s.heap.get? c = some o → h₃.get? c = some o := fun c o c1 c2 c3 e => hs₃.extBut _ _ c3 (hs₂.extBut _ _ c2 (hs₁.extBut _ _ c1 e))
  refine wpAny_bind (nextS0 hh (h2.ext (fun o e => k3 _ o D.i2z D.i12.symm D.TOi2.symm e) fun o e => k3 _ o D.l2z D.l2i1 D.l2TO e) hy fun h₄ e hs₄ he => ?_); obtain ⟨oe, hoe, hce⟩ := he
  have hz₄ : IsZip h₄ z TI TO .ellipsis := hs₄ _ _ D.i2z.symm (hs₃.extBut _ _ D.TOz.symm (hs₂.extBut _ _ D.i1z.symm hz₁))
  have hez : e ≠ z := fun y => by subst y; rw [hz₄] at hoe; cases hoe; simp at hce
  exact wpAny_setField_rec hz₄ (by simp) fun h₅ _ hs₅ => hE h₅ e (fun c o c1 c2 c3 c4 y => hs₅.extBut _ _ c1 (hs₄ _ _ c4 (k3 c o c1 c3 c2 y))) ⟨oe, hs₅.extBut _ _ hez hoe, hce⟩
theorem zipS_item {z TI TO i1 i2 l1 l2 : Addr} {k1 k2 : Nat} {xs ys : Array Value} {x y a b : Value} {Q : Option Value → Shared → Prop} (D : ZipApart z TI TO i1 i2 l1 l2) (hz : IsZip s.heap z TI TO .none) (hTI : IsPair s.heap TI (.ref i1) (.ref i2)) (hTO : IsPair s.heap TO a b)
  (h1 : SIt s.heap i1 l1 xs k1) (h2 : SIt s.heap i2 l2 ys k2) (hx : xs[k1]? = some x) (hy : ys[k2]? = some y)
  (hQ : ∀ h', IsZip h' z TI TO (rawInt s.heap.objs.size) → IsPair h' TO x y → SIt h' i1 l1 xs (k1 + 1) → SIt h' i2 l2 ys (k2 + 1) → IsPair h' s.heap.objs.size x y → h'.objs.size = s.heap.objs.size + 1 →
   (∀ c o, c ≠ z → c ≠ TO → c ≠ i1 → c ≠ i2 → s.heap.get? c = some o → h'.get? c = some o) → Q (some (.ref s.heap.objs.size)) { s with heap := h' }) : wpAny (model prog w) A (pyNext (.ref z)) Q E s := by
 have hT : s.TypeIs (.ref z) "zip" := ⟨_, hz, rfl⟩; unfold pyNext
 exact wpAny_bind (wpAny_attempt (wpAny_callSpecial?_slot (name := Str.ofString "__next__") hT F.slot_zip_next (wpAny_call_entry F.slot_zip_next hT F.entry_zip_next
   (zipS_body D hz hTI hTO h1 h2 hx hy fun h' a1 a2 a3 a4 a5 a6 a7 => wpAny_pure (hQ h' a1 a2 a3 a4 a5 a6 a7)) (F.args_zip_next_1 _))))
theorem zipS_end {z TI TO i1 i2 l1 l2 : Addr} {k1 k2 : Nat} {xs ys : Array Value} {a b : Value} {Q : Option Value → Shared → Prop} (hh : A.handled = none) (D : ZipApart z TI TO i1 i2 l1 l2) (hz : IsZip s.heap z TI TO .none) (hTI : IsPair s.heap TI (.ref i1) (.ref i2)) (hTO : IsPair s.heap TO a b)
  (h1 : SIt s.heap i1 l1 xs k1) (h2 : SIt s.heap i2 l2 ys k2) (hend : xs[k1]? = none ∨ ys[k2]? = none)
  (hQ : ∀ h', (∀ c o, c ≠ z → c ≠ TO → c ≠ i1 → c ≠ i2 → s.heap.get? c = some o → h'.get? c = some o) → Q none { s with heap := h' }) : wpAny (model prog w) A (pyNext (.ref z)) Q E s := by
 have hT : s.TypeIs (.ref z) "zip" := ⟨_, hz, rfl⟩; unfold pyNext
 refine wpAny_bind (wpAny_attempt (wpAny_callSpecial?_slot (name := Str.ofString "__next__") hT F.slot_zip_next (wpAny_call_entry F.slot_zip_next hT F.entry_zip_next (zipS_over hh D hz hTI hTO h1 h2 hend fun h' e hk he => ?_) (F.args_zip_next_1 _))))
 obtain ⟨o, ho, hc⟩ := he; refine wpAny_bind (wpAny_isInstance (T := "StopIteration") (b := true) ⟨o, ho, hc⟩ isSubtype_stop ?_)
 exact wpAny_pure (hQ _ hk)
end
end L2
end
section
namespace L2
open PySem PySem.Spec PyProof.Rows
open AutoSeq1 (wpAny_loadPart')
noncomputable def itO (b : Bool) (a : Addr) : Obj := { cls := .type (if b then "tuple_iterator" else "list_iterator"), data := .fields #[.ref a, .int 0 0] }
def IsSq (b : Bool) (h : Heap) (a : Addr) (xs : Array Value) : Prop := match b with
 | true => h.IsTuple a xs
 | false => h.IsList a xs
noncomputable def zipL2 (h : Heap) (b1 b2 : Bool) (a1 a2 : Addr) : Heap := (h.push (itO b1 a1)).push (itO b2 a2)
noncomputable def zipL4 (h : Heap) (b1 b2 : Bool) (a1 a2 : Addr) : Heap := ((zipL2 h b1 b2 a1 a2).push { cls := .type "tuple", data := .seq #[.ref h.objs.size, .ref (h.push (itO b1 a1)).objs.size] }).push { cls := .type "tuple", data := .seq #[.none, .none] }
noncomputable def zipL5 (h : Heap) (b1 b2 : Bool) (a1 a2 : Addr) : Heap :=
 (zipL4 h b1 b2 a1 a2).push { cls := .type "zip", data := .fields #[.none, .bool false, .bool false, .ref (zipL2 h b1 b2 a1 a2).objs.size, .ref ((zipL2 h b1 b2 a1 a2).push { cls := .type "tuple", data := .seq #[.ref h.objs.size, .ref (h.push (itO b1 a1)).objs.size] }).objs.size] }
theorem zipNew (b1 b2 : Bool) (a1 a2 : Addr) (xs ys : Array Value) :
  Meets (Builtin.«zip.__new__» ⟨[.type "zip", .ref a1, .ref a2], []⟩) (fun _ R s => IsSq b1 s.heap a1 xs ∧ IsSq b2 s.heap a2 ys ∧ R (.ok (.ret (.ref (zipL4 s.heap b1 b2 a1 a2).objs.size))) { s with heap := zipL5 s.heap b1 b2 a1 a2 }) :=
 .of_wp fun prog w A R s h => by
  obtain ⟨hp, g, d, tk, os⟩ := s
  obtain ⟨h1, h2, h⟩ := h
  have hsub := sub_zip
  cases b1 <;> cases b2
  · have q1 : Heap.IsList (Shared.heap ⟨hp, g, d, tk, os⟩) a1 xs := h1
    have q2 : Heap.IsList (Shared.heap ⟨hp.push { cls := .type "list_iterator", data := .fields #[.ref a1, .int 0 0] }, g, d, tk, os⟩) a2 ys := Heap.IsList.push h2 _
    wp_walk using wpAny_pyIter_list q1, wpAny_pyIter_list q2
    exact ⟨_, rfl, h⟩
  · have q1 : Heap.IsList (Shared.heap ⟨hp, g, d, tk, os⟩) a1 xs := h1
    have q2 : Heap.IsTuple (Shared.heap ⟨hp.push { cls := .type "list_iterator", data := .fields #[.ref a1, .int 0 0] }, g, d, tk, os⟩) a2 ys := let ⟨o, e, r⟩ := h2; ⟨o, Heap.get?_push_of_some _ e, r⟩
    wp_walk using wpAny_pyIter_list q1, wpAny_pyIter_tuple q2
    exact ⟨_, rfl, h⟩
  · have q1 : Heap.IsTuple (Shared.heap ⟨hp, g, d, tk, os⟩) a1 xs := h1
    have q2 : Heap.IsList (Shared.heap ⟨hp.push { cls := .type "tuple_iterator", data := .fields #[.ref a1, .int 0 0] }, g, d, tk, os⟩) a2 ys := Heap.IsList.push h2 _
    wp_walk using wpAny_pyIter_tuple q1, wpAny_pyIter_list q2
    exact ⟨_, rfl, h⟩
  · have q1 : Heap.IsTuple (Shared.heap ⟨hp, g, d, tk, os⟩) a1 xs := h1
    have q2 : Heap.IsTuple (Shared.heap ⟨hp.push { cls := .type "tuple_iterator", data := .fields #[.ref a1, .int 0 0] }, g, d, tk, os⟩) a2 ys := let ⟨o, e, r⟩ := h2; ⟨o, Heap.get?_push_of_some _ e, r⟩
    wp_walk using wpAny_pyIter_tuple q1, wpAny_pyIter_tuple q2
    exact ⟨_, rfl, h⟩
end L2
end
section
namespace L2
open PySem PySem.Spec PyProof.Rows
def Sqb (b : Bool) (H : Hp) (a : Addr) (xs : List V) : Prop := match b with
 | true => H a = some (.tup xs)
 | false => H a = some (.lst xs)
theorem Sqb.inj {b : Bool} {H : Hp} {a : Addr} {xs ys : List V} (h : Sqb b H a xs) (k : Sqb b H a ys) : xs = ys := by
 cases b
 · have h : H a = some (.lst xs) := h
   have k : H a = some (.lst ys) := k
   rw [h] at k; cases k; rfl
 · have h : H a = some (.tup xs) := h
   have k : H a = some (.tup ys) := k
   rw [h] at k; cases k; rfl
theorem Sqb.some {b : Bool} {H : Hp} {a : Addr} {xs : List V} (h : Sqb b H a xs) : ∃ o, H a = some o := by
 cases b
 · exact ⟨_, h⟩
 · exact ⟨_, h⟩
def Itb (b : Bool) (h : Heap) (it a : Addr) (k : Nat) : Prop := match b with
 | true => h.IsTupleIter it a k
 | false => h.IsListIter it a k
theorem Itb.obj {b : Bool} {h : Heap} {it a : Addr} {k : Nat} (z : Itb b h it a k) : ∃ o, h.get? it = Option.some o ∧ ∀ v, o.data ≠ .cell v := by
 cases b
 · obtain ⟨o, q, _, d⟩ := (show h.IsListIter it a k from z); exact ⟨o, q, fun v y => by rw [d] at y; cases y⟩
 · obtain ⟨o, q, _, d⟩ := (show h.IsTupleIter it a k from z); exact ⟨o, q, fun v y => by rw [d] at y; cases y⟩
theorem Itb.keep {b : Bool} {h h' : Heap} {it a : Addr} {k : Nat} (z : Itb b h it a k) (e : ∀ o, h.get? it = Option.some o → h'.get? it = Option.some o) : Itb b h' it a k := by
 cases b
 · obtain ⟨o, q, r⟩ := (show h.IsListIter it a k from z); exact (show h'.IsListIter it a k from ⟨o, e o q, r⟩)
 · obtain ⟨o, q, r⟩ := (show h.IsTupleIter it a k from z); exact (show h'.IsTupleIter it a k from ⟨o, e o q, r⟩)
theorem Itb.sit {b : Bool} {h : Heap} {it a : Addr} {k : Nat} {xs : Array Value} (z : Itb b h it a k) (q : IsSq b h a xs) : SIt h it a xs k := by
 cases b
 · exact .inl ⟨z, q⟩
 · exact .inr ⟨z, q⟩
theorem itb_of {b : Bool} {h : Heap} {it a : Addr} {k : Nat} {xs : Array Value} (z : SIt h it a xs k) (q : IsSq b h a xs) : Itb b h it a k := by
 cases b
 · rcases z with ⟨z1, _⟩ | ⟨_, o, e1, e2, _⟩
   · exact z1
   · obtain ⟨o', f1, f2, _⟩ := (show h.IsList a xs from q)
     rw [f1] at e1; cases e1; rw [f2] at e2; injection e2 with y; exact absurd y (by decide)
 · rcases z with ⟨_, o, e1, e2, _⟩ | ⟨z1, _⟩
   · obtain ⟨o', f1, f2, _⟩ := (show h.IsTuple a xs from q)
     rw [f1] at e1; cases e1; rw [f2] at e2; injection e2 with y; exact absurd y (by decide)
   · exact z1
section
variable {X : Cx} {pins : List (Addr × Obj)} {σ : St} {H : Hp} {s : Shared}
theorem Inv.sqb {b : Bool} {a : Addr} {xs : List V} (I : Inv X pins σ H s) (h : Sqb b H a xs) : ∃ its : List Value, Vals xs its ∧ IsSq b s.heap a its.toArray := by
 cases b
 · obtain ⟨its, rv, pl, _⟩ := I.list (SqL.of (show H a = Option.some (.lst xs) from h))
   exact ⟨its, rv, pl.isList⟩
 · obtain ⟨its, rv, pl, _⟩ := I.tuple (SqT.of (show H a = Option.some (.tup xs) from h))
   exact ⟨its, rv, pl⟩
end
section
variable {X : Cx} {pins : List (Addr × Obj)} {σ : St} {H : Hp} {s : Shared}
theorem Inv.turnedAll {h' : Heap} {t' : Nat} {ch : List Addr} (I : Inv X pins σ H s) (hc : ∀ b ∈ ch, FpOk X pins H b) (k : ∀ b u, b ∉ ch → s.heap.get? b = some u → h'.get? b = some u) : Inv X pins σ H { s with heap := h', toks := t' } := by
 have trk : ∀ b u, H b = some u → b ∉ ch := fun b u e z => by rw [(hc b z).1] at e; cases e
 refine I.step (g' := s.gens) (d' := s.drawn) (ch := ch) (fun b hb => ?_) (fun b u _ _ hn e _ => k b u hn e) (fun b u _ _ hn e _ => ⟨u.slots, k b u hn e⟩) (fun _ _ _ _ n => n)
  (fun b u hn e => ⟨u, k b u hn e⟩) (fun _ _ e => e) (fun _ _ _ e => e) (fun b ps e => ⟨#[], by rw [e]; simp⟩) (fun m hm => ?_) (fun b u e => ?_) I.bare
 · obtain ⟨f0, f1, f2, f3, f4, f5⟩ := hc b hb
   exact ⟨f3, f1, f4, f5⟩
 · obtain ⟨ob, es, ep, ho, r⟩ := hm
   exact ⟨ob, es, ep, k _ ob (fun z => (hc _ z).2.1 rfl) ho, r⟩
 · refine (I.hok b u e).stay (fun c v hc' q => k c v ?_ q) (fun c q => q) fun c xs q => q
   rcases hc' with z | z
   · rw [z]; exact trk b u e
   · exact trk c _ z
end
structure Z5 (n : Nat) : Prop where
 a : n + 2 ≠ n + 4
 b : n + 3 ≠ n + 4
 c : n ≠ n + 4
 d : n + 1 ≠ n + 4
 e : n + 2 ≠ n + 3
 f : n + 2 ≠ n
 g : n + 2 ≠ n + 1
 h : n + 3 ≠ n
 i : n + 3 ≠ n + 1
 j : n ≠ n + 1
theorem fiveZ (n : Nat) : Z5 n := ⟨by lia, by lia, by lia, by lia, by lia, by lia, by lia, by lia, by lia, by lia⟩
noncomputable def Itz (b1 b2 : Bool) (a1 a2 : Addr) : It :=
 ⟨fun i H => ∃ xs x ys y, Sqb b1 H a1 xs ∧ xs[i]? = some x ∧ Sqb b2 H a2 ys ∧ ys[i]? = some y,
  fun i H v H' => ∃ p x y, v = .ref p ∧ H p = none ∧ H' = upd H p (.tup [x, y]) ∧ (∀ xs, Sqb b1 H a1 xs → xs[i]? = some x) ∧ ∀ ys, Sqb b2 H a2 ys → ys[i]? = some y,
  fun i H => ∃ xs ys, Sqb b1 H a1 xs ∧ Sqb b2 H a2 ys ∧ (xs.length ≤ i ∨ ys.length ≤ i)⟩
theorem turn_zip {P : Program} {w : World} {K : PySem.W.Frag} {es : List Expr} {x1} {tp : Pos} (b1 b2 : Bool) (a1 a2 : Addr) (n : Nat) :
  Turn P w K (.Tuple es x1 tp) (Itz b1 b2 a1 a2) [n + 4, n + 2, n + 3, n, n + 1] (n + 4) (fun i h => IsZip h (n + 4) (n + 2) (n + 3) .none ∧ IsPair h (n + 2) (.ref n) (.ref (n + 1)) ∧ (∃ a b, IsPair h (n + 3) a b) ∧ Itb b1 h n a1 i ∧ Itb b2 h (n + 1) a2 i) where
 mem := by simp
 obj := fun i h st b hb => by
  obtain ⟨z1, z2, ⟨u, v, z3⟩, z4, z5⟩ := st
  simp only [List.mem_cons, List.not_mem_nil, or_false] at hb
  rcases hb with rfl | rfl | rfl | rfl | rfl
  · exact ⟨_, z1, fun v y => nomatch (show Data.fields _ = Data.cell v from y)⟩
  · exact ⟨_, z2, fun v y => nomatch (show Data.seq _ _ = Data.cell v from y)⟩
  · exact ⟨_, z3, fun v y => nomatch (show Data.seq _ _ = Data.cell v from y)⟩
  · exact z4.obj
  · exact z5.obj
 keep := fun i h h' st kk => by
  obtain ⟨z1, z2, ⟨u, v, z3⟩, z4, z5⟩ := st
  exact ⟨kk _ (by simp) _ z1, kk _ (by simp) _ z2, ⟨u, v, kk _ (by simp) _ z3⟩, z4.keep fun o q => kk _ (by simp) o q, z5.keep fun o q => kk _ (by simp) o q⟩
 item := by
  intro X hP hw hK hc i pins s σ H E I hf st hg
  subst hP hw hK
  obtain ⟨xs, x, ys, y, q1, hx, q2, hy⟩ := hg
  obtain ⟨its, rv, p1⟩ := I.sqb q1
  obtain ⟨its2, rv2, p2⟩ := I.sqb q2
  obtain ⟨u, hu, ru⟩ := rv.get hx
  obtain ⟨u2, hu2, ru2⟩ := rv2.get hy
  obtain ⟨z1, z2, ⟨c1, c2, z3⟩, z4, z5⟩ := st
  have ap : ∀ {b : Bool} {a : Addr} {zs : List V}, Sqb b H a zs → ∀ f ∈ [n + 4, n + 2, n + 3, n, n + 1], a ≠ f := fun hq f hfm e => by
   obtain ⟨o, q⟩ := hq.some
   have := (hf f hfm).1
   rw [← e, q] at this; cases this
  have D : ZipApart (n + 4) (n + 2) (n + 3) n (n + 1) a1 a2 := ⟨(fiveZ n).a, (fiveZ n).b, (fiveZ n).c, (fiveZ n).d, (fiveZ n).e, (fiveZ n).f, (fiveZ n).g, (fiveZ n).h, (fiveZ n).i, (fiveZ n).j, ap q1 _ (by simp), ap q1 _ (by simp), ap q1 _ (by simp), ap q1 _ (by simp), ap q2 _ (by simp), ap q2 _ (by simp), ap q2 _ (by simp), ap q2 _ (by simp)⟩
  refine zipS_item D z1 z2 z3 (z4.sit p1) (z5.sit p2) (x := u) (y := u2) (by simpa using hu) (by simpa using hu2) fun h' e1 e2 e3 e4 e5 e6 e7 => ⟨_, rfl, ?_⟩
  refine wpAny_letOwnedTupleGo_zip e1 fun h2 g1 sb => ?_
  have zlt : n + 4 < s.heap.objs.size := Heap.lt_size z1
  have I1 : Inv X pins σ (upd H s.heap.objs.size (.tup [x, y])) { s with heap := h2, toks := s.toks } := by
   refine I.turnedNew (ch := [n + 4, n + 2, n + 3, n, n + 1]) hf (Nat.le_refl _) (fun b o hb q => ?_) ⟨by show 2 ≤ sizeLine; decide, [u, u2], .cons ru (.cons ru2 .nil), ?_⟩
   · have m : ∀ f, f ∈ [n + 4, n + 2, n + 3, n, n + 1] → b ≠ f := fun f hfm e => hb (e ▸ hfm)
     exact (sb.2 b (m _ (by simp))).trans (e7 b o (m _ (by simp)) (m _ (by simp)) (m _ (by simp)) (m _ (by simp)) q)
   · exact ⟨_, (sb.2 _ (Nat.ne_of_gt zlt)).trans e5, rfl, rfl, _, rfl⟩
  have up : ∀ b o, b ≠ n + 4 → h'.get? b = some o → h2.get? b = some o := fun b o hb q => (sb.2 b hb).trans q
  have keepS : ∀ {b : Bool} {a : Addr} {zs : Array Value} {ws : List V}, Sqb b H a ws → IsSq b s.heap a zs → IsSq b h' a zs := fun {b a zs ws} hq hs => by
   have k : ∀ o, s.heap.get? a = some o → h'.get? a = some o := fun o q => e7 a o (ap hq _ (by simp)) (ap hq _ (by simp)) (ap hq _ (by simp)) (ap hq _ (by simp)) q
   cases b
   · obtain ⟨o, f1, f2⟩ := (show s.heap.IsList a zs from hs); exact (show h'.IsList a zs from ⟨o, k o f1, f2⟩)
   · obtain ⟨o, f1, f2⟩ := (show s.heap.IsTuple a zs from hs); exact (show h'.IsTuple a zs from ⟨o, k o f1, f2⟩)
  refine ⟨.ref s.heap.objs.size, _, I1, rfl, ⟨_, x, y, rfl, I.hok.fresh (Nat.le_refl _), rfl, fun zs hz => by rw [hz.inj q1]; exact hx, fun zs hz => by rw [hz.inj q2]; exact hy⟩, ⟨g1, ?_, ⟨u, u2, up _ _ (fiveZ n).b e2⟩, ?_, ?_⟩, fun b hb => ?_⟩
  · exact up _ _ (fiveZ n).a (e7 _ _ (fiveZ n).a (fiveZ n).e (fiveZ n).f (fiveZ n).g z2)
  · exact (itb_of e3 (keepS q1 p1)).keep fun o q => up _ o (fiveZ n).c q
  · exact (itb_of e4 (keepS q2 p2)).keep fun o q => up _ o (fiveZ n).d q
  · rw [upd_ne (fun z => ?_)]
    · exact (hf b hb).1
    · have zlt' : n + 4 < s.heap.objs.size := zlt
      have : ∀ f : Nat, f ∈ [n + 4, n + 2, n + 3, n, n + 1] → f < s.heap.objs.size := fun f hfm => by
       simp only [List.mem_cons, List.not_mem_nil, or_false] at hfm
       lia
      exact absurd (z ▸ this b hb) (Nat.lt_irrefl _)
 done := by
  intro X hP hw hK hc i pins s σ H E I hf st hg
  subst hP hw hK
  obtain ⟨xs, ys, q1, q2, hx⟩ := hg
  obtain ⟨its, rv, p1⟩ := I.sqb q1
  obtain ⟨its2, rv2, p2⟩ := I.sqb q2
  have l1 := rv.length
  have l2 := rv2.length
  obtain ⟨z1, z2, ⟨c1, c2, z3⟩, z4, z5⟩ := st
  have ap : ∀ {b : Bool} {a : Addr} {zs : List V}, Sqb b H a zs → ∀ f ∈ [n + 4, n + 2, n + 3, n, n + 1], a ≠ f := fun hq f hfm e => by
   obtain ⟨o, q⟩ := hq.some
   have := (hf f hfm).1
   rw [← e, q] at this; cases this
  have D : ZipApart (n + 4) (n + 2) (n + 3) n (n + 1) a1 a2 := ⟨(fiveZ n).a, (fiveZ n).b, (fiveZ n).c, (fiveZ n).d, (fiveZ n).e, (fiveZ n).f, (fiveZ n).g, (fiveZ n).h, (fiveZ n).i, (fiveZ n).j, ap q1 _ (by simp), ap q1 _ (by simp), ap q1 _ (by simp), ap q1 _ (by simp), ap q2 _ (by simp), ap q2 _ (by simp), ap q2 _ (by simp), ap q2 _ (by simp)⟩
  refine zipS_end (I.ok.hd hc) D z1 z2 z3 (z4.sit p1) (z5.sit p2) (hx.elim (fun h => .inl (by rw [List.getElem?_toArray]; exact List.getElem?_eq_none (by lia))) fun h => .inr (by rw [List.getElem?_toArray]; exact List.getElem?_eq_none (by lia))) fun h' kk => ⟨rfl, ?_⟩
  refine I.turnedAll (ch := [n + 4, n + 2, n + 3, n, n + 1]) hf fun b o hb q => ?_
  have m : ∀ f, f ∈ [n + 4, n + 2, n + 3, n, n + 1] → b ≠ f := fun f hfm e => hb (e ▸ hfm)
  exact kk b o (m _ (by simp)) (m _ (by simp)) (m _ (by simp)) (m _ (by simp)) q
 self := fun A i s Q E st h => wpAny_pyIter_zip st.1 h
end L2
end
section
namespace L2
open PySem PySem.Spec PyProof.Rows
theorem boot_zip' : bootBuiltins "zip" = some (.type "zip") := by decide +kernel
def iZip (ta : TA) : TI := fun σ H R => ta σ H fun vs H1 => ∃ b1 b2 a1 a2 xs ys, vs = [.ref a1, .ref a2] ∧ Sqb b1 H1 a1 xs ∧ Sqb b2 H1 a2 ys ∧ R (Itz b1 b2 a1 a2) H1
section
variable {X : Cx} {pos : Pos}
theorem zipLaid_it {pins : List (Addr × Obj)} {σ : St} {H : Hp} {s : Shared} {R : It → Hp → Prop} {E : Value → Shared → Prop} {es : List Expr} {x1} {tp : Pos} {b1 b2 : Bool} {a1 a2 : Addr} {tk : Nat} (I : Inv X pins σ H s) (q : R (Itz b1 b2 a1 a2) H) :
  wpAny (model X.prog X.w) X.A (pyIter (.ref (zipL4 s.heap b1 b2 a1 a2).objs.size)) (PIE X pins σ (.Tuple es x1 tp) R) E { s with heap := zipL5 s.heap b1 b2 a1 a2, toks := tk } := by
 have z1 : (s.heap.push (itO b1 a1)).objs.size = s.heap.objs.size + 1 := Heap.size_push ..
 have z2 : (zipL2 s.heap b1 b2 a1 a2).objs.size = s.heap.objs.size + 2 := by unfold zipL2; rw [Heap.size_push, z1]
 have z3 : ((zipL2 s.heap b1 b2 a1 a2).push { cls := .type "tuple", data := .seq #[.ref s.heap.objs.size, .ref (s.heap.push (itO b1 a1)).objs.size] }).objs.size = s.heap.objs.size + 3 := by rw [Heap.size_push, z2]
 have z4 : (zipL4 s.heap b1 b2 a1 a2).objs.size = s.heap.objs.size + 4 := by unfold zipL4; rw [Heap.size_push, z3]
 have keep : ∀ c o, s.heap.get? c = some o → (zipL5 s.heap b1 b2 a1 a2).get? c = some o := fun c o e => by
  unfold zipL5 zipL4 zipL2
  exact Heap.get?_push_of_some _ (Heap.get?_push_of_some _ (Heap.get?_push_of_some _ (Heap.get?_push_of_some _ (Heap.get?_push_of_some _ e))))
 have g5 : IsZip (zipL5 s.heap b1 b2 a1 a2) (s.heap.objs.size + 4) (s.heap.objs.size + 2) (s.heap.objs.size + 3) .none := by
  have := Heap.get?_push_size (zipL4 s.heap b1 b2 a1 a2) (o := { cls := .type "zip", data := .fields #[.none, .bool false, .bool false, .ref (zipL2 s.heap b1 b2 a1 a2).objs.size, .ref ((zipL2 s.heap b1 b2 a1 a2).push { cls := .type "tuple", data := .seq #[.ref s.heap.objs.size, .ref (s.heap.push (itO b1 a1)).objs.size] }).objs.size] }) rfl
  rw [z4, z2, z3] at this
  unfold zipL5
  rw [z2, z3]
  exact this
 have g3 : IsPair (zipL5 s.heap b1 b2 a1 a2) (s.heap.objs.size + 2) (.ref s.heap.objs.size) (.ref (s.heap.objs.size + 1)) := by
  have := Heap.get?_push_size (zipL2 s.heap b1 b2 a1 a2) (o := { cls := .type "tuple", data := .seq #[.ref s.heap.objs.size, .ref (s.heap.push (itO b1 a1)).objs.size] }) rfl
  rw [z2] at this
  have h2 : (zipL5 s.heap b1 b2 a1 a2).get? (s.heap.objs.size + 2) = some { cls := .type "tuple", data := .seq #[.ref s.heap.objs.size, .ref (s.heap.push (itO b1 a1)).objs.size] } := by
   unfold zipL5 zipL4
   exact Heap.get?_push_of_some _ (Heap.get?_push_of_some _ this)
  rw [z1] at h2
  exact h2
 have g4 : IsPair (zipL5 s.heap b1 b2 a1 a2) (s.heap.objs.size + 3) .none .none := by
  have := Heap.get?_push_size ((zipL2 s.heap b1 b2 a1 a2).push { cls := .type "tuple", data := .seq #[.ref s.heap.objs.size, .ref (s.heap.push (itO b1 a1)).objs.size] }) (o := { cls := .type "tuple", data := .seq #[.none, .none] }) rfl
  rw [z3] at this
  unfold zipL5 zipL4
  exact Heap.get?_push_of_some _ this
 have i1 : Itb b1 (zipL5 s.heap b1 b2 a1 a2) s.heap.objs.size a1 0 := by
  have h : (zipL5 s.heap b1 b2 a1 a2).get? s.heap.objs.size = some (itO b1 a1) := by
   unfold zipL5 zipL4 zipL2
   refine Heap.get?_push_of_some _ (Heap.get?_push_of_some _ (Heap.get?_push_of_some _ (Heap.get?_push_of_some _ (Heap.get?_push_size _ ?_))))
   cases b1 <;> rfl
  cases b1
  · exact (show Heap.IsListIter _ _ _ _ from ⟨_, h, rfl, rfl⟩)
  · exact (show Heap.IsTupleIter _ _ _ _ from ⟨_, h, rfl, rfl⟩)
 have i2 : Itb b2 (zipL5 s.heap b1 b2 a1 a2) (s.heap.objs.size + 1) a2 0 := by
  have h : (zipL5 s.heap b1 b2 a1 a2).get? (s.heap.push (itO b1 a1)).objs.size = some (itO b2 a2) := by
   unfold zipL5 zipL4 zipL2
   refine Heap.get?_push_of_some _ (Heap.get?_push_of_some _ (Heap.get?_push_of_some _ (Heap.get?_push_size _ ?_)))
   cases b2 <;> rfl
  rw [z1] at h
  cases b2
  · exact (show Heap.IsListIter _ _ _ _ from ⟨_, h, rfl, rfl⟩)
  · exact (show Heap.IsTupleIter _ _ _ _ from ⟨_, h, rfl, rfl⟩)
 rw [z4]
 refine wpAny_pyIter_zip g5 ?_
 refine ⟨s.heap.objs.size + 4, _, _, Itz b1 b2 a1 a2, H, rfl, I.kept keep, turn_zip b1 b2 a1 a2 s.heap.objs.size, ⟨g5, g3, ⟨_, _, g4⟩, i1, i2⟩, fun c hc => ?_, q⟩
 have hle : s.heap.objs.size ≤ c := by
  have : ∀ n f : Nat, f ∈ [n + 4, n + 2, n + 3, n, n + 1] → n ≤ f := fun n f hf => by
   simp only [List.mem_cons, List.not_mem_nil, or_false] at hf
   omega
  exact this _ _ hc
 exact I.fpOk hle (I.hok.fresh hle)
theorem pi_zip {e f : Expr} {t : TA} {es : List Expr} {x1} {tp p : Pos} (hg : Gl X "zip") (hm : X.mg "zip" = none) (ha : PA X [e, f] t) (hs : autoParam (starEach [e, f] X.env = [(false, eval e X.env), (false, eval f X.env)]) au5._auto_1) (hs2 : autoParam (starEach [f] X.env = [(false, eval f X.env)]) au5._auto_1) :
  PI X (.Tuple es x1 tp) (.Call (.Name "zip" p) [e, f] [] pos) (iZip t) := by
 intro pins s σ H R I h
 refine Call_ (ld_blt I hg hm boot_zip' (PyProof.Rows.callWith_type1 (thn (ha pos pins s σ H _ I h) fun us s1 zz1 => ?_) (by rw [hs, hs2]) (by rw [hs2]; rfl)))
 obtain ⟨vs, H1, I1, r1, q1⟩ := zz1
 obtain ⟨b1, b2, a1, a2, xs, ys, rfl, k1, k2, q⟩ := q1
 obtain ⟨u, u2, rfl, ru, ru2⟩ := vals2 r1
 cases ru; cases ru2
 obtain ⟨its, rv, p1⟩ := I1.sqb k1
 obtain ⟨its2, rv2, p2⟩ := I1.sqb k2
 exact callTyKw F.called_zip (by decide) (F.typeCall_zip_2 _ _) (F.newCall_zip_2 _ _) (fun obj => F.args_object_init_3 obj _ _) F.entry_zip_new (zipNew b1 b2 a1 a2 its.toArray its2.toArray) ⟨p1, p2, ⟨_, Heap.get?_push_size _ rfl, rfl⟩, zipLaid_it I1 q⟩
end
end L2
end
section
namespace LSrt
open PySem PySem.W PyProof.Rows
variable {N : Nat} {K : Nat → Int} {s : Shared} {cmp : Nat → Nat → (Bool → Shared → Prop) → Shared → Prop}
def Cok (N : Nat) (K : Nat → Int) (cmp : Nat → Nat → (Bool → Shared → Prop) → Shared → Prop) (s : Shared) : Prop := ∀ i j, i < N → j < N → ∀ C : Bool → Shared → Prop, C (decide (K i < K j)) s → cmp i j C s
structure Pm (N : Nat) (p : Array Nat) : Prop where
 pm : p.Perm (List.range N).toArray
theorem Pm.sz {p : Array Nat} (h : Pm N p) : p.size = N := by rw [h.pm.size_eq]; simp
theorem Pm.lt {p : Array Nat} (h : Pm N p) {i : Nat} (hi : i < N) : p.getD i 0 < N := by
 have hs : i < p.size := by rw [h.sz]; exact hi
 have e : p.getD i 0 = p[i] := by simp [Array.getD, hs]
 rw [e]
 have hm : p[i] ∈ (List.range N).toArray.toList := (Array.perm_iff_toList_perm.mp h.pm).mem_iff.mp (by simp)
 simpa using hm
theorem Pm.rev {p : Array Nat} (h : Pm N p) (i j : Nat) : Pm N (kas_rev p i j) := ⟨(mirror_perm _ _ _ _).trans h.pm⟩
theorem Pm.bub {p : Array Nat} (h : Pm N p) (i j : Nat) : Pm N (bubble p i j) := ⟨(bubble_perm _ _ _).trans h.pm⟩
end LSrt
end
section
namespace L2
open PySem PySem.Spec PyProof.Rows
section
variable {X : Cx}
theorem op_neNilL (hu : X.A.units < cLine) : OpR X (compareOp .NotEq) (rNeNilL X.K) := by
 intro pins s σ H x y v u Q I rx ry h
 obtain ⟨p, q, xs, rfl, rfl, h1, h2, hq⟩ := h
 cases rx; cases ry
 obtain ⟨its, rv, pl, _⟩ := I.list h1
 obtain ⟨its2, rv2, pl2, _⟩ := I.list h2
 cases rv2
 cases rv with
 | nil => exact SeqAt.RcNeAt.lists (e := fun _ => true) pl.isList pl2.isList rfl hu (fun j h1 _ => absurd h1 (by simp)) _ _ _ _ ⟨.bl false, H, I, rfl, hq⟩
 | cons r rr => exact SeqAt.RcNeAt.lists_lengths pl.isList pl2.isList (by simp) hu _ _ _ _ ⟨.bl true, H, I, rfl, hq⟩
end
end L2
end
section
namespace LW
open PySem L2 LB PyProof.Rows
theorem Same.none {H H' : Hp} {a : Addr} (s : Same H H') (h : H' a = none) : H a = none := by
 cases e : H a with
 | none => rfl
 | some o => rw [s _ _ e] at h; cases h
end LW
end
section
namespace LSrt
open PySem PySem.W PyProof.Rows
section
variable {prog : Program} {w : World} {A : Around} {E : Value → Shared → Prop} {z : Shared} {K : Nat → Int} {vs : List Value}
structure Ask (prog : Program) (w : World) (A : Around) (vs : List Value) (K : Nat → Int) (z : Shared) (κ : SortKind) : Prop where
 kind : ∀ Q : SortKind → Shared → Prop, Q κ z → wpAny (model prog w) A (keyKind' vs.toArray) Q (fun _ _ => False) z
 ask : Cok vs.length K (kas_ask prog w A κ vs) z
noncomputable def outs (vs : List Value) (p : Array Nat) : Array Value := List.toArray (p.toList.map fun i => vs.getD i Value.none)
theorem outs_len {p : Array Nat} (hp : Pm vs.length p) : (outs vs p).size = vs.length := by
 unfold outs
 rw [List.size_toArray, List.length_map, Array.length_toList, hp.sz]
theorem outs_id : ((vs.toArray.zip vs.toArray).map fun q : Keyed => q.2) = outs vs (List.range vs.length).toArray := by
 apply Array.toList_inj.mp
 unfold outs
 apply List.ext_getElem
 · simp
 · intro i h1 h2
   have hi : i < vs.length := by simpa using h1
   simp [hi]
end
end LSrt
end
section
namespace LSrt
open PySem PySem.W PyProof.Rows
noncomputable def enc (B : Int) (q : Int × Int) : Int := q.1 * B + q.2
theorem enc_lt {B : Int} {p q : Int × Int} (hp : 0 ≤ p.2 ∧ p.2 < B) (hq : 0 ≤ q.2 ∧ q.2 < B) : decide (enc B p < enc B q) = (if (p.1 == q.1) = true then (if (p.2 == q.2) = true then false else decide (p.2 < q.2)) else decide (p.1 < q.1)) := by
 obtain ⟨a, b⟩ := p
 obtain ⟨c, d⟩ := q
 unfold enc
 simp only at hp hq ⊢
 by_cases h1 : a = c
 · subst h1
   rw [if_pos (by rw [beq_iff_eq])]
   by_cases h2 : b = d
   · subst h2
     rw [if_pos (by rw [beq_iff_eq])]; rw [decide_eq_false_iff_not]; lia
   · rw [if_neg (by rw [beq_iff_eq]; exact h2)]
     exact decide_eq_decide.mpr ⟨fun h => by lia, fun h => by lia⟩
 · rw [if_neg (by rw [beq_iff_eq]; exact h1)]
   refine decide_eq_decide.mpr ⟨fun h => ?_, fun h => ?_⟩
   · refine Int.lt_of_not_ge fun z => ?_
     have : (c + 1) * B ≤ a * B := Int.mul_le_mul_of_nonneg_right (by lia) (by lia)
     rw [Int.add_mul] at this
     lia
   · have : (a + 1) * B ≤ c * B := Int.mul_le_mul_of_nonneg_right (by lia) (by lia)
     rw [Int.add_mul] at this
     lia
def PrAt (h : Heap) (v : Value) (q : Int × Int) : Prop := ∃ (t : Addr) (o : Obj) (a b : Tok) (n : Nat), v = .ref t ∧ h.get? t = some o ∧ o.cls = .type "tuple" ∧ o.data = .seq #[.int q.1 a, .int q.2 b] n
theorem PrAt.keep {h h' : Heap} {v : Value} {q : Int × Int} (x : PrAt h v q) (k : ∀ b o, h.get? b = some o → h'.get? b = some o) : PrAt h' v q := let ⟨t, o, a, b, n, e, g, c, d⟩ := x; ⟨t, o, a, b, n, e, k _ _ g, c, d⟩
section
variable {prog : Program} {w : World} {A : Around} {E : Value → Shared → Prop} {z : Shared} {vs : List Value} {ps : List (Int × Int)} {B : Int}
theorem firsts {h : Heap} : ∀ {vs : List Value} {ps : List (Int × Int)}, vs.length = ps.length → (∀ (i : Nat) v q, vs[i]? = some v → ps[i]? = some q → PrAt h v q) → ∃ fs, KatTups h vs fs ∧ fs.length = vs.length ∧ ∀ v ∈ fs, ∃ x t, v = Value.int x t
 | [], [], _, _ => ⟨[], .nil, rfl, fun v hv => absurd hv List.not_mem_nil⟩
 | [], _ :: _, l, _ => by simp at l
 | _ :: _, [], l, _ => by simp at l
 | v :: vs, q :: ps, l, hp => by
  obtain ⟨fs, t, lf, hi⟩ := firsts (vs := vs) (ps := ps) (by simpa using l) fun i v q h1 h2 => hp (i + 1) v q (by simpa using h1) (by simpa using h2)
  obtain ⟨t0, o, a, b, n, rfl, g, c, d⟩ := hp 0 v q rfl rfl
  refine ⟨.int q.1 a :: fs, .cons g c d rfl t, by rw [List.length_cons, List.length_cons, lf], fun v hv => ?_⟩
  rcases List.mem_cons.mp hv with e | hv
  · exact ⟨_, _, e⟩
  · exact hi v hv
theorem ask_pairs (hl : vs.length = ps.length) (h2 : 2 ≤ vs.length) (hp : ∀ (i : Nat) v q, vs[i]? = some v → ps[i]? = some q → PrAt z.heap v q) (hb : ∀ q ∈ ps, 0 ≤ q.2 ∧ q.2 < B) : ∃ κ, Ask prog w A vs (fun i => enc B (ps.getD i (0, 0))) z κ := by
 obtain ⟨fs, t, lf, hi⟩ := firsts hl hp
 refine ⟨tuples' true, fun Q q => kat_kind (T := .type "int") t (by lia) (fun v hv => ?_) (by rfl) q, fun i j hi' hj' C q => ?_⟩
 · obtain ⟨x, tk, rfl⟩ := hi v hv
   exact Looks.of_pure rfl
 · have li : i < ps.length := by lia
   have lj : j < ps.length := by lia
   have ei : ps.getD i (0, 0) = ps[i] := by simp [List.getD, li]
   have ej : ps.getD j (0, 0) = ps[j] := by simp [List.getD, lj]
   have fi : vs.getD i Value.none = vs[i] := by simp [List.getD, hi']
   have fj : vs.getD j Value.none = vs[j] := by simp [List.getD, hj']
   rw [ei, ej, enc_lt (hb _ (List.getElem_mem li)) (hb _ (List.getElem_mem lj))] at q
   obtain ⟨t1, o1, a1, b1, n1, e1, g1, c1, d1⟩ := hp i _ _ (List.getElem?_eq_getElem hi') (List.getElem?_eq_getElem li)
   obtain ⟨t2, o2, a2, b2, n2, e2, g2, c2, d2⟩ := hp j _ _ (List.getElem?_eq_getElem hj') (List.getElem?_eq_getElem lj)
   unfold kas_ask
   rw [fi, fj, e1, e2]
   refine kat_lt g1 d1 g2 d2 (kat_cons (wpAny_eqBool_int ?_))
   by_cases h1 : (ps[i].1 == ps[j].1) = true
   · rw [h1]
     rw [if_pos h1] at q
     refine kat_yes (kat_cons (wpAny_eqBool_int ?_))
     by_cases h2 : (ps[i].2 == ps[j].2) = true
     · rw [h2]
       rw [if_pos h2] at q
       exact kat_yes (kat_nil q)
     · rw [if_neg h2] at q
       rw [Bool.eq_false_iff.mpr h2]
       exact kat_no (kat_one _ _ (lt_int q))
   · rw [if_neg h1] at q
     rw [Bool.eq_false_iff.mpr h1]
     exact kat_no (oneLt_int q)
end
end LSrt
end
section
namespace LD
open PySem PySem.Spec L2 LB PyProof.Rows
inductive Dt where
 | non | bl (b : Bool) | int (i : Int) | str (x : Str) | lst (ds : List Dt) | tup (ds : List Dt) | dic (ks : List Key) (ds : List Dt) | dit (ks : List (List Key)) (ds : List Dt)
noncomputable def Dt.isN : Dt → Bool
 | .non => true
 | _ => false
inductive Rep (M : Addr → Prop) (H : Hp) : V → Dt → Prop where
 | non : Rep M H .non .non
 | bl (b : Bool) : Rep M H (.bl b) (.bl b)
 | int (i : Int) : Rep M H (.int i) (.int i)
 | str (x : Str) : Rep M H (.str x) (.str x)
 | lst {a : Addr} {xs : List V} {ds : List Dt} : H a = some (.lst xs) → ¬ M a → xs.length = ds.length → (∀ (i : Nat) x d, xs[i]? = some x → ds[i]? = some d → Rep M H x d) → Rep M H (.ref a) (.lst ds)
 | tup {a : Addr} {xs : List V} {ds : List Dt} : H a = some (.tup xs) → ¬ M a → xs.length = ds.length → (∀ (i : Nat) x d, xs[i]? = some x → ds[i]? = some d → Rep M H x d) → Rep M H (.ref a) (.tup ds)
 | dic {a : Addr} {vs : List (Key × V)} {ks : List Key} {ds : List Dt} : H a = some (.dK vs) → ¬ M a → vs.map (·.1) = ks → (vs.map (·.2)).length = ds.length → (∀ (i : Nat) x d, (vs.map (·.2))[i]? = some x → ds[i]? = some d → Rep M H x d) → Rep M H (.ref a) (.dic ks ds)
 | dit {a : Addr} {vs : List (List Key × V)} {ks : List (List Key)} {ds : List Dt} : H a = some (.dT vs) → ¬ M a → vs.map (·.1) = ks → (vs.map (·.2)).length = ds.length → (∀ (i : Nat) x d, (vs.map (·.2))[i]? = some x → ds[i]? = some d → Rep M H x d) → Rep M H (.ref a) (.dit ks ds)
def Reps (M : Addr → Prop) (H : Hp) (xs : List V) (ds : List Dt) : Prop := xs.length = ds.length ∧ ∀ (i : Nat) x d, xs[i]? = some x → ds[i]? = some d → Rep M H x d
theorem Rep.mono {M M' : Addr → Prop} {H H' : Hp} {v : V} {d : Dt} (h : Rep M H v d) (m : ∀ a o, H a = some o → ¬ M a → H' a = some o ∧ ¬ M' a) : Rep M' H' v d := by
 induction h with
 | non => exact .non
 | bl b => exact .bl b
 | int i => exact .int i
 | str x => exact .str x
 | lst h n l r ih => exact .lst (m _ _ h n).1 (m _ _ h n).2 l ih
 | tup h n l r ih => exact .tup (m _ _ h n).1 (m _ _ h n).2 l ih
 | dic h n e l r ih => exact .dic (m _ _ h n).1 (m _ _ h n).2 e l ih
 | dit h n e l r ih => exact .dit (m _ _ h n).1 (m _ _ h n).2 e l ih
theorem Reps.mono {M M' : Addr → Prop} {H H' : Hp} {xs : List V} {ds : List Dt} (h : Reps M H xs ds) (m : ∀ a o, H a = some o → ¬ M a → H' a = some o ∧ ¬ M' a) : Reps M' H' xs ds := ⟨h.1, fun i x d h1 h2 => (h.2 i x d h1 h2).mono m⟩
theorem Rep.same {M : Addr → Prop} {H H' : Hp} {v : V} {d : Dt} (h : Rep M H v d) (s : Same H H') : Rep M H' v d := h.mono fun a o e n => ⟨s _ _ e, n⟩
theorem Reps.same {M : Addr → Prop} {H H' : Hp} {xs : List V} {ds : List Dt} (h : Reps M H xs ds) (s : Same H H') : Reps M H' xs ds := h.mono fun a o e n => ⟨s _ _ e, n⟩
theorem Reps.nil {M : Addr → Prop} {H : Hp} : Reps M H [] [] := ⟨rfl, fun i x d h => by simp at h⟩
theorem Reps.cons {M : Addr → Prop} {H : Hp} {x : V} {d : Dt} {xs : List V} {ds : List Dt} (h : Rep M H x d) (r : Reps M H xs ds) : Reps M H (x :: xs) (d :: ds) :=
 ⟨by rw [List.length_cons, List.length_cons, r.1], fun i y e h1 h2 => by
  cases i with
  | zero => cases h1; cases h2; exact h
  | succ j => exact r.2 j y e (by simpa using h1) (by simpa using h2)⟩
theorem Reps.append {M : Addr → Prop} {H : Hp} {xs ys : List V} {ds es : List Dt} (h : Reps M H xs ds) (r : Reps M H ys es) : Reps M H (xs ++ ys) (ds ++ es) :=
 ⟨by rw [List.length_append, List.length_append, h.1, r.1], fun i y e h1 h2 => by
  by_cases hi : i < xs.length
  · rw [List.getElem?_append_left hi] at h1
    rw [List.getElem?_append_left (by rw [← h.1]; exact hi)] at h2
    exact h.2 i y e h1 h2
  · rw [List.getElem?_append_right (by omega)] at h1
    rw [List.getElem?_append_right (by have := h.1; omega), ← h.1] at h2
    exact r.2 _ y e h1 h2⟩
theorem Reps.one {M : Addr → Prop} {H : Hp} {x : V} {d : Dt} (h : Rep M H x d) : Reps M H [x] [d] := .cons h .nil
theorem Reps.get {M : Addr → Prop} {H : Hp} {xs : List V} {ds : List Dt} (h : Reps M H xs ds) {i : Nat} {d : Dt} (e : ds[i]? = some d) : ∃ x, xs[i]? = some x ∧ Rep M H x d := by
 have hi := (List.getElem?_eq_some_iff.mp e).1
 have hx : xs[i]? = some (xs[i]'(by rw [h.1]; exact hi)) := List.getElem?_eq_getElem _
 exact ⟨_, hx, h.2 i _ _ hx e⟩
theorem Reps.take {M : Addr → Prop} {H : Hp} {xs : List V} {ds : List Dt} (h : Reps M H xs ds) (n : Nat) : Reps M H (xs.take n) (ds.take n) :=
 ⟨by rw [List.length_take, List.length_take, h.1], fun i y e h1 h2 => by
  rw [List.getElem?_take] at h1 h2
  split at h1
  · rename_i hi
    rw [if_pos hi] at h2
    exact h.2 i y e h1 h2
  · cases h1⟩
theorem Reps.drop {M : Addr → Prop} {H : Hp} {xs : List V} {ds : List Dt} (h : Reps M H xs ds) (n : Nat) : Reps M H (xs.drop n) (ds.drop n) :=
 ⟨by rw [List.length_drop, List.length_drop, h.1], fun i y e h1 h2 => by
  rw [List.getElem?_drop] at h1 h2
  exact h.2 _ y e h1 h2⟩
theorem Reps.set {M : Addr → Prop} {H : Hp} {xs : List V} {ds : List Dt} {x : V} {d : Dt} (h : Reps M H xs ds) (r : Rep M H x d) (n : Nat) : Reps M H (xs.set n x) (ds.set n d) :=
 ⟨by rw [List.length_set, List.length_set, h.1], fun i y e h1 h2 => by
  rw [List.getElem?_set] at h1 h2
  split at h1
  · rename_i hi
    rw [if_pos hi] at h2
    subst hi
    by_cases hl : n < xs.length
    · rw [if_pos hl] at h1
      rw [if_pos (by rw [← h.1]; exact hl)] at h2
      cases h1; cases h2; exact r
    · rw [if_neg hl] at h1; cases h1
  · rename_i hi
    rw [if_neg hi] at h2
    exact h.2 i y e h1 h2⟩
theorem Reps.uncons {M : Addr → Prop} {H : Hp} {xs : List V} {d : Dt} {ds : List Dt} (h : Reps M H xs (d :: ds)) : ∃ x ys, xs = x :: ys ∧ Rep M H x d ∧ Reps M H ys ds := by
 cases xs with
 | nil => have := h.1; simp at this
 | cons x ys => exact ⟨x, ys, rfl, h.2 0 x d rfl rfl, ⟨by have := h.1; simpa using this, fun i y e h1 h2 => h.2 (i + 1) y e (by simpa using h1) (by simpa using h2)⟩⟩
theorem Reps.unnil {M : Addr → Prop} {H : Hp} {xs : List V} (h : Reps M H xs []) : xs = [] := List.length_eq_zero_iff.mp (by rw [h.1]; rfl)
theorem Rep.toLst {M : Addr → Prop} {H : Hp} {a : Addr} {xs : List V} {ds : List Dt} (h : H a = some (.lst xs)) (n : ¬ M a) (r : Reps M H xs ds) : Rep M H (.ref a) (.lst ds) := .lst h n r.1 r.2
theorem Rep.toTup {M : Addr → Prop} {H : Hp} {a : Addr} {xs : List V} {ds : List Dt} (h : H a = some (.tup xs)) (n : ¬ M a) (r : Reps M H xs ds) : Rep M H (.ref a) (.tup ds) := .tup h n r.1 r.2
theorem Rep.ofLst {M : Addr → Prop} {H : Hp} {v : V} {ds : List Dt} (h : Rep M H v (.lst ds)) : ∃ a xs, v = .ref a ∧ H a = some (.lst xs) ∧ ¬ M a ∧ Reps M H xs ds := by
 cases h with
 | lst h n l r => exact ⟨_, _, rfl, h, n, l, r⟩
theorem Rep.ofTup {M : Addr → Prop} {H : Hp} {v : V} {ds : List Dt} (h : Rep M H v (.tup ds)) : ∃ a xs, v = .ref a ∧ H a = some (.tup xs) ∧ ¬ M a ∧ Reps M H xs ds := by
 cases h with
 | tup h n l r => exact ⟨_, _, rfl, h, n, l, r⟩
theorem Rep.ofDic {M : Addr → Prop} {H : Hp} {v : V} {ks : List Key} {ds : List Dt} (h : Rep M H v (.dic ks ds)) : ∃ a vs, v = .ref a ∧ H a = some (.dK vs) ∧ ¬ M a ∧ vs.map (·.1) = ks ∧ Reps M H (vs.map (·.2)) ds := by
 cases h with
 | dic h n e l r => exact ⟨_, _, rfl, h, n, e, l, r⟩
theorem Rep.ofInt {M : Addr → Prop} {H : Hp} {v : V} {i : Int} (h : Rep M H v (.int i)) : v = .int i := by cases h; rfl
theorem Rep.ofBl {M : Addr → Prop} {H : Hp} {v : V} {i : Bool} (h : Rep M H v (.bl i)) : v = .bl i := by cases h; rfl
structure ObR where
 rel : (Addr → Prop) → Hp → V → List Addr → Prop
 st : ∀ {M M' : Addr → Prop} {H H' : Hp} {v : V} {as : List Addr}, rel M H v as → (∀ a ∈ as, ∀ o, H a = some o → H' a = some o) → (∀ a o, H a = some o → ¬ M a → H' a = some o ∧ ¬ M' a) → rel M' H' v as
inductive Sl where
 | no | im (d : Dt) | ow (ds : List Dt) | bx (t : Int) | dk (ks : List Key) (ds : List Dt) | ob (R : ObR) | fn (f : Addr)
def SlR (M : Addr → Prop) (H : Hp) (o : Option V) : Sl → List Addr → Prop
 | .no, as => as = []
 | .im d, as => as = [] ∧ ∃ v, o = some v ∧ Rep M H v d
 | .ow ds, as => ∃ a xs, as = [a] ∧ o = some (.ref a) ∧ H a = some (.lst xs) ∧ Reps M H xs ds
 | .bx t, as => ∃ d c, as = [d, c] ∧ o = some (.ref d) ∧ Box H d c t
 | .dk ks ds, as => ∃ a vs, as = [a] ∧ o = some (.ref a) ∧ H a = some (.dK vs) ∧ vs.map (·.1) = ks ∧ Reps M H (vs.map (·.2)) ds
 | .ob R, as => ∃ v, o = some v ∧ R.rel M H v as
 | .fn f, as => as = [] ∧ o = some (.ref f)
structure Wd where
 H0 : Hp
 A0 : Addr → Prop
 M0 : Addr → Prop
 M1 : Addr → Prop
 box : Option (Addr × Addr)
noncomputable def Sl.isBx : Sl → Bool
 | .bx _ => true
 | _ => false
structure WOk (W : Wd) (M : Addr → Prop) (α : List (List Addr)) (H : Hp) (δ : List Sl) : Prop where
 bs : ∀ b o, W.H0 b = some o → ¬ W.A0 b → H b = some o
 ex : ∀ b, W.H0 b ≠ none → H b ≠ none
 fr : ∀ a ∈ α.flatten, W.A0 a ∨ W.H0 a = none
 m0 : ∀ a, W.M0 a → M a
 m1 : ∀ a, M a → W.M1 a ∨ W.H0 a = none
 bx : ∀ d c, W.box = some (d, c) → ∃ t, δ[0]? = some (.bx t) ∧ α[0]? = some [d, c]
 fz : ∀ (i : Nat) s as, δ[i]? = some s → α[i]? = some as → s.isBx = false → ∀ a ∈ as, ¬ W.M0 a
def MOk (M : Addr → Prop) (H : Hp) : Prop := ∀ a, M a → ∃ o, H a = some o ∧ ∀ xs, o ≠ .tup xs
structure EnvR (Ws : List Wd) (M : Addr → Prop) (α : List (List Addr)) (H : Hp) (σ : L2.St) (δ : List Sl) : Prop where
 ls : σ.length = δ.length
 la : α.length = δ.length
 sl : ∀ (i : Nat) (s : Sl), δ[i]? = some s → ∃ o as, σ[i]? = some o ∧ α[i]? = some as ∧ SlR M H o s as
 nd : α.flatten.Nodup
 mu : ∀ a ∈ α.flatten, M a
 al : MOk M H
 w : ∀ W ∈ Ws, WOk W M α H δ
def Chg (α : List (List Addr)) (H H' : Hp) : Prop := ∀ b o, H b = some o → b ∉ α.flatten → H' b = some o
theorem Chg.rf {α : List (List Addr)} {H : Hp} : Chg α H H := fun _ _ e _ => e
theorem Chg.tr {α : List (List Addr)} {H H1 H2 : Hp} (a : Chg α H H1) (b : Chg α H1 H2) : Chg α H H2 := fun x o e n => b _ _ (a _ _ e n) n
theorem Chg.of {α : List (List Addr)} {H H' : Hp} (s : Same H H') : Chg α H H' := fun x o e _ => s _ _ e
theorem Rep.chg {W : List Wd} {M : Addr → Prop} {α : List (List Addr)} {H H' : Hp} {σ : L2.St} {δ : List Sl} {v : V} {d : Dt} (h : Rep M H v d) (E : EnvR W M α H σ δ) (c : Chg α H H') : Rep M H' v d := h.mono fun a o e n => ⟨c _ _ e fun z => n (E.mu a z), n⟩
theorem Reps.chg {W : List Wd} {M : Addr → Prop} {α : List (List Addr)} {H H' : Hp} {σ : L2.St} {δ : List Sl} {v : List V} {d : List Dt} (h : Reps M H v d) (E : EnvR W M α H σ δ) (c : Chg α H H') : Reps M H' v d := h.mono fun a o e n => ⟨c _ _ e fun z => n (E.mu a z), n⟩
theorem SlR.same {M : Addr → Prop} {H H' : Hp} {o : Option V} {s : Sl} {as : List Addr} (h : SlR M H o s as) (z : Same H H') : SlR M H' o s as := by
 cases s with
 | no => exact h
 | im d => exact ⟨h.1, let ⟨v, e, r⟩ := h.2; ⟨v, e, r.same z⟩⟩
 | ow ds => obtain ⟨a, xs, e1, e2, e3, r⟩ := h; exact ⟨a, xs, e1, e2, z _ _ e3, r.same z⟩
 | bx t => obtain ⟨d, c, e1, e2, r⟩ := h; exact ⟨d, c, e1, e2, r.same z⟩
 | dk ks ds => obtain ⟨a, vs, e1, e2, e3, e4, r⟩ := h; exact ⟨a, vs, e1, e2, z _ _ e3, e4, r.same z⟩
 | ob R => obtain ⟨v, e, r⟩ := h; exact ⟨v, e, R.st r (fun a _ o q => z _ _ q) fun a o q n => ⟨z _ _ q, n⟩⟩
 | fn f => exact h
theorem EnvR.same {W : List Wd} {M : Addr → Prop} {α : List (List Addr)} {H H' : Hp} {σ : L2.St} {δ : List Sl} (E : EnvR W M α H σ δ) (z : Same H H') : EnvR W M α H' σ δ := by
 refine ⟨E.ls, E.la, fun i s h => ?_, E.nd, E.mu, fun a h => ?_, fun W hW => let k := E.w W hW; ⟨fun b o e n => z _ _ (k.bs b o e n), fun b n y => k.ex b n (LW.Same.none z y), k.fr, k.m0, k.m1, k.bx, k.fz⟩⟩
 · obtain ⟨o, as, h1, h2, h3⟩ := E.sl i s h
   exact ⟨o, as, h1, h2, h3.same z⟩
 · obtain ⟨o, e, n⟩ := E.al a h
   exact ⟨o, z _ _ e, n⟩
theorem EnvR.fresh {W : List Wd} {M : Addr → Prop} {α : List (List Addr)} {H : Hp} {σ : L2.St} {δ : List Sl} (E : EnvR W M α H σ δ) {p : Addr} (h : H p = none) : ¬ M p := fun z => let ⟨_, e, _⟩ := E.al p z; by rw [h] at e; cases e
theorem MOk.fresh {M : Addr → Prop} {H : Hp} (h : MOk M H) {p : Addr} (e : H p = none) : ¬ M p := fun z => let ⟨_, e', _⟩ := h p z; by rw [e] at e'; cases e'
theorem MOk.tup {M : Addr → Prop} {H : Hp} (h : MOk M H) {p : Addr} {xs : List V} (e : H p = some (.tup xs)) : ¬ M p := fun z => let ⟨_, e', n⟩ := h p z; by rw [e] at e'; cases e'; exact n xs rfl
theorem MOk.newT {M : Addr → Prop} {H H' : Hp} (h : MOk M H) {p : Addr} {xs : List V} (n : NewT H xs p H') : ¬ M p := by
 rcases n with ⟨_, e⟩ | ⟨e, _⟩
 · exact h.tup e
 · exact h.fresh e
abbrev DTE := List Sl → (Dt → List Sl → Prop) → Prop
abbrev DTT := List Sl → (Bool → List Sl → Prop) → Prop
abbrev DTA := List Sl → (List Dt → List Sl → Prop) → Prop
inductive lE (t : DTE) (σ : L2.St) (H : Hp) (Q : VK) : Prop
 | mk (W : List Wd) (M : Addr → Prop) (α : List (List Addr)) (δ : List Sl) (Qd : Dt → List Sl → Prop) (h1 : EnvR W M α H σ δ) (h2 : t δ Qd) (h3 : ∀ d δ' H' v, Qd d δ' → EnvR W M α H' σ δ' → Chg α H H' → Rep M H' v d → Q v H')
inductive lT (t : DTT) (σ : L2.St) (H : Hp) (Q : Bool → Hp → Prop) : Prop
 | mk (W : List Wd) (M : Addr → Prop) (α : List (List Addr)) (δ : List Sl) (Qd : Bool → List Sl → Prop) (h1 : EnvR W M α H σ δ) (h2 : t δ Qd) (h3 : ∀ b δ' H', Qd b δ' → EnvR W M α H' σ δ' → Chg α H H' → Q b H')
inductive lA (t : DTA) (σ : L2.St) (H : Hp) (Q : List V → Hp → Prop) : Prop
 | mk (W : List Wd) (M : Addr → Prop) (α : List (List Addr)) (δ : List Sl) (Qd : List Dt → List Sl → Prop) (h1 : EnvR W M α H σ δ) (h2 : t δ Qd) (h3 : ∀ ds δ' H' vs, Qd ds δ' → EnvR W M α H' σ δ' → Chg α H H' → Reps M H' vs ds → Q vs H')
abbrev DTO := List Sl → (List Dt → List Sl → Prop) → Prop
inductive lO (t : DTO) (σ : L2.St) (H : Hp) (Q : VK) : Prop
 | mk (W : List Wd) (M : Addr → Prop) (α : List (List Addr)) (δ : List Sl) (Qd : List Dt → List Sl → Prop) (h1 : EnvR W M α H σ δ) (h2 : t δ Qd) (h3 : ∀ ds δ' H1 xs a, Qd ds δ' → EnvR W M α H1 σ δ' → Chg α H H1 → Reps M H1 xs ds → H1 a = none → Q (.ref a) (upd H1 a (.lst xs)))
theorem PE.imp {X : Cx} {e : Expr} {t t' : TE} (h : PE X e t) (i : ∀ σ H Q, t' σ H Q → t σ H Q) : PE X e t' := fun pins s σ H Q I q => h pins s σ H Q I (i _ _ _ q)
theorem PT.imp {X : Cx} {e : Expr} {t t' : TT} (h : PT X e t) (i : ∀ σ H Q, t' σ H Q → t σ H Q) : PT X e t' := fun pins s σ H Q I q => h pins s σ H Q I (i _ _ _ q)
theorem PW.imp {X : Cx} {e : Expr} {t t' : TT} (h : PW X e t) (i : ∀ σ H Q, t' σ H Q → t σ H Q) : PW X e t' := fun w pins s σ H Q I q => h w pins s σ H Q I (i _ _ _ q)
theorem PA.imp {X : Cx} {e : List Expr} {t t' : TA} (h : PA X e t) (i : ∀ σ H Q, t' σ H Q → t σ H Q) : PA X e t' := fun pos pins s σ H Q I q => h pos pins s σ H Q I (i _ _ _ q)
theorem PS.imp {X : Cx} {e : Stmt} {t t' : TS} (h : PS X e t) (i : ∀ D σ H, t' D σ H → t D σ H) : PS X e t' := fun pins s σ H D I q => h pins s σ H D I (i _ _ _ q)
theorem PSs.imp {X : Cx} {e : List Stmt} {t t' : TS} (h : PSs X e t) (i : ∀ D σ H, t' D σ H → t D σ H) : PSs X e t' := fun pins s σ H D I q => h pins s σ H D I (i _ _ _ q)
abbrev Ev (X : Cx) (e : Expr) (t : DTE) : Prop := PE X e (lE t)
abbrev Tv (X : Cx) (e : Expr) (t : DTT) : Prop := PT X e (lT t)
abbrev Av (X : Cx) (es : List Expr) (t : DTA) : Prop := PA X es (lA t)
abbrev Ov (X : Cx) (e : Expr) (t : DTO) : Prop := PE X e (lO t)
section
variable {X : Cx} {a b c e : Expr} {es : List Expr} {ta tb t : DTE} {pos : Pos}
inductive dVar (i : Nat) (δ : List Sl) (Q : Dt → List Sl → Prop) : Prop
 | mk (d : _) (h1 : δ[i]? = some (.im d)) (h2 : Q d δ)
theorem EnvR.im {W : List Wd} {M : Addr → Prop} {α : List (List Addr)} {H : Hp} {σ : L2.St} {δ : List Sl} (E : EnvR W M α H σ δ) {i : Nat} {d : Dt} (h : δ[i]? = some (.im d)) : ∃ v, σ[i]? = some (some v) ∧ Rep M H v d := by
 obtain ⟨o, as, h1, _, _, v, rfl, r⟩ := E.sl i _ h
 exact ⟨v, h1, r⟩
theorem EnvR.ow {W : List Wd} {M : Addr → Prop} {α : List (List Addr)} {H : Hp} {σ : L2.St} {δ : List Sl} (E : EnvR W M α H σ δ) {i : Nat} {ds : List Dt} (h : δ[i]? = some (.ow ds)) : ∃ a xs, σ[i]? = some (some (.ref a)) ∧ α[i]? = some [a] ∧ H a = some (.lst xs) ∧ Reps M H xs ds := by
 obtain ⟨o, as, h1, h2, a, xs, rfl, rfl, e, r⟩ := E.sl i _ h
 exact ⟨a, xs, h1, h2, e, r⟩
theorem ev_var (i : Nat) {x : Str} (h : PE X (.Name x pos) (tVar i)) : Ev X (.Name x pos) (dVar i) := PE.imp h fun σ H Q zz1 => (by obtain ⟨W, M, α, δ, Qd, E, ⟨d, hd, q⟩, k⟩ := zz1; exact (by
 obtain ⟨v, h1, r⟩ := E.im hd
 exact ⟨v, h1, k _ _ _ _ q E Chg.rf r⟩))
theorem dv (i : Nat) {x : Str} {pos : Pos} (hN : autoParam (X.N[i]? = some x) au5._auto_1) (hv : autoParam (Vis X.env.scope x) au7._auto_1) (hd : autoParam ((x == ("__debug__" : Str)) = false) au2._auto_1)
  (hcd : autoParam ((x == ("__classdict__" : Str)) = false) au2._auto_1) : Ev X (.Name x pos) (dVar i) := ev_var i (pe_var hN hv hd hcd)
def dC (d : Dt) : DTE := fun δ Q => Q d δ
theorem d_int {i j pos} : Ev X (.Constant (.int i) j pos) (dC (.int i)) := PE.imp pe_int fun σ H Q zz2 => (by obtain ⟨W, M, α, δ, Qd, E, q, k⟩ := zz2; exact (k _ _ _ _ q E Chg.rf (.int i)))
theorem d_bl {i j pos} : Ev X (.Constant (.bool i) j pos) (dC (.bl i)) := PE.imp pe_bl fun σ H Q zz3 => (by obtain ⟨W, M, α, δ, Qd, E, q, k⟩ := zz3; exact (k _ _ _ _ q E Chg.rf (.bl i)))
theorem d_non {j pos} : Ev X (.Constant .none j pos) (dC .non) := PE.imp pe_non fun σ H Q zz4 => (by obtain ⟨W, M, α, δ, Qd, E, q, k⟩ := zz4; exact (k _ _ _ _ q E Chg.rf .non))
def dO (t : DTO) : DTE := fun δ Q => t δ fun ds δ' => Q (.lst ds) δ'
theorem Ov.ev {t : DTO} (h : Ov X e t) : Ev X e (dO t) := PE.imp h fun σ H Q zz1 => (by obtain ⟨W, M, α, δ, Qd, E, q, k⟩ := zz1; exact (by
 refine ⟨W, M, α, δ, _, E, q, fun ds δ' H1 xs a q1 E1 c1 r1 h1 => ?_⟩
 have s : Same H1 (upd H1 a (.lst xs)) := Same.new h1
 exact k _ _ _ _ q1 (E1.same s) (c1.tr (Chg.of s)) (Rep.toLst upd_same (E1.fresh h1) (r1.same s))))
abbrev D2 := Dt → Dt → (Dt → Prop) → Prop
def DOp (r : R2) (R : D2) : Prop := ∀ (M : Addr → Prop) (H : Hp) (x y : V) (d1 d2 : Dt) (Qd : Dt → Prop) (Q : VK), MOk M H → Rep M H x d1 → Rep M H y d2 → R d1 d2 Qd → (∀ H' v d, Qd d → Same H H' → Rep M H' v d → Q v H') → r x y H Q
def dOp (R : D2) (ta tb : DTE) : DTE := fun δ Q => ta δ fun d1 δ1 => tb δ1 fun d2 δ2 => R d1 d2 fun d => Q d δ2
theorem op_read {r : R2} {R : D2} (hd : DOp r R) : ∀ σ H Q, lE (dOp R ta tb) σ H Q → tOp r (lE ta) (lE tb) σ H Q := fun σ H Q zz7 => (by obtain ⟨W, M, α, δ, Qd, E, q, k⟩ := zz7; exact (
 ⟨W, M, α, δ, _, E, q, fun d1 δ1 H1 x q1 E1 c1 r1 => ⟨W, M, α, δ1, _, E1, q1, fun d2 δ2 H2 y q2 E2 c2 r2 => hd M H2 x y d1 d2 _ _ E2.al (r1.chg E1 c2) r2 q2 fun H' v d q3 s r3 => k _ _ _ _ q3 (E2.same s) ((c1.tr c2).tr (Chg.of s)) r3⟩⟩))
theorem d_op {op : Operator} {r : R2} {R : D2} (ho : OpR X (binaryOp op) r) (hd : DOp r R) (ha : Ev X a ta) (hb : Ev X b tb) : Ev X (.BinOp a op b pos) (dOp R ta tb) := PE.imp (pe_op ho ha hb) (op_read hd)
theorem d_cmp {op : CmpOp} {r : R2} {R : D2} (ho : OpR X (compareOp op) r) (hd : DOp r R) (ha : Ev X a ta) (hb : Ev X b tb) (hm : behindInMarks op b = false) : Ev X (.Compare a [op] [b] pos) (dOp R ta tb) := PE.imp (pe_cmpR ho ha hb hm) (op_read hd)
inductive dT_i (Q : Bool → List Sl → Prop) (d : Dt) (δ' : List Sl) : Prop
 | mk (c : _) (h1 : d = .bl c) (h2 : Q c δ')
def dT (t : DTE) : DTT := fun δ Q => t δ fun d δ' => dT_i Q d δ'
theorem test_read {t : DTE} : ∀ σ H (Q : Bool → Hp → Prop), lT (dT t) σ H Q → lE t σ H fun x H1 => ∃ c, x = .bl c ∧ Q c H1 := fun σ H Q zz8 => (by obtain ⟨W, M, α, δ, Qd, E, q, k⟩ := zz8; exact (
 ⟨W, M, α, δ, _, E, q, fun d δ' H' v zz9 E1 c1 r1 => (by obtain ⟨c, e, q1⟩ := zz9; exact (⟨c, by subst e; exact r1.ofBl, k _ _ _ q1 E1 c1⟩))⟩))
theorem d_test {op : CmpOp} {r : R2} {R : D2} (ho : OpR X (compareOp op) r) (hd : DOp r R) (ha : Ev X a ta) (hb : Ev X b tb) (hm : behindInMarks op b = false) : Tv X (.Compare a [op] [b] pos) (dT (dOp R ta tb)) :=
 PT.imp (pt_cmpR ho ha hb hm) fun σ H Q h => op_read hd _ _ _ (test_read _ _ _ h |> fun zz10 => (by obtain ⟨W, M, α, δ, Qd, E, q, k⟩ := zz10; exact (⟨W, M, α, δ, Qd, E, q, k⟩)))
theorem d_val (h : Ev X e t) (he : autoParam (∀ whole, isTrue e X.env whole = (do let v ← whole; standAt e.pos; holding [v] (truthy v))) au4._auto_1) : Tv X e (dT t) := PT.imp (pt_val h he) fun σ H Q h => test_read _ _ _ h
def dIsN (ta : DTE) : DTE := fun δ Q => ta δ fun d δ' => Q (.bl d.isN) δ'
def dNotN (ta : DTE) : DTE := fun δ Q => ta δ fun d δ' => Q (.bl (!d.isN)) δ'
theorem isn_of {M : Addr → Prop} {H : Hp} {v : V} {d : Dt} (r : Rep M H v d) : decide (v = .non) = d.isN := by cases r <;> rfl
theorem isn_read : ∀ σ H Q, lE (dIsN ta) σ H Q → tIsN (lE ta) σ H Q := fun σ H Q zz11 => (by obtain ⟨W, M, α, δ, Qd, E, q, k⟩ := zz11; exact (
 ⟨W, M, α, δ, _, E, q, fun d δ' H' v q1 E1 c1 r1 => by show Q (V.bl (decide (v = V.non))) H'; rw [isn_of r1]; exact k _ _ _ _ q1 E1 c1 (.bl _)⟩))
theorem notn_read : ∀ σ H Q, lE (dNotN ta) σ H Q → tNotN (lE ta) σ H Q := fun σ H Q zz12 => (by obtain ⟨W, M, α, δ, Qd, E, q, k⟩ := zz12; exact (
 ⟨W, M, α, δ, _, E, q, fun d δ' H' v q1 E1 c1 r1 => by show Q (V.bl !decide (v = V.non)) H'; rw [isn_of r1]; exact k _ _ _ _ q1 E1 c1 (.bl _)⟩))
theorem d_isN {j pos'} (ha : Ev X a ta) : Ev X (.Compare a [.Is] [.Constant .none j pos'] pos) (dIsN ta) := PE.imp (pe_cmp (pc_isN ha)) isn_read
theorem t_isN {j pos'} (ha : Ev X a ta) : Tv X (.Compare a [.Is] [.Constant .none j pos'] pos) (dT (dIsN ta)) := PT.imp (pt_cmp (pc_isN ha)) fun σ H Q h => isn_read _ _ _ (test_read _ _ _ h)
theorem t_notN {j pos'} (ha : Ev X a ta) : Tv X (.Compare a [.IsNot] [.Constant .none j pos'] pos) (dT (dNotN ta)) := PT.imp (pt_cmp (pc_notN ha)) fun σ H Q h => notn_read _ _ _ (test_read _ _ _ h)
end
section
variable {X : Cx} {a b c e : Expr} {es rest : List Expr} {ta tb t : DTE} {u v : DTT} {pos : Pos}
def dAnd (t u : DTT) : DTT := fun δ Q => t δ fun c δ1 => if c = true then u δ1 Q else Q false δ1
def dOr (t u : DTT) : DTT := fun δ Q => t δ fun c δ1 => if c = true then Q true δ1 else u δ1 Q
def dNot (t : DTT) : DTT := fun δ Q => t δ fun c δ1 => Q (!c) δ1
theorem w_and1 (h : Tv X a u) : PW X (.BoolOp .And [a] pos) (lT u) := pw_and1 h
theorem w_or1 (h : Tv X a u) : PW X (.BoolOp .Or [a] pos) (lT u) := pw_or1 h
theorem w_and (ha : Tv X a u) (hb : PW X (.BoolOp .And (b :: rest) pos) (lT v)) : PW X (.BoolOp .And (a :: b :: rest) pos) (lT (dAnd u v)) := PW.imp (pw_and ha hb) fun σ H Q zz13 => (by obtain ⟨W, M, α, δ, Qd, E, q, k⟩ := zz13; exact (
 ⟨W, M, α, δ, _, E, q, fun c δ1 H1 q1 E1 c1 => by
  cases c with
  | true => rw [if_pos rfl] at q1 ⊢; exact ⟨W, M, α, δ1, _, E1, q1, fun c2 δ2 H2 q2 E2 c2' => k _ _ _ q2 E2 (c1.tr c2')⟩
  | false => rw [if_neg Bool.false_ne_true] at q1 ⊢; exact k _ _ _ q1 E1 c1⟩))
theorem w_or (ha : Tv X a u) (hb : PW X (.BoolOp .Or (b :: rest) pos) (lT v)) : PW X (.BoolOp .Or (a :: b :: rest) pos) (lT (dOr u v)) := PW.imp (pw_or ha hb) fun σ H Q zz14 => (by obtain ⟨W, M, α, δ, Qd, E, q, k⟩ := zz14; exact (
 ⟨W, M, α, δ, _, E, q, fun c δ1 H1 q1 E1 c1 => by
  cases c with
  | false => rw [if_neg Bool.false_ne_true] at q1 ⊢; exact ⟨W, M, α, δ1, _, E1, q1, fun c2 δ2 H2 q2 E2 c2' => k _ _ _ q2 E2 (c1.tr c2')⟩
  | true => rw [if_pos rfl] at q1 ⊢; exact k _ _ _ q1 E1 c1⟩))
theorem t_not (ha : Tv X a u) : Tv X (.UnaryOp .Not a pos) (dNot u) := PT.imp (pt_not ha) fun σ H Q zz15 => (by obtain ⟨W, M, α, δ, Qd, E, q, k⟩ := zz15; exact (⟨W, M, α, δ, _, E, q, fun c δ1 H1 q1 E1 c1 => k _ _ _ q1 E1 c1⟩))
inductive dAndV_i (tb : DTE) (Q : Dt → List Sl → Prop) (d : Dt) (δ1 : List Sl) : Prop
 | mk (c : _) (h1 : d = .bl c) (h2 : if c = true then tb δ1 Q else Q (.bl false) δ1)
def dAndV (ta tb : DTE) : DTE := fun δ Q => ta δ fun d δ1 => dAndV_i tb Q d δ1
inductive dOrV_i (tb : DTE) (Q : Dt → List Sl → Prop) (d : Dt) (δ1 : List Sl) : Prop
 | mk (c : _) (h1 : d = .bl c) (h2 : if c = true then Q (.bl true) δ1 else tb δ1 Q)
def dOrV (ta tb : DTE) : DTE := fun δ Q => ta δ fun d δ1 => dOrV_i tb Q d δ1
inductive dNotV_i (Q : Dt → List Sl → Prop) (d : Dt) (δ1 : List Sl) : Prop
 | mk (c : _) (h1 : d = .bl c) (h2 : Q (.bl (!c)) δ1)
def dNotV (ta : DTE) : DTE := fun δ Q => ta δ fun d δ1 => dNotV_i Q d δ1
theorem d_one {op} (h : Ev X a t) : Ev X (.BoolOp op [a] pos) t := pe_one h
theorem d_and (ha : Ev X a ta) (hb : Ev X (.BoolOp .And (b :: rest) pos) tb) : Ev X (.BoolOp .And (a :: b :: rest) pos) (dAndV ta tb) := PE.imp (pe_and ha hb) fun σ H Q zz16 => (by obtain ⟨W, M, α, δ, Qd, E, q, k⟩ := zz16; exact (
 ⟨W, M, α, δ, _, E, q, fun d δ1 H1 x zz17 E1 c1 r1 => (by obtain ⟨c, e, q1⟩ := zz17; exact (⟨c, by subst e; exact r1.ofBl, by
  cases c with
  | true => rw [if_pos rfl] at q1 ⊢; exact ⟨W, M, α, δ1, _, E1, q1, fun d2 δ2 H2 y q2 E2 c2 r2 => k _ _ _ _ q2 E2 (c1.tr c2) r2⟩
  | false => rw [if_neg Bool.false_ne_true] at q1 ⊢; exact k _ _ _ _ q1 E1 c1 (.bl _)⟩))⟩))
theorem d_or (ha : Ev X a ta) (hb : Ev X (.BoolOp .Or (b :: rest) pos) tb) : Ev X (.BoolOp .Or (a :: b :: rest) pos) (dOrV ta tb) := PE.imp (pe_or ha hb) fun σ H Q zz18 => (by obtain ⟨W, M, α, δ, Qd, E, q, k⟩ := zz18; exact (
 ⟨W, M, α, δ, _, E, q, fun d δ1 H1 x zz19 E1 c1 r1 => (by obtain ⟨c, e, q1⟩ := zz19; exact (⟨c, by subst e; exact r1.ofBl, by
  cases c with
  | false => rw [if_neg Bool.false_ne_true] at q1 ⊢; exact ⟨W, M, α, δ1, _, E1, q1, fun d2 δ2 H2 y q2 E2 c2 r2 => k _ _ _ _ q2 E2 (c1.tr c2) r2⟩
  | true => rw [if_pos rfl] at q1 ⊢; exact k _ _ _ _ q1 E1 c1 (.bl _)⟩))⟩))
theorem d_not (ha : Ev X a ta) : Ev X (.UnaryOp .Not a pos) (dNotV ta) := PE.imp (pe_not ha) fun σ H Q zz20 => (by obtain ⟨W, M, α, δ, Qd, E, q, k⟩ := zz20; exact (
 ⟨W, M, α, δ, _, E, q, fun d δ1 H1 x zz21 E1 c1 r1 => (by obtain ⟨c, e, q1⟩ := zz21; exact (⟨c, by subst e; exact r1.ofBl, k _ _ _ _ q1 E1 c1 (.bl _)⟩))⟩))
def dNil : DTA := fun δ Q => Q [] δ
def dCons (ta : DTE) (tr : DTA) : DTA := fun δ Q => ta δ fun d δ1 => tr δ1 fun ds δ2 => Q (d :: ds) δ2
theorem a_nil : Av X [] dNil := PA.imp pa_nil fun σ H Q zz23 => (by obtain ⟨W, M, α, δ, Qd, E, q, k⟩ := zz23; exact (k _ _ _ _ q E Chg.rf .nil))
theorem a_cons {tr : DTA} (ha : Ev X e ta) (hr : Av X es tr) (hs : autoParam (starEach (e :: es) X.env = (false, eval e X.env) :: starEach es X.env) au5._auto_1) : Av X (e :: es) (dCons ta tr) := PA.imp (pa_cons ha hr hs) fun σ H Q zz24 => (by obtain ⟨W, M, α, δ, Qd, E, q, k⟩ := zz24; exact (
 ⟨W, M, α, δ, _, E, q, fun d δ1 H1 x q1 E1 c1 r1 => ⟨W, M, α, δ1, _, E1, q1, fun ds δ2 H2 xs q2 E2 c2 r2 => k _ _ _ _ q2 E2 (c1.tr c2) (.cons (r1.chg E1 c2) r2)⟩⟩))
def dTup (t : DTA) : DTE := fun δ Q => t δ fun ds δ' => ds.length ≤ sizeLine ∧ Q (.tup ds) δ'
def dLst (t : DTA) : DTO := fun δ Q => t δ fun ds δ' => ds.length ≤ sizeLine ∧ Q ds δ'
theorem d_tup {x1} {t : DTA} (h : Av X es t) : Ev X (.Tuple es x1 pos) (dTup t) := PE.imp (pe_tup h) fun σ H Q zz25 => (by obtain ⟨W, M, α, δ, Qd, E, q, k⟩ := zz25; exact (
 ⟨W, M, α, δ, _, E, q, fun ds δ1 H1 xs zz26 E1 c1 r1 => (by obtain ⟨l, q1⟩ := zz26; exact (⟨by rw [r1.1]; exact l, fun p hp => by
  have s : Same H1 (upd H1 p (.tup xs)) := Same.new hp
  exact k _ _ _ _ q1 (E1.same s) (c1.tr (Chg.of s)) (Rep.toTup upd_same (E1.fresh hp) (r1.same s))⟩))⟩))
theorem o_lst {t : DTA} (h : Av X es t) : Ov X (.List es pos) (dLst t) := PE.imp (pe_lst h) fun σ H Q zz27 => (by obtain ⟨W, M, α, δ, Qd, E, q, k⟩ := zz27; exact (
 ⟨W, M, α, δ, _, E, q, fun ds δ1 H1 xs zz28 E1 c1 r1 => (by obtain ⟨l, q1⟩ := zz28; exact (⟨by rw [r1.1]; exact l, fun p hp => k _ _ _ _ _ q1 E1 c1 r1 hp⟩))⟩))
theorem d_lst {t : DTA} (h : Av X es t) : Ev X (.List es pos) (dO (dLst t)) := Ov.ev (o_lst h)
abbrev DN := List Dt → (Dt → Prop) → Prop
def DCa (r : List V → Hp → VK → Prop) (R : DN) : Prop := ∀ (M : Addr → Prop) (H : Hp) (xs : List V) (ds : List Dt) (Qd : Dt → Prop) (Q : VK), MOk M H → Reps M H xs ds → R ds Qd → (∀ H' v d, Qd d → Same H H' → Rep M H' v d → Q v H') → r xs H Q
def dCa (R : DN) (t : DTA) : DTE := fun δ Q => t δ fun ds δ' => R ds fun d => Q d δ'
theorem call_read {r : List V → Hp → VK → Prop} {R : DN} {t : DTA} (hd : DCa r R) : ∀ σ H Q, lE (dCa R t) σ H Q → tCB r (lA t) σ H Q := fun σ H Q zz29 => (by obtain ⟨W, M, α, δ, Qd, E, q, k⟩ := zz29; exact (
 ⟨W, M, α, δ, _, E, q, fun ds δ1 H1 xs q1 E1 c1 r1 => hd M H1 xs ds _ _ E1.al r1 q1 fun H' v d q3 s r3 => k _ _ _ _ q3 (E1.same s) (c1.tr (Chg.of s)) r3⟩))
theorem d_callB {id : String} {x : Str} {p : Pos} {r : List V → Hp → VK → Prop} {R : DN} {t : DTA} (hc : CallR X (.builtin id) r) (hd : DCa r R) (hg : Gl X x) (hm : X.mg x = none) (hv : bootBuiltins x = some (.builtin id)) (ha : Av X (e :: es) t) (hn : autoParam (x ≠ "__name__") au2._auto_1) (hdb : autoParam ((x == ("__debug__" : Str)) = false) au2._auto_1)
  (he : autoParam (starEach (e :: es) X.env = (false, eval e X.env) :: starEach es X.env) au5._auto_1) (hpl : autoParam ((backTo pos (starEach es X.env)).any (·.1) = false) au5._auto_1) : Ev X (.Call (.Name x p) (e :: es) [] pos) (dCa R t) :=
 PE.imp (pe_callB hc hg hm hv ha hn hdb he hpl) (call_read hd)
theorem d_callTy {T : String} {x : Str} {p : Pos} {r : List V → Hp → VK → Prop} {R : DN} {t : DTA} (hc : CallR X (.type T) r) (hd : DCa r R) (hg : Gl X x) (hm : X.mg x = none) (hv : bootBuiltins x = some (.type T)) (ha : Av X (e :: es) t) (hn : autoParam (x ≠ "__name__") au2._auto_1) (hdb : autoParam ((x == ("__debug__" : Str)) = false) au2._auto_1)
  (he : autoParam (starEach (e :: es) X.env = (false, eval e X.env) :: starEach es X.env) au5._auto_1) (hpl : autoParam ((backTo pos (starEach es X.env)).any (·.1) = false) au5._auto_1) : Ev X (.Call (.Name x p) (e :: es) [] pos) (dCa R t) :=
 PE.imp (pe_callTy hc hg hm hv ha hn hdb he hpl) (call_read hd)
end
end LD
end
section
namespace LD
open PySem PySem.Spec L2 LB PyProof.Rows
inductive D_i (g : Int → Int → Dt) (d1 : Dt) (d2 : Dt) (Q : Dt → Prop) : Prop
 | mk (i j : _) (h1 : d1 = .int i) (h2 : d2 = .int j) (h3 : Q (g i j))
theorem do_i {g : Int → Int → V} {gd : Int → Int → Dt} (h : ∀ M H i j, Rep M H (g i j) (gd i j)) : DOp (rI0 g) (D_i gd) := fun M H x y d1 d2 Qd Q al r1 r2 zz1 k => (by obtain ⟨i, j, e1, e2, q⟩ := zz1; exact (by
 subst e1; subst e2
 exact ⟨i, j, r1.ofInt, r2.ofInt, k H _ _ q (fun _ _ z => z) (h M H i j)⟩))
section
variable {X : Cx} {a b c e : Expr} {es rest : List Expr} {ta tb tc t : DTE} {pos : Pos}
abbrev dAdd (ta tb : DTE) : DTE := dOp (D_i fun i j => .int (i + j)) ta tb
abbrev dSub (ta tb : DTE) : DTE := dOp (D_i fun i j => .int (i - j)) ta tb
theorem d_add (ha : Ev X a ta) (hb : Ev X b tb) : Ev X (.BinOp a .Add b pos) (dAdd ta tb) := d_op op_add (do_i fun _ _ _ _ => .int _) ha hb
theorem d_sub (ha : Ev X a ta) (hb : Ev X b tb) : Ev X (.BinOp a .Sub b pos) (dSub ta tb) := d_op op_sub (do_i fun _ _ _ _ => .int _) ha hb
abbrev D_lt : D2 := D_i fun i j => .bl (decide (i < j))
abbrev D_le : D2 := D_i fun i j => .bl (decide (i ≤ j))
abbrev D_gt : D2 := D_i fun i j => .bl (decide (j < i))
abbrev D_ge : D2 := D_i fun i j => .bl (decide (j ≤ i))
theorem t_lt (ha : Ev X a ta) (hb : Ev X b tb) : Tv X (.Compare a [.Lt] [b] pos) (dT (dOp D_lt ta tb)) := d_test op_lt (do_i fun _ _ _ _ => .bl _) ha hb (nomark _)
theorem t_le (ha : Ev X a ta) (hb : Ev X b tb) : Tv X (.Compare a [.LtE] [b] pos) (dT (dOp D_le ta tb)) := d_test op_le (do_i fun _ _ _ _ => .bl _) ha hb (nomark _)
theorem t_gt (ha : Ev X a ta) (hb : Ev X b tb) : Tv X (.Compare a [.Gt] [b] pos) (dT (dOp D_gt ta tb)) := d_test op_gt (do_i fun _ _ _ _ => .bl _) ha hb (nomark _)
theorem t_ge (ha : Ev X a ta) (hb : Ev X b tb) : Tv X (.Compare a [.GtE] [b] pos) (dT (dOp D_ge ta tb)) := d_test op_ge (do_i fun _ _ _ _ => .bl _) ha hb (nomark _)
noncomputable def eq2 : Dt → Dt → Option Bool
 | .non, .non => some true | .non, .int _ => some false | .int _, .non => some false | .non, .bl _ => some false | .bl _, .non => some false | .non, .str _ => some false | .str _, .non => some false
 | .int i, .int j => some (decide (i = j)) | .bl i, .bl j => some (decide (i = j)) | .str i, .str j => some (decide (i = j))
 | .int _, .str _ => some false | .str _, .int _ => some false | .bl _, .str _ => some false | .str _, .bl _ => some false
 | _, _ => none
inductive D_eq (d1 : Dt) (d2 : Dt) (Q : Dt → Prop) : Prop
 | mk (b : _) (h1 : eq2 d1 d2 = some b) (h2 : Q (.bl b))
inductive D_ne (d1 : Dt) (d2 : Dt) (Q : Dt → Prop) : Prop
 | mk (b : _) (h1 : eq2 d1 d2 = some b) (h2 : Q (.bl (!b)))
noncomputable def flV : Dt → Option V
 | .non => some .non | .bl b => some (.bl b) | .int i => some (.int i) | .str x => some (.str x) | _ => none
theorem Rep.fl {M : Addr → Prop} {H : Hp} {v u : V} {d : Dt} (r : Rep M H v d) (h : flV d = some u) : v = u := by
 cases r <;> cases h <;> rfl
theorem dcI {i j : Int} : decide (V.int i = V.int j) = decide (i = j) := by simp
theorem dcB {i j : Bool} : decide (V.bl i = V.bl j) = decide (i = j) := by simp
theorem dcS {i j : Str} : decide (V.str i = V.str j) = decide (i = j) := by simp
inductive E2 (d1 d2 : Dt) (b : Bool) : Prop
 | mk (u1 u2 : V) (h1 : flV d1 = some u1) (h2 : flV d2 = some u2) (h3 : scal u1 u2 = true ∧ decide (u1 = u2) = b)
def E2o (d1 d2 : Dt) : Option Bool → Prop
 | none => True
 | some b => E2 d1 d2 b
theorem eq2_fl {d1 d2 : Dt} : E2o d1 d2 (eq2 d1 d2) := by
 cases d1 with
 | lst _ => trivial
 | tup _ => trivial
 | dic _ _ => trivial
 | dit _ _ => trivial
 | _ => cases d2 with
  | lst _ => trivial
  | tup _ => trivial
  | dic _ _ => trivial
  | dit _ _ => trivial
  | _ => first | trivial | exact ⟨_, _, rfl, rfl, rfl, rfl⟩ | exact ⟨_, _, rfl, rfl, rfl, dcI⟩ | exact ⟨_, _, rfl, rfl, rfl, dcB⟩ | exact ⟨_, _, rfl, rfl, rfl, dcS⟩
theorem eq2_of {M : Addr → Prop} {H : Hp} {x y : V} {d1 d2 : Dt} {b : Bool} (r1 : Rep M H x d1) (r2 : Rep M H y d2) (h : eq2 d1 d2 = some b) : scal x y = true ∧ decide (x = y) = b := by
 have z : E2o d1 d2 (some b) := h ▸ eq2_fl
 obtain ⟨u1, u2, e1, e2, q⟩ := z
 rw [r1.fl e1, r2.fl e2]
 exact q
theorem do_eq : DOp rEq D_eq := fun M H x y d1 d2 Qd Q al r1 r2 zz3 k => (by obtain ⟨b, e, q⟩ := zz3; exact (by
 obtain ⟨h1, h2⟩ := eq2_of r1 r2 e
 exact ⟨h1, by rw [h2]; exact k H _ _ q (fun _ _ z => z) (.bl b)⟩))
theorem do_ne : DOp rNe D_ne := fun M H x y d1 d2 Qd Q al r1 r2 zz4 k => (by obtain ⟨b, e, q⟩ := zz4; exact (by
 obtain ⟨h1, h2⟩ := eq2_of r1 r2 e
 exact ⟨h1, by rw [h2]; exact k H _ _ q (fun _ _ z => z) (.bl _)⟩))
theorem d_eq (ha : Ev X a ta) (hb : Ev X b tb) : Ev X (.Compare a [.Eq] [b] pos) (dOp D_eq ta tb) := d_cmp op_eq do_eq ha hb (nomark _)
theorem d_ne (ha : Ev X a ta) (hb : Ev X b tb) : Ev X (.Compare a [.NotEq] [b] pos) (dOp D_ne ta tb) := d_cmp op_ne do_ne ha hb (nomark _)
theorem t_eq (ha : Ev X a ta) (hb : Ev X b tb) : Tv X (.Compare a [.Eq] [b] pos) (dT (dOp D_eq ta tb)) := d_test op_eq do_eq ha hb (nomark _)
theorem t_ne (ha : Ev X a ta) (hb : Ev X b tb) : Tv X (.Compare a [.NotEq] [b] pos) (dT (dOp D_ne ta tb)) := d_test op_ne do_ne ha hb (nomark _)
inductive D_u_i (g : Int → Dt) (Q : Dt → List Sl → Prop) (d : Dt) (δ' : List Sl) : Prop
 | mk (i : _) (h1 : d = .int i) (h2 : Q (g i) δ')
def D_u (g : Int → Dt) (ta : DTE) : DTE := fun δ Q => ta δ fun d δ' => D_u_i g Q d δ'
theorem d_neg (ha : Ev X a ta) : Ev X (.UnaryOp .USub a pos) (D_u (fun i => .int (-i)) ta) := PE.imp (pe_un un_neg ha) fun σ H Q zz5 => (by obtain ⟨W, M, α, δ, Qd, E, q, k⟩ := zz5; exact (
 ⟨W, M, α, δ, _, E, q, fun d δ1 H1 x zz6 E1 c1 r1 => (by obtain ⟨i, e, q1⟩ := zz6; exact (⟨i, by subst e; exact r1.ofInt, k _ _ _ _ q1 E1 c1 (.int _)⟩))⟩))
theorem atI_rep {M : Addr → Prop} {H : Hp} {xs : List V} {ds : List Dt} {i : Int} {d : Dt} (r : Reps M H xs ds) (h : atI ds i = some d) : ∃ x, atI xs i = some x ∧ Rep M H x d := by
 unfold atI at h ⊢
 rw [r.1]
 cases hn : ixN ds.length i with
 | none => rw [hn] at h; cases h
 | some j => rw [hn] at h; exact r.get h
inductive D_ix (d1 : Dt) (d2 : Dt) (Q : Dt → Prop) : Prop
 | mk (ds i d : _) (h1 : (d1 = .lst ds ∨ d1 = .tup ds)) (h2 : d2 = .int i) (h3 : atI ds i = some d) (h4 : Q d)
theorem do_ix {K : PySem.W.Frag} : DOp (rIx K) D_ix := fun M H x y d1 d2 Qd Q al r1 r2 zz7 k => (by obtain ⟨ds, i, d, e1, e2, h, q⟩ := zz7; exact (by
 subst e2
 rcases e1 with e1 | e1
 · subst e1
   obtain ⟨a, xs, rfl, ha, n, rr⟩ := r1.ofLst
   obtain ⟨v, hv, rv⟩ := atI_rep rr h
   exact .inl ⟨a, xs, i, v, rfl, r2.ofInt, SqL.of ha, hv, k H _ _ q (fun _ _ z => z) rv⟩
 · subst e1
   obtain ⟨a, xs, rfl, ha, n, rr⟩ := r1.ofTup
   obtain ⟨v, hv, rv⟩ := atI_rep rr h
   exact .inr (.inl ⟨a, xs, i, v, rfl, r2.ofInt, SqT.of ha, hv, k H _ _ q (fun _ _ z => z) rv⟩)))
theorem d_ix (ha : Ev X a ta) (hb : Ev X b tb) (hs : autoParam (PlainIx b) au8._auto_1) : Ev X (.Subscript a b pos) (dOp D_ix ta tb) := PE.imp (pe_ix ix_seq ha hb hs) (op_read do_ix)
noncomputable def cutD (ds : List Dt) (lo hi : Option Int) : List Dt := (ds.drop (HT.sIx ds.length 0 lo)).take (HT.sIx ds.length ds.length hi - HT.sIx ds.length 0 lo)
theorem Reps.cut {M : Addr → Prop} {H : Hp} {xs : List V} {ds : List Dt} (r : Reps M H xs ds) (lo hi : Option Int) : Reps M H (cutV xs lo hi) (cutD ds lo hi) := by
 unfold cutV cutD
 rw [r.1]
 exact (r.drop _).take _
abbrev DTP := List Sl → (Option Int → List Sl → Prop) → Prop
inductive lP (t : DTP) (σ : L2.St) (H : Hp) (Q : Option Int → Hp → Prop) : Prop
 | mk (W : List Wd) (M : Addr → Prop) (α : List (List Addr)) (δ : List Sl) (Qd : Option Int → List Sl → Prop) (h1 : EnvR W M α H σ δ) (h2 : t δ Qd) (h3 : ∀ o δ' H', Qd o δ' → EnvR W M α H' σ δ' → Chg α H H' → Q o H')
def dNoP : DTP := fun δ Q => Q none δ
inductive dPart_i (Q : Option Int → List Sl → Prop) (d : Dt) (δ' : List Sl) : Prop
 | mk (i : _) (h1 : d = .int i) (h2 : Q (some i) δ')
def dPart (t : DTE) : DTP := fun δ Q => t δ fun d δ' => dPart_i Q d δ'
abbrev Pv (X : Cx) (o : Option Expr) (t : DTP) : Prop := PO X o (lP t)
theorem PO.imp {X : Cx} {e : Option Expr} {t t' : L2.TO} (h : PO X e t) (i : ∀ σ H Q, t' σ H Q → t σ H Q) : PO X e t' := fun pins s σ H Q I q => h pins s σ H Q I (i _ _ _ q)
theorem p_none : Pv X none dNoP := PO.imp po_none fun σ H Q zz8 => (by obtain ⟨W, M, α, δ, Qd, E, q, k⟩ := zz8; exact (k _ _ _ q E Chg.rf))
theorem p_some (h : Ev X e t) : Pv X (some e) (dPart t) := PO.imp (po_some h) fun σ H Q zz9 => (by obtain ⟨W, M, α, δ, Qd, E, q, k⟩ := zz9; exact (
 ⟨W, M, α, δ, _, E, q, fun d δ1 H1 x zz10 E1 c1 r1 => (by obtain ⟨i, e, q1⟩ := zz10; exact (⟨i, by subst e; exact r1.ofInt, k _ _ _ q1 E1 c1⟩))⟩))
inductive dSlT_i (Q : Dt → List Sl → Prop) (d : Dt) (lo : Option Int) (hi : Option Int) (δ3 : List Sl) : Prop
 | mk (ds : _) (h1 : d = .tup ds) (h2 : Q (.tup (cutD ds lo hi)) δ3)
def dSlT (ta : DTE) (tl th : DTP) : DTE := fun δ Q => ta δ fun d δ1 => tl δ1 fun lo δ2 => th δ2 fun hi δ3 => dSlT_i Q d lo hi δ3
inductive dSlL_i (Q : Dt → List Sl → Prop) (d : Dt) (lo : Option Int) (hi : Option Int) (δ3 : List Sl) : Prop
 | mk (ds : _) (h1 : d = .lst ds) (h2 : Q (.lst (cutD ds lo hi)) δ3)
def dSlL (ta : DTE) (tl th : DTP) : DTE := fun δ Q => ta δ fun d δ1 => tl δ1 fun lo δ2 => th δ2 fun hi δ3 => dSlL_i Q d lo hi δ3
theorem d_slT {lo hi : Option Expr} {tl th : DTP} {p2 : Pos} (ha : Ev X a ta) (hl : Pv X lo tl) (hh : Pv X hi th) : Ev X (.Subscript a (.Slice lo hi none p2) pos) (dSlT ta tl th) := PE.imp (pe_slice sl_tupA ha hl hh) fun σ H Q zz1 => (by obtain ⟨W, M, α, δ, Qd, E, q, k⟩ := zz1; exact (
 ⟨W, M, α, δ, _, E, q, fun d δ1 H1 x q1 E1 c1 r1 => ⟨W, M, α, δ1, _, E1, q1, fun o2 δ2 H2 q2 E2 c2 => ⟨W, M, α, δ2, _, E2, q2, fun o3 δ3 H3 zz2 E3 c3 => (by obtain ⟨ds, e, q3⟩ := zz2; exact (by
  subst e
  obtain ⟨a, xs, rfl, ha, n, rr⟩ := ((r1.chg E1 c2).chg E2 c3).ofTup
  refine ⟨a, xs, rfl, ha, fun p H' nt => ?_⟩
  have s : Same H3 H' := nt.keep
  exact k _ _ _ _ q3 (E3.same s) (((c1.tr c2).tr c3).tr (Chg.of s)) (Rep.toTup nt.at (E3.al.newT nt) ((rr.cut _ _).same s))))⟩⟩⟩))
theorem d_slL {lo hi : Option Expr} {tl th : DTP} {p2 : Pos} (ha : Ev X a ta) (hl : Pv X lo tl) (hh : Pv X hi th) : Ev X (.Subscript a (.Slice lo hi none p2) pos) (dSlL ta tl th) := PE.imp (pe_slice sl_list ha hl hh) fun σ H Q zz3 => (by obtain ⟨W, M, α, δ, Qd, E, q, k⟩ := zz3; exact (
 ⟨W, M, α, δ, _, E, q, fun d δ1 H1 x q1 E1 c1 r1 => ⟨W, M, α, δ1, _, E1, q1, fun o2 δ2 H2 q2 E2 c2 => ⟨W, M, α, δ2, _, E2, q2, fun o3 δ3 H3 zz4 E3 c3 => (by obtain ⟨ds, e, q3⟩ := zz4; exact (by
  subst e
  obtain ⟨a, xs, rfl, ha, n, rr⟩ := ((r1.chg E1 c2).chg E2 c3).ofLst
  refine ⟨a, xs, rfl, SqL.of ha, fun p hp => ?_⟩
  have s : Same H3 (upd H3 p (.lst (cutV xs o2 o3))) := Same.new hp
  exact k _ _ _ _ q3 (E3.same s) (((c1.tr c2).tr c3).tr (Chg.of s)) (Rep.toLst upd_same (E3.fresh hp) ((rr.cut _ _).same s))))⟩⟩⟩))
inductive D_catT (d1 : Dt) (d2 : Dt) (Q : Dt → Prop) : Prop
 | mk (ds es : _) (h1 : d1 = .tup ds) (h2 : d2 = .tup es) (h3 : ds.length + es.length ≤ sizeLine) (h4 : Q (.tup (ds ++ es)))
theorem do_catT : DOp rCatA D_catT := fun M H x y d1 d2 Qd Q al r1 r2 zz15 k => (by obtain ⟨ds, es, e1, e2, l, q⟩ := zz15; exact (by
 subst e1; subst e2
 obtain ⟨a, xs, rfl, ha, n, rr⟩ := r1.ofTup
 obtain ⟨b, ys, rfl, hb, n2, rr2⟩ := r2.ofTup
 exact ⟨a, b, xs, ys, rfl, rfl, ha, hb, by rw [rr.1, rr2.1]; exact l, fun p H' nt => k H' _ _ q nt.keep (Rep.toTup nt.at (al.newT nt) ((rr.append rr2).same nt.keep))⟩))
theorem d_catT (ha : Ev X a ta) (hb : Ev X b tb) : Ev X (.BinOp a .Add b pos) (dOp D_catT ta tb) := d_op op_catA do_catT ha hb
noncomputable def flatD : Dt → Bool
 | .lst _ => false
 | .tup _ => false
 | .dic _ _ => false
 | .dit _ _ => false
 | _ => true
noncomputable def eqD : Dt → Dt → Bool
 | .non, .non => true
 | .bl a, .bl b => a == b
 | .bl a, .int b => (if a then 1 else 0) == b
 | .int a, .bl b => a == (if b then 1 else 0)
 | .int a, .int b => a == b
 | .str a, .str b => a == b
 | _, _ => false
noncomputable def inD (d : Dt) (ds : List Dt) : Bool := ds.any fun e => eqD e d
theorem flat_rep {M : Addr → Prop} {H : Hp} {v : V} {d : Dt} (r : Rep M H v d) (h : flatD d = true) : flatV v = true := by cases r <;> first | rfl | cases h
def EVo (d e : Dt) : Option V → Option V → Prop
 | some u, some v => eqV u v = eqD d e
 | _, _ => False
theorem eqV_fl {d e : Dt} (h : flatD d = true) (h2 : flatD e = true) : EVo d e (flV d) (flV e) := by
 cases d with
 | lst _ => cases h
 | tup _ => cases h
 | dic _ _ => cases h
 | dit _ _ => cases h
 | _ => cases e with
  | lst _ => cases h2
  | tup _ => cases h2
  | dic _ _ => cases h2
  | dit _ _ => cases h2
  | _ => exact (rfl : _ = _)
theorem eqV_rep {M : Addr → Prop} {H : Hp} {v w : V} {d e : Dt} (r : Rep M H v d) (r2 : Rep M H w e) (h : flatD d = true) (h2 : flatD e = true) : eqV v w = eqD d e := by
 have z := eqV_fl h h2
 cases e1 : flV d with
 | none => rw [e1] at z; exact z.elim
 | some u =>
  cases e2 : flV e with
  | none => rw [e1, e2] at z; exact z.elim
  | some u2 =>
   rw [e1, e2] at z
   rw [r.fl e1, r2.fl e2]
   exact z
theorem flats_rep {M : Addr → Prop} {H : Hp} {xs : List V} {ds : List Dt} (r : Reps M H xs ds) (h : ds.all flatD = true) : xs.all flatV = true := List.all_eq_true.mpr fun x hx => by
 obtain ⟨i, hi, e⟩ := List.getElem_of_mem hx
 have h1 : xs[i]? = some x := by rw [List.getElem?_eq_getElem hi, e]
 have h2 : ds[i]? = some (ds[i]'(by rw [← r.1]; exact hi)) := List.getElem?_eq_getElem _
 exact flat_rep (r.2 i _ _ h1 h2) (List.all_eq_true.mp h _ (List.mem_of_getElem? h2))
theorem inV_rep {M : Addr → Prop} {H : Hp} {v : V} {d : Dt} (r : Rep M H v d) (hd : flatD d = true) : ∀ {xs : List V} {ds : List Dt}, Reps M H xs ds → ds.all flatD = true → inV v xs = inD d ds
 | [], [], _, _ => rfl
 | [], _ :: _, h, _ => by have := h.1; simp at this
 | _ :: _, [], h, _ => by have := h.1; simp at this
 | x :: xs, e :: ds, h, hf => by
  obtain ⟨y, ys, e1, e2, e3⟩ := h.uncons
  cases e1
  rw [List.all_cons, Bool.and_eq_true] at hf
  have ih := inV_rep r hd e3 hf.2
  unfold inV inD at ih ⊢
  rw [List.any_cons, List.any_cons, ih, eqV_rep e2 r hf.1 hd]
inductive D_in (neg : Bool) (d1 : Dt) (d2 : Dt) (Q : Dt → Prop) : Prop
 | mk (ds : _) (h1 : (d2 = .lst ds ∨ d2 = .tup ds)) (h2 : flatD d1 = true) (h3 : ds.all flatD = true) (h4 : Q (.bl (if neg then !inD d1 ds else inD d1 ds)))
theorem do_in {K : PySem.W.Frag} {neg : Bool} : DOp (rIn K neg) (D_in neg) := fun M H x y d1 d2 Qd Q al r1 r2 zz19 k => (by obtain ⟨ds, e2, f1, f2, q⟩ := zz19; exact (by
 have fin : ∀ xs, Reps M H xs ds → flatV x = true ∧ xs.all flatV = true ∧ Q (.bl (if neg then !inV x xs else inV x xs)) H := fun xs rr => ⟨flat_rep r1 f1, flats_rep rr f2, by rw [inV_rep r1 f1 rr f2]; exact k H _ _ q (fun _ _ z => z) (.bl _)⟩
 rcases e2 with e2 | e2
 · subst e2
   obtain ⟨a, xs, rfl, ha, n, rr⟩ := r2.ofLst
   exact ⟨a, xs, rfl, .inl (SqL.of ha), fin xs rr⟩
 · subst e2
   obtain ⟨a, xs, rfl, ha, n, rr⟩ := r2.ofTup
   exact ⟨a, xs, rfl, .inr (SqT.of ha), fin xs rr⟩))
theorem d_notin (ha : Ev X a ta) (hb : Ev X b tb) (hm : autoParam (behindInMarks .NotIn b = false) au5._auto_1) : Ev X (.Compare a [.NotIn] [b] pos) (dOp (D_in true) ta tb) := d_cmp op_notIn_seq do_in ha hb hm
inductive D_len (ds : List Dt) (Q : Dt → Prop) : Prop
 | mk (es : _) (h1 : (ds = [.lst es] ∨ ds = [.tup es])) (h2 : Q (.int es.length))
theorem dc_len {K : PySem.W.Frag} : DCa (fun xs H Q => ∃ p ys, xs = [.ref p] ∧ (SqL K H p ys ∨ SqT K H p ys) ∧ Q (.int ys.length) H) D_len := fun M H xs ds Qd Q al r zz20 k => (by obtain ⟨es, e, q⟩ := zz20; exact (by
 rcases e with e | e <;> subst e <;> obtain ⟨x, ys, rfl, r1, r2⟩ := r.uncons <;> cases r2.unnil
 · obtain ⟨a, zs, rfl, ha, n, rr⟩ := r1.ofLst
   exact ⟨a, zs, rfl, .inl (SqL.of ha), by rw [rr.1]; exact k H _ _ q (fun _ _ z => z) (.int _)⟩
 · obtain ⟨a, zs, rfl, ha, n, rr⟩ := r1.ofTup
   exact ⟨a, zs, rfl, .inr (SqT.of ha), by rw [rr.1]; exact k H _ _ q (fun _ _ z => z) (.int _)⟩))
theorem d_len {p : Pos} {tA : DTA} (hm : X.mg "len" = none) (ha : Av X [e] tA) (hg : autoParam (Gl X "len") au5._auto_1) (he : autoParam (starEach [e] X.env = (false, eval e X.env) :: starEach [] X.env) au5._auto_1) (hpl : autoParam ((backTo pos (starEach [] X.env)).any (·.1) = false) au5._auto_1) :
  Ev X (.Call (.Name "len" p) [e] [] pos) (dCa D_len tA) := d_callB call_len_seq dc_len hg hm PySem.boot_len ha (by decide) (by decide) he hpl
inductive D_tuple (ds : List Dt) (Q : Dt → Prop) : Prop
 | mk (es : _) (h1 : (ds = [.lst es] ∨ ds = [.tup es])) (h2 : Q (.tup es))
theorem dc_tuple {K : PySem.W.Frag} : DCa (fun xs H Q => ∃ p ys, xs = [.ref p] ∧ ((SqL K H p ys ∧ ∀ l, H l = none → Q (.ref l) (upd H l (.tup ys))) ∨ (SqT K H p ys ∧ Q (.ref p) H))) D_tuple := fun M H xs ds Qd Q al r zz7 k => (by obtain ⟨es, e, q⟩ := zz7; exact (by
 rcases e with e | e <;> subst e <;> obtain ⟨x, ys, rfl, r1, r2⟩ := r.uncons <;> cases r2.unnil
 · obtain ⟨a, zs, rfl, ha, n, rr⟩ := r1.ofLst
   refine ⟨a, zs, rfl, .inl ⟨SqL.of ha, fun l hl => ?_⟩⟩
   have s : Same H (upd H l (.tup zs)) := Same.new hl
   exact k _ _ _ q s (Rep.toTup upd_same (al.fresh hl) (rr.same s))
 · obtain ⟨a, zs, rfl, ha, n, rr⟩ := r1.ofTup
   exact ⟨a, zs, rfl, .inr ⟨SqT.of ha, k H _ _ q (fun _ _ z => z) r1⟩⟩))
theorem d_tuple {p : Pos} {tA : DTA} (hm : X.mg "tuple" = none) (ha : Av X [e] tA) (hg : autoParam (Gl X "tuple") au5._auto_1) (he : autoParam (starEach [e] X.env = (false, eval e X.env) :: starEach [] X.env) au5._auto_1) (hpl : autoParam ((backTo pos (starEach [] X.env)).any (·.1) = false) au5._auto_1) :
  Ev X (.Call (.Name "tuple" p) [e] [] pos) (dCa D_tuple tA) := d_callTy call_tuple_of dc_tuple hg hm boot_tuple' ha (by decide) (by decide) he hpl
end
end LD
end
section
namespace LD
open PySem PySem.Spec L2 LB PyProof.Rows
theorem flat_set {α : List (List Addr)} {i : Nat} {as : List Addr} {x : Addr} (h : x ∈ (α.set i as).flatten) : x ∈ α.flatten ∨ x ∈ as := by
 obtain ⟨l, hl, hx⟩ := List.mem_flatten.mp h
 rcases List.mem_or_eq_of_mem_set hl with y | y
 · exact .inl (List.mem_flatten.mpr ⟨l, y, hx⟩)
 · exact .inr (y ▸ hx)
theorem flat_get {α : List (List Addr)} {i : Nat} {as : List Addr} {x : Addr} (h : α[i]? = some as) (hx : x ∈ as) : x ∈ α.flatten := List.mem_flatten.mpr ⟨as, List.mem_of_getElem? h, hx⟩
theorem flat_nd_set : ∀ {α : List (List Addr)} {i : Nat} {as : List Addr}, α.flatten.Nodup → as.Nodup → (∀ x ∈ as, x ∉ α.flatten) → (α.set i as).flatten.Nodup
 | [], _, _, _, _, _ => by simp
 | l :: r, 0, as, h, ha, hx => by
  rw [List.set_cons_zero, List.flatten_cons]
  rw [List.flatten_cons] at h
  refine List.nodup_append.mpr ⟨ha, (List.nodup_append.mp h).2.1, fun x h1 y h2 e => ?_⟩
  subst e
  exact hx x h1 (by rw [List.flatten_cons]; exact List.mem_append_right _ h2)
 | l :: r, i + 1, as, h, ha, hx => by
  rw [List.set_cons_succ, List.flatten_cons]
  rw [List.flatten_cons] at h
  obtain ⟨h1, h2, h3⟩ := List.nodup_append.mp h
  refine List.nodup_append.mpr ⟨h1, flat_nd_set h2 ha fun x z y => hx x z (by rw [List.flatten_cons]; exact List.mem_append_right _ y), fun x z y w e => ?_⟩
  subst e
  rcases flat_set w with q | q
  · exact h3 x z x q rfl
  · exact hx x q (by rw [List.flatten_cons]; exact List.mem_append_left _ z)
theorem flat_apart : ∀ {α : List (List Addr)} {i j : Nat} {as bs : List Addr} {x : Addr}, α.flatten.Nodup → α[i]? = some as → α[j]? = some bs → i ≠ j → x ∈ as → x ∉ bs
 | [], i, j, as, bs, x, _, h1, _, _, _ => by simp at h1
 | l :: r, i, j, as, bs, x, h, h1, h2, hij, hx => by
  rw [List.flatten_cons] at h
  obtain ⟨n1, n2, n3⟩ := List.nodup_append.mp h
  cases i with
  | zero =>
   cases j with
   | zero => exact absurd rfl hij
   | succ j =>
    simp at h1 h2
    subst h1
    exact fun y => n3 x hx x (flat_get h2 y) rfl
  | succ i =>
   cases j with
   | zero =>
    simp at h1 h2
    subst h2
    exact fun y => n3 x y x (flat_get h1 hx) rfl
   | succ j => exact flat_apart n2 (by simpa using h1) (by simpa using h2) (by lia) hx
section
variable {Ws : List Wd} {M : Addr → Prop} {α : List (List Addr)} {H H' : Hp} {σ : L2.St} {δ : List Sl} {i : Nat} {v : V} {d : Dt} {s : Sl}
def okSet (δ : List Sl) (i : Nat) : Prop := ∃ s, δ[i]? = some s ∧ s.isBx = false
theorem okSet.lt (h : okSet δ i) : i < δ.length := let ⟨s, e, _⟩ := h; (List.getElem?_eq_some_iff.mp e).1
theorem EnvR.setIm (E : EnvR Ws M α H σ δ) (r : Rep M H v d) (ok : okSet δ i) : EnvR Ws M (α.set i []) H (σ.set i (some v)) (δ.set i (.im d)) := by
 have hi := ok.lt
 obtain ⟨s0, hs0, nb⟩ := ok
 refine ⟨by rw [List.length_set, List.length_set, E.ls], by rw [List.length_set, List.length_set, E.la], fun j s hj => ?_, flat_nd_set E.nd List.nodup_nil (fun x hx => absurd hx List.not_mem_nil), fun a ha => (flat_set ha).elim (E.mu a) fun z => absurd z List.not_mem_nil, E.al, fun W hW => ?_⟩
 · by_cases hij : i = j
   · subst hij
     rw [List.getElem?_set_self hi] at hj
     cases hj
     exact ⟨some v, [], by rw [List.getElem?_set_self (by rw [E.ls]; exact hi)], by rw [List.getElem?_set_self (by rw [E.la]; exact hi)], rfl, v, rfl, r⟩
   · rw [List.getElem?_set_ne hij] at hj
     obtain ⟨o, as, h1, h2, h3⟩ := E.sl j s hj
     exact ⟨o, as, by rw [List.getElem?_set_ne hij]; exact h1, by rw [List.getElem?_set_ne hij]; exact h2, h3⟩
 · have k := E.w W hW
   refine ⟨k.bs, k.ex, fun a ha => (flat_set ha).elim (k.fr a) fun z => absurd z List.not_mem_nil, k.m0, k.m1, fun d c e => ?_, fun j s as h1 h2 nb' => ?_⟩
   · obtain ⟨t, e1, e2⟩ := k.bx d c e
     have : i ≠ 0 := fun z => by subst z; rw [hs0] at e1; cases e1; cases nb
     exact ⟨t, by rw [List.getElem?_set_ne this]; exact e1, by rw [List.getElem?_set_ne this]; exact e2⟩
   · by_cases hij : i = j
     · subst hij
       rw [List.getElem?_set_self (by rw [E.la]; exact hi)] at h2
       cases h2
       exact fun a ha => absurd ha List.not_mem_nil
     · rw [List.getElem?_set_ne hij] at h1 h2
       exact k.fz j s as h1 h2 nb'
theorem Reps.grow {p : Addr} {xs : List V} {ds : List Dt} {o : HO} (r : Reps M H xs ds) (hp : H p = none) : Reps (fun b => M b ∨ b = p) (upd H p o) xs ds := r.mono fun a u e n => ⟨by rw [upd_ne (ne_of_none e hp)]; exact e, fun z => z.elim n (ne_of_none e hp)⟩
theorem Rep.grow {p : Addr} {x : V} {d : Dt} {o : HO} (r : Rep M H x d) (hp : H p = none) : Rep (fun b => M b ∨ b = p) (upd H p o) x d := r.mono fun a u e n => ⟨by rw [upd_ne (ne_of_none e hp)]; exact e, fun z => z.elim n (ne_of_none e hp)⟩
theorem SlR.grow {p : Addr} {u : HO} {o : Option V} {as : List Addr} (h : SlR M H o s as) (hp : H p = none) : SlR (fun b => M b ∨ b = p) (upd H p u) o s as := by
 have sm : Same H (upd H p u) := Same.new hp
 cases s with
 | no => exact h
 | im d => exact ⟨h.1, let ⟨v, e, r⟩ := h.2; ⟨v, e, r.grow hp⟩⟩
 | ow ds => obtain ⟨a, xs, e1, e2, e3, r⟩ := h; exact ⟨a, xs, e1, e2, sm _ _ e3, r.grow hp⟩
 | bx t => obtain ⟨d, c, e1, e2, r⟩ := h; exact ⟨d, c, e1, e2, r.same sm⟩
 | dk ks ds => obtain ⟨a, vs, e1, e2, e3, e4, r⟩ := h; exact ⟨a, vs, e1, e2, sm _ _ e3, e4, r.grow hp⟩
 | ob R => obtain ⟨v, e, r⟩ := h; exact ⟨v, e, R.st r (fun a _ o q => sm _ _ q) fun a u q n => ⟨sm _ _ q, fun z => z.elim n (ne_of_none q hp)⟩⟩
 | fn f => exact h
theorem EnvR.setNew (E : EnvR Ws M α H σ δ) {p : Addr} {u : HO} (hp : H p = none) (hu : ∀ xs, u ≠ .tup xs) (ok : okSet δ i) (nb : s.isBx = false) (hs : SlR (fun b => M b ∨ b = p) (upd H p u) (some (.ref p)) s [p]) :
  EnvR Ws (fun b => M b ∨ b = p) (α.set i [p]) (upd H p u) (σ.set i (some (.ref p))) (δ.set i s) := by
 have hi := ok.lt
 have sm : Same H (upd H p u) := Same.new hp
 have np : p ∉ α.flatten := fun z => E.fresh hp (E.mu p z)
 obtain ⟨s0, hs0, nb0⟩ := ok
 refine ⟨by rw [List.length_set, List.length_set, E.ls], by rw [List.length_set, List.length_set, E.la], fun j s' hj => ?_, flat_nd_set E.nd (by simp) (fun x hx => by rw [List.mem_singleton.mp hx]; exact np), fun a ha => (flat_set ha).elim (fun z => .inl (E.mu a z)) fun z => .inr (List.mem_singleton.mp z), fun a ha => ?_, fun W hW => ?_⟩
 · by_cases hij : i = j
   · subst hij
     rw [List.getElem?_set_self hi] at hj
     cases hj
     exact ⟨_, _, by rw [List.getElem?_set_self (by rw [E.ls]; exact hi)], by rw [List.getElem?_set_self (by rw [E.la]; exact hi)], hs⟩
   · rw [List.getElem?_set_ne hij] at hj
     obtain ⟨o, as, h1, h2, h3⟩ := E.sl j s' hj
     exact ⟨o, as, by rw [List.getElem?_set_ne hij]; exact h1, by rw [List.getElem?_set_ne hij]; exact h2, h3.grow hp⟩
 · rcases ha with ha | ha
   · obtain ⟨o, e, n⟩ := E.al a ha
     exact ⟨o, sm _ _ e, n⟩
   · subst ha
     exact ⟨u, upd_same, hu⟩
 · have k := E.w W hW
   have hW0 : W.A0 p ∨ W.H0 p = none := by
    by_cases z : W.A0 p
    · exact .inl z
    · right
      cases e : W.H0 p with
      | none => rfl
      | some o => have := k.bs p o e z; rw [hp] at this; cases this
   refine ⟨fun b o e n => sm _ _ (k.bs b o e n), fun b n y => k.ex b n (LW.Same.none sm y), fun a ha => (flat_set ha).elim (k.fr a) fun z => by rw [List.mem_singleton.mp z]; exact hW0, fun a h => .inl (k.m0 a h), fun a h => ?_, fun d c e => ?_, fun j s' as h1 h2 nb' => ?_⟩
   · rcases h with h | h
     · exact k.m1 a h
     · subst h
       by_cases z : W.H0 a = none
       · exact .inr z
       · exact absurd hp (k.ex a z)
   · obtain ⟨t, e1, e2⟩ := k.bx d c e
     have : i ≠ 0 := fun z => by subst z; rw [hs0] at e1; cases e1; cases nb0
     exact ⟨t, by rw [List.getElem?_set_ne this]; exact e1, by rw [List.getElem?_set_ne this]; exact e2⟩
   · by_cases hij : i = j
     · subst hij
       rw [List.getElem?_set_self (by rw [E.la]; exact hi)] at h2
       cases h2
       exact fun a ha z => by rw [List.mem_singleton.mp ha] at z; exact E.fresh hp (k.m0 _ z)
     · rw [List.getElem?_set_ne hij] at h1 h2
       exact k.fz j s' as h1 h2 nb'
theorem EnvR.mod (E : EnvR Ws M α H σ δ) {o : Option V} {as : List Addr} {s s' : Sl} (hi : δ[i]? = some s) (ho : σ[i]? = some o) (ha : α[i]? = some as) (hb : s'.isBx = s.isBx) (hs : SlR M H' o s' as)
  (keep : ∀ b u, H b = some u → b ∉ as → H' b = some u) (ex : ∀ a ∈ as, ∃ u, H' a = some u ∧ ∀ xs, u ≠ .tup xs) : EnvR Ws M α H' σ (δ.set i s') ∧ Chg α H H' := by
 have hlt := (List.getElem?_eq_some_iff.mp hi).1
 have asM : ∀ a ∈ as, M a := fun a h => E.mu a (flat_get ha h)
 have rep : ∀ {v : V} {d : Dt}, Rep M H v d → Rep M H' v d := fun r => r.mono fun a u e n => ⟨keep a u e fun z => n (asM a z), n⟩
 have reps : ∀ {v : List V} {d : List Dt}, Reps M H v d → Reps M H' v d := fun r => r.mono fun a u e n => ⟨keep a u e fun z => n (asM a z), n⟩
 refine ⟨⟨by rw [List.length_set, E.ls], by rw [List.length_set, E.la], fun j s2 hj => ?_, E.nd, E.mu, fun a h => ?_, fun W hW => ?_⟩, fun b u e n => keep b u e fun z => n (flat_get ha z)⟩
 · by_cases hij : i = j
   · subst hij
     rw [List.getElem?_set_self hlt] at hj
     cases hj
     exact ⟨o, as, ho, ha, hs⟩
   · rw [List.getElem?_set_ne hij] at hj
     obtain ⟨o2, as2, h1, h2, h3⟩ := E.sl j s2 hj
     have ap : ∀ x ∈ as2, x ∉ as := fun x hx => flat_apart E.nd h2 ha (Ne.symm hij) hx
     refine ⟨o2, as2, h1, h2, ?_⟩
     cases s2 with
     | no => exact h3
     | im d => exact ⟨h3.1, let ⟨v, e, r⟩ := h3.2; ⟨v, e, rep r⟩⟩
     | ow ds => obtain ⟨a, xs, e1, e2, e3, r⟩ := h3; subst e1; exact ⟨a, xs, rfl, e2, keep _ _ e3 (ap a (by simp)), reps r⟩
     | bx t =>
      obtain ⟨d, c, e1, e2, r⟩ := h3
      subst e1
      refine ⟨d, c, rfl, e2, keep _ _ r.dc (ap d (by simp)), ?_, r.t0, r.t1⟩
      obtain ⟨ns, h, q⟩ := r.cs
      exact ⟨ns, keep _ _ h (ap c (by simp)), q⟩
     | dk ks ds => obtain ⟨a, vs, e1, e2, e3, e4, r⟩ := h3; subst e1; exact ⟨a, vs, rfl, e2, keep _ _ e3 (ap a (by simp)), e4, reps r⟩
     | ob R => obtain ⟨v, e, r⟩ := h3; exact ⟨v, e, R.st r (fun a ha u q => keep _ _ q (ap a ha)) fun a u q n => ⟨keep a u q fun z => n (asM a z), n⟩⟩
     | fn f => exact h3
 · by_cases z : a ∈ as
   · exact ex a z
   · obtain ⟨u, e, n⟩ := E.al a h
     exact ⟨u, keep _ _ e z, n⟩
 · have k := E.w W hW
   have inA : ∀ a ∈ as, W.A0 a ∨ W.H0 a = none := fun a z => k.fr a (flat_get ha z)
   refine ⟨fun b u e n => keep _ _ (k.bs b u e n) fun z => ?_, fun b n y => ?_, k.fr, k.m0, k.m1, fun d c e => ?_, fun j s2 as2 h1 h2 nb => ?_⟩
   · rcases inA b z with q | q
     · exact n q
     · rw [q] at e; cases e
   · by_cases z : b ∈ as
     · obtain ⟨u, e, _⟩ := ex b z
       rw [e] at y; cases y
     · cases e : H b with
       | none => exact k.ex b n e
       | some u => rw [keep _ _ e z] at y; cases y
   · obtain ⟨t, e1, e2⟩ := k.bx d c e
     by_cases hij : i = 0
     · subst hij
       rw [hi] at e1
       cases e1
       cases s' with
       | bx t' => exact ⟨t', by rw [List.getElem?_set_self hlt], e2⟩
       | _ => cases hb
     · exact ⟨t, by rw [List.getElem?_set_ne hij]; exact e1, e2⟩
   · by_cases hij : i = j
     · subst hij
       rw [List.getElem?_set_self hlt] at h1
       cases h1
       exact k.fz i s as2 hi h2 (by rw [← hb]; exact nb)
     · rw [List.getElem?_set_ne hij] at h1
       exact k.fz j s2 as2 h1 h2 nb
theorem EnvR.frzOa {Ws : List Wd} {M : Addr → Prop} {α : List (List Addr)} {H : Hp} {σ : L2.St} {δ : List Sl} {i : Nat} (E : EnvR Ws M α H σ δ) {ds : List Dt} (hi : δ[i]? = some (.ow ds)) {a : Addr} (ha : α[i]? = some [a]) : EnvR Ws (fun b => M b ∧ b ≠ a) (α.set i []) H σ (δ.set i (.im (.lst ds))) := by
 have hlt := (List.getElem?_eq_some_iff.mp hi).1
 obtain ⟨a', xs, h1, h2, h3, r⟩ := E.ow hi
 rw [ha] at h2
 cases h2
 have mono : ∀ {v : V} {d : Dt}, Rep M H v d → Rep (fun b => M b ∧ b ≠ a) H v d := fun r => r.mono fun b u e n => ⟨e, fun z => n z.1⟩
 have monos : ∀ {v : List V} {d : List Dt}, Reps M H v d → Reps (fun b => M b ∧ b ≠ a) H v d := fun r => r.mono fun b u e n => ⟨e, fun z => n z.1⟩
 refine ⟨by rw [List.length_set, E.ls], by rw [List.length_set, List.length_set, E.la], fun j s hj => ?_, flat_nd_set E.nd List.nodup_nil (fun x hx => absurd hx List.not_mem_nil), fun b hb => ?_, fun b hb => E.al b hb.1, fun W hW => ?_⟩
 · by_cases hij : i = j
   · subst hij
     rw [List.getElem?_set_self hlt] at hj
     cases hj
     exact ⟨some (.ref a), [], h1, by rw [List.getElem?_set_self (by rw [E.la]; exact hlt)], rfl, _, rfl, Rep.toLst h3 (fun z => z.2 rfl) (monos r)⟩
   · rw [List.getElem?_set_ne hij] at hj
     obtain ⟨o2, as2, g1, g2, g3⟩ := E.sl j s hj
     refine ⟨o2, as2, g1, by rw [List.getElem?_set_ne hij]; exact g2, ?_⟩
     cases s with
     | no => exact g3
     | im d => exact ⟨g3.1, let ⟨v, e, r⟩ := g3.2; ⟨v, e, mono r⟩⟩
     | ow ds => obtain ⟨b, xs, e1, e2, e3, r⟩ := g3; exact ⟨b, xs, e1, e2, e3, monos r⟩
     | bx t => exact g3
     | dk ks ds => obtain ⟨b, vs, e1, e2, e3, e4, r⟩ := g3; exact ⟨b, vs, e1, e2, e3, e4, monos r⟩
     | ob R => obtain ⟨v, e, r⟩ := g3; exact ⟨v, e, R.st r (fun _ _ _ q => q) fun b u q n => ⟨q, fun z => n z.1⟩⟩
     | fn f => exact g3
 · obtain ⟨l, hl, hx⟩ := List.mem_flatten.mp hb
   obtain ⟨j, hj, e⟩ := List.getElem_of_mem hl
   have ej : (α.set i [])[j]? = some l := by rw [List.getElem?_eq_getElem hj, e]
   by_cases hij : i = j
   · subst hij
     rw [List.getElem?_set_self (by rw [E.la]; exact hlt)] at ej
     cases ej
     exact absurd hx List.not_mem_nil
   · rw [List.getElem?_set_ne hij] at ej
     refine ⟨E.mu b (flat_get ej hx), fun z => ?_⟩
     subst z
     exact flat_apart E.nd ej ha (Ne.symm hij) hx (by simp)
 · have k := E.w W hW
   refine ⟨k.bs, k.ex, fun b hb => (flat_set hb).elim (k.fr b) fun z => absurd z List.not_mem_nil, fun b z => ⟨k.m0 b z, fun y => ?_⟩, fun b z => k.m1 b z.1, fun d c e => ?_, fun j s as g1 g2 nb => ?_⟩
   · subst y
     exact k.fz i _ _ hi ha rfl b (by simp) z
   · obtain ⟨t, e1, e2⟩ := k.bx d c e
     have : i ≠ 0 := fun z => by subst z; rw [hi] at e1; cases e1
     exact ⟨t, by rw [List.getElem?_set_ne this]; exact e1, by rw [List.getElem?_set_ne this]; exact e2⟩
   · by_cases hij : i = j
     · subst hij
       rw [List.getElem?_set_self (by rw [E.la]; exact hlt)] at g2
       cases g2
       exact fun b hb => absurd hb List.not_mem_nil
     · rw [List.getElem?_set_ne hij] at g1 g2
       exact k.fz j s as g1 g2 nb
theorem EnvR.frz (E : EnvR Ws M α H σ δ) {ds : List Dt} (hi : δ[i]? = some (.ow ds)) : ∃ M' α', EnvR Ws M' α' H σ (δ.set i (.im (.lst ds))) ∧ ∀ a, M' a → M a := by
 obtain ⟨a, xs, h1, h2, h3, r⟩ := E.ow hi
 exact ⟨_, _, E.frzOa hi h2, fun b z => z.1⟩
theorem EnvR.drop {W : Wd} (E : EnvR (W :: Ws) M α H σ δ) : EnvR Ws M α H σ δ := ⟨E.ls, E.la, E.sl, E.nd, E.mu, E.al, fun W' h => E.w W' (List.mem_cons_of_mem _ h)⟩
theorem EnvR.loop (E : EnvR Ws M α H σ δ) : EnvR (⟨H, M, fun _ => False, M, none⟩ :: Ws) M α H σ δ := ⟨E.ls, E.la, E.sl, E.nd, E.mu, E.al, fun W h => by
 rcases List.mem_cons.mp h with e | e
 · subst e
   exact ⟨fun b o e _ => e, fun b n => n, fun a h => .inl (E.mu a h), fun a h => h.elim, fun a h => .inl h, fun d c e => (by cases e), fun j s as _ _ _ a _ z => z⟩
 · exact E.w W e⟩
end
end LD
end
section
namespace LD
open PySem PySem.Spec L2 LB PyProof.Rows
structure DEnds where
 nx : List Sl → Prop
 rt : Dt → List Sl → Prop
 bk : List Sl → Prop := fun _ => False
 ct : List Sl → Prop := fun _ => False
abbrev DTS := DEnds → List Sl → Prop
structure Lk (Ws : List Wd) (D : Ends) (Δ : DEnds) : Prop where
 nx : ∀ M α H σ δ, EnvR Ws M α H σ δ → Δ.nx δ → D.nx σ H
 rt : ∀ M α H σ δ v d, EnvR Ws M α H σ δ → Rep M H v d → Δ.rt d δ → D.rt v H
 bk : ∀ M α H σ δ, EnvR Ws M α H σ δ → Δ.bk δ → D.bk σ H
 ct : ∀ M α H σ δ, EnvR Ws M α H σ δ → Δ.ct δ → D.ct σ H
inductive lS (T : DTS) (D : L2.Ends) (σ : L2.St) (H : Hp) : Prop
 | mk (Ws : List Wd) (M : Addr → Prop) (α : List (List Addr)) (δ : List Sl) (Δ : DEnds) (h1 : EnvR Ws M α H σ δ) (h2 : Lk Ws D Δ) (h3 : T Δ δ)
abbrev Ex (X : Cx) (s : Stmt) (T : DTS) : Prop := PS X s (lS T)
abbrev Exs (X : Cx) (s : List Stmt) (T : DTS) : Prop := PSs X s (lS T)
section
variable {X : Cx} {st : Stmt} {rest : List Stmt} {T U : DTS} {e a b c : Expr} {es : List Expr} {t ta tb : DTE} {u : DTT} {pos : Pos}
def dNext : DTS := fun Δ δ => Δ.nx δ
def dSeq (T U : DTS) : DTS := fun Δ δ => T { Δ with nx := U Δ } δ
theorem s_nil : Exs X [] dNext := PSs.imp pss_nil fun D σ H zz1 => (by obtain ⟨Ws, M, α, δ, Δ, E, L, q⟩ := zz1; exact (L.nx _ _ _ _ _ E q))
theorem s_cons (h1 : Ex X st T) (h2 : Exs X rest U) : Exs X (st :: rest) (dSeq T U) := PSs.imp (pss_cons h1 h2) fun D σ H zz2 => (by obtain ⟨Ws, M, α, δ, Δ, E, L, q⟩ := zz2; exact (
 ⟨Ws, M, α, δ, { Δ with nx := U Δ }, E, ⟨fun M α H σ δ E q => ⟨Ws, M, α, δ, Δ, E, L, q⟩, L.rt, L.bk, L.ct⟩, q⟩))
theorem s_one (h1 : Ex X st T) : Exs X [st] T := pss_one h1
def dRet (t : DTE) : DTS := fun Δ δ => t δ Δ.rt
theorem s_ret (h : Ev X e t) : Ex X (.Return (some e) pos) (dRet t) := PS.imp (ps_ret h) fun D σ H zz4 => (by obtain ⟨Ws, M, α, δ, Δ, E, L, q⟩ := zz4; exact (⟨Ws, M, α, δ, _, E, q, fun d δ' H' v q1 E1 c1 r1 => L.rt _ _ _ _ _ _ _ E1 r1 q1⟩))
def dIfS (u : DTT) (T U : DTS) : DTS := fun Δ δ => u δ fun b δ' => if b = true then T Δ δ' else U Δ δ'
theorem s_if {sa sb : List Stmt} (hc : Tv X c u) (ha : Exs X sa T) (hb : Exs X sb U) : Ex X (.If c sa sb pos) (dIfS u T U) := PS.imp (ps_if hc ha hb) fun D σ H zz5 => (by obtain ⟨Ws, M, α, δ, Δ, E, L, q⟩ := zz5; exact (
 ⟨Ws, M, α, δ, _, E, q, fun b δ' H' q1 E1 c1 => by
  cases b with
  | true => rw [if_pos rfl] at q1 ⊢; exact ⟨Ws, M, α, δ', Δ, E1, L, q1⟩
  | false => rw [if_neg Bool.false_ne_true] at q1 ⊢; exact ⟨Ws, M, α, δ', Δ, E1, L, q1⟩⟩))
def dDrop (t : DTE) : DTS := fun Δ δ => t δ fun _ δ' => Δ.nx δ'
theorem s_expr (h : Ev X e t) (hs : autoParam (swapsWith e none pos.line X.env = pure false) au5._auto_1) : Ex X (.Expr e pos) (dDrop t) := PS.imp (ps_expr h hs) fun D σ H zz6 => (by obtain ⟨Ws, M, α, δ, Δ, E, L, q⟩ := zz6; exact (⟨Ws, M, α, δ, _, E, q, fun d δ' H' v q1 E1 c1 r1 => L.nx _ _ _ _ _ E1 q1⟩))
def dSet (i : Nat) (t : DTE) : DTS := fun Δ δ => t δ fun d δ' => okSet δ' i ∧ Δ.nx (δ'.set i (.im d))
theorem s_set (i : Nat) {x : Str} {pos' : Pos} (hN : X.N.Nodup) (he : Ev X e t) (hi : autoParam (X.N[i]? = some x) au5._auto_1) (hx : autoParam (Loc X.env.scope x) au9._auto_1) (hs : autoParam (swapsWith e (some (.Name x pos')) pos.line X.env = pure false) au5._auto_1) (hf : autoParam (X.fn x = true ∨ X.env.scope.names.lookup x = some .local) au1._auto_1) :
  Ex X (.Assign [.Name x pos'] e pos) (dSet i t) := PS.imp (ps_set hN hi hx he hs hf) fun D σ H zz7 => (by obtain ⟨Ws, M, α, δ, Δ, E, L, q⟩ := zz7; exact (⟨Ws, M, α, δ, _, E, q, fun d δ' H' v zz8 E1 c1 r1 => (by obtain ⟨ok, q1⟩ := zz8; exact (L.nx _ _ _ _ _ (E1.setIm r1 ok) q1))⟩))
def dSetO (i : Nat) (t : DTO) : DTS := fun Δ δ => t δ fun ds δ' => okSet δ' i ∧ Δ.nx (δ'.set i (.ow ds))
theorem seto_read {i : Nat} {t : DTO} : ∀ D σ H, lS (dSetO i t) D σ H → tAsg (lO t) (gName i) D σ H := fun D σ H zz9 => (by obtain ⟨Ws, M, α, δ, Δ, E, L, q⟩ := zz9; exact (⟨Ws, M, α, δ, _, E, q, fun ds δ' H1 xs a zz10 E1 c1 r1 h1 => (by obtain ⟨ok, q1⟩ := zz10; exact (
 L.nx _ _ _ _ _ (E1.setNew (s := .ow ds) h1 (fun xs z => by cases z) ok rfl ⟨a, xs, rfl, rfl, upd_same, r1.grow h1⟩) q1))⟩))
theorem s_setO (i : Nat) {x : Str} {pos' : Pos} {t : DTO} (hN : X.N.Nodup) (he : Ov X e t) (hi : autoParam (X.N[i]? = some x) au5._auto_1) (hx : autoParam (Loc X.env.scope x) au9._auto_1) (hs : autoParam (swapsWith e (some (.Name x pos')) pos.line X.env = pure false) au5._auto_1) (hf : autoParam (X.fn x = true ∨ X.env.scope.names.lookup x = some .local) au1._auto_1) :
  Ex X (.Assign [.Name x pos'] e pos) (dSetO i t) := PS.imp (ps_set hN hi hx he hs hf) seto_read
inductive dFrz (i : Nat) (T : DTS) (Δ : DEnds) (δ : List Sl) : Prop
 | mk (ds : _) (h1 : δ[i]? = some (.ow ds)) (h2 : T Δ (δ.set i (.im (.lst ds))))
theorem frz_read {i : Nat} : ∀ D σ H, lS (dFrz i T) D σ H → lS T D σ H := fun D σ H zz11 => (by obtain ⟨Ws, M, α, δ, Δ, E, L, ds, h, q⟩ := zz11; exact (by
 obtain ⟨M', α', E', _⟩ := E.frz h
 exact ⟨Ws, M', α', _, Δ, E', L, q⟩))
theorem s_frz (i : Nat) (h : Ex X st T) : Ex X st (dFrz i T) := PS.imp h frz_read
theorem own_mod {Ws : List Wd} {M : Addr → Prop} {α : List (List Addr)} {H : Hp} {σ : L2.St} {δ : List Sl} {i : Nat} {ds ds' : List Dt} {a : Addr} {xs' : List V} (E : EnvR Ws M α H σ δ) (h : δ[i]? = some (.ow ds)) (h1 : σ[i]? = some (some (.ref a))) (h2 : α[i]? = some [a]) (r : Reps M H xs' ds') :
  EnvR Ws M α (upd H a (.lst xs')) σ (δ.set i (.ow ds')) ∧ Chg α H (upd H a (.lst xs')) :=
 E.mod h h1 h2 rfl ⟨a, xs', rfl, rfl, upd_same, r.mono fun b u e n => ⟨by rw [upd_ne (fun z => n (by rw [z]; exact E.mu a (flat_get h2 (by simp))))]; exact e, n⟩⟩ (fun b u e n => by rw [upd_ne (fun z => n (by rw [z]; simp))]; exact e) (fun b hb => by rw [List.mem_singleton.mp hb]; exact ⟨_, upd_same, fun xs z => by cases z⟩)
inductive dApp_i (i : Nat) (Q : Dt → List Sl → Prop) (es : List Dt) (δ' : List Sl) : Prop
 | mk (ds d : _) (h1 : es = [d]) (h2 : δ'[i]? = some (.ow ds)) (h3 : ds.length < sizeLine) (h4 : Q .non (δ'.set i (.ow (ds ++ [d]))))
def dApp (i : Nat) (t : DTA) : DTE := fun δ Q => (∃ ds0, δ[i]? = some (.ow ds0)) ∧ t δ fun es δ' => dApp_i i Q es δ'
theorem d_append (i : Nat) {x : Str} {xp apos cpos : Pos} {tA : DTA} (ho : PE X (.Name x xp) (tVar i)) (ha : Av X [e] tA)
  (hbase : autoParam (attributeBase (.Name x xp) "append" X.env (eval (.Name x xp) X.env) = eval (.Name x xp) X.env) au5._auto_1)
  (hfew : autoParam (((backTo cpos (starEach [e] X.env)).all (fun x => !x.1) && (backToKw cpos (keywordEach [] X.env)).all (fun x => x.1.isSome) && decide ([e].length + ([] : List Keyword).length + (if ([] : List Keyword).isEmpty then 0 else 1) < 30)) = true) au5._auto_1)
  (hline : autoParam ((apos.endLine == cpos.line) = true) au5._auto_1) (hs : autoParam (starEach [e] X.env = (false, eval e X.env) :: starEach [] X.env) au5._auto_1) (hplain : autoParam ((backTo cpos (starEach [] X.env)).any (·.1) = false) au5._auto_1) :
  Ev X (.Call (.Attribute (.Name x xp) "append" apos) [e] [] cpos) (dApp i tA) :=
 PE.imp (pe_bm PySem.F.plainAttrs_list PySem.F.slot_list_append PySem.F.type_list_append mt_append ho ha hbase hfew hline hs hplain) fun σ H Q zz1 => (by obtain ⟨W, M, α, δ, Qd, E, ⟨⟨ds0, h0⟩, q⟩, k⟩ := zz1; exact (by
  obtain ⟨a, xs0, h1, h2, h3, r3⟩ := E.ow h0
  refine ⟨_, h1, .inl ⟨rfl, _, SqL.of h3⟩, W, M, α, δ, _, E, q, fun es δ' H' vs zz13 E1 c1 r1 => ?_⟩
  obtain ⟨ds, d, e, hd, l, q1⟩ := zz13
  subst e
  obtain ⟨y, ys, rfl, ry, rn⟩ := r1.uncons
  cases rn.unnil
  obtain ⟨a', xs, h1', h2', h3', r3'⟩ := E1.ow hd
  rw [h1] at h1'
  cases h1'
  refine ⟨a, xs, y, rfl, rfl, h3', by rw [r3'.1]; exact l, ?_⟩
  obtain ⟨E2, c2⟩ := own_mod E1 hd h1 h2' (r3'.append (.one ry))
  exact k _ _ _ _ q1 E2 (c1.tr c2) .non))
inductive dPop (i : Nat) (δ : List Sl) (Q : Dt → List Sl → Prop) : Prop
 | mk (ds d : _) (h1 : δ[i]? = some (.ow ds)) (h2 : ds[ds.length - 1]? = some d) (h3 : Q d (δ.set i (.ow ds.dropLast)))
theorem d_pop (i : Nat) {x : Str} {xp apos cpos : Pos} (ho : PE X (.Name x xp) (tVar i))
  (hbase : autoParam (attributeBase (.Name x xp) "pop" X.env (eval (.Name x xp) X.env) = eval (.Name x xp) X.env) au5._auto_1) (hline : autoParam ((apos.endLine == cpos.line) = true) au5._auto_1) :
  Ev X (.Call (.Attribute (.Name x xp) "pop" apos) [] [] cpos) (dPop i) :=
 PE.imp (pe_bm0 PySem.F.plainAttrs_list PySem.F.slot_list_pop PySem.F.type_list_pop mt_pop ho hbase hline) fun σ H Q zz2 => (by obtain ⟨W, M, α, δ, Qd, E, ⟨ds, d, hd, hl, q⟩, k⟩ := zz2; exact (by
  obtain ⟨a, xs, h1, h2, h3, r3⟩ := E.ow hd
  obtain ⟨y, hy, ry⟩ := r3.get hl
  refine ⟨_, h1, .inl ⟨rfl, _, SqL.of h3⟩, a, xs, y, rfl, rfl, h3, by rw [r3.1]; exact hy, ?_⟩
  have rd : Reps M H xs.dropLast ds.dropLast := by rw [List.dropLast_eq_take, List.dropLast_eq_take, r3.1]; exact r3.take _
  obtain ⟨E2, c2⟩ := own_mod E hd h1 h2 rd
  exact k _ _ _ _ q E2 c2 (ry.chg E c2)))
inductive dIxO_i (i : Nat) (Q : Dt → List Sl → Prop) (d2 : Dt) (δ' : List Sl) : Prop
 | mk (ds k d : _) (h1 : δ'[i]? = some (.ow ds)) (h2 : d2 = .int k) (h3 : atI ds k = some d) (h4 : Q d δ')
def dIxO (i : Nat) (tb : DTE) : DTE := fun δ Q => (∃ ds0, δ[i]? = some (.ow ds0)) ∧ tb δ fun d2 δ' => dIxO_i i Q d2 δ'
theorem d_ixO (i : Nat) {x : Str} {xp : Pos} (ho : PE X (.Name x xp) (tVar i)) (hb : Ev X b tb) (hs : autoParam (PlainIx b) au8._auto_1) : Ev X (.Subscript (.Name x xp) b pos) (dIxO i tb) :=
 PE.imp (pe_ix ix_list ho hb hs) fun σ H Q zz4 => (by obtain ⟨W, M, α, δ, Qd, E, ⟨⟨ds0, h0⟩, q⟩, k⟩ := zz4; exact (by
  obtain ⟨a, xs0, h1, h2, h3, r3⟩ := E.ow h0
  refine ⟨_, h1, W, M, α, δ, _, E, q, fun d2 δ' H' v zz18 E1 c1 r1 => ?_⟩
  obtain ⟨ds, n, d, hd, e, hg, q1⟩ := zz18
  subst e
  obtain ⟨a', xs, h1', h2', h3', r3'⟩ := E1.ow hd
  rw [h1] at h1'
  cases h1'
  obtain ⟨y, hy, ry⟩ := atI_rep r3' hg
  exact ⟨a, xs, n, y, rfl, r1.ofInt, SqL.of h3', hy, k _ _ _ _ q1 E1 c1 ry⟩))
inductive dLenO (i : Nat) (δ : List Sl) (Q : Dt → List Sl → Prop) : Prop
 | mk (ds : _) (h1 : δ[i]? = some (.ow ds)) (h2 : Q (.int ds.length) δ)
theorem d_lenO (i : Nat) {x : Str} {xp p : Pos} (hm : X.mg "len" = none) (ho : PE X (.Name x xp) (tVar i)) (hg : autoParam (Gl X "len") au5._auto_1) (he : autoParam (starEach [.Name x xp] X.env = (false, eval (.Name x xp) X.env) :: starEach [] X.env) au5._auto_1) (hpl : autoParam ((backTo pos (starEach [] X.env)).any (·.1) = false) au5._auto_1) :
  Ev X (.Call (.Name "len" p) [.Name x xp] [] pos) (dLenO i) := PE.imp (pe_callB call_len_seq hg hm PySem.boot_len (pa_cons ho pa_nil he) (by decide) (by decide) he hpl) fun σ H Q zz19 => (by obtain ⟨W, M, α, δ, Qd, E, ⟨ds, hd, q⟩, k⟩ := zz19; exact (by
  obtain ⟨a, xs, h1, h2, h3, r3⟩ := E.ow hd
  exact ⟨_, h1, a, xs, rfl, .inl (SqL.of h3), by rw [r3.1]; exact k _ _ _ _ q E Chg.rf (.int _)⟩))
inductive dTupO (i : Nat) (δ : List Sl) (Q : Dt → List Sl → Prop) : Prop
 | mk (ds : _) (h1 : δ[i]? = some (.ow ds)) (h2 : Q (.tup ds) δ)
theorem d_tupO (i : Nat) {x : Str} {xp p : Pos} (hm : X.mg "tuple" = none) (ho : PE X (.Name x xp) (tVar i)) (hg : autoParam (Gl X "tuple") au5._auto_1) (he : autoParam (starEach [.Name x xp] X.env = (false, eval (.Name x xp) X.env) :: starEach [] X.env) au5._auto_1) (hpl : autoParam ((backTo pos (starEach [] X.env)).any (·.1) = false) au5._auto_1) :
  Ev X (.Call (.Name "tuple" p) [.Name x xp] [] pos) (dTupO i) := PE.imp (pe_callTy call_tuple_of hg hm boot_tuple' (pa_cons ho pa_nil he) (by decide) (by decide) he hpl) fun σ H Q zz5 => (by obtain ⟨W, M, α, δ, Qd, E, ⟨ds, hd, q⟩, k⟩ := zz5; exact (by
  obtain ⟨a, xs, h1, h2, h3, r3⟩ := E.ow hd
  refine ⟨_, h1, a, xs, rfl, .inl ⟨SqL.of h3, fun l hl => ?_⟩⟩
  have s : Same H (upd H l (.tup xs)) := Same.new hl
  exact k _ _ _ _ q (E.same s) (Chg.of s) (Rep.toTup upd_same (E.fresh hl) (r3.same s))))
inductive dList_i (Q : List Dt → List Sl → Prop) (ds : List Dt) (δ' : List Sl) : Prop
 | mk (es : _) (h1 : (ds = [.lst es] ∨ ds = [.tup es])) (h2 : Q es δ')
def dList (t : DTA) : DTO := fun δ Q => t δ fun ds δ' => dList_i Q ds δ'
theorem o_list {p : Pos} {tA : DTA} (hm : X.mg "list" = none) (ha : Av X [e] tA) (hg : autoParam (Gl X "list") au5._auto_1) (he : autoParam (starEach [e] X.env = (false, eval e X.env) :: starEach [] X.env) au5._auto_1) (hpl : autoParam ((backTo pos (starEach [] X.env)).any (·.1) = false) au5._auto_1) :
  Ov X (.Call (.Name "list" p) [e] [] pos) (dList tA) := PE.imp (pe_callTy call_list_of hg hm boot_list' ha (by decide) (by decide) he hpl) fun σ H Q zz21 => (by obtain ⟨W, M, α, δ, Qd, E, q, k⟩ := zz21; exact (
 ⟨W, M, α, δ, _, E, q, fun ds δ1 H1 xs zz22 E1 c1 r0 => (by obtain ⟨es, e, q1⟩ := zz22; exact (by
  rcases e with e | e <;> subst e <;> obtain ⟨x, ys, rfl, r1, r2⟩ := r0.uncons <;> cases r2.unnil
  · obtain ⟨a, zs, rfl, ha, n, rr⟩ := r1.ofLst
    exact ⟨a, zs, rfl, .inl (SqL.of ha), fun l hl => k _ _ _ _ _ q1 E1 c1 rr hl⟩
  · obtain ⟨a, zs, rfl, ha, n, rr⟩ := r1.ofTup
    exact ⟨a, zs, rfl, .inr (SqT.of ha), fun l hl => k _ _ _ _ _ q1 E1 c1 rr hl⟩))⟩))
inductive dItem_i (i : Nat) (Δ : DEnds) (d : Dt) (d2 : Dt) (δ2 : List Sl) : Prop
 | mk (ds k j : _) (h1 : δ2[i]? = some (.ow ds)) (h2 : d2 = .int k) (h3 : ixN ds.length k = some j) (h4 : Δ.nx (δ2.set i (.ow (ds.set j d))))
def dItem (i : Nat) (tv tb : DTE) : DTS := fun Δ δ => tv δ fun d δ1 => (∃ ds0, δ1[i]? = some (.ow ds0)) ∧ tb δ1 fun d2 δ2 => dItem_i i Δ d d2 δ2
theorem s_item (i : Nat) {x : Str} {xp tpos : Pos} {tv : DTE} (hv : Ev X e tv) (ho : PE X (.Name x xp) (tVar i)) (hb : Ev X b tb)
  (ha : autoParam (∀ v, assign (.Subscript (.Name x xp) b tpos) X.env v = (do
   let ov ← holding [v] (eval (.Name x xp) X.env)
   let iv ← holding [v, ov] (eval b X.env)
   standAt tpos
   holding [v, ov, iv] (setItem ov iv v)
   release [v, ov, iv] [])) au4._auto_1)
  (hs : autoParam (swapsWithSole [.Subscript (.Name x xp) b tpos] e pos.line X.env = pure false) au5._auto_1) (hw : autoParam (swappedStores [.Subscript (.Name x xp) b tpos] e X.env = pure none) au5._auto_1)
  (h1 : autoParam ((assignEach [.Subscript (.Name x xp) b tpos] X.env).map (·.2) = [assign (.Subscript (.Name x xp) b tpos) X.env]) au5._auto_1) : Ex X (.Assign [.Subscript (.Name x xp) b tpos] e pos) (dItem i tv tb) :=
 PS.imp (ps_asg hv (pg_sub ho hb set_list ha) hs hw h1) fun D σ H zz8 => (by obtain ⟨Ws, M, α, δ, Δ, E, L, q⟩ := zz8; exact (
  ⟨Ws, M, α, δ, _, E, q, fun d δ1 H1 v zz9 E1 c1 r1 => (by obtain ⟨⟨ds0, h0⟩, q1⟩ := zz9; exact (by
   obtain ⟨a, xs0, h1, h2, h3, r3⟩ := E1.ow h0
   refine ⟨_, h1, Ws, M, α, δ1, _, E1, q1, fun d2 δ2 H2 v2 zz27 E2 c2 r2 => ?_⟩
   obtain ⟨ds, n, j, hd, e, hj, q2⟩ := zz27
   subst e
   obtain ⟨a', xs, h1', h2', h3', r3'⟩ := E2.ow hd
   rw [h1] at h1'
   cases h1'
   refine ⟨a, xs, n, j, rfl, r2.ofInt, h3', by rw [r3'.1]; exact hj, ?_⟩
   obtain ⟨E3, _⟩ := own_mod E2 hd h1 h2' (r3'.set (r1.chg E1 c2) j)
   exact L.nx _ _ _ _ _ E3 q2))⟩))
inductive dTruO (i : Nat) (δ : List Sl) (Q : Bool → List Sl → Prop) : Prop
 | mk (ds : _) (h1 : δ[i]? = some (.ow ds)) (h2 : Q (!ds.isEmpty) δ)
theorem empty_rep {M : Addr → Prop} {H : Hp} {xs : List V} {ds : List Dt} (r : Reps M H xs ds) : xs.isEmpty = ds.isEmpty := by
 have := r.1
 cases xs <;> cases ds <;> simp at this ⊢
theorem t_truO (i : Nat) {x : Str} {xp : Pos} (ho : PE X (.Name x xp) (tVar i)) (he : autoParam (∀ whole, isTrue (.Name x xp) X.env whole = (do let v ← whole; standAt (Expr.Name x xp).pos; holding [v] (truthy v))) au4._auto_1) : Tv X (.Name x xp) (dTruO i) :=
 PT.imp (pt_truth ho he) fun σ H Q zz28 => (by obtain ⟨W, M, α, δ, Qd, E, ⟨ds, hd, q⟩, k⟩ := zz28; exact (by
  obtain ⟨a, xs, h1, h2, h3, r3⟩ := E.ow hd
  exact ⟨_, h1, _, .inl ⟨xs, SqL.of h3, rfl⟩, by rw [empty_rep r3]; exact k _ _ _ q E Chg.rf⟩))
noncomputable def truD : Dt → Option Bool
 | .non => some false
 | .bl b => some b
 | .int i => some (i != 0)
 | .lst ds => some (!ds.isEmpty)
 | .tup ds => some (!ds.isEmpty)
 | _ => none
inductive dTru_i (Q : Bool → List Sl → Prop) (d : Dt) (δ' : List Sl) : Prop
 | mk (b : _) (h1 : truD d = some b) (h2 : Q b δ')
def dTru (t : DTE) : DTT := fun δ Q => t δ fun d δ' => dTru_i Q d δ'
theorem t_tru (h : Ev X e t) (he : autoParam (∀ whole, isTrue e X.env whole = (do let v ← whole; standAt e.pos; holding [v] (truthy v))) au4._auto_1) : Tv X e (dTru t) :=
 PT.imp (pt_truth h he) fun σ H Q zz29 => (by obtain ⟨W, M, α, δ, Qd, E, q, k⟩ := zz29; exact (⟨W, M, α, δ, _, E, q, fun d δ' H' v zz30 E1 c1 r1 => (by obtain ⟨b, hb, q1⟩ := zz30; exact (⟨b, by
  cases r1 with
  | non => cases hb; rfl
  | bl c => cases hb; rfl
  | int c => cases hb; rfl
  | str c => cases hb
  | lst h n l r => cases hb; exact .inl ⟨_, SqL.of h, by rw [empty_rep ⟨l, r⟩]⟩
  | dic h n e l r => cases hb
  | dit h n e l r => cases hb
  | tup h n l r => cases hb; exact .inr (.inl ⟨_, SqT.of h, by rw [empty_rep ⟨l, r⟩]⟩), k _ _ _ q1 E1 c1⟩))⟩))
end
end LD
end
section
namespace LD
open PySem PySem.Spec L2 LB PyProof.Rows
def spA (S : DN) : Sp := fun vs H Q _ => ∃ M ds Qd, MOk M H ∧ Reps M H vs ds ∧ S ds Qd ∧ ∀ r H' v', Qd r → Same H H' → Rep M H' v' r → Q v' H'
abbrev DB := Int → List Dt → (Dt → Int → Prop) → Prop
def spB (S : DB) : Sp := fun vs H Q _ => ∃ M d c t ws ds Qd, vs = .ref d :: ws ∧ MOk M H ∧ M d ∧ M c ∧ Box H d c t ∧ Reps M H ws ds ∧ S t ds Qd ∧ ∀ r t' H' v', Qd r t' → Kp d c H H' → Box H' d c t' → Rep M H' v' r → Q v' H'
section
variable {X : Cx} {e : Expr} {es : List Expr} {pos p : Pos} {x : Str} {k : Nat} {ps : List Str}
theorem d_fnA {S : DN} {t : DTA} (h : Has X.prog X.w X.K X.mg X.base x k ps (spA S)) (hr : Room k X.A) (ha : Av X (e :: es) t) (hg : autoParam (Gl X x) au5._auto_1)
  (hdb : autoParam ((x == ("__debug__" : Str)) = false) au2._auto_1) (he : autoParam (starEach (e :: es) X.env = (false, eval e X.env) :: starEach es X.env) au5._auto_1) (hpl : autoParam ((backTo pos (starEach es X.env)).any (·.1) = false) au5._auto_1) :
  Ev X (.Call (.Name x p) (e :: es) [] pos) (dCa S t) := PE.imp (pe_has h hr hg ha hdb he hpl) fun σ H Q zz1 => (by obtain ⟨W, M, α, δ, Qd, E, q, k⟩ := zz1; exact (
 ⟨W, M, α, δ, _, E, q, fun ds δ' H' vs q1 E1 c1 r1 => by
  show spA S (vs ++ []) H' Q E0
  rw [List.append_nil]
  exact ⟨M, ds, _, E1.al, r1, q1, fun r H2 v2 q2 s r2 => k _ _ _ _ q2 (E1.same s) (c1.tr (Chg.of s)) r2⟩⟩))
theorem EnvR.box {Ws : List Wd} {M : Addr → Prop} {α : List (List Addr)} {H : Hp} {σ : L2.St} {δ : List Sl} {i : Nat} {t : Int} (E : EnvR Ws M α H σ δ) (h : δ[i]? = some (.bx t)) : ∃ d c, σ[i]? = some (some (.ref d)) ∧ α[i]? = some [d, c] ∧ Box H d c t := by
 obtain ⟨o, as, h1, h2, d, c, rfl, rfl, r⟩ := E.sl i _ h
 exact ⟨d, c, h1, h2, r⟩
theorem box_mod {Ws : List Wd} {M : Addr → Prop} {α : List (List Addr)} {H H' : Hp} {σ : L2.St} {δ : List Sl} {i : Nat} {t t' : Int} {d c : Addr} (E : EnvR Ws M α H σ δ) (h : δ[i]? = some (.bx t)) (h1 : σ[i]? = some (some (.ref d))) (h2 : α[i]? = some [d, c]) (k : Kp d c H H') (B : Box H' d c t') :
  EnvR Ws M α H' σ (δ.set i (.bx t')) ∧ Chg α H H' :=
 E.mod h h1 h2 rfl ⟨d, c, rfl, rfl, B⟩ (fun b u e n => k b u e (fun z => n (by rw [z]; simp)) (fun z => n (by rw [z]; simp))) (fun b hb => by
  simp only [List.mem_cons, List.not_mem_nil, or_false] at hb
  rcases hb with rfl | rfl
  · exact ⟨_, B.dc, fun xs z => by cases z⟩
  · obtain ⟨ns, h, _⟩ := B.cs
    exact ⟨_, h, fun xs z => by cases z⟩)
def dFnB (S : DB) (i : Nat) (t : DTA) : DTE := fun δ Q => (∃ t0, δ[i]? = some (.bx t0)) ∧ t δ fun ds δ' => ∃ t, δ'[i]? = some (.bx t) ∧ S t ds fun r t' => Q r (δ'.set i (.bx t'))
theorem d_fnB (i : Nat) {S : DB} {t : DTA} {y : Str} {yp : Pos} (h : Has X.prog X.w X.K X.mg X.base x k ps (spB S)) (hr : Room k X.A) (ho : PE X (.Name y yp) (tVar i)) (ha : Av X es t) (hg : autoParam (Gl X x) au5._auto_1)
  (hdb : autoParam ((x == ("__debug__" : Str)) = false) au2._auto_1) (he : autoParam (starEach (.Name y yp :: es) X.env = (false, eval (.Name y yp) X.env) :: starEach es X.env) au5._auto_1) (hpl : autoParam ((backTo pos (starEach es X.env)).any (·.1) = false) au5._auto_1) :
  Ev X (.Call (.Name x p) (.Name y yp :: es) [] pos) (dFnB S i t) := PE.imp (pe_has h hr hg (pa_cons ho ha he) hdb he hpl) fun σ H Q zz1 => (by obtain ⟨W, M, α, δ, Qd, E, ⟨⟨t0, h0⟩, q⟩, k⟩ := zz1; exact (by
  obtain ⟨d, c, h1, h2, B⟩ := E.box h0
  refine ⟨_, h1, W, M, α, δ, _, E, q, fun ds δ' H' vs zz3 E1 c1 r1 => ?_⟩
  obtain ⟨t, hd, q1⟩ := zz3
  obtain ⟨d', c', h1', h2', B'⟩ := E1.box hd
  rw [h1] at h1'
  cases h1'
  show spB S ((V.ref d :: vs) ++ []) H' Q E0
  rw [List.append_nil]
  refine ⟨M, d, c', t, vs, ds, _, rfl, E1.al, E1.mu d (flat_get h2' (by simp)), E1.mu c' (flat_get h2' (by simp)), B', r1, q1, fun r t' H2 v2 q2 kp B2 r2 => ?_⟩
  obtain ⟨E2, c2⟩ := box_mod E1 hd h1 h2' kp B2
  exact k _ _ _ _ q2 E2 (c1.tr c2) r2))
end
section
variable {P : Program} {w : World} {K : PySem.W.Frag} {mg : Str → Option Value} {base : Heap}
theorem env_start {Ws : List Wd} {M : Addr → Prop} {H : Hp} {vs : List V} {ds : List Dt} {n : Nat} (al : MOk M H) (r : Reps M H vs ds) (w : ∀ W ∈ Ws, WOk W M (List.replicate (ds.length + n) []) H (ds.map .im ++ List.replicate n .no)) :
  EnvR Ws M (List.replicate (ds.length + n) []) H (vs.map some ++ List.replicate n none) (ds.map .im ++ List.replicate n .no) := by
 have hflat : (List.replicate (ds.length + n) ([] : List Addr)).flatten = [] := by simp
 refine ⟨by simp [r.1], by simp, fun i s h => ?_, by rw [hflat]; exact List.nodup_nil, fun a ha => by rw [hflat] at ha; exact absurd ha List.not_mem_nil, al, w⟩
 have hi := (List.getElem?_eq_some_iff.mp h).1
 rw [List.length_append, List.length_map, List.length_replicate] at hi
 have ha : (List.replicate (ds.length + n) ([] : List Addr))[i]? = some [] := by rw [List.getElem?_replicate, if_pos hi]
 by_cases hl : i < ds.length
 · rw [List.getElem?_append_left (by rw [List.length_map]; exact hl), List.getElem?_map, List.getElem?_eq_getElem hl] at h
   cases h
   obtain ⟨v, hv, rv⟩ := r.get (List.getElem?_eq_getElem hl)
   exact ⟨some v, [], by rw [List.getElem?_append_left (by rw [List.length_map, r.1]; exact hl), List.getElem?_map, hv]; rfl, ha, rfl, v, rfl, rv⟩
 · rw [List.getElem?_append_right (by rw [List.length_map]; omega), List.getElem?_replicate] at h
   split at h
   · rename_i hn
     cases h
     rw [List.length_map] at hn
     exact ⟨none, [], by rw [List.getElem?_append_right (by rw [List.length_map, r.1]; omega), List.getElem?_replicate, if_pos (by rw [List.length_map, r.1]; exact hn)], ha, rfl⟩
   · cases h
theorem fnA {x qual : Str} {st : Stmt} {f : Addr} {fd : FuncData} {N ps : List Str} {k : Nat} {S : DN} (F : Fun K x qual st f fd) (sc : FnScope N ps (defScope st)) (len : ∀ ds Qd, S ds Qd → ds.length = ps.length)
  (hbody : ∀ (cdv : Value) (A : Around) (outer : List Env) (s : Shared) (H : Hp) (E : XK), Room k (A.deeper (envOfC qual (defScope st) s.heap.objs.size f cdv)) →
   ∃ T, Exs (cxOf CX0 P w K mg base N qual (defScope st) f cdv A outer s H E).nox (defBody st) T ∧ ∀ ds Qd, S ds Qd → T { nx := fun _ => Qd .non, rt := fun d _ => Qd d } (ds.map .im ++ List.replicate (N.length - ps.length) .no)) :
  FnOk P w K mg base CX0 (k + 1) f fd ps (spA S) := by
 refine F.ok sc (fun vs H Q E h => ?_) (fun cdv A outer s H vs Q E hr h => ?_)
 · obtain ⟨M, ds, Qd, al, r, q, _⟩ := h
   rw [r.1]; exact len ds Qd q
 · obtain ⟨M, ds, Qd, al, r, q, kk⟩ := h
   obtain ⟨T, hT, hq⟩ := hbody cdv A outer s H E hr
   refine ⟨lS T, hT, [⟨H, fun _ => False, M, M, none⟩], M, List.replicate (ds.length + (N.length - ps.length)) [], ds.map .im ++ List.replicate (N.length - ps.length) .no, _, ?_, ?_, hq ds Qd q⟩
   · have e : L2.start N vs = vs.map some ++ List.replicate (N.length - ps.length) none := by unfold L2.start; rw [r.1, len ds Qd q]
     rw [e]
     refine env_start al r fun W hW => ?_
     rw [List.mem_singleton.mp hW]
     have hflat : (List.replicate (ds.length + (N.length - ps.length)) ([] : List Addr)).flatten = [] := by simp
     refine ⟨fun b o e _ => e, fun b n => n, fun a ha => by rw [hflat] at ha; exact absurd ha List.not_mem_nil, fun a h => h, fun a h => .inl h, fun d c e => (by cases e), fun j s as h1 h2 _ a ha => ?_⟩
     rw [List.getElem?_replicate] at h2
     split at h2
     · cases h2; exact absurd ha List.not_mem_nil
     · cases h2
   · have same : ∀ {M' α' H' σ' δ'}, EnvR [⟨H, fun _ => False, M, M, none⟩] M' α' H' σ' δ' → Same H H' ∧ ∀ a, M a → M' a := fun E' => by
       have k := E'.w _ (List.mem_singleton.mpr rfl)
       exact ⟨fun b o e => k.bs b o e (fun z => z), k.m0⟩
     refine ⟨fun M' α' H' σ' δ' E' q => kk _ _ _ q (same E').1 .non, fun M' α' H' σ' δ' v d E' r' q => kk _ _ _ q (same E').1 (r'.mono fun a o e n => ⟨e, fun z => n ((same E').2 a z)⟩), fun _ _ _ _ _ _ z => z.elim, fun _ _ _ _ _ _ z => z.elim⟩
theorem env_startB {W : Wd} {M : Addr → Prop} {H : Hp} {vs : List V} {ds : List Dt} {n : Nat} {d c : Addr} {t : Int} (al : MOk M H) (r : Reps M H vs ds) (B : Box H d c t) (Md : M d) (Mc : M c) (h0 : W = ⟨H, fun a => a = d ∨ a = c, M, M, some (d, c)⟩) :
  EnvR [W] M ([d, c] :: List.replicate (ds.length + n) []) H (some (.ref d) :: (vs.map some ++ List.replicate n none)) (.bx t :: (ds.map .im ++ List.replicate n .no)) := by
 have E0 := env_start (Ws := []) (n := n) al r (fun W hW => absurd hW List.not_mem_nil)
 have hflat : (List.replicate (ds.length + n) ([] : List Addr)).flatten = [] := by simp
 have ef : (([d, c] : List Addr) :: List.replicate (ds.length + n) []).flatten = [d, c] := by rw [List.flatten_cons, hflat, List.append_nil]
 refine ⟨by rw [List.length_cons, List.length_cons, E0.ls], by rw [List.length_cons, List.length_cons, E0.la], fun i s h => ?_, ?_, fun a ha => ?_, al, fun W' hW => ?_⟩
 · cases i with
   | zero => cases h; exact ⟨_, _, rfl, rfl, d, c, rfl, rfl, B⟩
   | succ i => obtain ⟨o, as, h1, h2, h3⟩ := E0.sl i s (by simpa using h); exact ⟨o, as, by simpa using h1, by simpa using h2, h3⟩
 · rw [ef]
   simp [B.ne]
 · rw [ef] at ha
   simp only [List.mem_cons, List.not_mem_nil, or_false] at ha
   rcases ha with rfl | rfl <;> assumption
 · rw [List.mem_singleton.mp hW, h0]
   refine ⟨fun b o e _ => e, fun b n => n, fun a ha => ?_, fun a h => h, fun a h => .inl h, fun d' c' e => ?_, fun j s as h1 h2 nb a ha => ?_⟩
   · rw [ef] at ha
     simp only [List.mem_cons, List.not_mem_nil, or_false] at ha
     exact .inl ha
   · cases e
     exact ⟨t, rfl, rfl⟩
   · cases j with
     | zero => cases h1; cases nb
     | succ j =>
      rw [List.getElem?_cons_succ, List.getElem?_replicate] at h2
      split at h2
      · cases h2; exact absurd ha List.not_mem_nil
      · cases h2
theorem fnB {x qual : Str} {st : Stmt} {f : Addr} {fd : FuncData} {N ps : List Str} {k : Nat} {S : DB} (F : Fun K x qual st f fd) (sc : FnScope N ps (defScope st)) (len : ∀ t ds Qd, S t ds Qd → ds.length + 1 = ps.length)
  (hbody : ∀ (cdv : Value) (A : Around) (outer : List Env) (s : Shared) (H : Hp) (E : XK), Room k (A.deeper (envOfC qual (defScope st) s.heap.objs.size f cdv)) →
   ∃ T, Exs (cxOf CX0 P w K mg base N qual (defScope st) f cdv A outer s H E).nox (defBody st) T ∧ ∀ t ds Qd, S t ds Qd → T { nx := fun δ => ∃ t', δ[0]? = some (.bx t') ∧ Qd .non t', rt := fun d δ => ∃ t', δ[0]? = some (.bx t') ∧ Qd d t' } (.bx t :: (ds.map .im ++ List.replicate (N.length - ps.length) .no))) :
  FnOk P w K mg base CX0 (k + 1) f fd ps (spB S) := by
 refine F.ok sc (fun vs H Q E h => ?_) (fun cdv A outer s H vs Q E hr h => ?_)
 · obtain ⟨M, d, c, t, ws, ds, Qd, rfl, al, md, mc, B, r, q, _⟩ := h
   rw [List.length_cons, r.1]; exact len t ds Qd q
 · obtain ⟨M, d, c, t, ws, ds, Qd, rfl, al, md, mc, B, r, q, kk⟩ := h
   obtain ⟨T, hT, hq⟩ := hbody cdv A outer s H E hr
   refine ⟨lS T, hT, [⟨H, fun a => a = d ∨ a = c, M, M, some (d, c)⟩], M, [d, c] :: List.replicate (ds.length + (N.length - ps.length)) [], .bx t :: (ds.map .im ++ List.replicate (N.length - ps.length) .no), _, ?_, ?_, hq t ds Qd q⟩
   · have e : L2.start N (.ref d :: ws) = some (.ref d) :: (ws.map some ++ List.replicate (N.length - ps.length) none) := by
       unfold L2.start
       rw [List.map_cons, List.cons_append, List.length_cons, r.1, len t ds Qd q]
     rw [e]
     exact env_startB al r B md mc rfl
   · have same : ∀ {M' α' H' σ' δ' t'}, EnvR [⟨H, fun a => a = d ∨ a = c, M, M, some (d, c)⟩] M' α' H' σ' δ' → δ'[0]? = some (.bx t') → Kp d c H H' ∧ (∀ a, M a → M' a) ∧ Box H' d c t' := fun {M' α' H' σ' δ' t'} E' ht => by
       have k := E'.w _ (List.mem_singleton.mpr rfl)
       refine ⟨fun b o e n1 n2 => k.bs b o e (fun z => z.elim n1 n2), k.m0, ?_⟩
       obtain ⟨t2, e1, e2⟩ := k.bx d c rfl
       obtain ⟨d3, c3, e3, e4, B3⟩ := E'.box ht
       rw [e2] at e4
       cases e4
       exact B3
     refine ⟨fun M' α' H' σ' δ' E' zz4 => (by obtain ⟨t', ht, q⟩ := zz4; exact (kk _ _ _ _ q (same E' ht).1 (same E' ht).2.2 .non)), fun M' α' H' σ' δ' v dd E' r' zz5 => (by obtain ⟨t', ht, q⟩ := zz5; exact (kk _ _ _ _ q (same E' ht).1 (same E' ht).2.2 (r'.mono fun a o e n => ⟨e, fun z => n ((same E' ht).2.1 a z)⟩))), fun _ _ _ _ _ _ z => z.elim, fun _ _ _ _ _ _ z => z.elim⟩
end
end LD
end
section
namespace LD
open PySem PySem.Spec L2 LB PyProof.Rows
def Kf (M : Addr → Prop) (H H1 : Hp) : Prop := ∀ b o, H b = some o → ¬ M b → H1 b = some o
structure Yl (M : Addr → Prop) (H : Hp) (J : It) (its : List Dt) : Prop where
 go : ∀ i H1 M', Kf M H H1 → MOk M' H1 → (∀ b, H b ≠ none → ¬ M b → ¬ M' b) → i < its.length → J.go i H1 ∧ ∀ x H2, J.yld i H1 x H2 → Same H1 H2 ∧ ∃ d, its[i]? = some d ∧ Rep M' H2 x d
 stop : ∀ H1, Kf M H H1 → J.stop its.length H1
abbrev DTI := List Sl → (List Dt → List Sl → Prop) → Prop
inductive lI (t : DTI) (σ : L2.St) (H : Hp) (R : It → Hp → Prop) : Prop
 | mk (W : List Wd) (M : Addr → Prop) (α : List (List Addr)) (δ : List Sl) (Qd : List Dt → List Sl → Prop) (h1 : EnvR W M α H σ δ) (h2 : t δ Qd) (h3 : ∀ its δ' H' J, Qd its δ' → EnvR W M α H' σ δ' → Chg α H H' → Yl M H' J its → R J H')
theorem PI.imp {X : Cx} {tg iter : Expr} {t t' : TI} (h : PI X tg iter t) (i : ∀ σ H R, t' σ H R → t σ H R) : PI X tg iter t' := fun pins s σ H R I q => h pins s σ H R I (i _ _ _ q)
abbrev Iv (X : Cx) (tg iter : Expr) (t : DTI) : Prop := PI X tg iter (lI t)
section
variable {X : Cx} {tg e a b : Expr} {ta t : DTE} {tA : DTA} {p pos : Pos}
theorem yl_range {M : Addr → Prop} {H : Hp} {lo : Int} {n : Nat} : Yl M H (Itr lo n) ((List.range n).map fun k => .int (lo + (k : Nat))) := by
 refine ⟨fun i H1 M' kf mo hb hi => ⟨?_, fun x H2 zz1 => ?_⟩, fun H1 _ => ?_⟩
 · rw [List.length_map, List.length_range] at hi; exact hi
 · obtain ⟨e1, e2⟩ := zz1
   rw [List.length_map, List.length_range] at hi
   subst e1; subst e2
   exact ⟨fun _ _ z => z, .int (lo + i), by rw [List.getElem?_map, List.getElem?_range hi]; rfl, .int _⟩
 · show n ≤ _
   rw [List.length_map, List.length_range]; exact Nat.le_refl _
inductive dRng1_i (Q : List Dt → List Sl → Prop) (ds : List Dt) (δ' : List Sl) : Prop
 | mk (j : Int) (h1 : ds = [.int j]) (h2 : -(2 ^ 62) ≤ j) (h3 : j < 2 ^ 62) (h4 : Q ((List.range j.toNat).map fun k => .int (0 + (k : Nat))) δ')
def dRng1 (t : DTA) : DTI := fun δ Q => t δ fun ds δ' => dRng1_i Q ds δ'
inductive dRng2_i (Q : List Dt → List Sl → Prop) (ds : List Dt) (δ' : List Sl) : Prop
 | mk (i j : Int) (h1 : ds = [.int i, .int j]) (h2 : (-(2 ^ 62) ≤ i ∧ i < 2 ^ 62 ∧ -(2 ^ 62) ≤ j ∧ j < 2 ^ 62)) (h3 : Q ((List.range (j - i).toNat).map fun k => .int (i + (k : Nat))) δ')
def dRng2 (t : DTA) : DTI := fun δ Q => t δ fun ds δ' => dRng2_i Q ds δ'
theorem i_rng1 (hm : X.mg "range" = none) (ha : Av X [a] tA) (hg : autoParam (Gl X "range") au5._auto_1) (hs : autoParam (starEach [a] X.env = [(false, eval a X.env)]) au5._auto_1) : Iv X tg (.Call (.Name "range" p) [a] [] pos) (dRng1 tA) := PI.imp (pi_range1 hg hm ha hs) fun σ H R zz2 => (by obtain ⟨W, M, α, δ, Qd, E, q, k⟩ := zz2; exact (
 ⟨W, M, α, δ, _, E, q, fun ds δ' H' vs zz3 E1 c1 r1 => (by obtain ⟨j, e, l1, l2, q1⟩ := zz3; exact (by
  subst e
  obtain ⟨x, ys, rfl, r2, r3⟩ := r1.uncons
  cases r3.unnil
  cases r2.ofInt
  exact ⟨j, rfl, l1, l2, k _ _ _ _ q1 E1 c1 yl_range⟩))⟩))
theorem i_rng2 (hm : X.mg "range" = none) (ha : Av X [a, b] tA) (hg : autoParam (Gl X "range") au5._auto_1) (hs : autoParam (starEach [a, b] X.env = [(false, eval a X.env), (false, eval b X.env)]) au5._auto_1) (hs2 : autoParam (starEach [b] X.env = [(false, eval b X.env)]) au5._auto_1) : Iv X tg (.Call (.Name "range" p) [a, b] [] pos) (dRng2 tA) := PI.imp (pi_range2 hg hm ha hs hs2) fun σ H R zz4 => (by obtain ⟨W, M, α, δ, Qd, E, q, k⟩ := zz4; exact (
 ⟨W, M, α, δ, _, E, q, fun ds δ' H' vs zz5 E1 c1 r1 => (by obtain ⟨i, j, e, l, q1⟩ := zz5; exact (by
  subst e
  obtain ⟨x, ys, rfl, r2, r3⟩ := r1.uncons
  obtain ⟨y, zs, rfl, r4, r5⟩ := r3.uncons
  cases r5.unnil
  cases r2.ofInt
  cases r4.ofInt
  exact ⟨i, j, rfl, l, k _ _ _ _ q1 E1 c1 yl_range⟩))⟩))
theorem get_of {M M' : Addr → Prop} {H H1 : Hp} {xs : List V} {ds : List Dt} (r : Reps M H xs ds) (kf : Kf M H H1) (hb : ∀ b, H b ≠ none → ¬ M b → ¬ M' b) : Reps M' H1 xs ds := r.mono fun a o e n => ⟨kf a o e n, hb a (by rw [e]; intro z; cases z) n⟩
theorem yl_list {K : PySem.W.Frag} {M : Addr → Prop} {H : Hp} {a : Addr} {xs : List V} {ds : List Dt} (h : H a = some (.lst xs)) (n : ¬ M a) (r : Reps M H xs ds) : Yl M H (Itl K a) ds := by
 refine ⟨fun i H1 M' kf mo hb hi => ?_, fun H1 kf => ⟨xs, SqL.of (kf _ _ h n), by rw [r.1]; exact Nat.le_refl _⟩⟩
 have rr := get_of r kf hb
 have hx : xs[i]? = some (xs[i]'(by rw [r.1]; exact hi)) := List.getElem?_eq_getElem _
 refine ⟨⟨xs, _, SqL.of (kf _ _ h n), hx⟩, fun x H2 zz6 => ?_⟩
 obtain ⟨e, y⟩ := zz6
 subst e
 have := y xs (SqL.of (kf _ _ h n))
 exact ⟨fun _ _ z => z, _, List.getElem?_eq_getElem hi, rr.2 i x _ this (List.getElem?_eq_getElem hi)⟩
theorem yl_tup {K : PySem.W.Frag} {M : Addr → Prop} {H : Hp} {a : Addr} {xs : List V} {ds : List Dt} (h : H a = some (.tup xs)) (n : ¬ M a) (r : Reps M H xs ds) : Yl M H (Itt K a) ds := by
 refine ⟨fun i H1 M' kf mo hb hi => ?_, fun H1 kf => ⟨xs, SqT.of (kf _ _ h n), by rw [r.1]; exact Nat.le_refl _⟩⟩
 have rr := get_of r kf hb
 have hx : xs[i]? = some (xs[i]'(by rw [r.1]; exact hi)) := List.getElem?_eq_getElem _
 refine ⟨⟨xs, _, SqT.of (kf _ _ h n), hx⟩, fun x H2 zz7 => ?_⟩
 obtain ⟨e, y⟩ := zz7
 subst e
 have := y xs (SqT.of (kf _ _ h n))
 exact ⟨fun _ _ z => z, _, List.getElem?_eq_getElem hi, rr.2 i x _ this (List.getElem?_eq_getElem hi)⟩
inductive dItL_i (Q : List Dt → List Sl → Prop) (d : Dt) (δ' : List Sl) : Prop
 | mk (ds : _) (h1 : d = .lst ds) (h2 : Q ds δ')
def dItL (t : DTE) : DTI := fun δ Q => t δ fun d δ' => dItL_i Q d δ'
inductive dItT_i (Q : List Dt → List Sl → Prop) (d : Dt) (δ' : List Sl) : Prop
 | mk (ds : _) (h1 : d = .tup ds) (h2 : Q ds δ')
def dItT (t : DTE) : DTI := fun δ Q => t δ fun d δ' => dItT_i Q d δ'
theorem i_list (h : Ev X e t) : Iv X tg e (dItL t) := PI.imp (pi_list h) fun σ H R zz8 => (by obtain ⟨W, M, α, δ, Qd, E, q, k⟩ := zz8; exact (⟨W, M, α, δ, _, E, q, fun d δ' H' v zz9 E1 c1 r1 => (by obtain ⟨ds, e, q1⟩ := zz9; exact (by
 subst e
 obtain ⟨a, xs, rfl, ha, n, rr⟩ := r1.ofLst
 exact ⟨a, rfl, ⟨xs, SqL.of ha⟩, k _ _ _ _ q1 E1 c1 (yl_list ha n rr)⟩))⟩))
theorem i_tup (h : Ev X e t) : Iv X tg e (dItT t) := PI.imp (pi_tup h) fun σ H R zz10 => (by obtain ⟨W, M, α, δ, Qd, E, q, k⟩ := zz10; exact (⟨W, M, α, δ, _, E, q, fun d δ' H' v zz11 E1 c1 r1 => (by obtain ⟨ds, e, q1⟩ := zz11; exact (by
 subst e
 obtain ⟨a, xs, rfl, ha, n, rr⟩ := r1.ofTup
 exact ⟨a, rfl, ⟨xs, SqT.of ha⟩, k _ _ _ _ q1 E1 c1 (yl_tup ha n rr)⟩))⟩))
noncomputable def enumD (k : Nat) (ds : List Dt) : List Dt := ds.mapIdx fun i d => .tup [.int ((i + k : Nat) : Int), d]
theorem yl_enum {K : PySem.W.Frag} {M : Addr → Prop} {H : Hp} {a : Addr} {xs : List V} {ds : List Dt} {k : Nat} (h : H a = some (.tup xs)) (n : ¬ M a) (r : Reps M H xs ds) : Yl M H (Ite K a k) (enumD k ds) := by
 have hl : (enumD k ds).length = ds.length := by unfold enumD; rw [List.length_mapIdx]
 refine ⟨fun i H1 M' kf mo hb hi => ?_, fun H1 kf => ⟨xs, SqT.of (kf _ _ h n), by rw [r.1, hl]⟩⟩
 rw [hl] at hi
 have rr := get_of r kf hb
 have hx : xs[i]? = some (xs[i]'(by rw [r.1]; exact hi)) := List.getElem?_eq_getElem _
 refine ⟨⟨xs, _, SqT.of (kf _ _ h n), hx⟩, fun x H2 zz12 => ?_⟩
 obtain ⟨pp, y, e1, e2, e3, e4⟩ := zz12
 subst e1; subst e3
 have hy := e4 xs (SqT.of (kf _ _ h n))
 have s : Same H1 (upd H1 pp (.tup [.int ((i + k : Nat) : Int), y])) := Same.new e2
 refine ⟨s, _, by unfold enumD; rw [List.getElem?_mapIdx, List.getElem?_eq_getElem hi]; rfl, Rep.toTup upd_same (mo.fresh e2) (.cons (.int _) (.one ((rr.2 i y _ hy (List.getElem?_eq_getElem hi)).same s)))⟩
inductive dEnum1_i (Q : List Dt → List Sl → Prop) (es : List Dt) (δ' : List Sl) : Prop
 | mk (ds : _) (h1 : es = [.tup ds, .int 1]) (h2 : Q (enumD 1 ds) δ')
def dEnum1 (t : DTA) : DTI := fun δ Q => t δ fun es δ' => dEnum1_i Q es δ'
theorem i_enum1 {f : Expr} {es : List Expr} {x1} {tp : Pos} (hm : X.mg "enumerate" = none) (ha : Av X [e, f] tA) (hg : autoParam (Gl X "enumerate") au5._auto_1) (hs : autoParam (starEach [e, f] X.env = [(false, eval e X.env), (false, eval f X.env)]) au5._auto_1) (hs2 : autoParam (starEach [f] X.env = [(false, eval f X.env)]) au5._auto_1) : Iv X (.Tuple es x1 tp) (.Call (.Name "enumerate" p) [e, f] [] pos) (dEnum1 tA) := PI.imp (pi_enum1 hg hm ha hs hs2) fun σ H R zz15 => (by obtain ⟨W, M, α, δ, Qd, E, q, k⟩ := zz15; exact (
 ⟨W, M, α, δ, _, E, q, fun es δ' H' vs zz16 E1 c1 r1 => (by obtain ⟨ds, e, q1⟩ := zz16; exact (by
  subst e
  obtain ⟨x, ys, rfl, r2, r3⟩ := r1.uncons
  obtain ⟨y, zs, rfl, r4, r5⟩ := r3.uncons
  cases r5.unnil
  cases r4.ofInt
  obtain ⟨a, xs, rfl, ha, n, rr⟩ := r2.ofTup
  exact ⟨a, rfl, ⟨xs, SqT.of ha⟩, k _ _ _ _ q1 E1 c1 (yl_enum ha n rr)⟩))⟩))
noncomputable def zipD (xs ys : List Dt) : List Dt := List.zipWith (fun x y => .tup [x, y]) xs ys
noncomputable def sqD (b : Bool) (ds : List Dt) : Dt := if b then .tup ds else .lst ds
theorem Rep.ofSq {M : Addr → Prop} {H : Hp} {v : V} {b : Bool} {ds : List Dt} (h : Rep M H v (sqD b ds)) : ∃ a xs, v = .ref a ∧ Sqb b H a xs ∧ ¬ M a ∧ Reps M H xs ds ∧ ∀ H1, Kf M H H1 → Sqb b H1 a xs := by
 cases b with
 | true => obtain ⟨a, xs, e, ha, n, r⟩ := Rep.ofTup h; exact ⟨a, xs, e, ha, n, r, fun H1 k => k _ _ ha n⟩
 | false => obtain ⟨a, xs, e, ha, n, r⟩ := Rep.ofLst h; exact ⟨a, xs, e, ha, n, r, fun H1 k => k _ _ ha n⟩
theorem yl_zip {M : Addr → Prop} {H : Hp} {b1 b2 : Bool} {a1 a2 : Addr} {xs ys : List V} {ds es : List Dt} (k1 : ∀ H1, Kf M H H1 → Sqb b1 H1 a1 xs) (k2 : ∀ H1, Kf M H H1 → Sqb b2 H1 a2 ys) (r : Reps M H xs ds) (r2 : Reps M H ys es) : Yl M H (Itz b1 b2 a1 a2) (zipD ds es) := by
 have hl : (zipD ds es).length = min ds.length es.length := by unfold zipD; rw [List.length_zipWith]
 refine ⟨fun i H1 M' kf mo hb hi => ?_, fun H1 kf => ⟨xs, ys, k1 _ kf, k2 _ kf, by rw [hl, r.1, r2.1]; grind⟩⟩
 rw [hl] at hi
 have rr := get_of r kf hb
 have rr2 := get_of r2 kf hb
 have hd : ds[i]? = some (ds[i]'(by grind)) := List.getElem?_eq_getElem _
 have he : es[i]? = some (es[i]'(by grind)) := List.getElem?_eq_getElem _
 obtain ⟨x, hx, rx⟩ := rr.get hd
 obtain ⟨y, hy, ry⟩ := rr2.get he
 refine ⟨⟨xs, x, ys, y, k1 _ kf, hx, k2 _ kf, hy⟩, fun v H2 zz17 => ?_⟩
 obtain ⟨pp, x', y', e1, e2, e3, e4, e5⟩ := zz17
 subst e1; subst e3
 have h1 := e4 xs (k1 _ kf)
 have h2 := e5 ys (k2 _ kf)
 rw [hx] at h1; cases h1
 rw [hy] at h2; cases h2
 have s : Same H1 (upd H1 pp (.tup [x, y])) := Same.new e2
 exact ⟨s, _, by unfold zipD; rw [List.getElem?_zipWith, hd, he], Rep.toTup upd_same (mo.fresh e2) (.cons (rx.same s) (.one (ry.same s)))⟩
inductive dZip_i (Q : List Dt → List Sl → Prop) (es : List Dt) (δ' : List Sl) : Prop
 | mk (b1 b2 ds1 ds2 : _) (h1 : es = [sqD b1 ds1, sqD b2 ds2]) (h2 : Q (zipD ds1 ds2) δ')
def dZip (t : DTA) : DTI := fun δ Q => t δ fun es δ' => dZip_i Q es δ'
theorem i_zip {f : Expr} {es : List Expr} {x1} {tp : Pos} (ha : Av X [e, f] tA) (hp : ∀ {t : TA}, PA X [e, f] t → PI X (.Tuple es x1 tp) (.Call (.Name "zip" p) [e, f] [] pos) (iZip t)) : Iv X (.Tuple es x1 tp) (.Call (.Name "zip" p) [e, f] [] pos) (dZip tA) := PI.imp (hp ha) fun σ H R zz18 => (by obtain ⟨W, M, α, δ, Qd, E, q, k⟩ := zz18; exact (
 ⟨W, M, α, δ, _, E, q, fun es δ' H' vs zz19 E1 c1 r1 => (by obtain ⟨b1, b2, ds1, ds2, e, q1⟩ := zz19; exact (by
  subst e
  obtain ⟨x, ys, rfl, r2, r3⟩ := r1.uncons
  obtain ⟨y, zs, rfl, r4, r5⟩ := r3.uncons
  cases r5.unnil
  obtain ⟨a, xs, rfl, ha, n, rr, kk⟩ := r2.ofSq
  obtain ⟨a2, xs2, rfl, ha2, n2, rr2, kk2⟩ := r4.ofSq
  exact ⟨b1, b2, a, a2, xs, xs2, rfl, ha, ha2, k _ _ _ _ q1 E1 c1 (yl_zip kk kk2 rr rr2)⟩))⟩))
abbrev DTG := Dt → List Sl → (List Sl → Prop) → Prop
inductive lG (g : DTG) (v : V) (σ : L2.St) (H : Hp) (Q : L2.St → Hp → Prop) : Prop
 | mk (W : List Wd) (M : Addr → Prop) (α : List (List Addr)) (δ : List Sl) (d : Dt) (Qd : List Sl → Prop) (h1 : EnvR W M α H σ δ) (h2 : Rep M H v d) (h3 : g d δ Qd) (h4 : ∀ α' δ' σ', Qd δ' → EnvR W M α' H σ' δ' → (∀ x ∈ α'.flatten, x ∈ α.flatten) → Q σ' H)
theorem PG.imp {X : Cx} {tg : Expr} {t t' : TG} (h : PG X tg t) (i : ∀ v σ H Q, t' v σ H Q → t v σ H Q) : PG X tg t' := fun pins s σ H v u Q I r q => h pins s σ H v u Q I r (i _ _ _ _ q)
abbrev Gv (X : Cx) (tg : Expr) (g : DTG) : Prop := PG X tg (lG g)
def dgName (i : Nat) : DTG := fun d δ Q => okSet δ i ∧ Q (δ.set i (.im d))
theorem flat_sub {α : List (List Addr)} {i : Nat} : ∀ x ∈ (α.set i []).flatten, x ∈ α.flatten := fun x h => (flat_set h).elim id fun z => absurd z List.not_mem_nil
theorem gname_read {i : Nat} : ∀ v σ H Q, lG (dgName i) v σ H Q → gName i v σ H Q := fun v σ H Q zz20 => (by obtain ⟨W, M, α, δ, d, Qd, E, r, ⟨ok, q⟩, k⟩ := zz20; exact (k _ _ _ q (E.setIm r ok) flat_sub))
theorem g_name (i : Nat) {x : Str} (hN : X.N.Nodup) (hi : autoParam (X.N[i]? = some x) au5._auto_1) (hx : autoParam (Loc X.env.scope x) au9._auto_1) (hf : autoParam (X.fn x = true ∨ X.env.scope.names.lookup x = some .local) au1._auto_1) : Gv X (.Name x pos) (dgName i) := PG.imp (pg_name hN hi hx hf) gname_read
inductive dgPair (i : Nat) (j : Nat) (d : Dt) (δ : List Sl) (Q : List Sl → Prop) : Prop
 | mk (d1 d2 : _) (h1 : d = .tup [d1, d2]) (h2 : okSet δ i) (h3 : okSet (δ.set i (.im d1)) j) (h4 : Q ((δ.set i (.im d1)).set j (.im d2)))
theorem gpair_read {i j : Nat} {K : PySem.W.Frag} : ∀ v σ H Q, lG (dgPair i j) v σ H Q → gTup K 2 (gCons (gName i) (gCons (gName j) gNil)) v σ H Q := fun v σ H Q zz21 => (by obtain ⟨W, M, α, δ, d, Qd, E, r, ⟨d1, d2, e, ok1, ok2, q⟩, k⟩ := zz21; exact (by
 subst e
 obtain ⟨a, xs, rfl, ha, n, rr⟩ := r.ofTup
 obtain ⟨x, ys, rfl, r2, r3⟩ := rr.uncons
 obtain ⟨y, zs, rfl, r4, r5⟩ := r3.uncons
 cases r5.unnil
 exact ⟨a, _, rfl, SqT.of ha, rfl, x, _, rfl, y, _, rfl, rfl, k _ _ _ q ((E.setIm r2 ok1).setIm r4 ok2) fun x h => flat_sub x (flat_sub x h)⟩))
end
section
variable {X : Cx} {tg iter c : Expr} {body : List Stmt} {ti : DTI} {g : DTG} {tb : DTS} {u : DTT} {pos : Pos}
def dFor (ti : DTI) (g : DTG) (tb : DTS) : DTS := fun Δ δ => ti δ fun its δ1 => ∃ P : Nat → List Sl → Prop, P 0 δ1 ∧ (∀ i d δ2, its[i]? = some d → P i δ2 → g d δ2 fun δ3 => tb { Δ with nx := P (i + 1), ct := P (i + 1), bk := Δ.nx } δ3) ∧ ∀ δ2, P its.length δ2 → Δ.nx δ2
theorem s_for (hc : X.calm = true) (hi : Iv X tg iter ti) (hg : Gv X tg g) (hb : Exs X body tb) (hp : PassesOwn (model X.prog X.w) X.A X.env X.xe) (hs : autoParam (∀ x, foldedSetIterable iter X.env x = pure x) au4._auto_1) : Ex X (.For tg iter body [] pos) (dFor ti g tb) :=
 PS.imp (ps_for hp hc hi hg hb hs) fun D σ H zz1 => (by obtain ⟨Ws, M, α, δ, Δ, E, L, q⟩ := zz1; exact (⟨Ws, M, α, δ, _, E, q, fun its δ1 H1 J zz2 E1 c1 yl => (by obtain ⟨P, p0, step, fin⟩ := zz2; exact (by
  refine ⟨fun i m σ' H' => m = its.length - i ∧ i ≤ its.length ∧ ∃ M' α' δ', EnvR (⟨H1, M, fun _ => False, M, none⟩ :: Ws) M' α' H' σ' δ' ∧ P i δ', ⟨its.length, by simp, Nat.zero_le _, M, α, δ1, E1.loop, p0⟩, ?_⟩
  rintro i m σ' H' ⟨rfl, hi, M', α', δ', E', p'⟩
  have w := E'.w _ List.mem_cons_self
  have kf : Kf M H1 H' := w.bs
  have hb : ∀ b, H1 b ≠ none → ¬ M b → ¬ M' b := fun b n z y => (w.m1 b y).elim z n
  by_cases hlt : i < its.length
  · obtain ⟨go, yld⟩ := yl.go i H' M' kf E'.al hb hlt
    refine .inr ⟨go, fun σ2 H2 => ∃ M2 α2 δ2, EnvR (⟨H1, M, fun _ => False, M, none⟩ :: Ws) M2 α2 H2 σ2 δ2 ∧ P (i + 1) δ2, fun σ2 H2 z => ⟨its.length - (i + 1), by grind, rfl, hlt, z⟩, fun x H2 y => ?_⟩
    obtain ⟨s, d, hd, rx⟩ := yld x H2 y
    refine ⟨_, M', α', δ', d, _, E'.same s, rx, step i d δ' hd p', fun α3 δ3 σ3 q3 E3 _ => ?_⟩
    refine ⟨_, M', α3, δ3, { Δ with nx := P (i + 1), ct := P (i + 1), bk := Δ.nx }, E3, ⟨fun M4 α4 H4 σ4 δ4 E4 q4 => ⟨M4, α4, δ4, E4, q4⟩, fun M4 α4 H4 σ4 δ4 v d E4 r4 q4 => L.rt _ _ _ _ _ _ _ E4.drop r4 q4, fun M4 α4 H4 σ4 δ4 E4 q4 => L.nx _ _ _ _ _ E4.drop q4, fun M4 α4 H4 σ4 δ4 E4 q4 => ⟨M4, α4, δ4, E4, q4⟩⟩, q3⟩
  · have e : i = its.length := by grind
    subst e
    exact .inl ⟨yl.stop H' kf, L.nx _ _ _ _ _ E'.drop (fin _ p')⟩))⟩))
def dWhile (u : DTT) (tb : DTS) : DTS := fun Δ δ => ∃ P : Nat → List Sl → Prop, (∃ m, P m δ) ∧ ∀ m δ1, P m δ1 → u δ1 fun b δ2 => if b = true then tb { Δ with nx := fun δ3 => ∃ m', m' < m ∧ P m' δ3, ct := fun δ3 => ∃ m', m' < m ∧ P m' δ3, bk := Δ.nx } δ2 else Δ.nx δ2
theorem s_while (hc : Tv X c u) (hb : Exs X body tb) (hp : PassesOwn (model X.prog X.w) X.A X.env X.xe) : Ex X (.While c body [] pos) (dWhile u tb) :=
 PS.imp (ps_while hp hc hb) fun D σ H zz3 => (by obtain ⟨Ws, M, α, δ, Δ, E, L, P, ⟨m0, p0⟩, turn⟩ := zz3; exact (by
  refine ⟨fun m σ' H' => ∃ M' α' δ', EnvR Ws M' α' H' σ' δ' ∧ P m δ', ⟨m0, M, α, δ, E, p0⟩, ?_⟩
  rintro m σ' H' ⟨M', α', δ', E', p'⟩
  refine ⟨Ws, M', α', δ', _, E', turn m δ' p', fun b δ2 H2 q2 E2 c2 => ?_⟩
  cases b with
  | true =>
   rw [if_pos rfl] at q2 ⊢
   refine ⟨fun σ3 H3 => ∃ m', m' < m ∧ ∃ M3 α3 δ3, EnvR Ws M3 α3 H3 σ3 δ3 ∧ P m' δ3, fun σ3 H3 z => z, ?_⟩
   exact ⟨Ws, M', α', δ2, { Δ with nx := fun δ3 => ∃ m', m' < m ∧ P m' δ3, ct := fun δ3 => ∃ m', m' < m ∧ P m' δ3, bk := Δ.nx }, E2, ⟨fun M4 α4 H4 σ4 δ4 E4 zz25 => (by obtain ⟨m', l, q4⟩ := zz25; exact (⟨m', l, M4, α4, δ4, E4, q4⟩)), L.rt, fun M4 α4 H4 σ4 δ4 E4 q4 => L.nx _ _ _ _ _ E4 q4, fun M4 α4 H4 σ4 δ4 E4 zz26 => (by obtain ⟨m', l, q4⟩ := zz26; exact (⟨m', l, M4, α4, δ4, E4, q4⟩))⟩, q2⟩
  | false =>
   rw [if_neg Bool.false_ne_true] at q2 ⊢
   exact L.nx _ _ _ _ _ E2 q2))
end
end LD
end
section
namespace LD
open PySem PySem.Spec L2 LB PyProof.Rows
noncomputable def seen : Sl → Sl
 | .im d => .im d
 | .fn f => .fn f
 | _ => .no
noncomputable def cin (nt : Nat) (js : List Nat) (δ : List Sl) : List Sl := List.replicate nt .no ++ js.map fun j => seen (δ.getD j .no)
theorem cin_env {Ws : List Wd} {M : Addr → Prop} {α : List (List Addr)} {H : Hp} {σ : L2.St} {δ : List Sl} {nt : Nat} {js : List Nat} (E : EnvR Ws M α H σ δ) : EnvR [] M (List.replicate (nt + js.length) []) H (st0 nt js σ) (cin nt js δ) := by
 have hflat : (List.replicate (nt + js.length) ([] : List Addr)).flatten = [] := by simp
 refine ⟨by simp [st0, cin], by simp [cin], fun i s h => ?_, by rw [hflat]; exact List.nodup_nil, fun a ha => by rw [hflat] at ha; exact absurd ha List.not_mem_nil, E.al, fun W hW => absurd hW List.not_mem_nil⟩
 have hi := (List.getElem?_eq_some_iff.mp h).1
 have hi' : i < nt + js.length := by simpa [cin] using hi
 have ha : (List.replicate (nt + js.length) ([] : List Addr))[i]? = some [] := by rw [List.getElem?_replicate, if_pos hi']
 unfold cin at h
 unfold st0
 by_cases hl : i < nt
 · rw [List.getElem?_append_left (by simpa using hl), List.getElem?_replicate, if_pos hl] at h
   cases h
   exact ⟨none, [], by rw [List.getElem?_append_left (by simpa using hl), List.getElem?_replicate, if_pos hl], ha, rfl⟩
 · rw [List.getElem?_append_right (by simpa using hl), List.length_replicate, List.getElem?_map] at h
   cases hj : js[i - nt]? with
   | none => rw [hj] at h; cases h
   | some j =>
    rw [hj] at h
    have hs : seen (δ.getD j .no) = s := Option.some.inj h
    refine ⟨(σ[j]?).join, [], by rw [List.getElem?_append_right (by simpa using hl), List.length_replicate, List.getElem?_map, hj]; rfl, ha, ?_⟩
    cases hd : δ[j]? with
    | none =>
     have : δ.getD j .no = .no := by rw [List.getD, hd]; rfl
     rw [this] at hs
     subst hs
     rfl
    | some s' =>
     have e : δ.getD j .no = s' := by rw [List.getD, hd]; rfl
     rw [e] at hs
     cases s' with
     | im d =>
      subst hs
      obtain ⟨v, h1, r⟩ := E.im hd
      exact ⟨rfl, v, by rw [h1]; rfl, r⟩
     | fn f =>
      subst hs
      obtain ⟨o2, as2, h1, _, _, h3⟩ := E.sl j _ hd
      exact ⟨rfl, by rw [h1, h3]; rfl⟩
     | _ => subst hs; rfl
section
variable {X : Cx} {N : List Str} {nt : Nat} {js : List Nat} {scope : Scope} {elt tg iter : Expr} {ifs : List Expr} {pos : Pos} {ti : DTI} {g : DTG} {tc : DTT} {te : DTE}
def dComp (nt : Nat) (js : List Nat) (ti : DTI) (g : DTG) (tc : DTT) (te : DTE) : DTO := fun δ Q => ti δ fun its δ1 => its.length ≤ sizeLine ∧ ∃ (p : Dt → Bool) (f : Dt → Dt), (∀ d ∈ its, g d (cin nt js δ1) fun δ2 => tc δ2 fun b δ3 => b = p d ∧ (b = true → te δ3 fun r _ => r = f d)) ∧ Q ((its.filter p).map f) δ1
theorem comp_read {gh : TG} (hgr : ∀ v σ H Q, lG g v σ H Q → gh v σ H Q) : ∀ σ H Q, lO (dComp nt js ti g tc te) σ H Q → tComp nt js (lI ti) gh (lT tc) (lE te) σ H Q := fun σ H Q zz1 => (by obtain ⟨W, M, α, δ, Qd, E, q, k⟩ := zz1; exact (by
 refine ⟨W, M, α, δ, _, E, q, fun its δ1 H1 J zz2 E1 c1 yl D hD => ?_⟩
 obtain ⟨hsz, p, f, step, q1⟩ := zz2
 have s0 : Same H1 (upd H1 D (.lst [])) := Same.new hD
 refine ⟨fun i m acc H2 => m = its.length - i ∧ i ≤ its.length ∧ H2 D = some (.lst acc) ∧ Reps (fun b => M b ∨ b = D) H2 acc (((its.take i).filter p).map f) ∧ Same H1 H2 ∧ MOk (fun b => M b ∨ b = D) H2, ⟨its.length, by simp, Nat.zero_le _, upd_same, .nil, s0, fun a ha => ?_⟩, ?_⟩
 · rcases ha with ha | ha
   · obtain ⟨o, e, n⟩ := E1.al a ha
     exact ⟨o, s0 _ _ e, n⟩
   · subst ha
     exact ⟨_, upd_same, fun xs z => by cases z⟩
 rintro i m acc H2 ⟨rfl, hi, hD2, racc, s2, mo2⟩
 have kf : Kf M H1 H2 := fun b o e _ => s2 _ _ e
 by_cases hlt : i < its.length
 · have hb : ∀ b, H1 b ≠ none → ¬ M b → ¬ (fun b => M b ∨ b = D) b := fun b n z y => y.elim z fun w => n (by rw [w]; exact hD)
   obtain ⟨go, yld⟩ := yl.go i H2 (fun b => M b ∨ b = D) kf mo2 hb hlt
   have hlen : acc.length < sizeLine := by
    rw [racc.1, List.length_map]
    exact Nat.lt_of_le_of_lt (Nat.le_trans (List.length_filter_le _ _) (by rw [List.length_take]; omega)) (Nat.lt_of_lt_of_le hlt hsz)
   refine .inr ⟨go, hlen, fun acc' H' => H' D = some (.lst acc') ∧ Reps (fun b => M b ∨ b = D) H' acc' (((its.take (i + 1)).filter p).map f) ∧ Same H1 H' ∧ MOk (fun b => M b ∨ b = D) H', fun acc' H' zz3 => (by obtain ⟨z1, z2, z3, z4⟩ := zz3; exact (⟨its.length - (i + 1), by omega, rfl, hlt, z1, z2, z3, z4⟩)), fun x H3 y => ?_⟩
   obtain ⟨s3, d, hd, rx⟩ := yld x H3 y
   have E2 : EnvR [] (fun b => M b ∨ b = D) (List.replicate (nt + js.length) []) H2 (st0 nt js σ) (cin nt js δ1) := by
    have su : Same (upd H1 D (.lst acc)) H2 := fun b o e => by
     by_cases hb : b = D
     · subst hb; rw [upd_same] at e; cases e; exact hD2
     · rw [upd_ne hb] at e; exact s2 _ _ e
    have Ea : EnvR [] (fun b => M b ∨ b = D) α H2 σ δ1 := ⟨E1.ls, E1.la, fun i s h => let ⟨o, as, h1, h2, h3⟩ := E1.sl i s h; ⟨o, as, h1, h2, (h3.grow (u := .lst acc) hD).same su⟩, E1.nd, fun a h => .inl (E1.mu a h), mo2, fun W hW => absurd hW List.not_mem_nil⟩
    exact cin_env Ea
   have E3 := E2.same s3
   have hflat : (List.replicate (nt + js.length) ([] : List Addr)).flatten = [] := by simp
   refine hgr _ _ _ _ ⟨[], _, _, _, d, _, E3, rx, step d (List.mem_of_getElem? hd), fun α4 δ4 σ4 q4 E4 hα => ?_⟩
   have fl4 : α4.flatten = [] := List.eq_nil_iff_forall_not_mem.mpr fun x hx => by have := hα x hx; rw [hflat] at this; exact absurd this List.not_mem_nil
   refine ⟨[], _, α4, δ4, _, E4, q4, fun b δ5 H5 zz4 E5 c5 => ?_⟩
   obtain ⟨hp, q5⟩ := zz4
   have s5 : Same H3 H5 := fun b o e => c5 b o e (by rw [fl4]; exact List.not_mem_nil)
   have s25 : Same H2 H5 := fun b o e => s5 _ _ (s3 _ _ e)
   have tk : its.take (i + 1) = its.take i ++ [d] := by rw [List.take_add_one, hd]; rfl
   cases b with
   | false =>
    refine iteF ⟨s25 _ _ hD2, ?_, fun b o e => s25 _ _ (s2 _ _ e), E5.al⟩
    rw [tk, List.filter_append, List.map_append]
    simp [← hp]
    exact racc.same s25
   | true =>
    refine iteT ⟨[], _, α4, δ5, _, E5, q5 rfl, fun r δ6 H6 v e6 E6 c6 r6 => ?_⟩
    subst e6
    have s6 : Same H5 H6 := fun b o e => c6 b o e (by rw [fl4]; exact List.not_mem_nil)
    have s26 : Same H2 H6 := fun b o e => s6 _ _ (s25 _ _ e)
    have hD6 := s26 _ _ hD2
    have up : ∀ {zs : List V} {ds : List Dt}, Reps (fun b => M b ∨ b = D) H6 zs ds → Reps (fun b => M b ∨ b = D) (upd H6 D (.lst (acc ++ [v]))) zs ds := fun r => r.mono fun a o e n => ⟨by rw [upd_ne (fun z => n (.inr z))]; exact e, n⟩
    refine ⟨hD6, upd_same, ?_, fun b o e => by rw [upd_ne (ne_of_none e hD)]; exact s26 _ _ (s2 _ _ e), fun a ha => ?_⟩
    · rw [tk, List.filter_append, List.map_append]
      have e1 : List.filter p [d] = [d] := by simp [← hp]
      rw [e1]
      exact up ((racc.same s26).append (.one r6))
    · by_cases hb : a = D
      · subst hb; exact ⟨_, upd_same, fun xs z => by cases z⟩
      · rw [upd_ne hb]; exact E6.al a ha
 · have e : i = its.length := by omega
   subst e
   refine .inl ⟨yl.stop H2 kf, ?_⟩
   rw [List.take_length] at racc
   have eH : upd (fun b => if b = D then none else H2 b) D (.lst acc) = H2 := by
    funext b
    by_cases hb : b = D
    · subst hb; rw [upd_same, hD2]
    · rw [upd_ne hb, if_neg hb]
   rw [← eH]
   have sH : Same H1 (fun b => if b = D then none else H2 b) := fun b o e => by
    show (if b = D then none else H2 b) = some o
    rw [if_neg (ne_of_none e hD)]; exact s2 _ _ e
   refine k _ _ _ _ _ q1 (E1.same sH) (c1.tr (Chg.of sH)) (racc.mono fun a o e n => ⟨?_, fun z => n (.inl z)⟩) (by show (if D = D then none else H2 D) = none; rw [if_pos rfl])
   show (if a = D then none else H2 a) = some o
   rw [if_neg (fun z => n (.inr z))]; exact e))
theorem o_comp {gh : TG} (S : CpOk X N nt js scope) (hc : X.calm = true) (hi : Iv X tg iter ti) (hg : ∀ s H cl C ex, PG (blk X N scope s H cl C ex) tg gh) (hlow : GLow nt gh) (hgr : ∀ v σ H Q, lG g v σ H Q → gh v σ H Q) (hf : ∀ s H cl C ex, PF (blk X N scope s H cl C ex) ifs (lT tc)) (he : ∀ s H cl C ex, Ev (blk X N scope s H cl C ex) elt te)
  (hs : autoParam (∀ x, foldedSetIterable iter X.env x = pure x) au4._auto_1) : Ov X (.ListComp elt [⟨tg, iter, ifs, 0⟩] scope pos) (dComp nt js ti g tc te) := PE.imp (pe_comp S hc hi hg hlow hf he hs) (comp_read hgr)
theorem s_comp (i : Nat) {gh : TG} {y : Str} {pos' py : Pos} (hN : X.N.Nodup) (S : CpOk X N nt js scope) (hc : X.calm = true) (hi : Iv X tg iter ti) (hg : ∀ s H cl C ex, PG (blk X N scope s H cl C ex) tg gh) (hlow : GLow nt gh) (hgr : ∀ v σ H Q, lG g v σ H Q → gh v σ H Q) (hf : ∀ s H cl C ex, PF (blk X N scope s H cl C ex) ifs (lT tc)) (he : ∀ s H cl C ex, Ev (blk X N scope s H cl C ex) elt te)
  (hiN : autoParam (X.N[i]? = some y) au5._auto_1) (hy : autoParam (Loc X.env.scope y) au9._auto_1) (hsw : autoParam (swapsWith (.ListComp elt [⟨tg, iter, ifs, 0⟩] scope pos) (some (.Name y py)) pos'.line X.env = pure true) au5._auto_1) (hs : autoParam (∀ x, foldedSetIterable iter X.env x = pure x) au4._auto_1)
  (hfn : autoParam (X.fn y = true ∨ X.env.scope.names.lookup y = some .local) au1._auto_1) :
  Ex X (.Assign [.Name y py] (.ListComp elt [⟨tg, iter, ifs, 0⟩] scope pos) pos') (dSetO i (dComp nt js ti g tc te)) := PS.imp (ps_comp hN hiN hy S hc hi hg hlow hf he hsw hs hfn) fun D σ H h => by
 obtain ⟨Ws, M, α, δ, Δ, E, L, q⟩ := h
 exact comp_read hgr _ _ _ ⟨Ws, M, α, δ, _, E, q, fun ds δ' H1 xs a zz5 E1 c1 r1 h1 => (by obtain ⟨ok, q1⟩ := zz5; exact (L.nx _ _ _ _ _ (E1.setNew (s := .ow ds) h1 (fun xs z => by cases z) ok rfl ⟨a, xs, rfl, rfl, upd_same, r1.grow h1⟩) q1))⟩
def dTrue : DTT := fun δ Q => Q true δ
theorem f_nil : PF X [] (lT dTrue) := fun pins s σ H Q I zz6 => (by obtain ⟨W, M, α, δ, Qd, E, q, k⟩ := zz6; exact (pf_nil pins s σ H Q I (k _ _ _ q E Chg.rf)))
theorem f_one {c : Expr} {t : DTT} (h : Tv X c t) : PF X [c] (lT t) := pf_one h
theorem glow_pair {nt i j : Nat} {K : PySem.W.Frag} (hi : autoParam (i < nt) au2._auto_1) (hj : autoParam (j < nt) au2._auto_1) : GLow nt (gTup K 2 (gCons (gName i) (gCons (gName j) gNil))) := glow_tup (glow_cons hi (gmono_name gmono_nil) (glow_cons hj gmono_nil glow_nil))
end
end LD
end
section
namespace LD
open PySem PySem.Spec L2 LB PyProof.Rows
structure Held (Ws : List Wd) (M : Addr → Prop) (α : List (List Addr)) (a : Addr) : Prop where
 m : M a
 n : a ∉ α.flatten
 w : ∀ W ∈ Ws, (W.A0 a ∨ W.H0 a = none) ∧ ¬ W.M0 a
def HeR (M : Addr → Prop) (H : Hp) (v : V) (s : Sl) (as : List Addr) : Prop := s.isBx = false ∧ SlR M H (some v) s as
inductive HeRs (Ws : List Wd) (M : Addr → Prop) (α : List (List Addr)) (H : Hp) : List V → List Sl → List Addr → Prop where
 | nil : HeRs Ws M α H [] [] []
 | cons {v : V} {s : Sl} {as bs : List Addr} {vs : List V} {ss : List Sl} : HeR M H v s as → (∀ a ∈ as, Held Ws M α a) → as.Nodup → (∀ a ∈ as, a ∉ bs) → HeRs Ws M α H vs ss bs → HeRs Ws M α H (v :: vs) (s :: ss) (as ++ bs)
abbrev DTH := List Sl → (List Sl → List Sl → Prop) → Prop
inductive lH (t : DTH) (σ : L2.St) (H : Hp) (Q : List V → Hp → Prop) : Prop
 | mk (W : List Wd) (M : Addr → Prop) (α : List (List Addr)) (δ : List Sl) (Qd : List Sl → List Sl → Prop) (h1 : EnvR W M α H σ δ) (h2 : t δ Qd) (h3 : ∀ ss δ' H' vs M' bs, Qd ss δ' → EnvR W M' α H' σ δ' → Chg α H H' → (∀ a, M a → M' a) → (∀ a, M' a → M a ∨ H a = none) → HeRs W M' α H' vs ss bs → (∀ a ∈ bs, ¬ M a) → Q vs H')
abbrev Hv (X : Cx) (es : List Expr) (t : DTH) : Prop := PA X es (lH t)
theorem SlR.keep {M M' : Addr → Prop} {H H' : Hp} {o : Option V} {s : Sl} {as : List Addr} (h : SlR M H o s as) (k : ∀ b u, H b = some u → ¬ M b → H' b = some u ∧ ¬ M' b) (k2 : ∀ a ∈ as, ∀ u, H a = some u → H' a = some u) (nb : s.isBx = false) : SlR M' H' o s as := by
 cases s with
 | no => exact h
 | im d => exact ⟨h.1, let ⟨v, e, r⟩ := h.2; ⟨v, e, r.mono k⟩⟩
 | ow ds => obtain ⟨a, xs, e1, e2, e3, r⟩ := h; subst e1; exact ⟨a, xs, rfl, e2, k2 a (by simp) _ e3, r.mono k⟩
 | bx t => cases nb
 | dk ks ds => obtain ⟨a, vs, e1, e2, e3, e4, r⟩ := h; subst e1; exact ⟨a, vs, rfl, e2, k2 a (by simp) _ e3, e4, r.mono k⟩
 | ob R => obtain ⟨v, e, r⟩ := h; exact ⟨v, e, R.st r (fun a ha u q => k2 a ha _ q) k⟩
 | fn f => exact h
section
variable {X : Cx} {e : Expr} {es : List Expr} {t : DTE} {th : DTH}
def hNil : DTH := fun δ Q => Q [] δ
def hIm (t : DTE) (th : DTH) : DTH := fun δ Q => t δ fun d δ1 => th δ1 fun ss δ2 => Q (.im d :: ss) δ2
def hOw (t : DTO) (th : DTH) : DTH := fun δ Q => t δ fun ds δ1 => th δ1 fun ss δ2 => Q (.ow ds :: ss) δ2
def hDk (th : DTH) : DTH := fun δ Q => th δ fun ss δ2 => Q (.dk [] [] :: ss) δ2
theorem h_nil : Hv X [] hNil := PA.imp pa_nil fun σ H Q zz1 => (by obtain ⟨W, M, α, δ, Qd, E, q, k⟩ := zz1; exact (k _ _ _ _ _ _ q E Chg.rf (fun _ z => z) (fun _ z => .inl z) .nil (fun a ha => absurd ha List.not_mem_nil)))
theorem h_im (ha : Ev X e t) (hr : Hv X es th) (hs : autoParam (starEach (e :: es) X.env = (false, eval e X.env) :: starEach es X.env) au5._auto_1) : Hv X (e :: es) (hIm t th) := PA.imp (pa_cons ha hr hs) fun σ H Q zz2 => (by obtain ⟨W, M, α, δ, Qd, E, q, k⟩ := zz2; exact (
 ⟨W, M, α, δ, _, E, q, fun d δ1 H1 x q1 E1 c1 r1 => ⟨W, M, α, δ1, _, E1, q1, fun ss δ2 H2 vs M' bs q2 E2 c2 m1 m2 hh hb =>
  k _ _ _ _ _ _ q2 E2 (c1.tr c2) m1 (fun a z => (m2 a z).elim .inl fun y => by
   cases e : H a with
   | none => exact .inr rfl
   | some o => by_cases hf : a ∈ α.flatten
               · exact .inl (E.mu a hf)
               · rw [c1 _ _ e hf] at y; cases y)
   (HeRs.cons (as := []) ⟨rfl, rfl, x, rfl, r1.mono fun a o e n => ⟨c2 _ _ e fun z => n (E1.mu a z), fun z => (m2 a z).elim n fun y => by rw [e] at y; cases y⟩⟩ (fun a ha => absurd ha List.not_mem_nil) List.nodup_nil (fun a ha => absurd ha List.not_mem_nil) hh) hb⟩⟩))
theorem EnvR.hold {W : List Wd} {M : Addr → Prop} {α : List (List Addr)} {H : Hp} {σ : L2.St} {δ : List Sl} (E : EnvR W M α H σ δ) {p : Addr} {u : HO} (hp : H p = none) (hu : ∀ xs, u ≠ .tup xs) : EnvR W (fun b => M b ∨ b = p) α (upd H p u) σ δ ∧ Held W (fun b => M b ∨ b = p) α p := by
 have sm : Same H (upd H p u) := Same.new hp
 have np : p ∉ α.flatten := fun z => E.fresh hp (E.mu p z)
 have h0 : ∀ W' ∈ W, W'.H0 p = none := fun W' hW => by
  cases e : W'.H0 p with
  | none => rfl
  | some o => exact absurd hp ((E.w W' hW).ex p (by rw [e]; intro z; cases z))
 refine ⟨⟨E.ls, E.la, fun j s hj => let ⟨o, as, h1, h2, h3⟩ := E.sl j s hj; ⟨o, as, h1, h2, h3.grow hp⟩, E.nd, fun a h => .inl (E.mu a h), fun a ha => ?_, fun W' hW => ?_⟩, ⟨.inr rfl, np, fun W' hW => ⟨.inr (h0 W' hW), fun z => E.fresh hp ((E.w W' hW).m0 p z)⟩⟩⟩
 · rcases ha with ha | ha
   · obtain ⟨o, e, n⟩ := E.al a ha
     exact ⟨o, sm _ _ e, n⟩
   · subst ha
     exact ⟨u, upd_same, hu⟩
 · have k := E.w W' hW
   exact ⟨fun b o e n => sm _ _ (k.bs b o e n), fun b n y => k.ex b n (LW.Same.none sm y), k.fr, fun a h => .inl (k.m0 a h), fun a h => h.elim (k.m1 a) fun z => .inr (by rw [z]; exact h0 W' hW), k.bx, k.fz⟩
theorem held_cons {W : List Wd} {M : Addr → Prop} {α : List (List Addr)} {H1 H2 : Hp} {σ : L2.St} {δ1 δ2 : List Sl} {p : Addr} {u : HO} {s : Sl} {vs : List V} {ss : List Sl} {M' : Addr → Prop} {bs : List Addr}
  (hp : H1 p = none) (E1 : EnvR W M α H1 σ δ1) (hd : Held W (fun b => M b ∨ b = p) α p) (hs : SlR (fun b => M b ∨ b = p) (upd H1 p u) (some (.ref p)) s [p]) (nb : s.isBx = false) (E2 : EnvR W M' α H2 σ δ2) (c2 : Chg α (upd H1 p u) H2)
  (m1 : ∀ a, (M a ∨ a = p) → M' a) (m2 : ∀ a, M' a → (M a ∨ a = p) ∨ (upd H1 p u) a = none) (hh : HeRs W M' α H2 vs ss bs) (hb : ∀ a ∈ bs, ¬ (M a ∨ a = p)) : HeRs W M' α H2 (.ref p :: vs) (s :: ss) ([p] ++ bs) :=
 HeRs.cons ⟨nb, hs.keep (fun b w e n => ⟨c2 _ _ e fun z => n (.inl (E1.mu b z)), fun z => (m2 b z).elim n fun y => by rw [e] at y; cases y⟩) (fun a ha w e => c2 _ _ e (by rw [List.mem_singleton.mp ha]; exact hd.n)) nb⟩
  (fun a ha => by rw [List.mem_singleton.mp ha]; exact ⟨m1 p (.inr rfl), hd.n, hd.w⟩) (by simp) (fun a ha => by rw [List.mem_singleton.mp ha]; exact fun z => hb p z (.inr rfl)) hh
theorem m2_of {α : List (List Addr)} {M M' : Addr → Prop} {H H1 : Hp} {p : Addr} {u : HO} {a : Addr} (mu : ∀ a ∈ α.flatten, M a) (c1 : Chg α H H1) (h1 : H1 p = none) (m2 : M' a → (M a ∨ a = p) ∨ (upd H1 p u) a = none) (z : M' a) : M a ∨ H a = none := by
 cases e : H a with
 | none => exact .inr rfl
 | some o =>
  by_cases hf : a ∈ α.flatten
  · exact .inl (mu a hf)
  · have e1 := c1 _ _ e hf
    rcases m2 z with (y | y) | y
    · exact .inl y
    · subst y; rw [h1] at e1; cases e1
    · rw [upd_ne (ne_of_none e1 h1), e1] at y; cases y
theorem h_ow {t : DTO} (ha : Ov X e t) (hr : Hv X es th) (hs : autoParam (starEach (e :: es) X.env = (false, eval e X.env) :: starEach es X.env) au5._auto_1) : Hv X (e :: es) (hOw t th) := PA.imp (pa_cons ha hr hs) fun σ H Q zz1 => (by obtain ⟨W, M, α, δ, Qd, E, q, k⟩ := zz1; exact (
 ⟨W, M, α, δ, _, E, q, fun ds δ1 H1 xs p q1 E1 c1 r1 h1 => by
  have sm : Same H1 (upd H1 p (.lst xs)) := Same.new h1
  obtain ⟨E1', hd⟩ := E1.hold (u := .lst xs) h1 (fun xs z => by cases z)
  refine ⟨W, _, α, δ1, _, E1', q1, fun ss δ2 H2 vs M' bs q2 E2 c2 m1 m2 hh hb => ?_⟩
  exact k _ _ _ _ _ _ q2 E2 ((c1.tr (Chg.of sm)).tr c2) (fun a z => m1 a (.inl z)) (fun a z => m2_of E.mu c1 h1 (m2 a) z) (held_cons (s := .ow ds) h1 E1 hd ⟨p, xs, rfl, rfl, upd_same, r1.grow h1⟩ rfl E2 c2 m1 m2 hh hb)
   (fun a ha => by
    rcases List.mem_append.mp ha with y | y
    · rw [List.mem_singleton.mp y]; exact E1.fresh h1
    · exact fun z => hb a y (.inl z))⟩))
theorem h_dk {pos : Pos} (hr : Hv X es th) (hs : autoParam (starEach (.Dict [] [] pos :: es) X.env = (false, eval (.Dict [] [] pos) X.env) :: starEach es X.env) au5._auto_1) : Hv X (.Dict [] [] pos :: es) (hDk th) := PA.imp (pa_cons pe_dnewK hr hs) fun σ H Q zz2 => (by obtain ⟨W, M, α, δ, Qd, E, q, k⟩ := zz2; exact (fun p h1 => by
  have sm : Same H (upd H p (.dK [])) := Same.new h1
  obtain ⟨E1', hd⟩ := E.hold (u := .dK []) h1 (fun xs z => by cases z)
  refine ⟨W, _, α, δ, _, E1', q, fun ss δ2 H2 vs M' bs q2 E2 c2 m1 m2 hh hb => ?_⟩
  exact k _ _ _ _ _ _ q2 E2 ((Chg.of sm).tr c2) (fun a z => m1 a (.inl z)) (fun a z => m2_of E.mu Chg.rf h1 (m2 a) z) (held_cons (s := .dk [] []) h1 E hd ⟨p, [], rfl, rfl, upd_same, rfl, .nil⟩ rfl E2 c2 m1 m2 hh hb)
   (fun a ha => by
    rcases List.mem_append.mp ha with y | y
    · rw [List.mem_singleton.mp y]; exact E.fresh h1
    · exact fun z => hb a y (.inl z))))
end
theorem EnvR.setHe {Ws : List Wd} {M : Addr → Prop} {α : List (List Addr)} {H : Hp} {σ : L2.St} {δ : List Sl} {i : Nat} {v : V} {s : Sl} {as : List Addr} (E : EnvR Ws M α H σ δ) (h : HeR M H v s as) (hh : ∀ a ∈ as, Held Ws M α a) (nd : as.Nodup) (ok : okSet δ i) : EnvR Ws M (α.set i as) H (σ.set i (some v)) (δ.set i s) := by
 have hi := ok.lt
 obtain ⟨s0, hs0, nb⟩ := ok
 refine ⟨by rw [List.length_set, List.length_set, E.ls], by rw [List.length_set, List.length_set, E.la], fun j s' hj => ?_, flat_nd_set E.nd nd (fun x hx => (hh x hx).n), fun a ha => (flat_set ha).elim (E.mu a) fun z => (hh a z).m, E.al, fun W hW => ?_⟩
 · by_cases hij : i = j
   · subst hij
     rw [List.getElem?_set_self hi] at hj
     cases hj
     exact ⟨some v, as, by rw [List.getElem?_set_self (by rw [E.ls]; exact hi)], by rw [List.getElem?_set_self (by rw [E.la]; exact hi)], h.2⟩
   · rw [List.getElem?_set_ne hij] at hj
     obtain ⟨o, as, h1, h2, h3⟩ := E.sl j s' hj
     exact ⟨o, as, by rw [List.getElem?_set_ne hij]; exact h1, by rw [List.getElem?_set_ne hij]; exact h2, h3⟩
 · have k := E.w W hW
   refine ⟨k.bs, k.ex, fun a ha => (flat_set ha).elim (k.fr a) fun z => ((hh a z).w W hW).1, k.m0, k.m1, fun d c e => ?_, fun j s as' h1 h2 nb' => ?_⟩
   · obtain ⟨t, e1, e2⟩ := k.bx d c e
     have : i ≠ 0 := fun z => by subst z; rw [hs0] at e1; cases e1; cases nb
     exact ⟨t, by rw [List.getElem?_set_ne this]; exact e1, by rw [List.getElem?_set_ne this]; exact e2⟩
   · by_cases hij : i = j
     · subst hij
       rw [List.getElem?_set_self (by rw [E.la]; exact hi)] at h2
       cases h2
       exact fun a ha => ((hh a ha).w W hW).2
     · rw [List.getElem?_set_ne hij] at h1 h2
       exact k.fz j s as' h1 h2 nb'
theorem Held.set {Ws : List Wd} {M : Addr → Prop} {α : List (List Addr)} {a : Addr} {i : Nat} {as : List Addr} (h : Held Ws M α a) (n : a ∉ as) : Held Ws M (α.set i as) a := ⟨h.m, fun z => (flat_set z).elim h.n n, h.w⟩
end LD
end
section
namespace LD
open PySem PySem.Spec L2 LB PyProof.Rows
noncomputable def keyD : Dt → Option Key
 | .int i => some (.inl i)
 | .str x => some (.inr x)
 | _ => none
theorem key_rep {M : Addr → Prop} {H : Hp} {v : V} {d : Dt} {k : Key} (r : Rep M H v d) (h : keyD d = some k) : v = kV k := by
 cases r <;> first | (cases h; rfl) | cases h
noncomputable def valD : List Key → List Dt → Key → Option Dt
 | k' :: ks, d :: ds, k => if k' = k then some d else valD ks ds k
 | _, _, _ => none
instance {k : Key} {ks : List Key} : Decidable (k ∈ ks) := decidable_of_iff ((ks.any fun x => decide (x = k)) = true) (by simp)
noncomputable def putKs (ks : List Key) (k : Key) : List Key := if k ∈ ks then ks else ks ++ [k]
noncomputable def putDs (ks : List Key) (ds : List Dt) (k : Key) (d : Dt) : List Dt := if k ∈ ks then List.zipWith (fun k' x => if k' = k then d else x) ks ds else ds ++ [d]
theorem valD_none : ∀ {ks : List Key} {ds : List Dt} {k : Key}, k ∉ ks → valD ks ds k = none
 | [], _, _, _ => by simp [valD]
 | _ :: _, [], _, _ => by simp [valD]
 | k' :: ks, d :: ds, k, h => by
  rw [valD, if_neg (fun z => h (by rw [z]; exact List.mem_cons_self)), valD_none fun z => h (List.mem_cons_of_mem _ z)]
theorem valD_app : ∀ {ks : List Key} {ds : List Dt} {k k' : Key} {d : Dt}, ks.length = ds.length → valD (ks ++ [k']) (ds ++ [d]) k = (valD ks ds k).or (if k' = k then some d else none)
 | [], [], k, k', d, _ => by simp [valD]
 | [], _ :: _, _, _, _, h => by simp at h
 | _ :: _, [], _, _, _, h => by simp at h
 | k0 :: ks, d0 :: ds, k, k', d, h => by
  rw [List.cons_append, List.cons_append, valD, valD, valD_app (by simpa using h)]
  split <;> simp
theorem valD_zip : ∀ {ks : List Key} {ds : List Dt} {k k' : Key} {d : Dt}, ks.length = ds.length → valD ks (List.zipWith (fun k'' x => if k'' = k' then d else x) ks ds) k = if k' = k then (if k ∈ ks then some d else none) else valD ks ds k
 | [], [], k, k', d, _ => by simp [valD]
 | [], _ :: _, _, _, _, h => by simp at h
 | _ :: _, [], _, _, _, h => by simp at h
 | k0 :: ks, d0 :: ds, k, k', d, h => by
  rw [List.zipWith_cons_cons, valD, valD, valD_zip (by simpa using h)]
  by_cases h1 : k0 = k
  · subst h1
    by_cases h2 : k0 = k'
    · subst h2; simp
    · simp [h2, Ne.symm h2]
  · by_cases h2 : k' = k
    · subst h2; simp [h1, Ne.symm h1]
    · simp [h1, h2]
theorem valD_put {ks : List Key} {ds : List Dt} {k k' : Key} {d : Dt} (hl : ks.length = ds.length) : valD (putKs ks k') (putDs ks ds k' d) k = if k' = k then some d else valD ks ds k := by
 unfold putKs putDs
 by_cases h : k' ∈ ks
 · rw [if_pos h, if_pos h, valD_zip hl]
   by_cases h2 : k' = k
   · subst h2; rw [if_pos rfl, if_pos rfl, if_pos h]
   · rw [if_neg h2, if_neg h2]
 · rw [if_neg h, if_neg h, valD_app hl]
   by_cases h2 : k' = k
   · subst h2; rw [valD_none h]; simp
   · rw [if_neg h2, if_neg h2]; simp
theorem put_len {ks : List Key} {ds : List Dt} {k : Key} {d : Dt} (hl : ks.length = ds.length) : (putKs ks k).length = (putDs ks ds k d).length := by
 unfold putKs putDs
 split
 · rw [List.length_zipWith]; omega
 · simp [hl]
theorem val_rep {M : Addr → Prop} {H : Hp} {k : Key} : ∀ {vs : List (Key × V)} {ds : List Dt}, Reps M H (vs.map (·.2)) ds → (∀ d, valD (vs.map (·.1)) ds k = some d → ∃ v, valV vs k = some v ∧ Rep M H v d) ∧ (valD (vs.map (·.1)) ds k).isSome = (valV vs k).isSome
 | [], ds, r => by
  refine ⟨fun d h => ?_, ?_⟩
  · cases ds <;> simp [valD] at h
  · cases ds <;> rfl
 | p :: vs, [], r => by have := r.1; simp at this
 | p :: vs, d0 :: ds, r => by
  obtain ⟨x, ys, e, r1, r2⟩ := r.uncons
  cases e
  obtain ⟨i1, i2⟩ := val_rep (k := k) r2
  rw [List.map_cons]
  by_cases h : p.1 = k
  · rw [valV_pos h, valD, if_pos h]
    exact ⟨fun d e => by cases e; exact ⟨_, rfl, r1⟩, rfl⟩
  · rw [valV_neg h, valD, if_neg h]
    exact ⟨i1, i2⟩
theorem any_mem {k : Key} : ∀ {vs : List (Key × V)}, (vs.any fun kv => decide (kv.1 = k)) = decide (k ∈ vs.map (·.1))
 | [] => by simp
 | p :: vs => by
  rw [List.any_cons, any_mem, List.map_cons]
  by_cases h : p.1 = k
  · subst h; simp
  · simp [h, Ne.symm h]
theorem put_fst {vs : List (Key × V)} {k : Key} {v : V} : (putK vs k v).map (·.1) = putKs (vs.map (·.1)) k := by
 unfold putK putKs
 rw [any_mem]
 by_cases h : k ∈ vs.map (·.1)
 · rw [if_pos (by simpa using h), if_pos h, List.map_map]
   refine List.map_congr_left fun p hp => ?_
   simp only [Function.comp]
   split <;> rfl
 · rw [if_neg (by simpa using h), if_neg h, List.map_append]
   rfl
theorem put_zip {M : Addr → Prop} {H : Hp} {k : Key} {v : V} {d : Dt} (rv : Rep M H v d) : ∀ {vs : List (Key × V)} {ds : List Dt}, Reps M H (vs.map (·.2)) ds → Reps M H ((vs.map fun kv => if kv.1 = k then (kv.1, v) else kv).map (·.2)) (List.zipWith (fun k' x => if k' = k then d else x) (vs.map (·.1)) ds)
 | [], ds, r => by simp; exact .nil
 | p :: vs, [], r => by have := r.1; simp at this
 | p :: vs, d0 :: ds, r => by
  obtain ⟨x, ys, e, r1, r2⟩ := r.uncons
  cases e
  rw [List.map_cons, List.map_cons, List.map_cons, List.zipWith_cons_cons]
  refine .cons ?_ (put_zip rv r2)
  by_cases h : p.1 = k
  · rw [if_pos h, if_pos h]; exact rv
  · rw [if_neg h, if_neg h]; exact r1
theorem put_snd {M : Addr → Prop} {H : Hp} {k : Key} {v : V} {d : Dt} {vs : List (Key × V)} {ds : List Dt} (r : Reps M H (vs.map (·.2)) ds) (rv : Rep M H v d) : Reps M H ((putK vs k v).map (·.2)) (putDs (vs.map (·.1)) ds k d) := by
 unfold putK putDs
 rw [any_mem]
 by_cases h : k ∈ vs.map (·.1)
 · rw [if_pos (by simpa using h), if_pos h]
   exact put_zip rv r
 · rw [if_neg (by simpa using h), if_neg h, List.map_append]
   exact r.append (.one rv)
theorem EnvR.dk {Ws : List Wd} {M : Addr → Prop} {α : List (List Addr)} {H : Hp} {σ : L2.St} {δ : List Sl} {i : Nat} {ks : List Key} {ds : List Dt} (E : EnvR Ws M α H σ δ) (h : δ[i]? = some (.dk ks ds)) : ∃ a vs, σ[i]? = some (some (.ref a)) ∧ α[i]? = some [a] ∧ H a = some (.dK vs) ∧ vs.map (·.1) = ks ∧ Reps M H (vs.map (·.2)) ds := by
 obtain ⟨o, as, h1, h2, a, vs, rfl, rfl, e, e2, r⟩ := E.sl i _ h
 exact ⟨a, vs, h1, h2, e, e2, r⟩
theorem dk_mod {Ws : List Wd} {M : Addr → Prop} {α : List (List Addr)} {H : Hp} {σ : L2.St} {δ : List Sl} {i : Nat} {ks ks' : List Key} {ds ds' : List Dt} {a : Addr} {vs' : List (Key × V)} (E : EnvR Ws M α H σ δ) (h : δ[i]? = some (.dk ks ds)) (h1 : σ[i]? = some (some (.ref a))) (h2 : α[i]? = some [a]) (e : vs'.map (·.1) = ks') (r : Reps M H (vs'.map (·.2)) ds') :
  EnvR Ws M α (upd H a (.dK vs')) σ (δ.set i (.dk ks' ds')) ∧ Chg α H (upd H a (.dK vs')) :=
 E.mod h h1 h2 rfl ⟨a, vs', rfl, rfl, upd_same, e, r.mono fun b u e n => ⟨by rw [upd_ne (fun z => n (by rw [z]; exact E.mu a (flat_get h2 (by simp))))]; exact e, n⟩⟩ (fun b u e n => by rw [upd_ne (fun z => n (by rw [z]; simp))]; exact e) (fun b hb => by rw [List.mem_singleton.mp hb]; exact ⟨_, upd_same, fun xs z => by cases z⟩)
theorem EnvR.frzD {Ws : List Wd} {M : Addr → Prop} {α : List (List Addr)} {H : Hp} {σ : L2.St} {δ : List Sl} {i : Nat} (E : EnvR Ws M α H σ δ) {ks : List Key} {ds : List Dt} (hi : δ[i]? = some (.dk ks ds)) : ∃ M' α', EnvR Ws M' α' H σ (δ.set i (.im (.dic ks ds))) := by
 have hlt := (List.getElem?_eq_some_iff.mp hi).1
 obtain ⟨a, xs, h1, h2, h3, h4, r⟩ := E.dk hi
 have mono : ∀ {v : V} {d : Dt}, Rep M H v d → Rep (fun b => M b ∧ b ≠ a) H v d := fun r => r.mono fun b u e n => ⟨e, fun z => n z.1⟩
 have monos : ∀ {v : List V} {d : List Dt}, Reps M H v d → Reps (fun b => M b ∧ b ≠ a) H v d := fun r => r.mono fun b u e n => ⟨e, fun z => n z.1⟩
 refine ⟨fun b => M b ∧ b ≠ a, α.set i [], ⟨by rw [List.length_set, E.ls], by rw [List.length_set, List.length_set, E.la], fun j s hj => ?_, flat_nd_set E.nd List.nodup_nil (fun x hx => absurd hx List.not_mem_nil), fun b hb => ?_, fun b hb => E.al b hb.1, fun W hW => ?_⟩⟩
 · by_cases hij : i = j
   · subst hij
     rw [List.getElem?_set_self hlt] at hj
     cases hj
     have rm := monos r
     exact ⟨some (.ref a), [], h1, by rw [List.getElem?_set_self (by rw [E.la]; exact hlt)], rfl, _, rfl, .dic h3 (fun z => z.2 rfl) h4 rm.1 rm.2⟩
   · rw [List.getElem?_set_ne hij] at hj
     obtain ⟨o2, as2, g1, g2, g3⟩ := E.sl j s hj
     refine ⟨o2, as2, g1, by rw [List.getElem?_set_ne hij]; exact g2, ?_⟩
     cases s with
     | no => exact g3
     | im d => exact ⟨g3.1, let ⟨v, e, r⟩ := g3.2; ⟨v, e, mono r⟩⟩
     | ow ds => obtain ⟨b, xs, e1, e2, e3, r⟩ := g3; exact ⟨b, xs, e1, e2, e3, monos r⟩
     | bx t => exact g3
     | dk ks ds => obtain ⟨b, vs, e1, e2, e3, e4, r⟩ := g3; exact ⟨b, vs, e1, e2, e3, e4, monos r⟩
     | ob R => obtain ⟨v, e, r⟩ := g3; exact ⟨v, e, R.st r (fun _ _ _ q => q) fun b u q n => ⟨q, fun z => n z.1⟩⟩
     | fn f => exact g3
 · obtain ⟨l, hl, hx⟩ := List.mem_flatten.mp hb
   obtain ⟨j, hj, e⟩ := List.getElem_of_mem hl
   have ej : (α.set i [])[j]? = some l := by rw [List.getElem?_eq_getElem hj, e]
   by_cases hij : i = j
   · subst hij
     rw [List.getElem?_set_self (by rw [E.la]; exact hlt)] at ej
     cases ej
     exact absurd hx List.not_mem_nil
   · rw [List.getElem?_set_ne hij] at ej
     refine ⟨E.mu b (flat_get ej hx), fun z => ?_⟩
     subst z
     exact flat_apart E.nd ej h2 (Ne.symm hij) hx (by simp)
 · have k := E.w W hW
   refine ⟨k.bs, k.ex, fun b hb => (flat_set hb).elim (k.fr b) fun z => absurd z List.not_mem_nil, fun b z => ⟨k.m0 b z, fun y => ?_⟩, fun b z => k.m1 b z.1, fun d c e => ?_, fun j s as g1 g2 nb => ?_⟩
   · subst y
     exact k.fz i _ _ hi h2 rfl b (by simp) z
   · obtain ⟨t, e1, e2⟩ := k.bx d c e
     have : i ≠ 0 := fun z => by subst z; rw [hi] at e1; cases e1
     exact ⟨t, by rw [List.getElem?_set_ne this]; exact e1, by rw [List.getElem?_set_ne this]; exact e2⟩
   · by_cases hij : i = j
     · subst hij
       rw [List.getElem?_set_self (by rw [E.la]; exact hlt)] at g2
       cases g2
       exact fun b hb => absurd hb List.not_mem_nil
     · rw [List.getElem?_set_ne hij] at g1 g2
       exact k.fz j s as g1 g2 nb
section
variable {X : Cx} {st : Stmt} {rest : List Stmt} {T : DTS} {a b c e : Expr} {ta tb tv t : DTE} {pos : Pos}
inductive dFrzD (i : Nat) (T : DTS) (Δ : DEnds) (δ : List Sl) : Prop
 | mk (ks ds : _) (h1 : δ[i]? = some (.dk ks ds)) (h2 : T Δ (δ.set i (.im (.dic ks ds))))
theorem frzD_read {i : Nat} : ∀ D σ H, lS (dFrzD i T) D σ H → lS T D σ H := fun D σ H zz1 => (by obtain ⟨Ws, M, α, δ, Δ, E, L, ks, ds, h, q⟩ := zz1; exact (by
 obtain ⟨M', α', E'⟩ := E.frzD h
 exact ⟨Ws, M', α', _, Δ, E', L, q⟩))
theorem s_frzD (i : Nat) (h : Ex X st T) : Ex X st (dFrzD i T) := PS.imp h frzD_read
inductive dDPut_i (i : Nat) (Δ : DEnds) (d : Dt) (d2 : Dt) (δ2 : List Sl) : Prop
 | mk (k ks ds : _) (h1 : keyD d2 = some k) (h2 : δ2[i]? = some (.dk ks ds)) (h3 : ks.length < sizeLine) (h4 : Δ.nx (δ2.set i (.dk (putKs ks k) (putDs ks ds k d))))
def dDPut (i : Nat) (tb tv : DTE) : DTS := fun Δ δ => tv δ fun d δ1 => (∃ ks0 ds0, δ1[i]? = some (.dk ks0 ds0)) ∧ tb δ1 fun d2 δ2 => dDPut_i i Δ d d2 δ2
theorem s_dput (i : Nat) {x : Str} {xp pos' : Pos} (hu : X.A.units + 1 < cLine) (ho : PE X (.Name x xp) (tVar i)) (hb : Ev X b tb) (hv : Ev X e tv) (hs : autoParam (swapsWith e (some (.Subscript (.Name x xp) b pos')) pos.line X.env = pure false) au5._auto_1) :
  Ex X (.Assign [.Subscript (.Name x xp) b pos'] e pos) (dDPut i tb tv) := PS.imp (ps_dput hu ho hb hv hs) fun D σ H zz1 => (by obtain ⟨Ws, M, α, δ, Δ, E, L, q⟩ := zz1; exact (
 ⟨Ws, M, α, δ, _, E, q, fun d δ1 H1 v zz2 E1 c1 r1 => (by obtain ⟨⟨ks0, ds0, h0⟩, q1⟩ := zz2; exact (by
  obtain ⟨a, vs0, h1, h2, h3, h4, r3⟩ := E1.dk h0
  refine ⟨_, h1, Ws, M, α, δ1, _, E1, q1, fun d2 δ2 H2 y zz4 E2 c2 r2 => ?_⟩
  obtain ⟨k, ks, ds, hk, hd, l, q2⟩ := zz4
  obtain ⟨a', vs, h1', h2', h3', h4', r3'⟩ := E2.dk hd
  rw [h1] at h1'
  cases h1'
  rw [key_rep r2 hk]
  refine ⟨a, _, rfl, DPut.k h3' (by rw [← h4', List.length_map] at l; exact l), ?_⟩
  obtain ⟨E3, _⟩ := dk_mod E2 hd h1 h2' put_fst (put_snd r3' (r1.chg E1 c2))
  rw [h4'] at E3
  exact L.nx _ _ _ _ _ E3 q2))⟩))
inductive dDGet_i (Q : Dt → List Sl → Prop) (d1 : Dt) (d2 : Dt) (δ2 : List Sl) : Prop
 | mk (ks ds k d : _) (h1 : d1 = .dic ks ds) (h2 : keyD d2 = some k) (h3 : valD ks ds k = some d) (h4 : Q d δ2)
def dDGet (ta tb : DTE) : DTE := fun δ Q => ta δ fun d1 δ1 => tb δ1 fun d2 δ2 => dDGet_i Q d1 d2 δ2
theorem d_dget (hu : X.A.units + 1 < cLine) (ha : Ev X a ta) (hb : Ev X b tb) (hs : autoParam (NoSl b) au8._auto_1) : Ev X (.Subscript a b pos) (dDGet ta tb) := PE.imp (pe_dget hu ha hb hs) fun σ H Q zz5 => (by obtain ⟨W, M, α, δ, Qd, E, q, k⟩ := zz5; exact (
 ⟨W, M, α, δ, _, E, q, fun d1 δ1 H1 x q1 E1 c1 r1 => ⟨W, M, α, δ1, _, E1, q1, fun d2 δ2 H2 y zz6 E2 c2 r2 => (by obtain ⟨ks, ds, kk, d, e, hk, hv, q2⟩ := zz6; exact (by
  subst e
  obtain ⟨a, vs, rfl, ha, n, e2, rr⟩ := (r1.chg E1 c2).ofDic
  subst e2
  obtain ⟨v, hv', rv⟩ := (val_rep rr).1 d hv
  rw [key_rep r2 hk]
  exact ⟨a, v, rfl, by rw [← hv']; exact DGet.k ha, k _ _ _ _ q2 E2 (c1.tr c2) rv⟩))⟩⟩))
inductive dDIn_i (neg : Bool) (Q : Dt → List Sl → Prop) (d2 : Dt) (d1 : Dt) (δ2 : List Sl) : Prop
 | mk (ks ds k : _) (h1 : d1 = .dic ks ds) (h2 : keyD d2 = some k) (h3 : Q (.bl (if neg then !(valD ks ds k).isSome else (valD ks ds k).isSome)) δ2)
def dDIn (neg : Bool) (tb ta : DTE) : DTE := fun δ Q => tb δ fun d2 δ1 => ta δ1 fun d1 δ2 => dDIn_i neg Q d2 d1 δ2
theorem din_read : ∀ σ H Q, lE (dDIn false tb ta) σ H Q → tDIn (lE tb) (lE ta) σ H Q := fun σ H Q zz9 => (by obtain ⟨W, M, α, δ, Qd, E, q, k⟩ := zz9; exact (
 ⟨W, M, α, δ, _, E, q, fun d2 δ1 H1 y q1 E1 c1 r1 => ⟨W, M, α, δ1, _, E1, q1, fun d1 δ2 H2 x zz10 E2 c2 r2 => (by obtain ⟨ks, ds, kk, e, hk, q2⟩ := zz10; exact (by
  subst e
  obtain ⟨a, vs, rfl, ha, n, e2, rr⟩ := r2.ofDic
  subst e2
  rw [key_rep r1 hk]
  exact ⟨a, _, rfl, DGet.k ha, by rw [← (val_rep rr).2]; exact k _ _ _ _ q2 E2 (c1.tr c2) (.bl _)⟩))⟩⟩))
theorem dnotin_read : ∀ σ H Q, lE (dDIn true tb ta) σ H Q → tDNotIn (lE tb) (lE ta) σ H Q := fun σ H Q zz11 => (by obtain ⟨W, M, α, δ, Qd, E, q, k⟩ := zz11; exact (
 ⟨W, M, α, δ, _, E, q, fun d2 δ1 H1 y q1 E1 c1 r1 => ⟨W, M, α, δ1, _, E1, q1, fun d1 δ2 H2 x zz12 E2 c2 r2 => (by obtain ⟨ks, ds, kk, e, hk, q2⟩ := zz12; exact (by
  subst e
  obtain ⟨a, vs, rfl, ha, n, e2, rr⟩ := r2.ofDic
  subst e2
  rw [key_rep r1 hk]
  exact ⟨a, _, rfl, DGet.k ha, by rw [← (val_rep rr).2]; exact k _ _ _ _ q2 E2 (c1.tr c2) (.bl _)⟩))⟩⟩))
theorem t_din (hu : X.A.units + 1 < cLine) (hb : Ev X b tb) (ha : Ev X a ta) (h1 : autoParam (behindInMarks .In a = false) au5._auto_1) : Tv X (.Compare b [.In] [a] pos) (dT (dDIn false tb ta)) := PT.imp (pt_cmp (pc_din hu hb ha) h1) fun σ H Q h => din_read _ _ _ (test_read _ _ _ h)
theorem t_dnotin (hu : X.A.units + 1 < cLine) (hb : Ev X b tb) (ha : Ev X a ta) (h1 : autoParam (behindInMarks .NotIn a = false) au5._auto_1) : Tv X (.Compare b [.NotIn] [a] pos) (dT (dDIn true tb ta)) := PT.imp (pt_cmp (pc_dnotin hu hb ha) h1) fun σ H Q h => dnotin_read _ _ _ (test_read _ _ _ h)
end
end LD
end
section
namespace LD
open PySem PySem.Spec L2 LB PyProof.Rows
def spLaw (K : PySem.W.Frag) : Sp := fun vs H Q _ => ∃ (a : Addr) (ns : List Int), vs = [.ref a] ∧ SqL K H a (ns.map V.int) ∧ ns.length ≤ 63 ∧ ∀ H', Q (.bl true) H'
def takeS : DB := fun t ds Q => ∃ m, ds = [.int m] ∧ t < 1000000 ∧ 0 < m ∧ m < 2 ^ 64 ∧ ∀ r, 0 ≤ r → r < m → Q (.int r) (t + 1)
theorem take_of {vs : List V} {H : Hp} {Q : VK} {E : XK} (h : spB takeS vs H Q E) : spTake vs H Q E := by
 obtain ⟨M, d, c, t, ws, ds, Qd, rfl, al, md, mc, B, r, ⟨m, rfl, t1, m0, m1, q⟩, k⟩ := h
 obtain ⟨x, ys, rfl, r1, r2⟩ := r.uncons
 cases r2.unnil
 cases r1.ofInt
 exact ⟨d, c, t, m, rfl, B, t1, m0, m1, fun r H' r0 r1 B' kp => k _ _ _ _ (q r r0 r1) kp B' (.int r)⟩
section
variable {P : Program} {w : World} {K : PySem.W.Frag} {mg : Str → Option Value} {base : Heap}
theorem lawOk {st : Stmt} {f : Addr} {fd : FuncData} {N : List Str} {k : Nat} (F : Fun K "law" "law" st f fd) (sc : FnScope N ["_law_script"] (defScope st)) (hN : 2 ≤ N.length)
  (hbody : ∀ (cdv : Value) (A : Around) (outer : List Env) (s : Shared) (H : Hp) (E : XK), Room k (A.deeper (envOfC "law" (defScope st) s.heap.objs.size f cdv)) →
   ∃ s1 rest T, defBody st = s1 :: rest ∧ PS (cxOf CX0 P w K mg base N "law" (defScope st) f cdv A outer s H E).nox s1 (tAsg (tCall (spBegin K) [] E0 (tCons (tVar 0) tNil)) (gName 1)) ∧ Exs (cxOf CX0 P w K mg base N "law" (defScope st) f cdv A outer s H E).nox rest T ∧
    T { nx := fun _ => False, rt := fun d _ => d = .bl true } (.no :: .bx 0 :: List.replicate (N.length - 2) .no)) : FnOk P w K mg base CX0 (k + 1) f fd ["_law_script"] (spLaw K) := by
 refine F.ok sc (fun vs H Q E h => ?_) (fun cdv A outer s H vs Q E hr h => ?_)
 · obtain ⟨a, ns, rfl, _⟩ := h; rfl
 · obtain ⟨a, ns, rfl, hS, hlen, q⟩ := h
   obtain ⟨s1, rest, T, e, h1, h2, hT⟩ := hbody cdv A outer s H E hr
   rw [e]
   refine ⟨_, pss_cons h1 h2, ?_⟩
   have es : L2.start N [V.ref a] = some (.ref a) :: none :: List.replicate (N.length - 2) none := by
    unfold L2.start
    rw [show N.length - [V.ref a].length = (N.length - 2) + 1 by show N.length - 1 = _; omega, List.replicate_succ]
    rfl
   rw [es]
   refine ⟨_, rfl, a, ns, rfl, hS, hlen, fun d c H1 B1 s1' => ?_⟩
   have hflat : (([] : List Addr) :: [d, c] :: List.replicate (N.length - 2) []).flatten = [d, c] := by simp
   refine ⟨[], fun b => b = d ∨ b = c, [] :: [d, c] :: List.replicate (N.length - 2) [], .no :: .bx 0 :: List.replicate (N.length - 2) .no, _, ?_, ?_, hT⟩
   · refine ⟨by simp, by simp, fun i s' hi => ?_, by rw [hflat]; simp [B1.ne], fun b hb => by rw [hflat] at hb; simpa using hb, fun b hb => ?_, fun W hW => absurd hW List.not_mem_nil⟩
     · match i with
       | 0 => cases hi; exact ⟨_, _, rfl, rfl, rfl⟩
       | 1 => cases hi; exact ⟨_, _, rfl, rfl, d, c, rfl, rfl, B1⟩
       | i + 2 =>
        have hi' : (List.replicate (N.length - 2) Sl.no)[i]? = some s' := by simpa using hi
        rw [List.getElem?_replicate] at hi'
        split at hi'
        · rename_i hlt
          cases hi'
          refine ⟨none, [], ?_, ?_, rfl⟩
          · show (List.replicate (N.length - 2) (none : Option V))[i]? = _
            rw [List.getElem?_replicate, if_pos hlt]
          · show (List.replicate (N.length - 2) ([] : List Addr))[i]? = _
            rw [List.getElem?_replicate, if_pos hlt]
        · cases hi'
     · rcases hb with rfl | rfl
       · exact ⟨_, B1.dc, fun xs z => by cases z⟩
       · obtain ⟨ns, h, _⟩ := B1.cs
         exact ⟨_, h, fun xs z => by cases z⟩
   · exact ⟨fun _ _ _ _ _ _ z => z.elim, fun M' α' H' σ' δ' v dd E' r' z => by subst z; rw [r'.ofBl]; exact q H', fun _ _ _ _ _ _ z => z.elim, fun _ _ _ _ _ _ z => z.elim⟩
end
end LD
end
section
namespace LD
open PySem PySem.Spec L2 LB PyProof.Rows
section
variable {X : Cx} {a b c e : Expr} {es : List Expr} {ta tb tc t : DTE} {tA : DTA} {pos p : Pos}
def dChain (R R' : D2) (ta tb tc : DTE) : DTE := fun δ Q => ta δ fun d1 δ1 => tb δ1 fun d2 δ2 => R d1 d2 fun d => ∃ k, d = .bl k ∧ (if k = true then tc δ2 fun d3 δ3 => R' d2 d3 fun d' => Q d' δ3 else Q (.bl false) δ2)
theorem chain_read {r r' : R2} {R R' : D2} (hd : DOp r R) (hd' : DOp r' R') : ∀ σ H Q, lE (dChain R R' ta tb tc) σ H Q → tChain r r' (lE ta) (lE tb) (lE tc) σ H Q := fun σ H Q zz1 => (by obtain ⟨W, M, α, δ, Qd, E, q, k⟩ := zz1; exact (
 ⟨W, M, α, δ, _, E, q, fun d1 δ1 H1 x q1 E1 c1 r1 => ⟨W, M, α, δ1, _, E1, q1, fun d2 δ2 H2 y q2 E2 c2 r2 => hd M H2 x y d1 d2 _ _ E2.al (r1.chg E1 c2) r2 q2 fun H3 v d zz2 s r3 => (by obtain ⟨kk, e, q3⟩ := zz2; exact (by
  subst e
  refine ⟨kk, r3.ofBl, ?_⟩
  have E3 := E2.same s
  cases kk with
  | true =>
   rw [if_pos rfl] at q3 ⊢
   exact ⟨W, M, α, δ2, _, E3, q3, fun d3 δ3 H4 z q4 E4 c4 r4 => hd' M H4 y z d2 d3 _ _ E4.al ((r2.same s).chg E3 c4) r4 q4 fun H5 v d q5 s5 r5 => k _ _ _ _ q5 (E4.same s5) ((((c1.tr c2).tr (Chg.of s)).tr c4).tr (Chg.of s5)) r5⟩
  | false =>
   rw [if_neg Bool.false_ne_true] at q3 ⊢
   exact k _ _ _ _ q3 E3 ((c1.tr c2).tr (Chg.of s)) (.bl _)))⟩⟩))
theorem t_chain {op op' : CmpOp} {r r' : R2} {R R' : D2} (ho : OpR X (compareOp op) r) (ho' : OpR X (compareOp op') r') (hd : DOp r R) (hd' : DOp r' R') (ha : Ev X a ta) (hb : Ev X b tb) (hc : Ev X c tc) (hm : autoParam (lastMarks [op, op'] [b, c] = false) au6._auto_1) :
  Tv X (.Compare a [op, op'] [b, c] pos) (dT (dChain R R' ta tb tc)) := PT.imp (pt_chain ho ho' ha hb hc hm) fun σ H Q h => chain_read hd hd' _ _ _ (test_read _ _ _ h)
theorem ints_rep {M : Addr → Prop} {H : Hp} : ∀ {xs : List V} {ns : List Int}, Reps M H xs (ns.map .int) → xs = ns.map V.int
 | [], [], _ => rfl
 | [], _ :: _, h => by have := h.1; simp at this
 | _ :: _, [], h => by have := h.1; simp at this
 | x :: xs, n :: ns, h => by
  rw [List.map_cons] at h
  obtain ⟨y, ys, e, r1, r2⟩ := h.uncons
  cases e
  rw [r1.ofInt, ints_rep r2, List.map_cons]
theorem rep_ints {M : Addr → Prop} {H : Hp} : ∀ {ns : List Int}, Reps M H (ns.map V.int) (ns.map .int)
 | [] => .nil
 | n :: ns => .cons (.int n) rep_ints
theorem boot_sorted' : bootBuiltins "sorted" = some (.builtin "sorted") := by decide +kernel
theorem boot_max' : bootBuiltins "max" = some (.builtin "max") := by decide +kernel
theorem boot_min' : bootBuiltins "min" = some (.builtin "min") := by decide +kernel
theorem boot_all' : bootBuiltins "all" = some (.builtin "all") := by decide +kernel
theorem one_arg {M : Addr → Prop} {H : Hp} {xs : List V} {d : Dt} (h : Reps M H xs [d]) : ∃ x, xs = [x] ∧ Rep M H x d := by
 obtain ⟨x, ys, rfl, r1, r2⟩ := h.uncons
 cases r2.unnil
 exact ⟨x, rfl, r1⟩
theorem bools_rep {M : Addr → Prop} {H : Hp} : ∀ {xs : List V} {ns : List Bool}, Reps M H xs (ns.map .bl) → xs = ns.map V.bl
 | [], [], _ => rfl
 | [], _ :: _, h => by have := h.1; simp at this
 | _ :: _, [], h => by have := h.1; simp at this
 | x :: xs, n :: ns, h => by
  rw [List.map_cons] at h
  obtain ⟨y, ys, e, r1, r2⟩ := h.uncons
  cases e
  rw [r1.ofBl, bools_rep r2, List.map_cons]
inductive D_all (ds : List Dt) (Q : Dt → Prop) : Prop
 | mk (bs : List Bool) (h1 : ds = [.lst (bs.map .bl)]) (h2 : Q (.bl (bs.all id)))
theorem d_all (hc : X.calm = true) (hm : X.mg "all" = none) (ha : Av X [e] tA) (hg : autoParam (Gl X "all") au5._auto_1) (he : autoParam (starEach [e] X.env = (false, eval e X.env) :: starEach [] X.env) au5._auto_1) (hpl : autoParam ((backTo pos (starEach [] X.env)).any (·.1) = false) au5._auto_1) :
  Ev X (.Call (.Name "all" p) [e] [] pos) (dCa D_all tA) := d_callB (call_all hc) (fun M H xs ds Qd Q al r zz6 k => (by obtain ⟨bs, e, q⟩ := zz6; exact (by
 subst e
 obtain ⟨x, rfl, r1⟩ := one_arg r
 obtain ⟨a, zs, rfl, ha, n, rr⟩ := r1.ofLst
 rw [bools_rep rr] at ha
 exact ⟨a, bs, rfl, SqL.of ha, k H _ _ q (fun _ _ z => z) (.bl _)⟩))) hg hm boot_all' ha (by decide) (by decide) he hpl
end
end LD
end
section
namespace LD
open PySem PySem.Spec L2 LB PyProof.Rows
section
variable {X : Cx} {a b c e : Expr} {es : List Expr} {ta tb tc t : DTE} {tA : DTA} {pos p apos cpos : Pos}
inductive dEnumK_i (Q : List Dt → List Sl → Prop) (es : List Dt) (ks : List Dt) (δ2 : List Sl) : Prop
 | mk (ds : _) (h1 : es = [.tup ds]) (h2 : ks = [.int 1]) (h3 : Q (enumD 1 ds) δ2)
def dEnumK (tA tk : DTA) : DTI := fun δ Q => tA δ fun es δ1 => tk δ1 fun ks δ2 => dEnumK_i Q es ks δ2
theorem i_enumK {kws : List Keyword} {tk : TA} {tkd : DTA} {es : List Expr} {x1} {tp : Pos} (hm : X.mg "enumerate" = none) (ha : Av X [e] tA) (hk : PK X kws tk) (hkr : ∀ σ H Q, lA tkd σ H Q → tk σ H Q) (hg : autoParam (Gl X "enumerate") au5._auto_1)
  (hks : autoParam ((backToKw pos (keywordEach kws X.env)).filterMap (·.1) = (["start"] : List Str)) au5._auto_1) (k1 : autoParam (backTo pos (starEach [e] X.env) = (false, eval e X.env) :: backTo pos (starEach [] X.env)) au5._auto_1) (k2 : autoParam ((backTo pos (starEach [e] X.env)).any (·.1) = false) au5._auto_1)
  (k3 : autoParam ((backToKw pos (keywordEach kws X.env)).all (·.1.isSome) = true) au5._auto_1) (k4 : autoParam ((backToKw pos (keywordEach kws X.env)).any (·.1.isNone) = false) au5._auto_1) : Iv X (.Tuple es x1 tp) (.Call (.Name "enumerate" p) [e] kws pos) (dEnumK tA tkd) :=
 PI.imp (pi_enumK hg hm ha hk hks k1 k2 k3 k4) fun σ H R zz7 => (by obtain ⟨W, M, α, δ, Qd, E, q, k⟩ := zz7; exact (⟨W, M, α, δ, _, E, q, fun es δ1 H1 vs q1 E1 c1 r1 => hkr _ _ _ ⟨W, M, α, δ1, _, E1, q1, fun ks δ2 H2 zs zz8 E2 c2 r2 => (by obtain ⟨ds, e1, e2, q2⟩ := zz8; exact (by
  subst e1; subst e2
  obtain ⟨x, rfl, rx⟩ := one_arg (r1.chg E1 c2)
  obtain ⟨y, rfl, ry⟩ := one_arg r2
  cases ry.ofInt
  obtain ⟨a, xs, rfl, ha, n, rr⟩ := rx.ofTup
  exact ⟨a, rfl, rfl, ⟨xs, SqT.of ha⟩, k _ _ _ _ q2 E2 (c1.tr c2) (yl_enum ha n rr)⟩))⟩⟩))
theorem cons_read : ∀ σ H Q, lA (dCons t dNil) σ H Q → tCons (lE t) tNil σ H Q := fun σ H Q zz9 => (by obtain ⟨W, M, α, δ, Qd, E, q, k⟩ := zz9; exact (⟨W, M, α, δ, _, E, q, fun d δ1 H1 x q1 E1 c1 r1 => k _ _ _ _ q1 E1 c1 (.one r1)⟩))
theorem i_enumS {nm : Option Str} {kpos : Pos} {f : Expr} {es : List Expr} {x1} {tp : Pos} (hm : X.mg "enumerate" = none) (ha : Av X [e] tA) (hf : Ev X f t) (hg : autoParam (Gl X "enumerate") au5._auto_1)
  (hks : autoParam ((backToKw pos (keywordEach [⟨nm, f, kpos⟩] X.env)).filterMap (·.1) = (["start"] : List Str)) au5._auto_1) (k1 : autoParam (backTo pos (starEach [e] X.env) = (false, eval e X.env) :: backTo pos (starEach [] X.env)) au5._auto_1) (k2 : autoParam ((backTo pos (starEach [e] X.env)).any (·.1) = false) au5._auto_1)
  (k3 : autoParam ((backToKw pos (keywordEach [⟨nm, f, kpos⟩] X.env)).all (·.1.isSome) = true) au5._auto_1) (k4 : autoParam ((backToKw pos (keywordEach [⟨nm, f, kpos⟩] X.env)).any (·.1.isNone) = false) au5._auto_1) : Iv X (.Tuple es x1 tp) (.Call (.Name "enumerate" p) [e] [⟨nm, f, kpos⟩] pos) (dEnumK tA (dCons t dNil)) :=
 i_enumK hm ha (pk_cons hf pk_nil) cons_read hg hks k1 k2 k3 k4
inductive dNilL_i (neg : Bool) (Q : Dt → List Sl → Prop) (d : Dt) (δ' : List Sl) : Prop
 | mk (ds : _) (h1 : d = .lst ds) (h2 : Q (.bl (if neg then !ds.isEmpty else ds.isEmpty)) δ')
def dNilL (neg : Bool) (ta : DTE) : DTE := fun δ Q => ta δ fun d δ' => dNilL_i neg Q d δ'
inductive dNilO (neg : Bool) (i : Nat) (δ : List Sl) (Q : Dt → List Sl → Prop) : Prop
 | mk (ds : _) (h1 : δ[i]? = some (.ow ds)) (h2 : Q (.bl (if neg then !ds.isEmpty else ds.isEmpty)) δ)
theorem nilL_read {neg : Bool} {r : R2} (hr : ∀ (H : Hp) (Q : VK) (p q : Addr) (xs : List V), H p = some (.lst xs) → H q = some (.lst []) → Q (.bl (if neg then !xs.isEmpty else xs.isEmpty)) H → r (.ref p) (.ref q) H Q) : ∀ σ H Q, lE (dNilL neg ta) σ H Q → tOp r (lE ta) (tLst tNil) σ H Q := fun σ H Q zz10 => (by obtain ⟨W, M, α, δ, Qd, E, q, k⟩ := zz10; exact (
 ⟨W, M, α, δ, _, E, q, fun d δ1 H1 x zz11 E1 c1 r1 => (by obtain ⟨ds, e, q1⟩ := zz11; exact (⟨Nat.zero_le _, fun p hp => by
  subst e
  obtain ⟨a, xs, rfl, ha, n, rr⟩ := r1.ofLst
  have s : Same H1 (upd H1 p (.lst [])) := Same.new hp
  exact hr _ _ _ _ xs (s _ _ ha) upd_same (by rw [empty_rep rr]; exact k _ _ _ _ q1 (E1.same s) (c1.tr (Chg.of s)) (.bl _))⟩))⟩))
theorem nilO_read {neg : Bool} {r : R2} {i : Nat} (hr : ∀ (H : Hp) (Q : VK) (p q : Addr) (xs : List V), H p = some (.lst xs) → H q = some (.lst []) → Q (.bl (if neg then !xs.isEmpty else xs.isEmpty)) H → r (.ref p) (.ref q) H Q) : ∀ σ H Q, lE (dNilO neg i) σ H Q → tOp r (tVar i) (tLst tNil) σ H Q := fun σ H Q zz5 => (by obtain ⟨W, M, α, δ, Qd, E, ⟨ds, hd, q⟩, k⟩ := zz5; exact (by
 obtain ⟨a, xs, h1, h2, h3, r3⟩ := E.ow hd
 refine ⟨_, h1, Nat.zero_le _, fun p hp => ?_⟩
 have s : Same H (upd H p (.lst [])) := Same.new hp
 exact hr _ _ _ _ xs (s _ _ h3) upd_same (by rw [empty_rep r3]; exact k _ _ _ _ q (E.same s) (Chg.of s) (.bl _))))
theorem eqL_hr {K : PySem.W.Frag} : ∀ (H : Hp) (Q : VK) (p q : Addr) (xs : List V), H p = some (.lst xs) → H q = some (.lst []) → Q (.bl (if false = true then !xs.isEmpty else xs.isEmpty)) H → rEqNilL K (.ref p) (.ref q) H Q := fun H Q p q xs h1 h2 z => ⟨p, q, xs, rfl, rfl, SqL.of h1, SqL.of h2, z⟩
theorem neL_hr {K : PySem.W.Frag} : ∀ (H : Hp) (Q : VK) (p q : Addr) (xs : List V), H p = some (.lst xs) → H q = some (.lst []) → Q (.bl (if true = true then !xs.isEmpty else xs.isEmpty)) H → rNeNilL K (.ref p) (.ref q) H Q := fun H Q p q xs h1 h2 z => ⟨p, q, xs, rfl, rfl, SqL.of h1, SqL.of h2, z⟩
variable {p2 : Pos} {x1 : Nat}
theorem t_eqNilL (hu : X.A.units < cLine) (ha : Ev X a ta) : Tv X (.Compare a [.Eq] [.List [] p2] pos) (dT (dNilL false ta)) := PT.imp (pt_cmpR (op_eqNilL hu) ha (pe_lst pa_nil) (nomark _)) fun σ H Q h => nilL_read eqL_hr _ _ _ (test_read _ _ _ h)
theorem t_neNilL (hu : X.A.units < cLine) (ha : Ev X a ta) : Tv X (.Compare a [.NotEq] [.List [] p2] pos) (dT (dNilL true ta)) := PT.imp (pt_cmpR (op_neNilL hu) ha (pe_lst pa_nil) (nomark _)) fun σ H Q h => nilL_read neL_hr _ _ _ (test_read _ _ _ h)
theorem t_neNilO (hu : X.A.units < cLine) (i : Nat) {x : Str} {xp : Pos} (ho : PE X (.Name x xp) (tVar i)) : Tv X (.Compare (.Name x xp) [.NotEq] [.List [] p2] pos) (dT (dNilO true i)) := PT.imp (pt_cmpR (op_neNilL hu) ho (pe_lst pa_nil) (nomark _)) fun σ H Q h => nilO_read neL_hr _ _ _ (test_read _ _ _ h)
end
end LD
end
section
namespace LD
open PySem PySem.Spec L2 LB PyProof.Rows
section
variable {X : Cx} {a b c : Expr} {pos : Pos} {th : DTH}
inductive dPar3c_i (i : Nat) (j : Nat) (l : Nat) (Δ : DEnds) (ss : List Sl) (δ' : List Sl) : Prop
 | mk (s1 s2 s3 : _) (h1 : ss = [s1, s2, s3]) (h2 : okSet δ' i) (h3 : okSet (δ'.set i s1) j) (h4 : okSet ((δ'.set i s1).set j s2) l) (h5 : Δ.nx (((δ'.set i s1).set j s2).set l s3))
def dPar3c (i j l : Nat) (th : DTH) : DTS := fun Δ δ => th δ fun ss δ' => dPar3c_i i j l Δ ss δ'
theorem s_par3c (i j l : Nat) {x y z : Str} {px py pz pt : Pos} {kt k2 pt2} (hc : X.calm = true) (hN : X.N.Nodup) (ha : Hv X [a, b, c] th) (hi : autoParam (X.N[i]? = some x) au5._auto_1) (hj : autoParam (X.N[j]? = some y) au5._auto_1) (hl : autoParam (X.N[l]? = some z) au5._auto_1)
  (hx : autoParam (Loc X.env.scope x) au9._auto_1) (hy : autoParam (Loc X.env.scope y) au9._auto_1) (hz : autoParam (Loc X.env.scope z) au9._auto_1)
  (hfx : autoParam (X.fn x = true ∨ X.env.scope.names.lookup x = some .local) au1._auto_1) (hfy : autoParam (X.fn y = true ∨ X.env.scope.names.lookup y = some .local) au1._auto_1) (hfz : autoParam (X.fn z = true ∨ X.env.scope.names.lookup z = some .local) au1._auto_1)
  (hw : autoParam (swappedStores [.Tuple [.Name x px, .Name y py, .Name z pz] kt pt] (.Tuple [a, b, c] k2 pt2) X.env = pure none) au5._auto_1)
  (hs : autoParam (swapsWithSole [.Tuple [.Name x px, .Name y py, .Name z pz] kt pt] (.Tuple [a, b, c] k2 pt2) pos.line X.env = pure false) au5._auto_1) :
  Ex X (.Assign [.Tuple [.Name x px, .Name y py, .Name z pz] kt pt] (.Tuple [a, b, c] k2 pt2) pos) (dPar3c i j l th) :=
 PS.imp (ps_asg (pe_tup ha) (pg_tup hc (pgs_cons (pg_name (i := i) hN hi hx hfx) (pgs_cons (pg_name (i := j) hN hj hy hfy) (pgs_cons (pg_name (i := l) hN hl hz hfz) pgs_nil)))) hs hw) fun D σ H zz3 => (by obtain ⟨Ws, M, α, δ, Δ, E, L, q⟩ := zz3; exact (
 ⟨Ws, M, α, δ, _, E, q, fun ss δ' H' vs M' bs zz4 E1 c1 m1 m2 hh hb => (by obtain ⟨s1, s2, s3, e, ok1, ok2, ok3, q1⟩ := zz4; exact (by
  subst e
  cases hh with
  | cons h1 h2 h3 h4 h5 =>
   cases h5 with
   | cons g1 g2 g3 g4 g5 =>
    cases g5 with
    | cons f1 f2 f3 f4 f5 =>
     cases f5
     rename_i v1 as1 v2 as2 v3 as3
     refine ⟨by show 3 ≤ sizeLine; decide, fun p hp => ?_⟩
     have sm : Same H' (upd H' p (.tup [v1, v2, v3])) := Same.new hp
     have Ea := (E1.same sm).setHe (i := i) ⟨h1.1, h1.2.same sm⟩ h2 h3 ok1
     have Eb := Ea.setHe (i := j) ⟨g1.1, g1.2.same sm⟩ (fun a ha => (g2 a ha).set fun z => h4 a z (by simp [ha])) g3 ok2
     have Ec := Eb.setHe (i := l) ⟨f1.1, f1.2.same sm⟩ (fun a ha => ((f2 a ha).set fun z => h4 a z (by simp [ha])).set fun z => g4 a z (by simp [ha])) f3 ok3
     exact ⟨p, _, rfl, SqT.of upd_same, rfl, _, _, rfl, _, _, rfl, _, _, rfl, rfl, L.nx _ _ _ _ _ Ec q1⟩))⟩))
end
end LD
end
section
namespace L2
open PySem PySem.Spec PyProof.Rows
section
variable {elt tg iter tg2 iter2 : Expr} {ifs ifs2 : List Expr} {scope : Scope} {pos : Pos}
theorem compTurn_two0 (it acc : Value) (env : Env) :
  compTurn (.ListComp elt [⟨tg, iter, ifs, 0⟩, ⟨tg2, iter2, ifs2, 0⟩] scope pos) 0 it acc env = (do
   standAt iter.pos
   match ← pyNext it with
   | none => pure (.done .next)
   | some v =>
    letOwnedTupleGo tg it v
    assign tg env v
    let mut ok := true
    for c in ifs do
     if ok then ok ← isTrue c env (eval c env)
    if ok then
     let x ← eval iter2 env
     standAt iter2.pos
     let x ← foldedSetIterable iter2 env x
     let _ ← runOwn (.compStart (.ListComp elt [⟨tg, iter, ifs, 0⟩, ⟨tg2, iter2, ifs2, 0⟩] scope pos) 1 (← holding [x] (pyIter x)) acc env) env
    again (.compLoop (.ListComp elt [⟨tg, iter, ifs, 0⟩, ⟨tg2, iter2, ifs2, 0⟩] scope pos) 0 it acc env)) := by rfl
theorem compTurn_two1 (it acc : Value) (env : Env) :
  compTurn (.ListComp elt [⟨tg, iter, ifs, 0⟩, ⟨tg2, iter2, ifs2, 0⟩] scope pos) 1 it acc env = (do
   standAt iter2.pos
   match ← pyNext it with
   | none => pure (.done .next)
   | some v =>
    letOwnedTupleGo tg2 it v
    assign tg2 env v
    let mut ok := true
    for c in ifs2 do
     if ok then ok ← isTrue c env (eval c env)
    if ok then
     (do let _ ← call (.builtin "list.append") [acc, ← eval elt env])
    again (.compLoop (.ListComp elt [⟨tg, iter, ifs, 0⟩, ⟨tg2, iter2, ifs2, 0⟩] scope pos) 1 it acc env)) := by rfl
end
section
variable {prog : Program} {w : World} {A : Around} {R : Result → Shared → Prop} {s : Shared} {elt tg iter tg2 iter2 : Expr} {ifs ifs2 : List Expr} {scope : Scope} {pos : Pos}
theorem compLoop1_own {it acc : Value} {env : Env} (I : Nat → Shared → Prop)
  (turn : ∀ n s, I n s → wpAny (model prog w) A (pyNext it) (fun r s₁ => match r with
   | none => R (.ok .next) s₁
   | some v => wpAny (model prog w) A (letOwnedTupleGo tg2 it v) (fun _ s₀ => wpAny (model prog w) A (assign tg2 env v) (fun _ s₂ =>
     wpAny (model prog w) A (forIn ifs2 true fun c r => if r = true then do let ok ← isTrue c env (eval c env); pure (ForInStep.yield ok) else pure (ForInStep.yield r)) (fun ok s₃ =>
      if ok = true then wpAny (model prog w) A (eval elt env) (fun x s₄ =>
       wpAny (model prog w) A (call (.builtin "list.append") [acc, x]) (fun _ s₅ => ∃ m, m < n ∧ I m s₅) (fun _ _ => False) s₄) (fun _ _ => False) s₃
      else ∃ m, m < n ∧ I m s₃) (fun _ _ => False) s₂) (fun _ _ => False) s₀) (fun _ _ => False) s₁) (fun _ _ => False) s)
  (n : Nat) (h : I n s) : codeAny (model prog w) A (.compLoop (.ListComp elt [⟨tg, iter, ifs, 0⟩, ⟨tg2, iter2, ifs2, 0⟩] scope pos) 1 it acc env) R s := by
 refine codeAny_loop rfl I (fun n s hI => ?_) n h
 show wpAny _ A ((compTurn (.ListComp elt [⟨tg, iter, ifs, 0⟩, ⟨tg2, iter2, ifs2, 0⟩] scope pos) 1 it acc env).onRaise (fun x => do noteFrame x env; theTreesLotGoes x)) _ _ s
 refine wpAny_noted ?_
 rw [compTurn_two1]
 refine wpAny_bind (wpAny_standAt (wpAny_bind (wpAny_mono (turn n s hI) (fun r s₁ h₁ => ?_) fun _ _ h' => h'.elim)))
 cases r with
 | none => exact wpAny_pure h₁
 | some v =>
  refine wpAny_bind (wpAny_mono h₁ (fun _ s₀ h₀ => ?_) fun _ _ h' => h'.elim)
  refine wpAny_bind (wpAny_mono h₀ (fun _ s₂ h₂ => wpAny_bind (wpAny_mono h₂ (fun ok s₃ h₃ => ?_) fun _ _ h' => h'.elim)) fun _ _ h' => h'.elim)
  cases ok with
  | false => exact wpAny_pure ⟨rfl, h₃⟩
  | true =>
   exact wpAny_bind (wpAny_bind (wpAny_mono h₃ (fun x s₄ h₄ => wpAny_bind (wpAny_mono h₄ (fun _ s₅ h₅ => wpAny_pure (wpAny_pure ⟨rfl, h₅⟩)) fun _ _ h' => h'.elim)) fun _ _ h' => h'.elim))
theorem compStart1_own {it acc : Value} {env : Env}
  (h0 : codeAny (model prog w) A (.compLoop (.ListComp elt [⟨tg, iter, ifs, 0⟩, ⟨tg2, iter2, ifs2, 0⟩] scope pos) 1 it acc env) R s)
  (h : wpAny (model prog w) A (pyIter it) (fun it' s' => codeAny (model prog w) A (.compLoop (.ListComp elt [⟨tg, iter, ifs, 0⟩, ⟨tg2, iter2, ifs2, 0⟩] scope pos) 1 it' acc env) R s')
   (notedBy (model prog w) A env fun x s' => R (.error x) s') s) :
  codeAny (model prog w) A (.compStart (.ListComp elt [⟨tg, iter, ifs, 0⟩, ⟨tg2, iter2, ifs2, 0⟩] scope pos) 1 it acc env) R s := by
 refine codeAny_of_tree ?_
 show wpAny _ _ ((compStart (.ListComp elt [⟨tg, iter, ifs, 0⟩, ⟨tg2, iter2, ifs2, 0⟩] scope pos) 1 it acc env).onRaise (fun x => do noteFrame x env; standAt theWindowsPlace)) _ _ s
 refine wpAny_notedAt ?_
 unfold compStart
 show wpAny _ _ (ask >>= _) _ _ s
 refine wpAny_bind (wpAny_askSetting (wpAny_ite ?_))
 split
 · first
     | exact wpAny_bind (wpAny_pure (wpAny_pure (And.intro rfl h0)))
     | exact wpAny_pure (And.intro rfl h0)
 · first
     | exact wpAny_bind (wpAny_rule (wpAny_bind (wpAny_standAt (wpAny_bind (wpAny_mono h (fun it' s' h' => wpAny_pure (And.intro rfl h')) fun _ _ x => x)))))
     | (refine wpAny_bind (wpAny_rule ?_); show wpAny _ _ (standAt iter2.pos >>= _) _ _ s; exact wpAny_bind (wpAny_standAt (wpAny_bind (wpAny_mono h (fun it' s' h' => wpAny_pure (And.intro rfl h')) fun _ _ x => x))))
theorem compLoop0_own {it acc : Value} {env : Env} (I : Nat → Shared → Prop) (hs : ∀ x, foldedSetIterable iter2 env x = pure x)
  (turn : ∀ n s, I n s → wpAny (model prog w) A (pyNext it) (fun r s₁ => match r with
   | none => R (.ok .next) s₁
   | some v => wpAny (model prog w) A (letOwnedTupleGo tg it v) (fun _ s₀ => wpAny (model prog w) A (assign tg env v) (fun _ s₂ =>
     wpAny (model prog w) A (forIn ifs true fun c r => if r = true then do let ok ← isTrue c env (eval c env); pure (ForInStep.yield ok) else pure (ForInStep.yield r)) (fun ok s₃ =>
      if ok = true then wpAny (model prog w) A (eval iter2 env) (fun x s₄ => wpAny (model prog w) A (pyIter x) (fun it2 s₅ =>
       codeAny (model prog w) A (.compStart (.ListComp elt [⟨tg, iter, ifs, 0⟩, ⟨tg2, iter2, ifs2, 0⟩] scope pos) 1 it2 acc env) (fun r s₆ => r = .ok .next ∧ ∃ m, m < n ∧ I m s₆) s₅) (fun _ _ => False) s₄) (fun _ _ => False) s₃
      else ∃ m, m < n ∧ I m s₃) (fun _ _ => False) s₂) (fun _ _ => False) s₀) (fun _ _ => False) s₁) (fun _ _ => False) s)
  (n : Nat) (h : I n s) : codeAny (model prog w) A (.compLoop (.ListComp elt [⟨tg, iter, ifs, 0⟩, ⟨tg2, iter2, ifs2, 0⟩] scope pos) 0 it acc env) R s := by
 refine codeAny_loop rfl I (fun n s hI => ?_) n h
 show wpAny _ A ((compTurn (.ListComp elt [⟨tg, iter, ifs, 0⟩, ⟨tg2, iter2, ifs2, 0⟩] scope pos) 0 it acc env).onRaise (fun x => do noteFrame x env; theTreesLotGoes x)) _ _ s
 refine wpAny_noted ?_
 rw [compTurn_two0]
 refine wpAny_bind (wpAny_standAt (wpAny_bind (wpAny_mono (turn n s hI) (fun r s₁ h₁ => ?_) fun _ _ h' => h'.elim)))
 cases r with
 | none => exact wpAny_pure h₁
 | some v =>
  refine wpAny_bind (wpAny_mono h₁ (fun _ s₀ h₀ => ?_) fun _ _ h' => h'.elim)
  refine wpAny_bind (wpAny_mono h₀ (fun _ s₂ h₂ => wpAny_bind (wpAny_mono h₂ (fun ok s₃ h₃ => ?_) fun _ _ h' => h'.elim)) fun _ _ h' => h'.elim)
  cases ok with
  | false => exact wpAny_pure ⟨rfl, h₃⟩
  | true =>
   refine wpAny_bind (wpAny_mono h₃ (fun x s₄ h₄ => wpAny_bind (wpAny_standAt ?_)) fun _ _ h' => h'.elim)
   rw [hs]
   refine wpAny_bind (wpAny_pure ?_)
   refine wpAny_bind (wpAny_holding (wpAny_mono h₄ (fun it2 s₅ h₅ => ?_) fun _ _ h' => h'.elim))
   refine wpAny_bind (wpAny_runOwn (codeAny_mono h₅ fun r s₆ h₆ => ?_))
   obtain ⟨rfl, h₆⟩ := h₆
   exact wpAny_pure ⟨rfl, h₆⟩
end
end L2
end
section
namespace L2
open PySem PySem.Spec PyProof.Rows
def GMid (n1 nt : Nat) (g : TG) : Prop := ∀ v σ H (Q : St → Hp → Prop), g v σ H Q → g v σ H fun σ' H' => Q σ' H' ∧ σ'.length = σ.length ∧ ∀ k, k < n1 ∨ nt ≤ k → σ'[k]? = σ[k]?
theorem gmid_name {n1 nt i : Nat} (h1 : autoParam (n1 ≤ i) au2._auto_1) (h : autoParam (i < nt) au2._auto_1) : GMid n1 nt (gName i) := fun v σ H Q q => ⟨q, by simp, fun k hk => by rw [List.getElem?_set_ne (by omega)]⟩
def InW (g2 : TG) (tc2 : TT) (te : TE) (σ : St) (B : List V → Hp → Prop) (D : Addr) (J2 : It) (acc0 : List V) (H0 : Hp) : Prop :=
 ∃ W2 : Nat → Nat → List V → Hp → Prop, (∃ m, W2 0 m acc0 H0) ∧ ∀ i m acc H, W2 i m acc H →
  (J2.stop i H ∧ B acc H) ∨ (J2.go i H ∧ acc.length < sizeLine ∧ ∃ B2 : List V → Hp → Prop, (∀ acc' H', B2 acc' H' → ∃ m', m' < m ∧ W2 (i + 1) m' acc' H') ∧ ∀ x H', J2.yld i H x H' → g2 x σ H' fun σ2 H2 =>
   tc2 σ2 H2 fun b H3 => if b = true then te σ2 H3 fun v H4 => H4 D = some (.lst acc) ∧ B2 (acc ++ [v]) (upd H4 D (.lst (acc ++ [v]))) else B2 acc H3)
def CompW2 (nt : Nat) (js : List Nat) (g : TG) (tc : TT) (wi2 : TI) (g2 : TG) (tc2 : TT) (te : TE) (σ : St) (Q : VK) (D : Addr) (J : It) (H0 : Hp) : Prop :=
 ∃ W : Nat → Nat → List V → Hp → Prop, (∃ m, W 0 m [] H0) ∧ ∀ i m acc H, W i m acc H →
  (J.stop i H ∧ Q (.ref D) H) ∨ (J.go i H ∧ ∃ B : List V → Hp → Prop, (∀ acc' H', B acc' H' → ∃ m', m' < m ∧ W (i + 1) m' acc' H') ∧ ∀ x H', J.yld i H x H' → g x (st0 nt js σ) H' fun σ2 H2 =>
   tc σ2 H2 fun b H3 => if b = true then wi2 σ2 H3 fun J2 H4 => InW g2 tc2 te σ2 B D J2 acc H4 else B acc H3)
def tComp2 (nt : Nat) (js : List Nat) (wi : TI) (g : TG) (tc : TT) (wi2 : TI) (g2 : TG) (tc2 : TT) (te : TE) : TE := fun σ H Q => wi σ H fun J H1 => ∀ D, H1 D = none → CompW2 nt js g tc wi2 g2 tc2 te σ Q D J (upd H1 D (.lst []))
theorem inner_core {Y : Cx} {elt tg iter tg2 iter2 : Expr} {ifs ifs2 : List Expr} {scope : Scope} {pos : Pos} {g2 : TG} {tc2 : TT} {te : TE} {n1 nt : Nat} {pins : List (Addr × Obj)} {σ : St} {H : Hp} {s : Shared} {D : Addr} {acc0 : List V} {B : List V → Hp → Prop} {RR : Result → Shared → Prop}
  (hc : Y.calm = true) (Yxe : Y.xe = fun _ _ => False) (hg2 : PG Y tg2 g2) (hmid : GMid n1 nt g2) (hf2 : PF Y ifs2 tc2) (he : PE Y elt te)
  {it : Addr} {fp : List Addr} {tn : Nat → Heap → Prop} {J : It} (I : Inv Y pins σ H s) (T : Turn Y.prog Y.w Y.K tg2 J fp it tn) (st : tn 0 s.heap) (ff : ∀ b ∈ fp, FpOk Y pins H b) (non : ∀ k, n1 ≤ k → k < nt → ∀ v, σ[k]? ≠ some (some v))
  (R : InW g2 tc2 te σ B D J acc0 H) (fin : ∀ acc H' s', Inv Y pins σ H' s' → B acc H' → RR (.ok .next) s') :
  codeAny (model Y.prog Y.w) Y.A (.compLoop (.ListComp elt [⟨tg, iter, ifs, 0⟩, ⟨tg2, iter2, ifs2, 0⟩] scope pos) 1 (.ref it) (.ref D) Y.env) RR s := by
 obtain ⟨W, ⟨m0, w0⟩, turn⟩ := R
 have stat : ∀ {H' : Hp}, (∀ b ∈ fp, H' b = none) → ∀ b ∈ fp, FpOk Y pins H' b := fun hn b hb => ⟨hn b hb, (ff b hb).2⟩
 refine compLoop1_own (fun n s' => ∃ i acc H', Inv Y pins σ H' s' ∧ tn i s'.heap ∧ (∀ b ∈ fp, H' b = none) ∧ W i n acc H') ?_ m0 ⟨0, acc0, H, I, st, fun b hb => (ff b hb).1, w0⟩
 rintro n s5 ⟨i, acc, H5, I5, st5, fr5, w5⟩
 rcases turn i n acc H5 w5 with ⟨stop, q⟩ | ⟨go, hlen, B2, hB, step⟩
 · refine thn (T.done Y rfl rfl rfl hc i pins s5 _ H5 (fun _ _ => False) I5 (stat fr5) st5 stop) fun r s6 ⟨hr, I6⟩ => ?_
   subst hr
   exact fin _ _ _ I6 q
 · refine thn (T.item Y rfl rfl rfl hc i pins s5 _ H5 (fun _ _ => False) I5 (stat fr5) st5 go) fun r s6 ⟨u, hr, h6⟩ => ?_
   subst hr
   refine thn h6 fun _ s7 zz3 => ?_
   obtain ⟨x, H7, I7, r7, y7, st7, fr7⟩ := zz3
   have I7' := I7.pinned (stat fr7) (T.obj _ _ st7)
   have g7 := hmid _ _ _ _ (step x H7 y7)
   have h7 := hg2 _ s7 _ H7 x u _ I7' r7 g7
   rw [Yxe] at h7
   refine thn h7 fun _ s8 zz4 => ?_
   obtain ⟨σ8, H8, I8, q8, l8, k8⟩ := zz4
   have h8 := hf2 _ s8 σ8 H8 _ I8 q8
   rw [Yxe] at h8
   refine thn h8 fun b s9 zz5 => ?_
   obtain ⟨H9, I9, q9⟩ := zz5
   have again : ∀ {H10 : Hp} {s10 : Shared} {acc' : List V}, Inv Y (pins ++ pinsAt fp s7.heap) σ8 H10 s10 → B2 acc' H10 → ∃ m, m < n ∧ ∃ i acc H', Inv Y pins σ H' s10 ∧ tn i s10.heap ∧ (∀ b ∈ fp, H' b = none) ∧ W i m acc H' := fun {H10 s10 acc'} I10 b10 => by
    obtain ⟨m', hm', w10⟩ := hB acc' H10 b10
    refine ⟨m', hm', i + 1, acc', H10, I10.unpinned.weak l8.symm fun k v e => ?_, T.keep _ _ _ st7 fun b hb o e => (I10.pin (b, o) (List.mem_append_right _ (List.mem_append_right _ (mem_pinsAt hb e)))).1, fun b hb => ?_, w10⟩
    · by_cases hk : n1 ≤ k ∧ k < nt
      · exact absurd e (non k hk.1 hk.2 v)
      · rw [k8 k (by omega)]; exact e
    · obtain ⟨o, e, d⟩ := T.obj _ _ st7 b hb
      exact (I10.pin (b, o) (List.mem_append_right _ (List.mem_append_right _ (mem_pinsAt hb e)))).2.1
   cases b with
   | false =>
    rw [if_neg Bool.false_ne_true] at q9 ⊢
    exact again I9 q9
   | true =>
    rw [if_pos rfl] at q9 ⊢
    have h9 := he _ s9 σ8 H9 _ I9 q9
    rw [Yxe] at h9
    refine thn h9 fun y s10 zz6 => ?_
    obtain ⟨v, H10, I10, r10, hD10, q10⟩ := zz6
    have h10 := (mt_append (X := Y) _ s10 σ8 H10 (.ref D) [v] (.ref D) [y] (fun _ H' => B2 (acc ++ [v]) H') I10 rfl (.cons r10 .nil) ⟨_, acc, v, rfl, rfl, hD10, hlen, q10⟩)
    rw [Yxe] at h10
    refine thn h10 fun _ s11 zz7 => ?_
    obtain ⟨_, H11, I11, _, q11⟩ := zz7
    exact again I11 q11
section
variable {X : Cx} {N : List Str} {nt : Nat} {js : List Nat} {scope : Scope} {pins : List (Addr × Obj)} {σ : St} {H : Hp} {s : Shared}
theorem comp_core2 {elt tg iter tg2 iter2 : Expr} {ifs ifs2 : List Expr} {pos : Pos} {g g2 : TG} {wi2 : TI} {tc tc2 : TT} {te : TE} {n1 : Nat} {cl : List (Str × Addr)} {Q : VK} {E : Value → Shared → Prop} {RR : Value → Addr → Result → Shared → Prop}
  (S : CpOk X N nt js scope) (hc : X.calm = true)
  (hg : ∀ s H cl C ex, PG (blk X N scope s H cl C ex) tg g) (hlow : GLow n1 g) (h1n : n1 ≤ nt) (hi2 : ∀ s H cl C ex, PI (blk X N scope s H cl C ex) tg2 iter2 wi2) (hs2 : ∀ s H cl C ex x, foldedSetIterable iter2 (blk X N scope s H cl C ex).env x = pure x) (hg2 : ∀ s H cl C ex, PG (blk X N scope s H cl C ex) tg2 g2) (hmid : GMid n1 nt g2) (hf2 : ∀ s H cl C ex, PF (blk X N scope s H cl C ex) ifs2 tc2) (hf : ∀ s H cl C ex, PF (blk X N scope s H cl C ex) ifs tc) (he : ∀ s H cl C ex, PE (blk X N scope s H cl C ex) elt te)
  {it : Addr} {fp : List Addr} {tn : Nat → Heap → Prop} {J : It} (I : Inv X pins σ H s) (T : Turn X.prog X.w X.K tg J fp it tn) (st : tn 0 s.heap) (ff : ∀ b ∈ fp, FpOk X pins H b)
  (c1 : ∀ x c, (x, c) ∈ cl → X.env.cells.lookup x = some c) (c2 : ∀ x, (x, NameKind.free) ∈ scope.names → ∃ c, (x, c) ∈ cl)
  (R : ∀ D, H D = none → CompW2 nt js g tc wi2 g2 tc2 te σ Q D J (upd H D (.lst [])))
  (fin : ∀ (D C : Addr) (s' : Shared) (H' : Hp), Inv X pins σ H' s' → FpOk X pins H' C → (∃ m, s'.heap.Ns C m) → Q (.ref D) H' → RR (.ref D) C (.ok .next) s') :
  wpAny (model X.prog X.w) X.A (newList []) (fun acc s₃ => wpAny (model X.prog X.w) X.A (newFunctionEnv scope X.env.globals cl [] X.env.qual none .none (some X.env)) (fun cenv s₄ =>
   codeAny (model X.prog X.w) X.A (.compStart (.ListComp elt [⟨tg, iter, ifs, 0⟩, ⟨tg2, iter2, ifs2, 0⟩] scope pos) 0 (.ref it) acc { cenv with scope := relabel scope X.env }) (RR acc cenv.locals) s₄) E s₃) E s := by
 refine wpAny_newObj_type (wpAny_newEnvC fun cenv ecenv eloc => ?_)
 rw [ecenv, eloc]
 dsimp only
 have hD : H s.heap.objs.size = none := I.hok.fresh (Nat.le_refl _)
 obtain ⟨W, ⟨m0, w0⟩, turn⟩ := R s.heap.objs.size hD
 have kD : ∀ b u, s.heap.get? b = some u → (s.heap.push { cls := .type "list", data := .seq ([] : List Value).toArray }).get? b = some u := fun b u e => Heap.get?_push_of_some _ e
 have I3 : Inv X pins σ (upd H s.heap.objs.size (.lst [])) { s with heap := s.heap.push { cls := .type "list", data := .seq ([] : List Value).toArray }, toks := s.toks } :=
  I.laid kD (Nat.le_refl _) ⟨Nat.zero_le _, [], _, .nil, Heap.get?_push_size _ rfl⟩
 have fs : ∀ b ∈ fp, b < s.heap.objs.size := fun b hb => by
  obtain ⟨o, e, _⟩ := T.obj _ _ st b hb
  exact Heap.lt_size e
 have ff3 : ∀ b ∈ fp, FpOk X pins (upd H s.heap.objs.size (.lst [])) b := fun b hb => ⟨by rw [upd_ne (Nat.ne_of_lt (fs b hb))]; exact (ff b hb).1, (ff b hb).2⟩
 have I4 := blk_start (tk := s.toks) S hc I3 ff3 (fun b hb => by show b < (s.heap.push _).objs.size; rw [Heap.size_push]; exact Nat.lt_succ_of_lt (fs b hb)) c1 c2
 dsimp only at I4
 have gsz : (s.heap.push { cls := .type "list", data := .seq ([] : List Value).toArray }).objs.size = s.heap.objs.size + 1 := Heap.size_push ..
 generalize hY : blk X N scope { s with heap := s.heap.push { cls := .type "list", data := .seq ([] : List Value).toArray }, toks := s.toks } (upd H s.heap.objs.size (.lst [])) cl (s.heap.push { cls := .type "list", data := .seq ([] : List Value).toArray }).objs.size fp = Y at I4
 have hY2 := hY
 have Yenv : Y.env = blkEnv scope cl (s.heap.push { cls := .type "list", data := .seq ([] : List Value).toArray }).objs.size X.env := by rw [← hY]; rfl
 have Yprog : Y.prog = X.prog := by rw [← hY]; rfl
 have Yw : Y.w = X.w := by rw [← hY]; rfl
 have YA : Y.A = X.A := by rw [← hY]; rfl
 have YK : Y.K = X.K := by rw [← hY]; rfl
 have Ycalm : Y.calm = true := by rw [← hY]; exact hc
 have Yxe : Y.xe = fun _ _ => False := by rw [← hY]; rfl
 have Yex : Y.ex = fp := by rw [← hY]; rfl
 have Ypn : Y.pn = [] := by rw [← hY]; rfl
 have Yfs : Y.fs = frs X.stack := by rw [← hY]; rfl
 have Ys0 : Y.s₀ = { s with heap := s.heap.push { cls := .type "list", data := .seq ([] : List Value).toArray }, toks := s.toks } := by rw [← hY]; rfl
 have YH0 : Y.H₀ = upd H s.heap.objs.size (.lst []) := by rw [← hY]; rfl
 have hgY : PG Y tg g := by rw [← hY]; exact hg _ _ _ _ _
 have hfY : PF Y ifs tc := by rw [← hY]; exact hf _ _ _ _ _
 have hfY2 : PF Y ifs2 tc2 := by rw [← hY]; exact hf2 _ _ _ _ _
 have hgY2 : PG Y tg2 g2 := by rw [← hY]; exact hg2 _ _ _ _ _
 have hiY2 : PI Y tg2 iter2 wi2 := by rw [← hY]; exact hi2 _ _ _ _ _
 have hsY2 : ∀ x, foldedSetIterable iter2 Y.env x = pure x := by rw [← hY]; exact hs2 _ _ _ _ _
 have heY : PE Y elt te := by rw [← hY]; exact he _ _ _ _ _
 have hm : (Y.N.length : Nat) = (st0 nt js σ).length := I4.len.symm
 rw [← Yenv, ← Yprog, ← Yw, ← YA]
 have fpY : ∀ {H' : Hp} (_ : ∀ b ∈ fp, H' b = none), ∀ b ∈ fp, FpOk Y [] H' b := fun {H'} hn b hb => by
  refine ⟨hn b hb, (I4.ok.exf b (by rw [Yex]; exact hb)).1, I4.ok.exfs b (by rw [Yex]; exact hb), .inl (by rw [Yex]; exact hb), (I4.ok.exf b (by rw [Yex]; exact hb)).2, fun p hp => ?_⟩
  rw [Ypn] at hp
  simp at hp
 have back : ∀ {H' : Hp} {s' : Shared} {σ' : St}, Inv Y [] σ' H' s' → Inv X pins σ H' s' ∧ FpOk X pins H' Y.env.locals ∧ ∃ m, s'.heap.Ns Y.env.locals m := fun {H' s' σ'} J => by
  have hb : Un (frs X.stack) fp (upd H s.heap.objs.size (.lst [])) H' (s.heap.push { cls := .type "list", data := .seq ([] : List Value).toArray }) s'.heap := by
   have := J.base
   rw [Yfs, Yex, YH0, Ys0] at this
   exact this
  have loc : Y.env.locals = s.heap.objs.size + 1 := by rw [Yenv]; exact gsz
  have os : s'.os = s.os := by
   have := J.os
   rw [Ys0] at this
   exact this
  have hok : HOk X.prog X.w H' s'.heap := by
   have := J.hok
   rw [Yprog, Yw] at this
   exact this
  refine ⟨I3.call' (ch := fp) os hb hok J.bare fun b hb => ⟨(ff b hb).2.2.2.1, (ff b hb).2.1, (ff b hb).2.2.2.2.1, (ff b hb).2.2.2.2.2⟩, ?_, let ⟨m, q, _⟩ := J.loc; ⟨m, q⟩⟩
  exact I.fpOk (by rw [loc]; exact Nat.le_succ _) J.free
 have loop : codeAny (model Y.prog Y.w) Y.A (.compLoop (.ListComp elt [⟨tg, iter, ifs, 0⟩, ⟨tg2, iter2, ifs2, 0⟩] scope pos) 0 (.ref it) (.ref s.heap.objs.size) Y.env) (RR (.ref s.heap.objs.size) Y.env.locals)
   { s with heap := pushCells ((s.heap.push { cls := .type "list", data := .seq ([] : List Value).toArray }).push { cls := .type "dict", data := .dict #[] }) scope.names } := by
  refine compLoop0_own (fun n s' => ∃ i acc H', Inv Y [] (st0 nt js σ) H' s' ∧ tn i s'.heap ∧ (∀ b ∈ fp, H' b = none) ∧ W i n acc H') hsY2 ?_ m0
   ⟨0, [], _, I4, T.keep _ _ _ st fun b _ o e => pushCells_keeps _ _ b o (Heap.get?_push_of_some _ (kD b o e)), fun b hb => (ff3 b hb).1, w0⟩
  rintro n s5 ⟨i, acc, H5, I5, st5, fr5, w5⟩
  rcases turn i n acc H5 w5 with ⟨stop, q⟩ | ⟨go, B, hB, step⟩
  · have hd := T.done Y Yprog Yw YK Ycalm i [] s5 _ H5 (fun _ _ => False) I5 (fpY fr5) st5 stop
    rw [← Yprog, ← Yw] at hd
    refine thn hd fun r s6 zz8 => ?_
    obtain ⟨hr, I6⟩ := zz8
    subst hr
    obtain ⟨b1, b2, b3⟩ := back I6
    exact fin _ _ _ _ b1 b2 b3 q
  · have hd := T.item Y Yprog Yw YK Ycalm i [] s5 _ H5 (fun _ _ => False) I5 (fpY fr5) st5 go
    rw [← Yprog, ← Yw] at hd
    refine thn hd fun r s6 zz9 => ?_
    obtain ⟨u, hr, h6⟩ := zz9
    subst hr
    refine thn h6 fun _ s7 zz10 => ?_
    obtain ⟨x, H7, I7, r7, y7, st7, fr7⟩ := zz10
    have I7' := I7.pinned (fpY fr7) (T.obj _ _ st7)
    have g7 := hlow _ _ _ _ (step x H7 y7)
    have h7 := hgY _ s7 _ H7 x u _ I7' r7 g7
    rw [Yxe] at h7
    refine thn h7 fun _ s8 zz11 => ?_
    obtain ⟨σ8, H8, I8, q8, l8, k8⟩ := zz11
    have h8 := hfY _ s8 σ8 H8 _ I8 q8
    rw [Yxe] at h8
    refine thn h8 fun b s9 zz12 => ?_
    obtain ⟨H9, I9, q9⟩ := zz12
    have again : ∀ {H10 : Hp} {s10 : Shared} {acc' : List V}, Inv Y ([] ++ pinsAt fp s7.heap) σ8 H10 s10 → B acc' H10 → ∃ m, m < n ∧ ∃ i acc H', Inv Y [] (st0 nt js σ) H' s10 ∧ tn i s10.heap ∧ (∀ b ∈ fp, H' b = none) ∧ W i m acc H' := fun {H10 s10 acc'} I10 b10 => by
     obtain ⟨m', hm', w10⟩ := hB acc' H10 b10
     refine ⟨m', hm', i + 1, acc', H10, I10.unpinned.weak l8.symm fun k v e => ?_, T.keep _ _ _ st7 fun b hb o e => (I10.pin (b, o) (List.mem_append_right _ (List.mem_append_right _ (mem_pinsAt hb e)))).1, fun b hb => ?_, w10⟩
     · by_cases hk : nt ≤ k
       · rw [k8 k (Nat.le_trans h1n hk)]; exact e
       · exfalso
         unfold st0 at e
         rw [List.getElem?_append_left (by simp; omega), List.getElem?_replicate, if_pos (by omega)] at e
         cases e
     · obtain ⟨o, e, d⟩ := T.obj _ _ st7 b hb
       exact (I10.pin (b, o) (List.mem_append_right _ (List.mem_append_right _ (mem_pinsAt hb e)))).2.1
    cases b with
    | false =>
     rw [if_neg Bool.false_ne_true] at q9 ⊢
     exact again I9 q9
    | true =>
     rw [if_pos rfl] at q9 ⊢
     have h9 := hiY2 _ s9 σ8 H9 _ I9 q9
     rw [Yxe] at h9
     refine thn h9 fun y s10 h10 => thn h10 fun it2 s11 h11 => ?_
     obtain ⟨i2, fp2, tn2, J2, H11, rfl, I11, T2, st11, ff11, R2⟩ := h11
     have non8 : ∀ k, n1 ≤ k → k < nt → ∀ v, σ8[k]? ≠ some (some v) := fun k a1 a2 v e => by
      rw [k8 k a1] at e
      unfold st0 at e
      rw [List.getElem?_append_left (by simp; omega), List.getElem?_replicate, if_pos (by omega)] at e
      cases e
     have lp := inner_core (elt := elt) (tg := tg) (iter := iter) (ifs := ifs) (iter2 := iter2) (scope := scope) (pos := pos) Ycalm Yxe hgY2 hmid hfY2 heY I11 T2 st11 ff11 non8 R2 (RR := fun r s₆ => r = .ok .next ∧ ∃ m, m < n ∧ ∃ i acc H', Inv Y [] (st0 nt js σ) H' s₆ ∧ tn i s₆.heap ∧ (∀ b ∈ fp, H' b = none) ∧ W i m acc H') fun acc' H' s' I' b' => ⟨rfl, again I' b'⟩
     exact compStart1_own lp (T2.self _ 0 _ _ _ st11 lp)
 have eloc2 : (s.heap.push { cls := .type "list", data := .seq ([] : List Value).toArray }).objs.size = Y.env.locals := by rw [Yenv]; rfl
 rw [eloc2]
 exact codeAny_compStart_list (rest := [⟨tg2, iter2, ifs2, 0⟩]) loop (by rw [Yprog, Yw, YA] at *; exact T.self _ 0 _ _ _ (T.keep _ _ _ st fun b _ o e => pushCells_keeps _ _ b o (Heap.get?_push_of_some _ (kD b o e))) loop)
theorem ps_comp2 {i : Nat} {y : Str} {elt tg iter tg2 iter2 : Expr} {ifs ifs2 : List Expr} {pos pos' py : Pos} {wi : TI} {g g2 : TG} {wi2 : TI} {tc tc2 : TT} {te : TE} {n1 : Nat} (hN : X.N.Nodup) (hiN : X.N[i]? = some y) (hy : Loc X.env.scope y) (S : CpOk X N nt js scope) (hc : X.calm = true) (hi : PI X tg iter wi)
  (hg : ∀ s H cl C ex, PG (blk X N scope s H cl C ex) tg g) (hlow : GLow n1 g) (h1n : n1 ≤ nt) (hi2 : ∀ s H cl C ex, PI (blk X N scope s H cl C ex) tg2 iter2 wi2) (hs2 : ∀ s H cl C ex x, foldedSetIterable iter2 (blk X N scope s H cl C ex).env x = pure x) (hg2 : ∀ s H cl C ex, PG (blk X N scope s H cl C ex) tg2 g2) (hmid : GMid n1 nt g2) (hf2 : ∀ s H cl C ex, PF (blk X N scope s H cl C ex) ifs2 tc2) (hf : ∀ s H cl C ex, PF (blk X N scope s H cl C ex) ifs tc) (he : ∀ s H cl C ex, PE (blk X N scope s H cl C ex) elt te)
  (hsw : autoParam (swapsWith (.ListComp elt [⟨tg, iter, ifs, 0⟩, ⟨tg2, iter2, ifs2, 0⟩] scope pos) (some (.Name y py)) pos'.line X.env = pure true) au5._auto_1) (hs : autoParam (∀ x, foldedSetIterable iter X.env x = pure x) au4._auto_1)
  (hfn : autoParam (X.fn y = true ∨ X.env.scope.names.lookup y = some .local) au1._auto_1) :
  PS X (.Assign [.Name y py] (.ListComp elt [⟨tg, iter, ifs, 0⟩, ⟨tg2, iter2, ifs2, 0⟩] scope pos) pos') (tAsg (tComp2 nt js wi g tc wi2 g2 tc2 te) (gName i)) := by
 intro pins s σ H D I h
 obtain ⟨cl, hcl, c1, c2⟩ := closure_of (scope := scope) (env := X.env) fun x hx e => I.ok.has x.1 (S.see x hx e)
 rw [exec_Assign_Name_used _ _ _ _ hsw]
 refine wpAny_bind (wpAny_standAt (wpAny_bind ?_))
 show wpAny _ _ (do let _ ← comprehension (.ListComp elt [⟨tg, iter, ifs, 0⟩, ⟨tg2, iter2, ifs2, 0⟩] scope pos) scope X.env _ (newList []) false (eval iter X.env) (some (assign (.Name y py) X.env))) _ _ s
 refine wpAny_bind (wpAny_mono (wpAny_comprehension_free (use := some (assign (.Name y py) X.env)) (Q := fun _ s' => SP X pins D .next s') rfl hs hcl S.kind S.names
  (thn (hi pins s σ H _ I h) fun v s1 h1 => thn h1 fun itv s2 h2 => ?_)) (fun _ s' hq => wpAny_pure (wpAny_pure hq)) fun _ _ e => e)
 obtain ⟨it, fp, tn, J, H2, rfl, I2, T, st2, f2, R⟩ := h2
 refine comp_core2 (RR := fun acc C => compPost (model X.prog X.w) X.A X.xe (some (assign (.Name y py) X.env)) (fun _ s' => SP X pins D .next s') acc C) (Q := fun x H1 => gName i x σ H1 D.nx) S hc hg hlow h1n hi2 hs2 hg2 hmid hf2 hf he I2 T st2 f2 c1 c2 R fun Da C s' H' I' fo zz14 q => ?_
 obtain ⟨m, hn⟩ := zz14
 show wpAny _ _ (assign (.Name y py) X.env (.ref Da)) _ _ _
 obtain ⟨f0, f1, _, f3, f4, f5⟩ := fo
 refine wpAny_assign_Name (store_ok2 I' hN hiN hy (v := .ref Da) rfl (fun s'' I'' zz15 => ?_) hfn)
 obtain ⟨a, sb, ha⟩ := zz15
 have hCa : C ≠ a := by
  rcases ha with z | z
  · rw [z]; exact f1
  · exact Ne.symm (f4 _ _ z)
 refine ⟨m, hn.sameBut sb hCa, fun h' sb' => ⟨_, H', ?_, q⟩⟩
 exact I''.turned (t' := s''.toks) (fun b o hb e => (sb'.2 b hb).trans e) f0 f1 f3 f4 f5
end
end L2
end
section
namespace LD
open PySem PySem.Spec L2 LB PyProof.Rows
theorem EnvR.still {M : Addr → Prop} {α : List (List Addr)} {H H' : Hp} {σ : L2.St} {δ : List Sl} (E : EnvR [] M α H σ δ) (fl : α.flatten = []) (keep : ∀ b u, H b = some u → ¬ M b → H' b = some u) (mo : MOk M H') : EnvR [] M α H' σ δ := by
 refine ⟨E.ls, E.la, fun i s h => ?_, E.nd, E.mu, mo, fun W hW => absurd hW List.not_mem_nil⟩
 obtain ⟨o, as, h1, h2, h3⟩ := E.sl i s h
 have hn : as = [] := List.eq_nil_iff_forall_not_mem.mpr fun a ha => by
  have := flat_get h2 ha
  rw [fl] at this
  exact List.not_mem_nil this
 subst hn
 refine ⟨o, [], h1, h2, h3.keep (fun b u e n => ⟨keep b u e n, n⟩) (fun a ha => absurd ha List.not_mem_nil) ?_⟩
 cases s with
 | bx t =>
  obtain ⟨d, c, e, _⟩ := h3
  first | cases e | (obtain ⟨_, e, _⟩ := h3; cases e)
 | _ => rfl
section
variable {X : Cx} {N : List Str} {nt n1 : Nat} {js : List Nat} {scope : Scope} {elt tg iter tg2 iter2 : Expr} {ifs ifs2 : List Expr} {pos : Pos} {ti ti2 : DTI} {g g2 : DTG} {tc tc2 : DTT} {te : DTE}
def dComp2 (nt : Nat) (js : List Nat) (ti : DTI) (g : DTG) (tc : DTT) (ti2 : DTI) (g2 : DTG) (tc2 : DTT) (te : DTE) : DTO := fun δ Q => ti δ fun its δ1 => ∃ F : Dt → List Dt, (its.flatMap F).length < sizeLine ∧
 (∀ d ∈ its, g d (cin nt js δ1) fun δ2 => tc δ2 fun b δ3 => if b = true then ti2 δ3 fun its2 δ4 => ∃ (p : Dt → Bool) (f : Dt → Dt), (∀ e ∈ its2, g2 e δ4 fun δ5 => tc2 δ5 fun b δ6 => b = p e ∧ (b = true → te δ6 fun r _ => r = f e)) ∧ F d = (its2.filter p).map f else F d = []) ∧ Q (its.flatMap F) δ1
theorem comp2_read {gh gh2 : TG} (hgr : ∀ v σ H Q, lG g v σ H Q → gh v σ H Q) (hgr2 : ∀ v σ H Q, lG g2 v σ H Q → gh2 v σ H Q) : ∀ σ H Q, lO (dComp2 nt js ti g tc ti2 g2 tc2 te) σ H Q → tComp2 nt js (lI ti) gh (lT tc) (lI ti2) gh2 (lT tc2) (lE te) σ H Q := fun σ H Q zz1 => (by obtain ⟨W, M, α, δ, Qd, E, q, k⟩ := zz1; exact (by
 refine ⟨W, M, α, δ, _, E, q, fun its δ1 H1 J zz2 E1 c1 yl D hD => ?_⟩
 obtain ⟨F, hsz, step, q1⟩ := zz2
 have s0 : Same H1 (upd H1 D (.lst [])) := Same.new hD
 refine ⟨fun i m acc H2 => m = its.length - i ∧ i ≤ its.length ∧ H2 D = some (.lst acc) ∧ Reps (fun b => M b ∨ b = D) H2 acc ((its.take i).flatMap F) ∧ Same H1 H2 ∧ MOk (fun b => M b ∨ b = D) H2, ⟨its.length, by simp, Nat.zero_le _, upd_same, .nil, s0, fun a ha => ?_⟩, ?_⟩
 · rcases ha with ha | ha
   · obtain ⟨o, e, n⟩ := E1.al a ha
     exact ⟨o, s0 _ _ e, n⟩
   · subst ha
     exact ⟨_, upd_same, fun xs z => by cases z⟩
 rintro i m acc H2 ⟨rfl, hi, hD2, racc, s2, mo2⟩
 have kf : Kf M H1 H2 := fun b o e _ => s2 _ _ e
 by_cases hlt : i < its.length
 · have hb : ∀ b, H1 b ≠ none → ¬ M b → ¬ (fun b => M b ∨ b = D) b := fun b n z y => y.elim z fun w => n (by rw [w]; exact hD)
   obtain ⟨go, yld⟩ := yl.go i H2 (fun b => M b ∨ b = D) kf mo2 hb hlt
   refine .inr ⟨go, fun acc' H' => H' D = some (.lst acc') ∧ Reps (fun b => M b ∨ b = D) H' acc' ((its.take (i + 1)).flatMap F) ∧ Same H1 H' ∧ MOk (fun b => M b ∨ b = D) H', fun acc' H' zz3 => (by obtain ⟨z1, z2, z3, z4⟩ := zz3; exact (⟨its.length - (i + 1), by grind, rfl, hlt, z1, z2, z3, z4⟩)), fun x H3 y => ?_⟩
   obtain ⟨s3, d, hd, rx⟩ := yld x H3 y
   have E2 : EnvR [] (fun b => M b ∨ b = D) (List.replicate (nt + js.length) []) H2 (st0 nt js σ) (cin nt js δ1) := by
    have su : Same (upd H1 D (.lst acc)) H2 := fun b o e => by
     by_cases hb : b = D
     · subst hb; rw [upd_same] at e; cases e; exact hD2
     · rw [upd_ne hb] at e; exact s2 _ _ e
    have Ea : EnvR [] (fun b => M b ∨ b = D) α H2 σ δ1 := ⟨E1.ls, E1.la, fun i s h => let ⟨o, as, h1, h2, h3⟩ := E1.sl i s h; ⟨o, as, h1, h2, (h3.grow (u := .lst acc) hD).same su⟩, E1.nd, fun a h => .inl (E1.mu a h), mo2, fun W hW => absurd hW List.not_mem_nil⟩
    exact cin_env Ea
   have E3 := E2.same s3
   have hflat : (List.replicate (nt + js.length) ([] : List Addr)).flatten = [] := by simp
   refine hgr _ _ _ _ ⟨[], _, _, _, d, _, E3, rx, step d (List.mem_of_getElem? hd), fun α4 δ4 σ4 q4 E4 hα => ?_⟩
   have fl4 : α4.flatten = [] := List.eq_nil_iff_forall_not_mem.mpr fun x hx => by have := hα x hx; rw [hflat] at this; exact absurd this List.not_mem_nil
   refine ⟨[], _, α4, δ4, _, E4, q4, fun b δ5 H5 q5 E5 c5 => ?_⟩
   have s5 : Same H3 H5 := fun b o e => c5 b o e (by rw [fl4]; exact List.not_mem_nil)
   have s25 : Same H2 H5 := fun b o e => s5 _ _ (s3 _ _ e)
   have tk : its.take (i + 1) = its.take i ++ [d] := by rw [List.take_add_one, hd]; rfl
   have tkF : (its.take (i + 1)).flatMap F = (its.take i).flatMap F ++ F d := by rw [tk, List.flatMap_append]; simp
   cases b with
   | false =>
    have q5 : F d = [] := by simpa using q5
    refine iteF ⟨s25 _ _ hD2, ?_, fun b o e => s25 _ _ (s2 _ _ e), E5.al⟩
    rw [tkF, q5, List.append_nil]
    exact racc.same s25
   | true =>
    rw [if_pos rfl] at q5
    refine iteT ⟨[], _, α4, δ5, _, E5, q5, fun its2 δ6 H6 J2 zz4 E6 c6 yl2 => ?_⟩
    obtain ⟨p, f, step2, hF⟩ := zz4
    have s6 : Same H5 H6 := fun b o e => c6 b o e (by rw [fl4]; exact List.not_mem_nil)
    have s26 : Same H2 H6 := fun b o e => s6 _ _ (s25 _ _ e)
    have lenF : ((its.take i).flatMap F).length + (F d).length ≤ (its.flatMap F).length := by
     have e : its.flatMap F = (its.take (i + 1)).flatMap F ++ (its.drop (i + 1)).flatMap F := by rw [← List.flatMap_append, List.take_append_drop]
     rw [e, tkF, List.length_append, List.length_append]
     grind
    refine ⟨fun i2 m2 acc2 H7 => m2 = its2.length - i2 ∧ i2 ≤ its2.length ∧ H7 D = some (.lst acc2) ∧ Reps (fun b => M b ∨ b = D) H7 acc2 ((its.take i).flatMap F ++ ((its2.take i2).filter p).map f) ∧ (∀ b o, H6 b = some o → b ≠ D → H7 b = some o) ∧ MOk (fun b => M b ∨ b = D) H7, ⟨its2.length, by simp, Nat.zero_le _, s26 _ _ hD2, by simpa using racc.same s26, fun b o e _ => e, E6.al⟩, ?_⟩
    rintro i2 m2 acc2 H7 ⟨rfl, hi2, hD7, racc7, k7, mo7⟩
    have kf7 : Kf (fun b => M b ∨ b = D) H6 H7 := fun b o e n => k7 b o e fun z => n (.inr z)
    by_cases hlt2 : i2 < its2.length
    · obtain ⟨go2, yld2⟩ := yl2.go i2 H7 (fun b => M b ∨ b = D) kf7 mo7 (fun b _ n => n) hlt2
      have hlen : acc2.length < sizeLine := by
       rw [racc7.1, List.length_append, List.length_map]
       have : ((its2.take i2).filter p).length ≤ (F d).length := by
        rw [hF, List.length_map]
        have e : its2.filter p = (its2.take i2).filter p ++ (its2.drop i2).filter p := by rw [← List.filter_append, List.take_append_drop]
        rw [e, List.length_append]
        grind
       grind
      refine .inr ⟨go2, hlen, fun acc' H' => H' D = some (.lst acc') ∧ Reps (fun b => M b ∨ b = D) H' acc' ((its.take i).flatMap F ++ ((its2.take (i2 + 1)).filter p).map f) ∧ (∀ b o, H6 b = some o → b ≠ D → H' b = some o) ∧ MOk (fun b => M b ∨ b = D) H', fun acc' H' zz5 => (by obtain ⟨z1, z2, z3, z4⟩ := zz5; exact (⟨its2.length - (i2 + 1), by grind, rfl, hlt2, z1, z2, z3, z4⟩)), fun x2 H8 y2 => ?_⟩
      obtain ⟨s8, d2, hd2, rx2⟩ := yld2 x2 H8 y2
      have E7 := (E6.still fl4 (fun b u e n => kf7 b u e n) mo7).same s8
      refine hgr2 _ _ _ _ ⟨[], _, _, _, d2, _, E7, rx2, step2 d2 (List.mem_of_getElem? hd2), fun α9 δ9 σ9 q9 E9 hα9 => ?_⟩
      have fl9 : α9.flatten = [] := List.eq_nil_iff_forall_not_mem.mpr fun x hx => by have := hα9 x hx; rw [fl4] at this; exact absurd this List.not_mem_nil
      refine ⟨[], _, α9, δ9, _, E9, q9, fun b δ10 H10 zz6 E10 c10 => ?_⟩
      obtain ⟨hp, q10⟩ := zz6
      have s10 : Same H8 H10 := fun b o e => c10 b o e (by rw [fl9]; exact List.not_mem_nil)
      have s710 : Same H7 H10 := fun b o e => s10 _ _ (s8 _ _ e)
      have tk2 : its2.take (i2 + 1) = its2.take i2 ++ [d2] := by rw [List.take_add_one, hd2]; rfl
      cases b with
      | false =>
       refine iteF ⟨s710 _ _ hD7, ?_, fun b o e n => s710 _ _ (k7 b o e n), E10.al⟩
       rw [tk2, List.filter_append, List.map_append]
       simp [← hp]
       exact racc7.same s710
      | true =>
       refine iteT ⟨[], _, α9, δ10, _, E10, q10 rfl, fun r δ11 H11 v e11 E11 c11 r11 => ?_⟩
       subst e11
       have s11 : Same H10 H11 := fun b o e => c11 b o e (by rw [fl9]; exact List.not_mem_nil)
       have s711 : Same H7 H11 := fun b o e => s11 _ _ (s710 _ _ e)
       have up : ∀ {zs : List V} {ds : List Dt}, Reps (fun b => M b ∨ b = D) H11 zs ds → Reps (fun b => M b ∨ b = D) (upd H11 D (.lst (acc2 ++ [v]))) zs ds := fun r => r.mono fun a o e n => ⟨by rw [upd_ne (fun z => n (.inr z))]; exact e, n⟩
       refine ⟨s711 _ _ hD7, upd_same, ?_, fun b o e n => by rw [upd_ne n]; exact s711 _ _ (k7 b o e n), fun a ha => ?_⟩
       · rw [tk2, List.filter_append, List.map_append, ← List.append_assoc]
         have e1 : List.filter p [d2] = [d2] := by simp [← hp]
         rw [e1]
         exact up ((racc7.same s711).append (.one r11))
       · by_cases hb : a = D
         · subst hb; exact ⟨_, upd_same, fun xs z => by cases z⟩
         · rw [upd_ne hb]; exact E11.al a ha
    · have e : i2 = its2.length := by grind
      subst e
      refine .inl ⟨yl2.stop H7 kf7, hD7, ?_, fun b o e => k7 b o (s26 _ _ (s2 _ _ e)) (ne_of_none e hD), mo7⟩
      rw [List.take_length] at racc7
      rw [tkF, hF]
      exact racc7
 · have e : i = its.length := by grind
   subst e
   refine .inl ⟨yl.stop H2 kf, ?_⟩
   rw [List.take_length] at racc
   have eH : upd (fun b => if b = D then none else H2 b) D (.lst acc) = H2 := by
    funext b
    by_cases hb : b = D
    · subst hb; rw [upd_same, hD2]
    · rw [upd_ne hb, if_neg hb]
   rw [← eH]
   have sH : Same H1 (fun b => if b = D then none else H2 b) := fun b o e => by
    show (if b = D then none else H2 b) = some o
    rw [if_neg (ne_of_none e hD)]; exact s2 _ _ e
   refine k _ _ _ _ _ q1 (E1.same sH) (c1.tr (Chg.of sH)) (racc.mono fun a o e n => ⟨?_, fun z => n (.inl z)⟩) (by show (if D = D then none else H2 D) = none; rw [if_pos rfl])
   show (if a = D then none else H2 a) = some o
   rw [if_neg (fun z => n (.inr z))]; exact e))
def dSetOF (i : Nat) (t : DTO) : DTS := fun Δ δ => t δ fun ds δ' => okSet δ' i ∧ Δ.nx (δ'.set i (.im (.lst ds)))
theorem s_comp2F (i n1 : Nat) {gh gh2 : TG} {y : Str} {pos' py : Pos} (hN : X.N.Nodup) (S : CpOk X N nt js scope) (hc : X.calm = true) (hi : Iv X tg iter ti) (hg : ∀ s H cl C ex, PG (blk X N scope s H cl C ex) tg gh) (hlow : GLow n1 gh) (hgr : ∀ v σ H Q, lG g v σ H Q → gh v σ H Q) (hf : ∀ s H cl C ex, PF (blk X N scope s H cl C ex) ifs (lT tc))
  (hi2 : ∀ s H cl C ex, Iv (blk X N scope s H cl C ex) tg2 iter2 ti2) (hg2 : ∀ s H cl C ex, PG (blk X N scope s H cl C ex) tg2 gh2) (hmid : GMid n1 nt gh2) (hgr2 : ∀ v σ H Q, lG g2 v σ H Q → gh2 v σ H Q) (hf2 : ∀ s H cl C ex, PF (blk X N scope s H cl C ex) ifs2 (lT tc2)) (he : ∀ s H cl C ex, Ev (blk X N scope s H cl C ex) elt te)
  (hiN : autoParam (X.N[i]? = some y) au5._auto_1) (hy : autoParam (Loc X.env.scope y) au9._auto_1) (hsw : autoParam (swapsWith (.ListComp elt [⟨tg, iter, ifs, 0⟩, ⟨tg2, iter2, ifs2, 0⟩] scope pos) (some (.Name y py)) pos'.line X.env = pure true) au5._auto_1)
  (h1n : autoParam (n1 ≤ nt) au2._auto_1) (hs : autoParam (∀ x, foldedSetIterable iter X.env x = pure x) au4._auto_1) (hs2 : autoParam (∀ s H cl C ex x, foldedSetIterable iter2 (blk X N scope s H cl C ex).env x = pure x) au10._auto_1)
  (hfn : autoParam (X.fn y = true ∨ X.env.scope.names.lookup y = some .local) au1._auto_1) :
  Ex X (.Assign [.Name y py] (.ListComp elt [⟨tg, iter, ifs, 0⟩, ⟨tg2, iter2, ifs2, 0⟩] scope pos) pos') (dSetOF i (dComp2 nt js ti g tc ti2 g2 tc2 te)) := PS.imp (ps_comp2 hN hiN hy S hc hi hg hlow h1n hi2 hs2 hg2 hmid hf2 hf he hsw hs hfn) fun D σ H h => by
 obtain ⟨Ws, M, α, δ, Δ, E, L, q⟩ := h
 exact comp2_read hgr hgr2 _ _ _ ⟨Ws, M, α, δ, _, E, q, fun ds δ' H1 xs a ⟨ok, q1⟩ E1 c1 r1 h1 => by
  have E2 := E1.setNew (s := .ow ds) h1 (fun xs z => by cases z) ok rfl ⟨a, xs, rfl, rfl, upd_same, r1.grow h1⟩
  obtain ⟨M', α', E3, _⟩ := E2.frz (List.getElem?_set_self ok.lt)
  rw [List.set_set] at E3
  exact L.nx _ _ _ _ _ E3 q1⟩
end
end LD
end
section
namespace LSrt
open PySem PySem.Spec L2 LB PyProof.Rows
theorem vals_map {f : Nat → V} {g : Nat → Value} : ∀ {l : List Nat}, (∀ i ∈ l, RelV (f i) (g i)) → Vals (l.map f) (l.map g)
 | [], _ => .nil
 | i :: l, h => .cons (h i (by simp)) (vals_map fun j hj => h j (by simp [hj]))
theorem map_getD {α : Type} {ws : List α} {d : α} : (List.range ws.length).map (fun i => ws.getD i d) = ws := by
 apply List.ext_getElem
 · simp
 · intro i h1 h2
   simp [h2]
end LSrt
namespace LD
open PySem PySem.Spec L2 LB PyProof.Rows LSrt
section
variable {X : Cx} {e : Expr} {tA : DTA} {pos p : Pos}
noncomputable def prD (q : Int × Int) : Dt := .tup [.int q.1, .int q.2]
theorem prs_rep {M : Addr → Prop} {H : Hp} : ∀ {xs : List V} {qs : List (Int × Int)}, Reps M H xs (qs.map prD) → ∃ ws : List (V × Int × Int), ws.map (·.1) = xs ∧ ws.map (·.2) = qs ∧ ∀ w ∈ ws, Rep M H w.1 (prD w.2)
 | [], [], _ => ⟨[], rfl, rfl, fun w hw => absurd hw List.not_mem_nil⟩
 | [], _ :: _, h => by have := h.1; simp at this
 | _ :: _, [], h => by have := h.1; simp at this
 | x :: xs, q :: qs, h => by
  rw [List.map_cons] at h
  obtain ⟨y, ys, e, r1, r2⟩ := h.uncons
  cases e
  obtain ⟨ws, e1, e2, hw⟩ := prs_rep r2
  refine ⟨(x, q) :: ws, by rw [List.map_cons, e1], by rw [List.map_cons, e2], fun w hm => ?_⟩
  rcases List.mem_cons.mp hm with z | z
  · rw [z]; exact r1
  · exact hw w z
theorem rep_prs {M : Addr → Prop} {H : Hp} : ∀ {ws : List (V × Int × Int)}, (∀ w ∈ ws, Rep M H w.1 (prD w.2)) → Reps M H (ws.map (·.1)) ((ws.map (·.2)).map prD)
 | [], _ => .nil
 | w :: ws, h => .cons (h w (by simp)) (rep_prs fun v hv => h v (by simp [hv]))
end
end LD
end
section
namespace L2
open PySem PySem.Spec PyProof.Rows
section
variable {X : Cx} {a b c e : Expr} {ta tb tc te : TE} {pos : Pos}
def tChain3 (r r' r'' : R2) (ta tb tc te : TE) : TE := fun σ H Q => ta σ H fun x H1 => tb σ H1 fun y H2 => r x y H2 fun z H3 => ∃ k, z = .bl k ∧
 (if k = true then tc σ H3 fun w H4 => r' y w H4 fun z' H5 => ∃ k', z' = .bl k' ∧ (if k' = true then te σ H5 fun v H6 => r'' w v H6 Q else Q (.bl false) H5) else Q (.bl false) H3)
theorem pe_chain3 {o o' o'' : CmpOp} {r r' r'' : R2} (h1 : OpR X (compareOp o) r) (h2 : OpR X (compareOp o') r') (h3 : OpR X (compareOp o'') r'') (ha : PE X a ta) (hb : PE X b tb) (hc : PE X c tc) (he : PE X e te)
  (hm : autoParam (lastMarks [o, o', o''] [b, c, e] = false) au6._auto_1) : PE X (.Compare a [o, o', o''] [b, c, e] pos) (tChain3 r r' r'' ta tb tc te) := by
 intro pins s σ H Q I h
 refine Compare_chain (thn (ha pins s σ H _ I h) fun v s1 z1 => ?_) hm
 obtain ⟨x, H1, I1, r1, q1⟩ := z1
 refine chain_link (thn (hb pins s1 σ H1 _ I1 q1) fun u s2 z2 => ?_)
 obtain ⟨y, H2, I2, r2, q2⟩ := z2
 refine thn (h1 pins s2 σ H2 x y v u _ I2 r1 r2 q2) fun d s3 z3 => ?_
 obtain ⟨z, H3, I3, r3, k, ek, q3⟩ := z3
 subst ek
 cases r3
 refine wpAny_truthy_bool ?_
 cases k with
 | false => exact ite_ff ⟨.bl false, H3, I3, rfl, q3⟩
 | true =>
  refine ite_tt (chain_link (thn (hc pins s3 σ H3 _ I3 q3) fun w s4 z4 => ?_))
  obtain ⟨y2, H4, I4, r4, q4⟩ := z4
  refine thn (h2 pins s4 σ H4 y y2 u w _ I4 r2 r4 q4) fun d s5 zz5 => ?_
  obtain ⟨z2, H5, I5, r5, k2, ek2, q5⟩ := zz5
  subst ek2
  cases r5
  refine wpAny_truthy_bool ?_
  cases k2 with
  | false => exact ite_ff ⟨.bl false, H5, I5, rfl, q5⟩
  | true => exact ite_tt (chain_last (thn (he pins s5 σ H5 _ I5 q5) fun w2 s6 zz6 => (by obtain ⟨y3, H6, I6, r6, q6⟩ := zz6; exact (h3 pins s6 σ H6 y2 y3 w w2 Q I6 r4 r6 q6))))
theorem pt_chain3 {o o' o'' : CmpOp} {r r' r'' : R2} (h1 : OpR X (compareOp o) r) (h2 : OpR X (compareOp o') r') (h3 : OpR X (compareOp o'') r'') (ha : PE X a ta) (hb : PE X b tb) (hc : PE X c tc) (he : PE X e te)
  (hm : autoParam (lastMarks [o, o', o''] [b, c, e] = false) au6._auto_1) : PT X (.Compare a [o, o', o''] [b, c, e] pos) (tTest (tChain3 r r' r'' ta tb tc te)) := by
 intro pins s σ H Q I h
 refine isTrue_chain (thn (ha pins s σ H _ I h) fun v s1 z1 => ?_) hm
 obtain ⟨x, H1, I1, r1, q1⟩ := z1
 refine test_link (thn (hb pins s1 σ H1 _ I1 q1) fun u s2 z2 => ?_)
 obtain ⟨y, H2, I2, r2, q2⟩ := z2
 refine thn (h1 pins s2 σ H2 x y v u _ I2 r1 r2 q2) fun d s3 z3 => ?_
 obtain ⟨z, H3, I3, r3, k, ek, q3⟩ := z3
 subst ek
 cases r3
 refine wpAny_truthy_bool ?_
 cases k with
 | false =>
  obtain ⟨k', e', q'⟩ := q3
  cases e'
  exact ite_ff ⟨H3, I3, q'⟩
 | true =>
  refine ite_tt (test_link (thn (hc pins s3 σ H3 _ I3 q3) fun w s4 z4 => ?_))
  obtain ⟨y2, H4, I4, r4, q4⟩ := z4
  refine thn (h2 pins s4 σ H4 y y2 u w _ I4 r2 r4 q4) fun d s5 zz11 => ?_
  obtain ⟨z2, H5, I5, r5, k2, ek2, q5⟩ := zz11
  subst ek2
  cases r5
  refine wpAny_truthy_bool ?_
  cases k2 with
  | false =>
   obtain ⟨k', e', q'⟩ := q5
   cases e'
   exact ite_ff ⟨H5, I5, q'⟩
  | true =>
   refine ite_tt (test_last (thn (he pins s5 σ H5 _ I5 q5) fun w2 s6 ⟨y3, H6, I6, r6, q6⟩ => thn (h3 pins s6 σ H6 y2 y3 w w2 _ I6 r4 r6 q6) fun d' s7 zz13 => ?_))
   obtain ⟨z3, H7, I7, r7, k3, e3, q7⟩ := zz13
   subst e3
   cases r7
   exact wpAny_truthy_bool ⟨H7, I7, q7⟩
end
end L2
namespace LD
open PySem PySem.Spec L2 LB PyProof.Rows LSrt
section
variable {X : Cx} {a b c e f : Expr} {ta tb tc te t : DTE} {tA : DTA} {pos p p2 : Pos}
def dLt3 (ta tb tc te : DTE) : DTE := fun δ Q => ta δ fun d1 δ1 => tb δ1 fun d2 δ2 => ∃ i j : Int, d1 = .int i ∧ d2 = .int j ∧ (if i < j then tc δ2 fun d3 δ3 => ∃ k : Int, d3 = .int k ∧ (if j < k then te δ3 fun d4 δ4 => ∃ l : Int, d4 = .int l ∧ Q (.bl (decide (k < l))) δ4 else Q (.bl false) δ3) else Q (.bl false) δ2)
theorem lt3_read : ∀ σ H Q, lE (dLt3 ta tb tc te) σ H Q → tChain3 (rI0 fun i j => .bl (decide (i < j))) (rI0 fun i j => .bl (decide (i < j))) (rI0 fun i j => .bl (decide (i < j))) (lE ta) (lE tb) (lE tc) (lE te) σ H Q := fun σ H Q zz10 => (by obtain ⟨W, M, α, δ, Qd, E, q, k⟩ := zz10; exact (
 ⟨W, M, α, δ, _, E, q, fun d1 δ1 H1 x q1 E1 c1 r1 => ⟨W, M, α, δ1, _, E1, q1, fun d2 δ2 H2 y zz11 E2 c2 r2 => (by obtain ⟨i, j, e1, e2, q2⟩ := zz11; exact (by
  subst e1; subst e2
  refine ⟨i, j, r1.ofInt, r2.ofInt, decide (i < j), rfl, ?_⟩
  by_cases h : i < j
  · rw [if_pos h] at q2
    rw [if_pos (decide_eq_true h)]
    refine ⟨W, M, α, δ2, _, E2, q2, fun d3 δ3 H3 z zz18 E3 c3 r3 => ?_⟩
    obtain ⟨k1, e3, q3⟩ := zz18
    subst e3
    refine ⟨j, k1, r2.ofInt, r3.ofInt, decide (j < k1), rfl, ?_⟩
    by_cases h2 : j < k1
    · rw [if_pos h2] at q3
      rw [if_pos (decide_eq_true h2)]
      refine ⟨W, M, α, δ3, _, E3, q3, fun d4 δ4 H4 v zz19 E4 c4 r4 => ?_⟩
      obtain ⟨l, e4, q4⟩ := zz19
      subst e4
      exact ⟨k1, l, r3.ofInt, r4.ofInt, k _ _ _ _ q4 E4 (((c1.tr c2).tr c3).tr c4) (.bl _)⟩
    · rw [if_neg h2] at q3
      rw [if_neg (by rw [decide_eq_true_eq]; exact h2)]
      exact k _ _ _ _ q3 E3 ((c1.tr c2).tr c3) (.bl _)
  · rw [if_neg h] at q2
    rw [if_neg (by rw [decide_eq_true_eq]; exact h)]
    exact k _ _ _ _ q2 E2 (c1.tr c2) (.bl _)))⟩⟩))
theorem d_lt3 (ha : Ev X a ta) (hb : Ev X b tb) (hc : Ev X c tc) (he : Ev X e te) (hm : autoParam (lastMarks [.Lt, .Lt, .Lt] [b, c, e] = false) au6._auto_1) : Ev X (.Compare a [.Lt, .Lt, .Lt] [b, c, e] pos) (dLt3 ta tb tc te) := PE.imp (pe_chain3 op_lt op_lt op_lt ha hb hc he hm) lt3_read
theorem t_lt3 (ha : Ev X a ta) (hb : Ev X b tb) (hc : Ev X c tc) (he : Ev X e te) (hm : autoParam (lastMarks [.Lt, .Lt, .Lt] [b, c, e] = false) au6._auto_1) : Tv X (.Compare a [.Lt, .Lt, .Lt] [b, c, e] pos) (dT (dLt3 ta tb tc te)) := PT.imp (pt_chain3 op_lt op_lt op_lt ha hb hc he hm) fun σ H Q h => lt3_read _ _ _ (test_read _ _ _ h)
theorem two_arg {M : Addr → Prop} {H : Hp} {xs : List V} {d d2 : Dt} (h : Reps M H xs [d, d2]) : ∃ x y, xs = [x, y] ∧ Rep M H x d ∧ Rep M H y d2 := by
 obtain ⟨x, ys, rfl, r1, r2⟩ := h.uncons
 obtain ⟨y, rfl, r3⟩ := one_arg r2
 exact ⟨x, y, rfl, r1, r3⟩
inductive D_max2 (ds : List Dt) (Q : Dt → Prop) : Prop
 | mk (i j : Int) (h1 : ds = [.int i, .int j]) (h2 : Q (.int (max i j)))
inductive D_min2 (ds : List Dt) (Q : Dt → Prop) : Prop
 | mk (i j : Int) (h1 : ds = [.int i, .int j]) (h2 : Q (.int (min i j)))
theorem d_max2 (hc : X.calm = true) (hm : X.mg "max" = none) (ha : Av X [e, f] tA) (hg : autoParam (Gl X "max") au5._auto_1) (he : autoParam (starEach [e, f] X.env = (false, eval e X.env) :: starEach [f] X.env) au5._auto_1) (hpl : autoParam ((backTo pos (starEach [f] X.env)).any (·.1) = false) au5._auto_1) :
  Ev X (.Call (.Name "max" p) [e, f] [] pos) (dCa D_max2 tA) := d_callB (call_max2 hc) (fun M H xs ds Qd Q al r zz20 k => (by obtain ⟨i, j, e, q⟩ := zz20; exact (by
 subst e
 obtain ⟨x, y, rfl, r1, r2⟩ := two_arg r
 cases r1.ofInt
 cases r2.ofInt
 exact ⟨i, j, rfl, by rw [show (if j > i then j else i) = max i j by by_cases c : j > i <;> simp only [c, if_true, if_false] <;> lia]; exact k H _ _ q (fun _ _ z => z) (.int _)⟩))) hg hm boot_max' ha (by decide) (by decide) he hpl
theorem d_min2 (hc : X.calm = true) (hm : X.mg "min" = none) (ha : Av X [e, f] tA) (hg : autoParam (Gl X "min") au5._auto_1) (he : autoParam (starEach [e, f] X.env = (false, eval e X.env) :: starEach [f] X.env) au5._auto_1) (hpl : autoParam ((backTo pos (starEach [f] X.env)).any (·.1) = false) au5._auto_1) :
  Ev X (.Call (.Name "min" p) [e, f] [] pos) (dCa D_min2 tA) := d_callB (call_min2 hc) (fun M H xs ds Qd Q al r zz21 k => (by obtain ⟨i, j, e, q⟩ := zz21; exact (by
 subst e
 obtain ⟨x, y, rfl, r1, r2⟩ := two_arg r
 cases r1.ofInt
 cases r2.ofInt
 exact ⟨i, j, rfl, by rw [show (if j < i then j else i) = min i j by by_cases c : j < i <;> simp only [c, if_true, if_false] <;> lia]; exact k H _ _ q (fun _ _ z => z) (.int _)⟩))) hg hm boot_min' ha (by decide) (by decide) he hpl
end
end LD
end
section
namespace LDc
open PySem PySem.Spec L2 PyProof.Rows
theorem list_keys_none : typeLookup (.type "list") "keys" = pure none := by rw [typeLookup_type, builtinLookup_eq_fast]; kernel_rfl
theorem keys_miss {prog : Program} {w : World} {A : Around} {E : Value → Shared → Prop} {s : Shared} {a : Addr} {xs : Array Value} {k : Nat} {sl : Array (Option Value)} {Q : Option Value → Shared → Prop}
  (hx : s.heap.get? a = some { cls := .type "list", dict := none, data := .seq xs k, slots := sl }) (hA : A.handled = none)
  (h : ∀ h' tk, (∀ b o, s.heap.get? b = some o → h'.get? b = some o) → Q none { s with heap := h', toks := tk }) :
  wpAny (model prog w) A (getAttr? (.ref a) "keys") Q E s := by
 obtain ⟨hp, g, d, tk, os⟩ := s
 have hT : ∀ tk', (⟨hp, g, d, tk', os⟩ : Shared).TypeIs (.ref a) "list" := fun _ => ⟨_, hx, rfl⟩
 have f1 := sub_AttributeError
 have f3 := F.slot_list_getattribute.lookup
 have f4 := F.slot_list_getattribute.bind (.ref a)
 have f5 := am_list_getattr_none
 unfold getAttr? getAttrBy? getAttrBy
 repeat (any_goals (first | assumption | exact hT _ | ((with_reducible show wpAny _ _ (call (Value.builtin "list.__getattribute__") _ _) _ _ _); refine call_meets F.slot_list_getattribute (hT _) am_entry_list_getattribute (F.args_list_getattribute_2 _ _) (meets_getattribute_miss_list a xs k sl "keys" _ list_keys_none (by decide +kernel) (by size_fits)) ⟨hx, hA, fun h' tk' e hx' => ?_⟩) | wp_step))
 obtain ⟨t', u', he⟩ := hx'.there
 show wpAny _ _ (getattributeRaised _ _ _ _ _ _ _) _ _ _
 unfold getattributeRaised
 repeat (any_goals (first | assumption | wp_step))
 exact h _ _ hx'.of.keeps
theorem entry_upd_loop : entryFor table "dict.update.loop" = some Builtin.«dict.update.loop» := entryFor_of_fast (by kernel_rfl)
theorem plain_upd_loop : plainId "dict.update.loop" = true := by decide +kernel
theorem upd_loop {X : Cx} {pins : List (Addr × Obj)} {σ : L2.St} {A : Around} {R : Result → Shared → Prop} {a l it : Addr} {refs : List V} {ps : List (Key × V)} (hn : refs.length = ps.length) (hA : A.handled = none) :
  ∀ (k i : Nat) (s : Shared) (H : Hp) (kvs : List (Key × V)), ps.length - i = k → i ≤ ps.length → Inv X pins σ H s → H a = some (.dK kvs) → H l = some (.lst refs) → (∀ (j : Nat) p, ps[j]? = some p → ∃ q, refs[j]? = some (.ref q) ∧ H q = some (.tup [kV p.1, p.2])) → kvs.length + (ps.length - i) ≤ sizeLine →
   s.heap.IsListIter it l i → FpOk X pins H it → (∀ s', Inv X pins σ (upd H a (.dK (mergeK kvs (ps.drop i)))) s' → R (.ok (.ret .none)) s') → codeAny (model X.prog X.w) A (.builtin "dict.update.loop" ⟨[.ref a, .ref it, rawInt (i : Int), .none], []⟩) R s := by
 intro k
 induction k with
 | zero =>
  intro i s H kvs hk hi I ha hl hp hsz st fo hR
  have hin : i = ps.length := by omega
  subst hin
  obtain ⟨its, rv, p, hz⟩ := I.list (SqL.of hl)
  refine codeAny_builtin entry_upd_loop ?_
  rw [Around.under_plainId plain_upd_loop _]
  show wpAny _ A.in1 (pyNext (.ref it) >>= _) _ _ s
  obtain ⟨f0, f1, f2, f3, f4, f5⟩ := id fo
  have hl' := rv.length
  refine wpAny_bind (wpAny_pyNext_list_end hA st p.isList (by simp; omega) fun h' eb => ?_)
  have I1 : Inv X pins σ H { s with heap := h' } := I.turned (t' := s.toks) (fun b o hb e => eb b o hb e) f0 f1 f3 f4 f5
  have e : upd H a (.dK (mergeK kvs (ps.drop ps.length))) = H := by
   rw [List.drop_length]
   funext b
   by_cases hb : b = a
   · subst hb; rw [upd_same, ha]; rfl
   · rw [upd_ne hb]
  rw [e] at hR
  exact wpAny_bind (wpAny_pure (wpAny_pure (hR _ I1)))
 | succ k ih =>
  intro i s H kvs hk hi I ha hl hp hsz st fo hR
  have hlt : i < ps.length := by omega
  obtain ⟨q, hq, hqt⟩ := hp i ps[i] (List.getElem?_eq_getElem hlt)
  obtain ⟨its, rv, p, hz⟩ := I.list (SqL.of hl)
  obtain ⟨u, hu, ru⟩ := rv.get hq
  cases (show u = Value.ref q from ru)
  refine codeAny_builtin entry_upd_loop ?_
  rw [Around.under_plainId plain_upd_loop _]
  show wpAny _ A.in1 (pyNext (.ref it) >>= _) _ _ s
  obtain ⟨f0, f1, f2, f3, f4, f5⟩ := id fo
  refine wpAny_bind (wpAny_pyNext_list_item st p.isList (x := .ref q) (by simpa using hu) fun h' st' sb => ?_)
  have I1 : Inv X pins σ H { s with heap := h' } := I.turned (t' := s.toks) (fun b o hb e => (sb.2 b hb).trans e) f0 f1 f3 f4 f5
  obtain ⟨_, its2, r2, o, ho, hc, hdn, n, hdat⟩ := (show ObjOk X.prog X.w H h' q (.tup [kV ps[i].1, ps[i].2]) from I1.hok q _ hqt)
  obtain ⟨ku, vu, rfl, rk, rvv⟩ := vals2 r2
  have hT : ({ s with heap := h' } : Shared).TypeIs (.ref q) "tuple" := ⟨o, ho, hc⟩
  obtain ⟨zz, hdd, vs, rel, dd⟩ := dk_of I1.hok ha
  have hz2 : vs.length ≤ sizeLine := by rw [← rel.length]; exact zz
  have nia : it ≠ a := fun z => by rw [z, ha] at f0; cases f0
  have nla : l ≠ a := fun z => by rw [z, ha] at hl; cases hl
  have lp : (putK kvs ps[i].1 ps[i].2).length ≤ kvs.length + 1 := by have := length_putK kvs ps[i].1 ps[i].2; omega
  refine wpAny_bind (wpAny_holding (wpAny_bind (wpAny_tryCatch ?_)))
  unfold Builtin.Dict.pairItems
  refine wpAny_bind (wpAny_typeOf hT ?_)
  have key : wpAny (model X.prog X.w) A.in1 (holding [ku, vu] (dictSet a ku vu)) (fun _ s2 => wpAny (model X.prog X.w) A.in1 (again (.builtin "dict.update.loop" ⟨[.ref a, .ref it, rawInt ((i : Int) + 1), .none], []⟩)) (fun fin s' => match fin with
   | .done f => R (.ok f) s'
   | .again c' => c'.quiet = true ∧ codeAny (model X.prog X.w) A c' R s') (fun e s' => R (.error e) s') s2) (fun e s' => R (.error e) s') { s with heap := h' } := by
   refine wpAny_holding (wpAny_dictSet_pairs (hsz := hz2) (kV_is rk) dd fun h2 dd' hs => ?_)
   have he : ∃ q, h2.get? a = some q := let ⟨q, _, _, hq, _⟩ := dd'; ⟨q, hq⟩
   have I2 := d_write (t' := s.toks + 1) I1 (by rw [ha]; exact True.intro) hs he (dk_new (by omega) hdd (rel.put ps[i].1 rvv) dd')
   refine wpAny_pure ⟨plainId_quiet plain_upd_loop _, ?_⟩
   have nq : ∀ q', H q' = some (.tup [kV ps[i].1, ps[i].2]) → q' ≠ a := fun q' e z => by rw [z, ha] at e; cases e
   refine ih (i + 1) _ _ (putK kvs ps[i].1 ps[i].2) (by omega) (by omega) I2 upd_same (by rw [upd_ne nla]; exact hl) (fun j p hj => ?_) (by omega) (st'.at fun o e => (hs.2 it nia).trans e) ⟨by rw [upd_ne nia]; exact f0, f1, f2, f3, f4, f5⟩ fun s' I' => hR s' ?_
   · obtain ⟨q2, e1, e2⟩ := hp j p hj
     exact ⟨q2, e1, by rw [upd_ne (fun z => by rw [z, ha] at e2; cases e2)]; exact e2⟩
   · have e : upd (upd H a (.dK (putK kvs ps[i].1 ps[i].2))) a (.dK (mergeK (putK kvs ps[i].1 ps[i].2) (ps.drop (i + 1)))) = upd H a (.dK (mergeK kvs (ps.drop i))) := by
       rw [List.drop_eq_getElem_cons hlt]
       funext b
       by_cases hb : b = a
       · subst hb; rw [upd_same, upd_same]; rfl
       · rw [upd_ne hb, upd_ne hb, upd_ne hb]
     rw [e] at I'
     exact I'
  rw [if_pos (by decide)]
  show wpAny _ A.in1 (seqItems? (.ref q) >>= _) _ _ _
  unfold seqItems?
  refine wpAny_bind (wpAny_bind (wpAny_load ho ?_))
  rw [hdat]
  exact wpAny_pure (wpAny_pure key)
def rUpd : V → List V → Hp → VK → Prop := fun x vs H Q => ∃ a l kvs refs ps, x = .ref a ∧ vs = [.ref l] ∧ H a = some (.dK kvs) ∧ H l = some (.lst refs) ∧ refs.length = ps.length ∧ (∀ (j : Nat) (p : Key × V), ps[j]? = some p → ∃ q, refs[j]? = some (.ref q) ∧ H q = some (.tup [kV p.1, p.2])) ∧ kvs.length + ps.length ≤ sizeLine ∧ Q .non (upd H a (.dK (mergeK kvs ps)))
theorem mt_update {X : Cx} (hA : X.A.handled = none) : MtM X "dict.update" rUpd := by
 intro pins s σ H x xs v us Q I rx rs h
 obtain ⟨a, l, kvs, refs, ps, rfl, rfl, ha, hl, hn, hp, hsz, q⟩ := h
 cases (show v = Value.ref a from rx)
 obtain ⟨u, rfl, ru⟩ := vals1 rs
 cases (show u = Value.ref l from ru)
 obtain ⟨zz, hdd, vs, rel, dd⟩ := dk_of I.hok ha
 obtain ⟨its, rv, p, hz⟩ := I.list (SqL.of hl)
 refine wpAny_call (codeAny_call_builtin F.slot_dict_update.plain F.entry_dict_update (F.slot_dict_update.check _ _ _ _ _ _ _ _ dd.typeIs (F.args_dict_update_2 _ _) ?_))
 have hT := dd.typeIs
 obtain ⟨oD, hoD, hcD⟩ := id hT
 obtain ⟨cD, dD, daD, slD⟩ := oD
 have hcD : cD = .type "dict" := hcD
 subst hcD
 have hlT : s.TypeIs (.ref l) "list" := p.isList.typeIs
 obtain ⟨oL, nl, hL, e1, e2, e3⟩ := id p
 obtain ⟨cL, dL, daL, slL⟩ := oL
 simp only at e1 e2 e3
 subst e1 e2 e3
 unfold Builtin.«dict.update»
 repeat (any_goals (first | assumption | (with_reducible refine keys_miss hL hA fun h1 tk1 kp1 => ?_) | ((with_reducible show wpAny _ _ (pyIter _) _ _ _); refine wpAny_pyIter_list (p.keeps kp1).isList ?_) | wp_step))
 have I1 : Inv X pins σ H { s with heap := h1, toks := tk1 } := I.kept kp1
 have I2 : Inv X pins σ H { s with heap := h1.push { cls := .type "list_iterator", data := .fields #[.ref l, .int 0 0] }, toks := tk1 } := I1.kept (t' := tk1) fun b o e => Heap.get?_push_of_some _ e
 refine ⟨plainId_quiet plain_upd_loop _, upd_loop hn hA ps.length 0 _ H kvs (by omega) (by omega) I2 ha hl hp (by omega) ⟨_, Heap.get?_push_size _ rfl, rfl, rfl⟩ (I1.fpOk (Nat.le_refl _) (I1.hok.fresh (Nat.le_refl _))) fun s' I' => ⟨.non, _, I', rfl, q⟩⟩
end LDc
end
section
namespace LDc
open PySem PySem.Spec L2 PyProof.Rows
theorem mro_dict : mroOf (.type "dict") = pure [.type "dict", .type "object"] := by rw [mroOf_type]; kernel_rfl
theorem lookup_dict_new : typeLookup (.type "dict") "__new__" = pure (some (.builtin "dict.__new__")) := by rw [typeLookup_type, builtinLookup_eq_fast]; kernel_rfl
theorem called_dict : TypeCalled "dict" "dict.__new__" "dict.__init__" :=
 ⟨by decide +kernel, by decide +kernel, ⟨_, _, mro_dict⟩, madeBy_type mro_dict lookup_dict_new (by decide +kernel), by decide +kernel, by rw [isSubtype_type]; kernel_rfl, F.slot_dict_init⟩
theorem typeCall_dict_1 (a : Value) : checkTypeCall "dict" ⟨[a], []⟩ = pure () := by kernel_rfl
theorem newCall_dict_1 (a : Value) : checkBuiltinCall "dict.__new__" ⟨[.type "dict", a], []⟩ = pure () := by kernel_rfl
theorem entry_dict_new : entryFor table "dict.__new__" = some Builtin.«dict.__new__» := entryFor_of_tree (by kernel_rfl)
theorem plain_dict_new : plainId "dict.__new__" = true := by decide +kernel
theorem sub_dict_self : isSubtype (.type "dict") (.type "dict") = pure true := by rw [isSubtype_type]; kernel_rfl
theorem code_dict_new {prog : Program} {w : World} {A : Around} {E : Value → Shared → Prop} {s : Shared} (a : Value) {Q₁ : Value → Shared → Prop}
  (h : Q₁ (.ref s.heap.objs.size) { s with heap := s.heap.push { cls := .type "dict", data := .dict #[] } }) :
  codeAny (model prog w) A (.call (.builtin "dict.__new__") ⟨[.type "dict", a], []⟩) (wants Q₁ E) s := by
 refine codeAny_of_tree ?_
 show wpAny _ A.in1 (do checkBuiltinCall "dict.__new__" ⟨[.type "dict", a], []⟩; again (.builtin "dict.__new__" ⟨[.type "dict", a], []⟩)) _ _ s
 refine wpAny_bind (wpAny_of_eq (newCall_dict_1 a) (wpAny_pure ⟨plainId_quiet plain_dict_new _, codeAny_builtin entry_dict_new ?_⟩))
 rw [Around.under_plainId plain_dict_new _]
 have hsub := sub_dict_self
 have hmro := mro_dict
 obtain ⟨hp, g, d, tk, os⟩ := s
 unfold Builtin.«dict.__new__»
 repeat (any_goals (first | assumption | wp_step))
def rDictP : List V → Hp → VK → Prop := fun xs H Q => ∃ l refs ps, xs = [.ref l] ∧ H l = some (.lst refs) ∧ refs.length = ps.length ∧ (∀ (j : Nat) (p : Key × V), ps[j]? = some p → ∃ q, refs[j]? = some (.ref q) ∧ H q = some (.tup [kV p.1, p.2])) ∧ ps.length ≤ sizeLine ∧ ∀ d, H d = none → Q (.ref d) (upd H d (.dK (mergeK [] ps)))
theorem call_dictP {X : Cx} (hA : X.A.handled = none) : CallR X (.type "dict") rDictP := by
 intro pins s σ H xs us Q I rs h
 obtain ⟨l, refs, ps, rfl, hl, hn, hp, hsz, q⟩ := h
 obtain ⟨u, rfl, ru⟩ := vals1 rs
 cases (show u = Value.ref l from ru)
 have hD : H s.heap.objs.size = none := I.hok.fresh (Nat.le_refl _)
 refine callType_codes (Q₁ := fun obj s₁ => obj = .ref s.heap.objs.size ∧ s₁ = { s with heap := s.heap.push { cls := .type "dict", data := .dict #[] } }) called_dict (typeCall_dict_1 _) F.entry_dict_init (code_dict_new _ ⟨rfl, rfl⟩) fun obj s₁ h₁ => ?_
 obtain ⟨rfl, rfl⟩ := h₁
 have I0 : Inv X pins σ (upd H s.heap.objs.size (.dK [])) { s with heap := s.heap.push { cls := .type "dict", data := .dict #[] } } := I.laid (a := s.heap.objs.size) (o := .dK []) (t' := s.toks) (fun _ _ q => Heap.get?_push_of_some _ q) (Nat.le_refl _) (dk_empty s.heap I.big)
 have nl : l ≠ s.heap.objs.size := ne_of_none hl hD
 have hl0 : (upd H s.heap.objs.size (.dK [])) l = some (.lst refs) := by rw [upd_ne nl]; exact hl
 have hp0 : ∀ (j : Nat) (p : Key × V), ps[j]? = some p → ∃ q, refs[j]? = some (.ref q) ∧ (upd H s.heap.objs.size (.dK [])) q = some (.tup [kV p.1, p.2]) := fun j p hj => by
  obtain ⟨q2, e1, e2⟩ := hp j p hj
  exact ⟨q2, e1, by rw [upd_ne (ne_of_none e2 hD)]; exact e2⟩
 have hup : ∀ o : HO, upd (upd H s.heap.objs.size (.dK [])) s.heap.objs.size o = upd H s.heap.objs.size o := fun o => by
  funext b
  by_cases hb : b = s.heap.objs.size
  · subst hb; rw [upd_same, upd_same]
  · rw [upd_ne hb, upd_ne hb, upd_ne hb]
 obtain ⟨its, rv, p, hz⟩ := I0.list (SqL.of hl0)
 obtain ⟨oL, nL, hL, e1, e2, e3⟩ := id p
 obtain ⟨cL, dL, daL, slL⟩ := oL
 simp only at e1 e2 e3
 subst e1 e2 e3
 have hS : (s.heap.push { cls := .type "dict", data := .dict #[] }).get? s.heap.objs.size = some { cls := .type "dict", data := .dict #[] } := Heap.get?_push_size _ rfl
 have hT : ({ s with heap := s.heap.push { cls := .type "dict", data := .dict #[] } } : Shared).TypeIs (.ref s.heap.objs.size) "dict" := ⟨_, hS, rfl⟩
 have hlT : ({ s with heap := s.heap.push { cls := .type "dict", data := .dict #[] } } : Shared).TypeIs (.ref l) "list" := p.isList.typeIs
 have qq := q _ hD
 generalize hs0 : s.heap.objs.size = D at *
 generalize hs1 : ({ s with heap := s.heap.push { cls := .type "dict", data := .dict #[] } } : Shared) = s0 at *
 have hS0 : s0.heap.get? D = some { cls := .type "dict", data := .dict #[] } := by rw [← hs1]; exact hS
 refine ⟨hT, F.args_dict_init_2 _ _, ?_⟩
 unfold Builtin.«dict.__init__»
 repeat (any_goals (first | assumption | (with_reducible refine keys_miss hL hA fun h1 tk1 kp1 => ?_) | ((with_reducible show wpAny _ _ (pyIter _) _ _ _); refine wpAny_pyIter_list (p.keeps kp1).isList ?_) | wp_step))
 have I1 : Inv X pins σ (upd H D (.dK [])) { s0 with heap := h1, toks := tk1 } := I0.kept kp1
 have I2 : Inv X pins σ (upd H D (.dK [])) { s0 with heap := h1.push { cls := .type "list_iterator", data := .fields #[.ref l, .int 0 0] }, toks := tk1 } := I1.kept (t' := tk1) fun b o e => Heap.get?_push_of_some _ e
 refine ⟨plainId_quiet plain_upd_loop _, upd_loop (A := X.A.in1) hn hA ps.length 0 _ _ [] (by omega) (by omega) I2 upd_same hl0 hp0 (by simpa using hsz) ⟨_, Heap.get?_push_size _ rfl, rfl, rfl⟩ (I1.fpOk (Nat.le_refl _) (I1.hok.fresh (Nat.le_refl _))) fun s' I' => ⟨rfl, .ref D, _, I', rfl, ?_⟩⟩
 rw [hup]
 exact qq
end LDc
end
section
namespace LD
open PySem PySem.Spec L2 LB LDc PyProof.Rows
theorem EnvR.frzDa {Ws : List Wd} {M : Addr → Prop} {α : List (List Addr)} {H : Hp} {σ : L2.St} {δ : List Sl} {i : Nat} (E : EnvR Ws M α H σ δ) {ks : List Key} {ds : List Dt} (hi : δ[i]? = some (.dk ks ds)) {a : Addr} (ha : α[i]? = some [a]) : EnvR Ws (fun b => M b ∧ b ≠ a) (α.set i []) H σ (δ.set i (.im (.dic ks ds))) := by
 have hlt := (List.getElem?_eq_some_iff.mp hi).1
 obtain ⟨a', xs, h1, h2, h3, h4, r⟩ := E.dk hi
 rw [ha] at h2
 cases h2
 have h2 := ha
 have mono : ∀ {v : V} {d : Dt}, Rep M H v d → Rep (fun b => M b ∧ b ≠ a) H v d := fun r => r.mono fun b u e n => ⟨e, fun z => n z.1⟩
 have monos : ∀ {v : List V} {d : List Dt}, Reps M H v d → Reps (fun b => M b ∧ b ≠ a) H v d := fun r => r.mono fun b u e n => ⟨e, fun z => n z.1⟩
 refine ⟨by rw [List.length_set, E.ls], by rw [List.length_set, List.length_set, E.la], fun j s hj => ?_, flat_nd_set E.nd List.nodup_nil (fun x hx => absurd hx List.not_mem_nil), fun b hb => ?_, fun b hb => E.al b hb.1, fun W hW => ?_⟩
 · by_cases hij : i = j
   · subst hij
     rw [List.getElem?_set_self hlt] at hj
     cases hj
     have rm := monos r
     exact ⟨some (.ref a), [], h1, by rw [List.getElem?_set_self (by rw [E.la]; exact hlt)], rfl, _, rfl, .dic h3 (fun z => z.2 rfl) h4 rm.1 rm.2⟩
   · rw [List.getElem?_set_ne hij] at hj
     obtain ⟨o2, as2, g1, g2, g3⟩ := E.sl j s hj
     refine ⟨o2, as2, g1, by rw [List.getElem?_set_ne hij]; exact g2, ?_⟩
     cases s with
     | no => exact g3
     | im d => exact ⟨g3.1, let ⟨v, e, r⟩ := g3.2; ⟨v, e, mono r⟩⟩
     | ow ds => obtain ⟨b, xs, e1, e2, e3, r⟩ := g3; exact ⟨b, xs, e1, e2, e3, monos r⟩
     | bx t => exact g3
     | dk ks ds => obtain ⟨b, vs, e1, e2, e3, e4, r⟩ := g3; exact ⟨b, vs, e1, e2, e3, e4, monos r⟩
     | ob R => obtain ⟨v, e, r⟩ := g3; exact ⟨v, e, R.st r (fun _ _ _ q => q) fun b u q n => ⟨q, fun z => n z.1⟩⟩
     | fn f => exact g3
 · obtain ⟨l, hl, hx⟩ := List.mem_flatten.mp hb
   obtain ⟨j, hj, e⟩ := List.getElem_of_mem hl
   have ej : (α.set i [])[j]? = some l := by rw [List.getElem?_eq_getElem hj, e]
   by_cases hij : i = j
   · subst hij
     rw [List.getElem?_set_self (by rw [E.la]; exact hlt)] at ej
     cases ej
     exact absurd hx List.not_mem_nil
   · rw [List.getElem?_set_ne hij] at ej
     refine ⟨E.mu b (flat_get ej hx), fun z => ?_⟩
     subst z
     exact flat_apart E.nd ej h2 (Ne.symm hij) hx (by simp)
 · have k := E.w W hW
   refine ⟨k.bs, k.ex, fun b hb => (flat_set hb).elim (k.fr b) fun z => absurd z List.not_mem_nil, fun b z => ⟨k.m0 b z, fun y => ?_⟩, fun b z => k.m1 b z.1, fun d c e => ?_, fun j s as g1 g2 nb => ?_⟩
   · subst y
     exact k.fz i _ _ hi h2 rfl b (by simp) z
   · obtain ⟨t, e1, e2⟩ := k.bx d c e
     have : i ≠ 0 := fun z => by subst z; rw [hi] at e1; cases e1
     exact ⟨t, by rw [List.getElem?_set_ne this]; exact e1, by rw [List.getElem?_set_ne this]; exact e2⟩
   · by_cases hij : i = j
     · subst hij
       rw [List.getElem?_set_self (by rw [E.la]; exact hlt)] at g2
       cases g2
       exact fun b hb => absurd hb List.not_mem_nil
     · rw [List.getElem?_set_ne hij] at g1 g2
       exact k.fz j s as g1 g2 nb
noncomputable def prT (x : Int) : Dt := .tup [.int x, .bl true]
noncomputable def ksT (L : List Int) : List Key := L.map .inl
noncomputable def dsT (L : List Int) : List Dt := L.map fun _ => .bl true
theorem merge_new : ∀ {ps vs : List (Key × V)}, ((vs ++ ps).map (·.1)).Nodup → mergeK vs ps = vs ++ ps
 | [], vs, _ => by rw [List.append_nil]; rfl
 | p :: ps, vs, h => by
  have e : mergeK vs (p :: ps) = mergeK (putK vs p.1 p.2) ps := rfl
  have n : (vs.any fun kv => decide (kv.1 = p.1)) = false := by
   rw [any_mem, decide_eq_false_iff_not]
   intro z
   rw [List.map_append, List.map_cons] at h
   exact (List.nodup_append.mp h).2.2 _ z _ List.mem_cons_self rfl
  have e2 : putK vs p.1 p.2 = vs ++ [p] := by unfold putK; rw [n]; rfl
  rw [e, e2, merge_new (by rw [List.append_assoc]; exact h), List.append_assoc]
  rfl
theorem prs_of {M : Addr → Prop} {H : Hp} : ∀ {L : List Int} {xs : List V}, Reps M H xs (L.map prT) → xs.length = (L.map fun x => ((.inl x : Key), V.bl true)).length ∧ ∀ (j : Nat) (p : Key × V), (L.map fun x => ((.inl x : Key), V.bl true))[j]? = some p → ∃ q, xs[j]? = some (.ref q) ∧ H q = some (.tup [kV p.1, p.2]) := fun {L xs} r => by
 refine ⟨by rw [r.1, List.length_map, List.length_map], fun j p hj => ?_⟩
 rw [List.getElem?_map] at hj
 cases e : L[j]? with
 | none => rw [e] at hj; cases hj
 | some x =>
  rw [e] at hj
  cases hj
  obtain ⟨v, hv, rv⟩ := r.get (i := j) (d := prT x) (by rw [List.getElem?_map, e]; rfl)
  obtain ⟨q, ys, rfl, hq, _, ry⟩ := rv.ofTup
  obtain ⟨y1, ys, rfl, q1, q2⟩ := ry.uncons
  obtain ⟨y2, rfl, q3⟩ := one_arg q2
  cases q1.ofInt
  cases q3.ofBl
  exact ⟨q, hv, hq⟩
theorem nd_keys {L : List Int} (h : L.Nodup) : ((L.map fun x => ((.inl x : Key), V.bl true)).map (·.1)).Nodup := by
 rw [List.map_map]
 exact List.Pairwise.map _ (fun a b (n : a ≠ b) (z : (Sum.inl a : Key) = Sum.inl b) => n (Sum.inl.inj z)) h
theorem ds_rep {M : Addr → Prop} {H : Hp} : ∀ {L : List Int}, Reps M H ((L.map fun x => ((.inl x : Key), V.bl true)).map (·.2)) (dsT L)
 | [] => .nil
 | x :: L => .cons (.bl true) ds_rep
theorem ks_map {L : List Int} : (L.map fun x => ((.inl x : Key), V.bl true)).map (·.1) = ksT L := by rw [List.map_map]; rfl
section
variable {X : Cx} {a b e : Expr} {t : DTE} {tA : DTA} {pos p apos cpos : Pos}
theorem boot_dict' : bootBuiltins "dict" = some (.type "dict") := by decide +kernel
def dDictT (i : Nat) (t : DTA) : DTS := fun Δ δ => t δ fun es δ' => ∃ L : List Int, es = [.lst (L.map prT)] ∧ L.Nodup ∧ L.length ≤ 1000 ∧ okSet δ' i ∧ Δ.nx (δ'.set i (.dk (ksT L) (dsT L)))
theorem s_dictT (i : Nat) {x : Str} {pos' : Pos} (hN : X.N.Nodup) (hA : X.A.handled = none) (hm : X.mg "dict" = none) (ha : Av X [e] tA) (hi : autoParam (X.N[i]? = some x) au5._auto_1) (hx : autoParam (Loc X.env.scope x) au9._auto_1) (hg : autoParam (Gl X "dict") au5._auto_1) (he : autoParam (starEach [e] X.env = (false, eval e X.env) :: starEach [] X.env) au5._auto_1) (hpl : autoParam ((backTo cpos (starEach [] X.env)).any (·.1) = false) au5._auto_1)
  (hs : autoParam (swapsWith (.Call (.Name "dict" p) [e] [] cpos) (some (.Name x pos')) pos.line X.env = pure false) au5._auto_1) (hf : autoParam (X.fn x = true ∨ X.env.scope.names.lookup x = some .local) au1._auto_1) :
  Ex X (.Assign [.Name x pos'] (.Call (.Name "dict" p) [e] [] cpos) pos) (dDictT i tA) := PS.imp (ps_set hN hi hx (pe_callTy (call_dictP hA) hg hm boot_dict' ha (by decide) (by decide) he hpl) hs hf) fun D σ H zz2 => (by obtain ⟨Ws, M, α, δ, Δ, E, L, q⟩ := zz2; exact (
 ⟨Ws, M, α, δ, _, E, q, fun es δ' H' vs zz3 E1 c1 r1 => (by obtain ⟨l, e, nd, le, ok, q1⟩ := zz3; exact (by
  subst e
  obtain ⟨y, rfl, ry⟩ := one_arg r1
  obtain ⟨b, ws, rfl, hb, nb, rb⟩ := ry.ofLst
  obtain ⟨g1, g2⟩ := prs_of rb
  refine ⟨b, ws, _, rfl, hb, g1, g2, by rw [List.length_map]; exact Nat.le_of_lt (small1000 le), fun d hd => ?_⟩
  rw [merge_new (vs := []) (by rw [List.nil_append]; exact nd_keys nd), List.nil_append]
  exact L.nx _ _ _ _ _ (E1.setNew (s := .dk (ksT l) (dsT l)) hd (fun xs z => by cases z) ok rfl ⟨d, _, rfl, rfl, upd_same, ks_map, ds_rep⟩) q1))⟩))
def dLenD (i : Nat) : DTE := fun δ Q => ∃ ks ds, δ[i]? = some (.dk ks ds) ∧ Q (.int ks.length) δ
theorem d_lenD (i : Nat) {x : Str} {xp : Pos} (hm : X.mg "len" = none) (ho : PE X (.Name x xp) (tVar i)) (hg : autoParam (Gl X "len") au5._auto_1) (he : autoParam (starEach [.Name x xp] X.env = (false, eval (.Name x xp) X.env) :: starEach [] X.env) au5._auto_1) (hpl : autoParam ((backTo pos (starEach [] X.env)).any (·.1) = false) au5._auto_1) :
  Ev X (.Call (.Name "len" p) [.Name x xp] [] pos) (dLenD i) := PE.imp (pe_callB call_lenD hg hm PySem.boot_len (pa_cons ho pa_nil) (by decide) (by decide) he hpl) fun σ H Q zz4 => (by obtain ⟨W, M, α, δ, Qd, E, ⟨ks, ds, hd, q⟩, k⟩ := zz4; exact (by
 obtain ⟨a, vs, h1, h2, h3, h4, r⟩ := E.dk hd
 refine ⟨_, h1, a, vs, rfl, h3, ?_⟩
 have : vs.length = ks.length := by rw [← h4, List.length_map]
 rw [this]
 exact k _ _ _ _ q E (fun _ _ z _ => z) (.int _)))
def dUpdT (i : Nat) (t : DTA) : DTE := fun δ Q => (∃ ks0 ds0, δ[i]? = some (.dk ks0 ds0)) ∧ t δ fun es δ' => ∃ L M : List Int, es = [.lst (M.map prT)] ∧ δ'[i]? = some (.dk (ksT L) (dsT L)) ∧ (L ++ M).Nodup ∧ (L ++ M).length ≤ 1000 ∧ Q .non (δ'.set i (.dk (ksT (L ++ M)) (dsT (L ++ M))))
theorem map_of {L : List Int} : ∀ {M : Addr → Prop} {H : Hp} {vs : List (Key × V)}, vs.map (·.1) = ksT L → Reps M H (vs.map (·.2)) (dsT L) → vs = L.map fun x => ((.inl x : Key), V.bl true) := by
 induction L with
 | nil => intro M H vs e r
          have : vs.length = 0 := by have := congrArg List.length e; simpa [ksT] using this
          rw [List.eq_nil_of_length_eq_zero this]; rfl
 | cons x L ih =>
  intro M H vs e r
  cases vs with
  | nil => cases e
  | cons v vs =>
   rw [List.map_cons] at e r
   obtain ⟨y, ys, e2, r1, r2⟩ := r.uncons
   cases e2
   injection e with e3 e4
   rw [List.map_cons, ← ih e4 r2]
   obtain ⟨k, u⟩ := v
   simp only at e3 r1
   subst e3
   cases r1.ofBl
   rfl
theorem d_updT (i : Nat) {x : Str} {xp : Pos} (hA : X.A.handled = none) (ho : PE X (.Name x xp) (tVar i)) (ha : Av X [e] tA)
  (hbase : autoParam (attributeBase (.Name x xp) "update" X.env (eval (.Name x xp) X.env) = eval (.Name x xp) X.env) au5._auto_1)
  (hfew : autoParam (((backTo cpos (starEach [e] X.env)).all (fun x => !x.1) && (backToKw cpos (keywordEach [] X.env)).all (fun x => x.1.isSome) && decide ([e].length + ([] : List Keyword).length + (if ([] : List Keyword).isEmpty then 0 else 1) < 30)) = true) au5._auto_1)
  (hline : autoParam ((apos.endLine == cpos.line) = true) au5._auto_1) (hs : autoParam (starEach [e] X.env = (false, eval e X.env) :: starEach [] X.env) au5._auto_1) (hplain : autoParam ((backTo cpos (starEach [] X.env)).any (·.1) = false) au5._auto_1) :
  Ev X (.Call (.Attribute (.Name x xp) "update" apos) [e] [] cpos) (dUpdT i tA) :=
 PE.imp (pe_bm PySem.F.plainAttrs_dict PySem.F.slot_dict_update PySem.F.type_dict_update (mt_update hA) ho ha hbase hfew hline hs hplain) fun σ H Q zz5 => (by obtain ⟨W, M, α, δ, Qd, E, ⟨⟨ks0, ds0, h0⟩, q⟩, k⟩ := zz5; exact (by
  obtain ⟨a, vs0, h1, h2, h3, h4, r⟩ := E.dk h0
  refine ⟨_, h1, .inr (.inr (.inl ⟨rfl, .inl ⟨_, h3⟩⟩)), W, M, α, δ, _, E, q, fun es δ' H' zs zz7 E1 c1 r1 => ?_⟩
  obtain ⟨L, M2, e, hd, nd, le, q1⟩ := zz7
  subst e
  obtain ⟨y, rfl, ry⟩ := one_arg r1
  obtain ⟨b, ws, rfl, hb, nb, rb⟩ := ry.ofLst
  obtain ⟨g1, g2⟩ := prs_of rb
  obtain ⟨a', vs, h1', h2', h3', h4', r'⟩ := E1.dk hd
  rw [h1] at h1'
  cases h1'
  have ev := map_of h4' r'
  subst ev
  refine ⟨a, b, _, ws, _, rfl, rfl, h3', hb, g1, g2, by rw [List.length_map, List.length_map, ← List.length_append]; exact Nat.le_of_lt (small1000 le), ?_⟩
  rw [merge_new (by rw [← List.map_append]; exact nd_keys nd), ← List.map_append]
  obtain ⟨E2, c2⟩ := dk_mod (vs' := (L ++ M2).map fun x => ((.inl x : Key), V.bl true)) E1 hd h1 h2' ks_map ds_rep
  exact k _ _ _ _ q1 E2 (c1.tr c2) .non))
end
end LD
end
section
namespace LD
open PySem PySem.Spec L2 LB LDc PyProof.Rows
theorem EnvR.back {W : List Wd} {M : Addr → Prop} {α : List (List Addr)} {H H' : Hp} {σ : L2.St} {δ : List Sl} {i : Nat} {ks : List Key} {ds : List Dt} (E : EnvR W M α H σ δ) (hi : δ[i]? = some (.dk ks ds)) (hs : ∀ j s, j ≠ i → δ[j]? = some s → s = .no ∨ (∃ d, s = .im d) ∨ ∃ t, s = .bx t) {a : Addr} (ha : α[i]? = some [a])
  (E1 : EnvR W (fun b => M b ∧ b ≠ a) (α.set i []) H' σ (δ.set i (.im (.dic ks ds)))) (c1 : Chg (α.set i []) H H') : EnvR W M α H' σ δ ∧ Chg α H H' ∧ ∃ vs, H' a = some (.dK vs) := by
 obtain ⟨a', vs, h1, h2, h3, h4, r⟩ := E.dk hi
 rw [ha] at h2
 cases h2
 have E' := E.frzDa hi ha
 have sub : ∀ b, b ∈ (α.set i []).flatten → b ∈ α.flatten ∧ b ≠ a := fun b hb => ⟨(flat_set hb).elim id fun z => absurd z List.not_mem_nil, (E'.mu b hb).2⟩
 have na : a ∉ (α.set i []).flatten := fun z => (sub a z).2 rfl
 have ha' : H' a = some (.dK vs) := c1 _ _ h3 na
 have cg : Chg α H H' := fun b o e n => c1 b o e fun z => n (sub b z).1
 have keep : ∀ b o, H b = some o → ¬ M b → H' b = some o ∧ ¬ M b := fun b o e n => ⟨cg b o e fun z => n (E.mu b z), n⟩
 refine ⟨⟨E.ls, E.la, fun j s hj => ?_, E.nd, E.mu, fun b hb => ?_, fun Wd hW => ?_⟩, cg, vs, ha'⟩
 · by_cases hij : j = i
   · subst hij
     rw [hi] at hj
     cases hj
     exact ⟨_, _, h1, ha, a, vs, rfl, rfl, ha', h4, r.mono keep⟩
   · obtain ⟨o, as, g1, g2, g3⟩ := E.sl j s hj
     rcases hs j s hij hj with rfl | ⟨d, rfl⟩ | ⟨t, rfl⟩
     · exact ⟨o, as, g1, g2, g3⟩
     · exact ⟨o, as, g1, g2, g3.1, let ⟨u, e, ru⟩ := g3.2; ⟨u, e, ru.mono keep⟩⟩
     · obtain ⟨o2, as2, f1, f2, f3⟩ := E1.sl j (.bx t) (by rw [List.getElem?_set_ne (Ne.symm hij)]; exact hj)
       rw [List.getElem?_set_ne (Ne.symm hij)] at f2
       exact ⟨o2, as2, f1, f2, f3⟩
 · by_cases z : b = a
   · subst z; exact ⟨_, ha', fun xs z => by cases z⟩
   · exact E1.al b ⟨hb, z⟩
 · have k0 := E.w Wd hW
   have k1 := E1.w Wd hW
   exact ⟨k1.bs, k1.ex, k0.fr, k0.m0, k0.m1, k0.bx, k0.fz⟩
def dLendO (i : Nat) (t : DTO) : DTO := fun δ Q => ∃ ks ds, δ[i]? = some (.dk ks ds) ∧ (∀ j s, j ≠ i → δ[j]? = some s → s = .no ∨ (∃ d, s = .im d) ∨ ∃ t, s = .bx t) ∧ t (δ.set i (.im (.dic ks ds))) fun es δ' => δ' = δ.set i (.im (.dic ks ds)) ∧ (∃ ns : List Int, es = ns.map .int) ∧ Q es δ
theorem lendO_read {i : Nat} {t : DTO} : ∀ σ H Q, lO (dLendO i t) σ H Q → lO t σ H Q := fun σ H Q zz1 => (by obtain ⟨W, M, α, δ, Qd, E, ⟨ks, ds, hi, hs, q⟩, k⟩ := zz1; exact (by
 obtain ⟨a, vs, h1, h2, h3, h4, r⟩ := E.dk hi
 refine ⟨W, _, α.set i [], _, _, E.frzDa hi h2, q, fun es δ' H' xs p zz2 E1 c1 r1 hp => ?_⟩
 obtain ⟨eδ, ⟨ns, ed⟩, q1⟩ := zz2
 subst eδ; subst ed
 obtain ⟨E2, c2, vs2, ha2⟩ := E.back hi hs h2 E1 c1
 rw [ints_rep r1]
 exact k _ _ _ _ _ q1 E2 c2 rep_ints hp))
section
variable {X : Cx} {N : List Str} {nt : Nat} {js : List Nat} {scope : Scope} {elt tg iter : Expr} {ifs : List Expr} {pos : Pos} {ti : DTI} {g : DTG} {tc : DTT} {te : DTE} {gh : TG}
theorem s_compL (i l : Nat) {y : Str} {pos' py : Pos} (hN : X.N.Nodup) (S : CpOk X N nt js scope) (hc : X.calm = true) (hi : Iv X tg iter ti) (hg : ∀ s H cl C ex, PG (blk X N scope s H cl C ex) tg gh) (hlow : GLow nt gh) (hgr : ∀ v σ H Q, lG g v σ H Q → gh v σ H Q) (hf : ∀ s H cl C ex, PF (blk X N scope s H cl C ex) ifs (lT tc)) (he : ∀ s H cl C ex, Ev (blk X N scope s H cl C ex) elt te)
  (hiN : autoParam (X.N[i]? = some y) au5._auto_1) (hy : autoParam (Loc X.env.scope y) au9._auto_1) (hsw : autoParam (swapsWith (.ListComp elt [⟨tg, iter, ifs, 0⟩] scope pos) (some (.Name y py)) pos'.line X.env = pure true) au5._auto_1) (hs : autoParam (∀ x, foldedSetIterable iter X.env x = pure x) au4._auto_1)
  (hfn : autoParam (X.fn y = true ∨ X.env.scope.names.lookup y = some .local) au1._auto_1) :
  Ex X (.Assign [.Name y py] (.ListComp elt [⟨tg, iter, ifs, 0⟩] scope pos) pos') (dSetOF i (dLendO l (dComp nt js ti g tc te))) := PS.imp (ps_comp hN hiN hy S hc hi hg hlow hf he hsw hs hfn) fun D σ H h => by
 obtain ⟨Ws, M, α, δ, Δ, E, L, q⟩ := h
 refine comp_read hgr _ _ _ (lendO_read _ _ _ ⟨Ws, M, α, δ, _, E, q, fun ds δ' H1 xs a zz3 E1 c1 r1 h1 => ?_⟩)
 obtain ⟨ok, q1⟩ := zz3
 have E2 := E1.setNew (s := .ow ds) h1 (fun xs z => by cases z) ok rfl ⟨a, xs, rfl, rfl, upd_same, r1.grow h1⟩
 obtain ⟨M', α', E3, _⟩ := E2.frz (List.getElem?_set_self ok.lt)
 rw [List.set_set] at E3
 exact L.nx _ _ _ _ _ E3 q1
end
end LD
end
section
namespace LD
open PySem PySem.Spec L2 LB LDc PyProof.Rows
section
variable {X : Cx} {a b e f : Expr} {ta tb t : DTE} {tA : DTA} {pos p p2 : Pos}
noncomputable def isD (T : String) : Dt → Option Bool
 | .non => some false
 | .bl _ => some (T == "bool" || T == "int")
 | .int _ => some (T == "int")
 | .str _ => some (T == "str")
 | .lst _ => some (T == "list")
 | .tup _ => some (T == "tuple")
 | _ => none
theorem isD_rep {T : String} {M : Addr → Prop} {H : Hp} {v : V} {d : Dt} {b : Bool} (r : Rep M H v d) (h : isD T d = some b) : isTy T H v = some b := by
 cases r with
 | non => exact h
 | bl c => exact h
 | int c => exact h
 | str c => exact h
 | lst e n l r => simp only [isTy, e]; exact h
 | tup e n l r => simp only [isTy, e]; exact h
 | dic e n k l r => cases h
 | dit e n k l r => cases h
inductive dIsi_i (T : String) (Q : Dt → List Sl → Prop) (d : Dt) (δ' : List Sl) : Prop
 | mk (b : _) (h1 : isD T d = some b) (h2 : Q (.bl b) δ')
def dIsi (T : String) (t : DTE) : DTE := fun δ Q => t δ fun d δ' => dIsi_i T Q d δ'
theorem boot_isi' : bootBuiltins "isinstance" = some (.builtin "isinstance") := by decide +kernel
theorem d_isi {T : String} (hT : T = "int" ∨ T = "bool" ∨ T = "tuple" ∨ T = "list" ∨ T = "str") (hm : X.mg "isinstance" = none) (ha : PA X [e, f] (tCons (lE t) (tCons (tC (.ty T)) tNil))) (hg : autoParam (Gl X "isinstance") au5._auto_1) (he : autoParam (starEach [e, f] X.env = (false, eval e X.env) :: starEach [f] X.env) au5._auto_1) (hpl : autoParam ((backTo pos (starEach [f] X.env)).any (·.1) = false) au5._auto_1) :
  Ev X (.Call (.Name "isinstance" p) [e, f] [] pos) (dIsi T t) := PE.imp (pe_callB (isi_ok hT) hg hm boot_isi' ha (by decide) (by decide) he hpl) fun σ H Q zz5 => (by obtain ⟨W, M, α, δ, Qd, E, q, k⟩ := zz5; exact (
 ⟨W, M, α, δ, _, E, q, fun d δ' H' v zz6 E1 c1 r1 => (by obtain ⟨b, hb, q1⟩ := zz6; exact (⟨v, b, rfl, isD_rep r1 hb, k _ _ _ _ q1 E1 c1 (.bl _)⟩))⟩))
end
end LD
end
section
namespace L2
open PySem PySem.Spec PyProof.Rows
section
variable {X : Cx}
noncomputable def isTy4 (H : Hp) : V → Option Bool
 | .non => some false
 | .bl _ => some false
 | .int _ => some false
 | .str _ => some false
 | .ref a => match H a with
  | some (.lst _) => some true
  | some (.tup _) => some true
  | _ => none
 | _ => none
def tIsi4 (te : TE) : TE := fun σ H Q => te σ H fun x H1 => ∃ b, isTy4 H1 x = some b ∧ Q (.bl b) H1
theorem pe_isi4 {e : Expr} {te : TE} {p p1 p2 pt pos : Pos} {k} (he : PE X e te) (hgi : Gl X "isinstance") (hmi : X.mg "isinstance" = none) (hgl : Gl X "list") (hml : X.mg "list" = none) (hgt : Gl X "tuple") (hmt : X.mg "tuple" = none)
  (hs : autoParam (starEach [e, .Tuple [.Name "list" p1, .Name "tuple" p2] k pt] X.env = (false, eval e X.env) :: starEach [.Tuple [.Name "list" p1, .Name "tuple" p2] k pt] X.env) au5._auto_1) :
  PE X (.Call (.Name "isinstance" p) [e, .Tuple [.Name "list" p1, .Name "tuple" p2] k pt] [] pos) (tIsi4 te) := by
 intro pins s σ H Q I h
 refine wpAny_Call_Name_kw (ld_blt I hgi hmi boot_isinstance ?_)
 refine PyProof.Rows.callWith_builtin1 ?_ hs rfl
 rw [hs]
 show wpAny _ _ (spliced ((false, eval e X.env) :: backTo pos (starEach [.Tuple [.Name "list" p1, .Name "tuple" p2] k pt] X.env))) _ _ s
 refine Calls.spliced_cons (thn (he pins s σ H _ I h) fun u s1 zz1 => ?_)
 obtain ⟨x, H1, I1, r1, b0, ex, q1⟩ := zz1
 have h2 : starEach [Expr.Tuple [.Name "list" p1, .Name "tuple" p2] k pt] X.env = (false, eval (.Tuple [.Name "list" p1, .Name "tuple" p2] k pt) X.env) :: starEach [] X.env := rfl
 rw [h2]
 show wpAny _ _ (spliced ((false, eval (.Tuple [.Name "list" p1, .Name "tuple" p2] k pt) X.env) :: backTo pos (starEach [] X.env))) _ _ s1
 refine Calls.spliced_cons (wpAny_Tuple_spliced ?_)
 have h3 : starEach [Expr.Name "list" p1, .Name "tuple" p2] X.env = (false, eval (.Name "list" p1) X.env) :: starEach [.Name "tuple" p2] X.env := rfl
 rw [h3]
 show wpAny _ _ (spliced ((false, eval (.Name "list" p1) X.env) :: backTo pt (starEach [.Name "tuple" p2] X.env))) _ _ s1
 refine Calls.spliced_cons (ld_blt I1 hgl hml LB.boot_list' ?_)
 have h4 : starEach [Expr.Name "tuple" p2] X.env = (false, eval (.Name "tuple" p2) X.env) :: starEach [] X.env := rfl
 rw [h4]
 show wpAny _ _ (spliced ((false, eval (.Name "tuple" p2) X.env) :: backTo pt (starEach [] X.env))) _ _ s1
 refine Calls.spliced_cons (ld_blt I1 hgt hmt LB.boot_tuple' ?_)
 refine Calls.spliced_nil ⟨by show 2 ≤ sizeLine; decide, ?_⟩
 refine Calls.spliced_nil ?_
 have fin : ∀ (s' : Shared), s' = { s1 with heap := s1.heap.push { cls := .type "tuple", data := .seq [Value.type "list", Value.type "tuple"].toArray } } → ∀ tk, EP X pins σ Q (.bool b0) { s' with toks := tk } := fun s' e tk => by
  subst e
  exact ⟨.bl b0, H1, I1.kept fun b o e => Heap.get?_push_of_some _ e, rfl, q1⟩
 cases x with
 | non =>
  cases ex
  cases (show u = Value.none from r1)
  exact IsiPair.tupleOf (Tx := "NoneType") (cs := [.type "list", .type "tuple"]) (vs := [false, false]) ⟨Answers.of_false_none (by decide) (by rfl) (by rfl), Answers.of_false_none (by decide) (by rfl) (by rfl), True.intro⟩ rfl (Heap.get?_push_size _ rfl) (fin _ rfl)
 | bl i =>
  cases ex
  cases (show u = Value.bool i from r1)
  exact IsiPair.tupleOf (Tx := "bool") (cs := [.type "list", .type "tuple"]) (vs := [false, false]) ⟨Answers.of_false_bool (by decide) (by rfl) (by rfl), Answers.of_false_bool (by decide) (by rfl) (by rfl), True.intro⟩ rfl (Heap.get?_push_size _ rfl) (fin _ rfl)
 | int i =>
  cases ex
  obtain ⟨t, rfl⟩ := (show ∃ t, u = Value.int i t from r1)
  exact IsiPair.tupleOf (Tx := "int") (cs := [.type "list", .type "tuple"]) (vs := [false, false]) ⟨Answers.of_false_int (by decide) (by rfl) (by rfl), Answers.of_false_int (by decide) (by rfl) (by rfl), True.intro⟩ rfl (Heap.get?_push_size _ rfl) (fin _ rfl)
 | str i =>
  cases ex
  obtain ⟨t, rfl⟩ := (show ∃ t, u = Value.str i t from r1)
  exact IsiPair.tupleOf (Tx := "str") (cs := [.type "list", .type "tuple"]) (vs := [false, false]) ⟨Answers.of_false_str (by decide) (by rfl) (by rfl), Answers.of_false_str (by decide) (by rfl) (by rfl), True.intro⟩ rfl (Heap.get?_push_size _ rfl) (fin _ rfl)
 | ref a =>
  cases (show u = Value.ref a from r1)
  cases ha : H1 a with
  | none => simp only [isTy4, ha] at ex; cases ex
  | some o =>
   cases o with
   | lst xs =>
    simp only [isTy4, ha] at ex; cases ex
    obtain ⟨_, _, n, _, h1⟩ := (show ObjOk X.prog X.w H1 s1.heap a (.lst xs) from I1.hok a _ ha)
    exact IsiPair.tupleOf (Tx := "list") (cs := [.type "list", .type "tuple"]) (vs := [true, false]) ⟨Answers.of_true (by rfl) (by rfl), Answers.of_false_list (by decide) (by rfl) (by rfl), True.intro⟩ ⟨_, Heap.get?_push_of_some _ h1, rfl⟩ (Heap.get?_push_size _ rfl) (fin _ rfl)
   | tup xs =>
    simp only [isTy4, ha] at ex; cases ex
    obtain ⟨_, _, _, o, ho, hc, _⟩ := (show ObjOk X.prog X.w H1 s1.heap a (.tup xs) from I1.hok a _ ha)
    exact IsiPair.tupleOf (Tx := "tuple") (cs := [.type "list", .type "tuple"]) (vs := [false, true]) ⟨Answers.of_false_tuple (by decide) (by rfl) (by rfl), Answers.of_true (by rfl) (by rfl), True.intro⟩ ⟨_, Heap.get?_push_of_some _ ho, hc⟩ (Heap.get?_push_size _ rfl) (fin _ rfl)
   | _ => simp only [isTy4, ha] at ex; cases ex
 | _ => cases ex
end
end L2
namespace LD
open PySem PySem.Spec L2 LB LDc PyProof.Rows LW
section
variable {X : Cx} {a b e f : Expr} {ta tb t t' : DTE} {tA : DTA} {pos p p2 : Pos}
noncomputable def isSq : Dt → Option Bool
 | .dic _ _ => none
 | .dit _ _ => none
 | .lst _ => some true
 | .tup _ => some true
 | _ => some false
theorem isSq_rep {M : Addr → Prop} {H : Hp} {v : V} {d : Dt} {b : Bool} (r : Rep M H v d) (h : isSq d = some b) : isTy4 H v = some b := by
 cases r with
 | non => exact h
 | bl c => exact h
 | int c => exact h
 | str c => exact h
 | lst e n l r => simp only [isTy4, e]; exact h
 | tup e n l r => simp only [isTy4, e]; exact h
 | dic e n k l r => cases h
 | dit e n k l r => cases h
inductive dIsi4_i (Q : Dt → List Sl → Prop) (d : Dt) (δ' : List Sl) : Prop
 | mk (b : _) (h1 : isSq d = some b) (h2 : Q (.bl b) δ')
def dIsi4 (t : DTE) : DTE := fun δ Q => t δ fun d δ' => dIsi4_i Q d δ'
theorem d_isi4 {p1 p2 pt : Pos} {k} (he : Ev X e t) (hmi : X.mg "isinstance" = none) (hml : X.mg "list" = none) (hmt : X.mg "tuple" = none) (hgi : autoParam (Gl X "isinstance") au5._auto_1) (hgl : autoParam (Gl X "list") au5._auto_1) (hgt : autoParam (Gl X "tuple") au5._auto_1)
  (hs : autoParam (starEach [e, .Tuple [.Name "list" p1, .Name "tuple" p2] k pt] X.env = (false, eval e X.env) :: starEach [.Tuple [.Name "list" p1, .Name "tuple" p2] k pt] X.env) au5._auto_1) :
  Ev X (.Call (.Name "isinstance" p) [e, .Tuple [.Name "list" p1, .Name "tuple" p2] k pt] [] pos) (dIsi4 t) := PE.imp (pe_isi4 he hgi hmi hgl hml hgt hmt hs) fun σ H Q zz9 => (by obtain ⟨W, M, α, δ, Qd, E, q, k⟩ := zz9; exact (
 ⟨W, M, α, δ, _, E, q, fun d δ' H' v zz10 E1 c1 r1 => (by obtain ⟨b, hb, q1⟩ := zz10; exact (⟨b, isSq_rep r1 hb, k _ _ _ _ q1 E1 c1 (.bl _)⟩))⟩))
end
end LD
end
section
namespace LD
open PySem PySem.Spec L2 LB PyProof.Rows LW
section
variable {X : Cx} {tg a b c e : Expr} {es : List Expr} {ta tb tc t : DTE} {tA : DTA} {pos p apos cpos : Pos}
theorem d_never : Ev X e (fun _ _ => False) := fun pins s σ H Q I zz15 => (by obtain ⟨_, _, _, _, _, _, q, _⟩ := zz15; exact (q.elim))
end
end LD
end
section
namespace LD
open PySem PySem.Spec L2 LB LDc PyProof.Rows
inductive FlT : Dt → Prop where
 | non : FlT .non
 | bl (b : Bool) : FlT (.bl b)
 | int (i : Int) : FlT (.int i)
 | str (x : Str) : FlT (.str x)
 | tup {ds : List Dt} : (∀ d ∈ ds, FlT d) → FlT (.tup ds)
theorem Rep.flt {M M' : Addr → Prop} {H : Hp} {v : V} {d : Dt} (r : Rep M H v d) (f : FlT d) (al : MOk M' H) : Rep M' H v d := by
 induction r with
 | non => exact .non
 | bl b => exact .bl b
 | int i => exact .int i
 | str x => exact .str x
 | lst h n l r ih => cases f
 | tup h n l r ih =>
  cases f with
  | tup f => exact .tup h (al.tup h) l fun i x d h1 h2 => ih i x d h1 h2 (f d (List.mem_of_getElem? h2))
 | dic h n e l r ih => cases f
 | dit h n e l r ih => cases f
section
variable {X : Cx} {a b c e : Expr} {es : List Expr} {ta tb t : DTE} {pos p : Pos} {x : Str} {k : Nat} {ps : List Str}
theorem EnvR.backO {W : List Wd} {M : Addr → Prop} {α : List (List Addr)} {H H' : Hp} {σ : L2.St} {δ : List Sl} {i : Nat} {ds : List Dt} (E : EnvR W M α H σ δ) (hi : δ[i]? = some (.ow ds)) (hs : ∀ j s, j ≠ i → δ[j]? = some s → s = .no ∨ (∃ d, s = .im d) ∨ ∃ t, s = .bx t) {a : Addr} (ha : α[i]? = some [a])
  (E1 : EnvR W (fun b => M b ∧ b ≠ a) (α.set i []) H' σ (δ.set i (.im (.lst ds)))) (c1 : Chg (α.set i []) H H') : EnvR W M α H' σ δ ∧ Chg α H H' := by
 obtain ⟨a', vs, h1, h2, h3, r⟩ := E.ow hi
 rw [ha] at h2
 cases h2
 have E' := E.frzOa hi ha
 have sub : ∀ b, b ∈ (α.set i []).flatten → b ∈ α.flatten ∧ b ≠ a := fun b hb => ⟨(flat_set hb).elim id fun z => absurd z List.not_mem_nil, (E'.mu b hb).2⟩
 have na : a ∉ (α.set i []).flatten := fun z => (sub a z).2 rfl
 have ha' : H' a = some (.lst vs) := c1 _ _ h3 na
 have cg : Chg α H H' := fun b o e n => c1 b o e fun z => n (sub b z).1
 have keep : ∀ b o, H b = some o → ¬ M b → H' b = some o ∧ ¬ M b := fun b o e n => ⟨cg b o e fun z => n (E.mu b z), n⟩
 refine ⟨⟨E.ls, E.la, fun j s hj => ?_, E.nd, E.mu, fun b hb => ?_, fun Wd hW => ?_⟩, cg⟩
 · by_cases hij : j = i
   · subst hij
     rw [hi] at hj
     cases hj
     exact ⟨_, _, h1, ha, a, vs, rfl, rfl, ha', r.mono keep⟩
   · obtain ⟨o, as, g1, g2, g3⟩ := E.sl j s hj
     rcases hs j s hij hj with rfl | ⟨d, rfl⟩ | ⟨t, rfl⟩
     · exact ⟨o, as, g1, g2, g3⟩
     · exact ⟨o, as, g1, g2, g3.1, let ⟨u, e, ru⟩ := g3.2; ⟨u, e, ru.mono keep⟩⟩
     · obtain ⟨o2, as2, f1, f2, f3⟩ := E1.sl j (.bx t) (by rw [List.getElem?_set_ne (Ne.symm hij)]; exact hj)
       rw [List.getElem?_set_ne (Ne.symm hij)] at f2
       exact ⟨o2, as2, f1, f2, f3⟩
 · by_cases z : b = a
   · subst z; exact ⟨_, ha', fun xs z => by cases z⟩
   · exact E1.al b ⟨hb, z⟩
 · have k0 := E.w Wd hW
   have k1 := E1.w Wd hW
   exact ⟨k1.bs, k1.ex, k0.fr, k0.m0, k0.m1, k0.bx, k0.fz⟩
def dLendE (i : Nat) (t : DTE) : DTE := fun δ Q => ∃ ds, δ[i]? = some (.ow ds) ∧ (∀ j s, j ≠ i → δ[j]? = some s → s = .no ∨ (∃ d, s = .im d) ∨ ∃ t, s = .bx t) ∧ t (δ.set i (.im (.lst ds))) fun d δ' => δ' = δ.set i (.im (.lst ds)) ∧ FlT d ∧ Q d δ
theorem d_lendW (i : Nat) (h : Ev X e t) : Ev X e (dLendE i t) := PE.imp h fun σ H Q zz3 => (by obtain ⟨W, M, α, δ, Qd, E, ⟨ds, hi, hs, q⟩, k⟩ := zz3; exact (by
 obtain ⟨a, xs, h1, h2, h3, r⟩ := E.ow hi
 refine ⟨W, _, α.set i [], _, _, E.frzOa hi h2, q, fun d δ' H' v zz9 E1 c1 r1 => ?_⟩
 obtain ⟨eδ, fl, q1⟩ := zz9
 subst eδ
 obtain ⟨E2, c2⟩ := E.backO hi hs h2 E1 c1
 exact k _ _ _ _ q1 E2 c2 (r1.flt fl E2.al)))
end
end LD
end
section
namespace L2
open PySem PySem.Spec PyProof.Rows
inductive Cmp (H : Hp) : Nat → V → V → Bool → Prop
 | flat {k : Nat} {v w : V} : flatV v = true → flatV w = true → Cmp H k v w (eqV v w)
 | tup {k : Nat} {p q : Addr} {xs ys : List V} {e : Nat → Bool} : H p = some (.tup xs) → H q = some (.tup ys) → (∀ (j : Nat) x y, xs[j]? = some x → ys[j]? = some y → Cmp H k x y (e j)) → Cmp H (k + 1) (.ref p) (.ref q) ((List.range (min xs.length ys.length)).all e && xs.length == ys.length)
 | lst {k : Nat} {p q : Addr} {xs ys : List V} {e : Nat → Bool} : H p = some (.lst xs) → H q = some (.lst ys) → (∀ (j : Nat) x y, xs[j]? = some x → ys[j]? = some y → Cmp H k x y (e j)) → Cmp H (k + 1) (.ref p) (.ref q) ((List.range (min xs.length ys.length)).all e && xs.length == ys.length)
theorem eqV_self {v : V} (h : flatV v = true) : eqV v v = true := by cases v <;> first | rfl | (show (_ == _) = true; exact beq_self_eq_true _) | cases h
theorem all_self {n : Nat} {e : Nat → Bool} (h : ∀ j, j < n → e j = true) : ((List.range (min n n)).all e && n == n) = true := by
 rw [Nat.min_self, beq_self_eq_true, Bool.and_true, List.all_eq_true]
 exact fun j hj => h j (List.mem_range.mp hj)
theorem Cmp.self {H : Hp} : ∀ {k : Nat} {v w : V} {b : Bool}, Cmp H k v w b → v = w → b = true := by
 intro k v w b h
 induction h with
 | flat f1 f2 => intro e; subst e; exact eqV_self f1
 | tup h1 h2 _ ih =>
  intro e
  cases e
  rw [h1] at h2
  cases h2
  exact all_self fun j hj => ih j _ _ (List.getElem?_eq_getElem hj) (List.getElem?_eq_getElem hj) rfl
 | lst h1 h2 _ ih =>
  intro e
  cases e
  rw [h1] at h2
  cases h2
  exact all_self fun j hj => ih j _ _ (List.getElem?_eq_getElem hj) (List.getElem?_eq_getElem hj) rfl
section
variable {X : Cx} {pins : List (Addr × Obj)} {σ : St} {H : Hp} {s : Shared}
theorem item_at {xs : List V} {its : List Value} {j : Nat} (r : Vals xs its) (h : j < its.toArray.size) : ∃ x, xs[j]? = some x ∧ RelV x its.toArray[j] := by
 have hl := r.length
 have hj : j < its.length := by simpa using h
 obtain ⟨u, e, ru⟩ := r.get (i := j) (x := xs[j]'(by lia)) (List.getElem?_eq_getElem _)
 refine ⟨_, List.getElem?_eq_getElem (by lia), ?_⟩
 have : its.toArray[j] = u := by have := (List.getElem?_eq_some_iff.mp e).2; simpa using this
 rw [this]; exact ru
theorem Cmp.at (I : Inv X pins σ H s) : ∀ {k : Nat} {v w : V} {b : Bool}, Cmp H k v w b → ∀ {A : Around} {u u' : Value}, A.units + k < cLine → RelV v u → RelV w u' → SeqAt.EqAt A s u u' b := by
 intro k v w b h
 induction h with
 | flat f1 f2 => intro A u u' _ r1 r2; exact eqAt_V r1 r2 f1 f2
 | @tup k p q xs ys e h1 h2 hc ih =>
  intro A u u' hu r1 r2
  cases r1; cases r2
  by_cases c : p = q
  · subst c
    rw [(Cmp.tup h1 h2 hc).self rfl]
    exact SeqAt.EqAt.same _
  · obtain ⟨its, rv, pl, _⟩ := I.tuple (SqT.of h1)
    obtain ⟨its2, rv2, pl2, _⟩ := I.tuple (SqT.of h2)
    have g := SeqAt.RcAt.tuples (A := A) (s := s) (e := e) (show s.heap.IsTuple p _ from pl) (show s.heap.IsTuple q _ from pl2) (by lia) fun j j1 j2 => by
     obtain ⟨x, hx, rx⟩ := item_at rv j1
     obtain ⟨y, hy, ry⟩ := item_at rv2 j2
     exact ih j x y hx hy (by show A.units + 1 + k < cLine; lia) rx ry
    rw [List.size_toArray, List.size_toArray, ← rv.length, ← rv2.length] at g
    exact SeqAt.EqAt.of_refs c g
 | @lst k p q xs ys e h1 h2 hc ih =>
  intro A u u' hu r1 r2
  cases r1; cases r2
  by_cases c : p = q
  · subst c
    rw [(Cmp.lst h1 h2 hc).self rfl]
    exact SeqAt.EqAt.same _
  · obtain ⟨its, rv, pl, _⟩ := I.list (SqL.of h1)
    obtain ⟨its2, rv2, pl2, _⟩ := I.list (SqL.of h2)
    refine SeqAt.EqAt.of_refs c ?_
    by_cases l : xs.length = ys.length
    · have g := SeqAt.RcAt.lists (A := A) (s := s) (e := e) pl.isList pl2.isList (by rw [List.size_toArray, List.size_toArray, ← rv.length, ← rv2.length]; exact l) (by lia) fun j j1 j2 => by
        obtain ⟨x, hx, rx⟩ := item_at rv j1
        obtain ⟨y, hy, ry⟩ := item_at rv2 j2
        exact ih j x y hx hy (by show A.units + 1 + k < cLine; lia) rx ry
      rw [List.size_toArray, ← rv.length] at g
      rw [← l, Nat.min_self, beq_self_eq_true, Bool.and_true]
      exact g
    · have n : (xs.length == ys.length) = false := by simpa using l
      rw [n, Bool.and_false]
      exact SeqAt.RcAt.lists_lengths pl.isList pl2.isList (by rw [List.size_toArray, List.size_toArray, ← rv.length, ← rv2.length]; simpa using l) (by lia)
end
end L2
namespace LD
open PySem PySem.Spec L2 LB PyProof.Rows
noncomputable def eqX : Nat → Dt → Dt → Bool
 | k + 1, .lst ds, .lst es => (List.range (min ds.length es.length)).all (fun j => eqX k (ds.getD j .non) (es.getD j .non)) && ds.length == es.length
 | k + 1, .tup ds, .tup es => (List.range (min ds.length es.length)).all (fun j => eqX k (ds.getD j .non) (es.getD j .non)) && ds.length == es.length
 | _, d, e => eqD d e
inductive Shp : Nat → Dt → Dt → Prop
 | flat {k : Nat} {d e : Dt} : flatD d = true → flatD e = true → Shp k d e
 | tup {k : Nat} {ds es : List Dt} : (∀ (j : Nat) d e, ds[j]? = some d → es[j]? = some e → Shp k d e) → Shp (k + 1) (.tup ds) (.tup es)
 | lst {k : Nat} {ds es : List Dt} : (∀ (j : Nat) d e, ds[j]? = some d → es[j]? = some e → Shp k d e) → Shp (k + 1) (.lst ds) (.lst es)
theorem eqX_flat {k : Nat} {d e : Dt} (h : flatD d = true) (h2 : flatD e = true) : eqX k d e = eqD d e := by
 cases k with
 | zero => unfold eqX; rfl
 | succ k => cases d <;> cases e <;> first | (unfold eqX; rfl) | cases h | cases h2
theorem cmp_of {M : Addr → Prop} {H : Hp} {k : Nat} {d e : Dt} (z : Shp k d e) : ∀ {v w : V}, Rep M H v d → Rep M H w e → Cmp H k v w (eqX k d e) := by
 induction z with
 | flat f1 f2 =>
  intro v w r1 r2
  rw [eqX_flat f1 f2, ← eqV_rep r1 r2 f1 f2]
  exact .flat (flat_rep r1 f1) (flat_rep r2 f2)
 | @tup k ds es _ ih =>
  intro v w r1 r2
  obtain ⟨p, xs, rfl, h1, _, rr⟩ := r1.ofTup
  obtain ⟨q, ys, rfl, h2, _, rr2⟩ := r2.ofTup
  show Cmp H (k + 1) _ _ ((List.range (min ds.length es.length)).all (fun j => eqX k (ds.getD j .non) (es.getD j .non)) && ds.length == es.length)
  rw [← rr.1, ← rr2.1]
  refine .tup h1 h2 fun j x y hx hy => ?_
  have l1 : j < ds.length := by rw [← rr.1]; exact (List.getElem?_eq_some_iff.mp hx).1
  have l2 : j < es.length := by rw [← rr2.1]; exact (List.getElem?_eq_some_iff.mp hy).1
  rw [show ds.getD j .non = ds[j] by simp [List.getD, l1], show es.getD j .non = es[j] by simp [List.getD, l2]]
  exact ih j _ _ (List.getElem?_eq_getElem l1) (List.getElem?_eq_getElem l2) (rr.2 j _ _ hx (List.getElem?_eq_getElem l1)) (rr2.2 j _ _ hy (List.getElem?_eq_getElem l2))
 | @lst k ds es _ ih =>
  intro v w r1 r2
  obtain ⟨p, xs, rfl, h1, _, rr⟩ := r1.ofLst
  obtain ⟨q, ys, rfl, h2, _, rr2⟩ := r2.ofLst
  show Cmp H (k + 1) _ _ ((List.range (min ds.length es.length)).all (fun j => eqX k (ds.getD j .non) (es.getD j .non)) && ds.length == es.length)
  rw [← rr.1, ← rr2.1]
  refine .lst h1 h2 fun j x y hx hy => ?_
  have l1 : j < ds.length := by rw [← rr.1]; exact (List.getElem?_eq_some_iff.mp hx).1
  have l2 : j < es.length := by rw [← rr2.1]; exact (List.getElem?_eq_some_iff.mp hy).1
  rw [show ds.getD j .non = ds[j] by simp [List.getD, l1], show es.getD j .non = es[j] by simp [List.getD, l2]]
  exact ih j _ _ (List.getElem?_eq_getElem l1) (List.getElem?_eq_getElem l2) (rr.2 j _ _ hx (List.getElem?_eq_getElem l1)) (rr2.2 j _ _ hy (List.getElem?_eq_getElem l2))
end LD
namespace L2
open PySem PySem.Spec LB PyProof.Rows
section
variable {X : Cx}
def rCmp (k : Nat) (neg : Bool) : R2 := fun x y H Q => ∃ p q b, x = .ref p ∧ y = .ref q ∧ Cmp H (k + 1) (.ref p) (.ref q) b ∧ Q (.bl (if neg then !b else b)) H
theorem op_eqX {k : Nat} (hu : X.A.units + (k + 1) < cLine) : OpR X (compareOp .Eq) (rCmp k false) := by
 intro pins s σ H x y v u Q I rx ry h
 obtain ⟨p, q, b, rfl, rfl, hc, hq⟩ := h
 cases rx; cases ry
 cases hc with
 | flat f1 _ => cases f1
 | @tup _ _ _ xs ys e h1 h2 hc =>
  obtain ⟨its, rv, pl, _⟩ := I.tuple (SqT.of h1)
  obtain ⟨its2, rv2, pl2, _⟩ := I.tuple (SqT.of h2)
  have g := SeqAt.RcAt.tuples (A := X.A) (s := s) (e := e) (show s.heap.IsTuple p _ from pl) (show s.heap.IsTuple q _ from pl2) (by lia) fun j j1 j2 => by
   obtain ⟨x, hx, rx⟩ := item_at rv j1
   obtain ⟨y, hy, ry⟩ := item_at rv2 j2
   exact (hc j x y hx hy).at I (by show X.A.units + 1 + k < cLine; lia) rx ry
  rw [List.size_toArray, List.size_toArray, ← rv.length, ← rv2.length] at g
  exact g _ _ _ _ ⟨.bl _, H, I, rfl, hq⟩
 | @lst _ _ _ xs ys e h1 h2 hc =>
  obtain ⟨its, rv, pl, _⟩ := I.list (SqL.of h1)
  obtain ⟨its2, rv2, pl2, _⟩ := I.list (SqL.of h2)
  by_cases l : xs.length = ys.length
  · have g := SeqAt.RcAt.lists (A := X.A) (s := s) (e := e) pl.isList pl2.isList (by rw [List.size_toArray, List.size_toArray, ← rv.length, ← rv2.length]; exact l) (by lia) fun j j1 j2 => by
      obtain ⟨x, hx, rx⟩ := item_at rv j1
      obtain ⟨y, hy, ry⟩ := item_at rv2 j2
      exact (hc j x y hx hy).at I (by show X.A.units + 1 + k < cLine; lia) rx ry
    rw [List.size_toArray, ← rv.length] at g
    rw [← l, Nat.min_self, beq_self_eq_true, Bool.and_true] at hq
    exact g _ _ _ _ ⟨.bl _, H, I, rfl, hq⟩
  · have n : (xs.length == ys.length) = false := by simpa using l
    rw [n, Bool.and_false] at hq
    exact (SeqAt.RcAt.lists_lengths pl.isList pl2.isList (by rw [List.size_toArray, List.size_toArray, ← rv.length, ← rv2.length]; simpa using l) (by lia)) _ _ _ _ ⟨.bl _, H, I, rfl, hq⟩
theorem op_neX {k : Nat} (hu : X.A.units + (k + 1) < cLine) : OpR X (compareOp .NotEq) (rCmp k true) := by
 intro pins s σ H x y v u Q I rx ry h
 obtain ⟨p, q, b, rfl, rfl, hc, hq⟩ := h
 cases rx; cases ry
 cases hc with
 | flat f1 _ => cases f1
 | @tup _ _ _ xs ys e h1 h2 hc =>
  obtain ⟨its, rv, pl, _⟩ := I.tuple (SqT.of h1)
  obtain ⟨its2, rv2, pl2, _⟩ := I.tuple (SqT.of h2)
  have g := SeqAt.RcNeAt.tuples (A := X.A) (s := s) (e := e) (show s.heap.IsTuple p _ from pl) (show s.heap.IsTuple q _ from pl2) (by lia) fun j j1 j2 => by
   obtain ⟨x, hx, rx⟩ := item_at rv j1
   obtain ⟨y, hy, ry⟩ := item_at rv2 j2
   exact (hc j x y hx hy).at I (by show X.A.units + 1 + k < cLine; lia) rx ry
  rw [List.size_toArray, List.size_toArray, ← rv.length, ← rv2.length] at g
  exact g _ _ _ _ ⟨.bl _, H, I, rfl, hq⟩
 | @lst _ _ _ xs ys e h1 h2 hc =>
  obtain ⟨its, rv, pl, _⟩ := I.list (SqL.of h1)
  obtain ⟨its2, rv2, pl2, _⟩ := I.list (SqL.of h2)
  by_cases l : xs.length = ys.length
  · have g := SeqAt.RcNeAt.lists (A := X.A) (s := s) (e := e) pl.isList pl2.isList (by rw [List.size_toArray, List.size_toArray, ← rv.length, ← rv2.length]; exact l) (by lia) fun j j1 j2 => by
      obtain ⟨x, hx, rx⟩ := item_at rv j1
      obtain ⟨y, hy, ry⟩ := item_at rv2 j2
      exact (hc j x y hx hy).at I (by show X.A.units + 1 + k < cLine; lia) rx ry
    rw [List.size_toArray, ← rv.length] at g
    rw [← l, Nat.min_self, beq_self_eq_true, Bool.and_true] at hq
    exact g _ _ _ _ ⟨.bl _, H, I, rfl, hq⟩
  · have n : (xs.length == ys.length) = false := by simpa using l
    rw [n, Bool.and_false] at hq
    exact (SeqAt.RcNeAt.lists_lengths pl.isList pl2.isList (by rw [List.size_toArray, List.size_toArray, ← rv.length, ← rv2.length]; simpa using l) (by lia)) _ _ _ _ ⟨.bl _, H, I, rfl, hq⟩
theorem countP_abs {e : V → Bool} {xs : List V} {its : List Value} (r : Vals xs its) : its.countP (fun z => match absV z with | some w => e w | none => false) = xs.countP e := by
 induction r with
 | nil => rfl
 | cons r t ih =>
  rw [List.countP_cons, List.countP_cons, ih]
  rw [r.abs]
def rCountX (k : Nat) : V → List V → Hp → VK → Prop := fun x vs H Q => ∃ (a : Addr) (xs : List V) (y : V) (e : V → Bool), x = .ref a ∧ vs = [y] ∧ H a = some (.lst xs) ∧ (∀ z ∈ xs, Cmp H k z y (e z)) ∧ Q (.int (xs.countP e : Nat)) H
theorem mt_countX {k : Nat} (hu : X.A.units + (k + 1) < cLine) : MtR X "list.count" (rCountX k) := by
 intro pins s σ H x xs v us Q I rx rs h
 obtain ⟨a, ys, y, e, rfl, rfl, ha, hc, q⟩ := h
 cases rx
 obtain ⟨u, rfl, ru⟩ := vals1 rs
 obtain ⟨its, rv, pl, _⟩ := I.list (SqL.of ha)
 obtain ⟨oL, n, ho, e1, e2, e3⟩ := id pl
 obtain ⟨cL, dL, daL, slL⟩ := oL
 simp only at e1 e2 e3
 subst e1 e2 e3
 have ab : ∀ z ∈ its, ∃ w ∈ ys, RelV w z := fun z hz => by
  obtain ⟨i, hi, ei⟩ := List.getElem_of_mem hz
  have hy : ys[i]? = some (ys[i]'(by rw [rv.length]; exact hi)) := List.getElem?_eq_getElem _
  obtain ⟨u', hu', r'⟩ := rv.get hy
  rw [List.getElem?_eq_getElem hi, ei] at hu'
  cases hu'
  exact ⟨_, List.mem_of_getElem? hy, r'⟩
 refine call_meets PySem.F.slot_list_count ⟨_, ho, rfl⟩ PySem.F.entry_list_count (PySem.F.args_list_count_2 _ _) (SeqAt.list_countAt a its.toArray n _ _ u (fun z => match absV z with | some w => e w | none => false)) ⟨ho, fun z hz => ?_, ?_⟩
 · obtain ⟨w, hw, rw'⟩ := ab z (by simpa using hz)
   show SeqAt.EqAt _ s z u (match absV z with | some w => e w | none => false)
   rw [rw'.abs]
   exact (hc w hw).at I (by show X.A.units + 1 + k < cLine; lia) rw' ru
 · have : its.toArray.toList.countP (fun z => match absV z with | some w => e w | none => false) = ys.countP e := by
     show its.countP _ = _
     exact countP_abs rv
   rw [this]
   exact ⟨.int _, H, I.tok _, ⟨_, rfl⟩, q⟩
end
end L2
end
section
namespace LD
open PySem PySem.Spec L2 LB PyProof.Rows
section
variable {X : Cx} {a b e : Expr} {ta tb t : DTE} {tA : DTA} {pos p apos cpos : Pos}
inductive D_cmp (k : Nat) (neg : Bool) (d1 d2 : Dt) (Q : Dt → Prop) : Prop
 | mk (h1 : flatD d1 = false) (h2 : Shp (k + 1) d1 d2) (h3 : Q (.bl (if neg then !eqX (k + 1) d1 d2 else eqX (k + 1) d1 d2)))
theorem do_cmp {k : Nat} {neg : Bool} : DOp (rCmp k neg) (D_cmp k neg) := fun M H x y d1 d2 Qd Q al r1 r2 zz k' => (by
 obtain ⟨h1, h2, q⟩ := zz
 have c := cmp_of h2 r1 r2
 have rf : ∃ p q, x = .ref p ∧ y = .ref q := by
  cases h2 with
  | flat f1 _ => rw [f1] at h1; cases h1
  | tup _ => obtain ⟨p, _, e, _⟩ := r1.ofTup; obtain ⟨q, _, e2, _⟩ := r2.ofTup; exact ⟨p, q, e, e2⟩
  | lst _ => obtain ⟨p, _, e, _⟩ := r1.ofLst; obtain ⟨q, _, e2, _⟩ := r2.ofLst; exact ⟨p, q, e, e2⟩
 obtain ⟨p, q', rfl, rfl⟩ := rf
 exact ⟨p, q', _, rfl, rfl, c, k' H _ _ q (fun _ _ z => z) (.bl _)⟩)
theorem d_eqX (k : Nat) (hu : X.A.units + (k + 1) < cLine) (ha : Ev X a ta) (hb : Ev X b tb) : Ev X (.Compare a [.Eq] [b] pos) (dOp (D_cmp k false) ta tb) := d_cmp (op_eqX hu) do_cmp ha hb (nomark _)
theorem t_eqX (k : Nat) (hu : X.A.units + (k + 1) < cLine) (ha : Ev X a ta) (hb : Ev X b tb) : Tv X (.Compare a [.Eq] [b] pos) (dT (dOp (D_cmp k false) ta tb)) := d_test (op_eqX hu) do_cmp ha hb (nomark _)
theorem t_neX (k : Nat) (hu : X.A.units + (k + 1) < cLine) (ha : Ev X a ta) (hb : Ev X b tb) : Tv X (.Compare a [.NotEq] [b] pos) (dT (dOp (D_cmp k true) ta tb)) := d_test (op_neX hu) do_cmp ha hb (nomark _)
inductive dCountX_i (k : Nat) (Q : Dt → List Sl → Prop) (d : Dt) (es : List Dt) (δ2 : List Sl) : Prop
 | mk (ds : List Dt) (x : Dt) (h1 : d = .lst ds) (h2 : es = [x]) (h3 : ∀ z ∈ ds, Shp k z x) (h4 : Q (.int (ds.countP fun z => eqX k z x : Nat)) δ2)
def dCountX (k : Nat) (ta : DTE) (tA : DTA) : DTE := fun δ Q => ta δ fun d δ1 => (∃ ds, d = .lst ds) ∧ tA δ1 fun es δ2 => dCountX_i k Q d es δ2
theorem Rep.inj {M : Addr → Prop} {H : Hp} {v : V} {d : Dt} (h : Rep M H v d) : ∀ {d' : Dt}, Rep M H v d' → d' = d := by
 induction h with
 | non => intro d' h'; cases h'; rfl
 | bl b => intro d' h'; cases h'; rfl
 | int i => intro d' h'; cases h'; rfl
 | str x => intro d' h'; cases h'; rfl
 | lst e n l r ih =>
  intro d' h'
  cases h' with
  | lst e' n' l' r' =>
   rw [e] at e'
   cases e'
   refine congrArg Dt.lst (List.ext_getElem (by rw [← l, ← l']) fun i h1 h2 => ?_)
   exact ih i _ _ (List.getElem?_eq_getElem (by rw [l]; exact h2)) (List.getElem?_eq_getElem h2) (r' i _ _ (List.getElem?_eq_getElem (by rw [l]; exact h2)) (List.getElem?_eq_getElem h1))
  | tup e' _ _ _ => rw [e] at e'; cases e'
  | dic e' _ _ _ _ => rw [e] at e'; cases e'
  | dit e' _ _ _ _ => rw [e] at e'; cases e'
 | tup e n l r ih =>
  intro d' h'
  cases h' with
  | tup e' n' l' r' =>
   rw [e] at e'
   cases e'
   refine congrArg Dt.tup (List.ext_getElem (by rw [← l, ← l']) fun i h1 h2 => ?_)
   exact ih i _ _ (List.getElem?_eq_getElem (by rw [l]; exact h2)) (List.getElem?_eq_getElem h2) (r' i _ _ (List.getElem?_eq_getElem (by rw [l]; exact h2)) (List.getElem?_eq_getElem h1))
  | lst e' _ _ _ => rw [e] at e'; cases e'
  | dic e' _ _ _ _ => rw [e] at e'; cases e'
  | dit e' _ _ _ _ => rw [e] at e'; cases e'
 | dic e n k l r ih =>
  intro d' h'
  cases h' with
  | dic e' n' k' l' r' =>
   rw [e] at e'
   cases e'
   rw [k] at k'
   cases k'
   refine congrArg (Dt.dic _) (List.ext_getElem (by rw [← l, ← l']) fun i h1 h2 => ?_)
   exact ih i _ _ (List.getElem?_eq_getElem (by rw [l]; exact h2)) (List.getElem?_eq_getElem h2) (r' i _ _ (List.getElem?_eq_getElem (by rw [l]; exact h2)) (List.getElem?_eq_getElem h1))
  | lst e' _ _ _ => rw [e] at e'; cases e'
  | tup e' _ _ _ => rw [e] at e'; cases e'
  | dit e' _ _ _ _ => rw [e] at e'; cases e'
 | dit e n k l r ih =>
  intro d' h'
  cases h' with
  | dit e' n' k' l' r' =>
   rw [e] at e'
   cases e'
   rw [k] at k'
   cases k'
   refine congrArg (Dt.dit _) (List.ext_getElem (by rw [← l, ← l']) fun i h1 h2 => ?_)
   exact ih i _ _ (List.getElem?_eq_getElem (by rw [l]; exact h2)) (List.getElem?_eq_getElem h2) (r' i _ _ (List.getElem?_eq_getElem (by rw [l]; exact h2)) (List.getElem?_eq_getElem h1))
  | lst e' _ _ _ => rw [e] at e'; cases e'
  | tup e' _ _ _ => rw [e] at e'; cases e'
  | dic e' _ _ _ _ => rw [e] at e'; cases e'
open Classical in
noncomputable def byD (M : Addr → Prop) (H : Hp) (f : Dt → Bool) (v : V) : Bool := decide (∃ d, Rep M H v d ∧ f d = true)
open Classical in
theorem byD_eq {M : Addr → Prop} {H : Hp} {f : Dt → Bool} {v : V} {d : Dt} (h : Rep M H v d) : byD M H f v = f d := by
 unfold byD
 cases e : f d with
 | true => exact decide_eq_true ⟨d, h, e⟩
 | false =>
  refine decide_eq_false fun z => ?_
  obtain ⟨d', h', e'⟩ := z
  rw [h.inj h', e] at e'
  cases e'
theorem byD_count {M : Addr → Prop} {H : Hp} {f : Dt → Bool} : ∀ {xs : List V} {ds : List Dt}, Reps M H xs ds → xs.countP (byD M H f) = ds.countP f
 | [], [], _ => rfl
 | [], _ :: _, h => by have := h.1; simp at this
 | _ :: _, [], h => by have := h.1; simp at this
 | x :: xs, d :: ds, h => by
  obtain ⟨y, ys, e, r1, r2⟩ := h.uncons
  cases e
  rw [List.countP_cons, List.countP_cons, byD_count r2, byD_eq r1]
theorem d_countX (k : Nat) (hu : X.A.units + (k + 1) < cLine) (ha : Ev X a ta) (hA : Av X [e] tA)
  (hbase : autoParam (attributeBase a "count" X.env (eval a X.env) = eval a X.env) au5._auto_1)
  (hfew : autoParam (((backTo cpos (starEach [e] X.env)).all (fun x => !x.1) && (backToKw cpos (keywordEach [] X.env)).all (fun x => x.1.isSome) && decide ([e].length + ([] : List Keyword).length + (if ([] : List Keyword).isEmpty then 0 else 1) < 30)) = true) au5._auto_1)
  (hline : autoParam ((apos.endLine == cpos.line) = true) au5._auto_1) (hs : autoParam (starEach [e] X.env = (false, eval e X.env) :: starEach [] X.env) au5._auto_1) (hplain : autoParam ((backTo cpos (starEach [] X.env)).any (·.1) = false) au5._auto_1) :
  Ev X (.Call (.Attribute a "count" apos) [e] [] cpos) (dCountX k ta tA) :=
 PE.imp (pe_bm PySem.F.plainAttrs_list PySem.F.slot_list_count PySem.F.type_list_count (mt_countX (k := k) hu) ha hA hbase hfew hline hs hplain) fun σ H Q zz1 => (by
  obtain ⟨W, M, α, δ, Qd, E, q, k'⟩ := zz1
  refine ⟨W, M, α, δ, _, E, q, fun d δ1 H1 x zz2 E1 c1 r1 => ?_⟩
  obtain ⟨⟨ds, e⟩, q1⟩ := zz2
  subst e
  obtain ⟨a, xs, rfl, ha, n, rr⟩ := r1.ofLst
  refine ⟨.inl ⟨rfl, xs, SqL.of ha⟩, W, M, α, δ1, _, E1, q1, fun es δ2 H2 ys zz3 E2 c2 r2 => ?_⟩
  obtain ⟨ds', y, e1, e2, hs, q2⟩ := zz3
  injection e1 with e1
  subst e1; subst e2
  obtain ⟨v, rfl, rv⟩ := one_arg r2
  obtain ⟨a', xs', e', ha', n', rr'⟩ := (r1.chg E1 c2).ofLst
  cases e'
  refine ⟨a, xs', v, byD M H2 (fun z => eqX k z y), rfl, rfl, ha', fun z hz => ?_, ?_⟩
  · obtain ⟨i, hi, ei⟩ := List.getElem_of_mem hz
    have hd : ds[i]? = some (ds[i]'(by rw [← rr'.1]; exact hi)) := List.getElem?_eq_getElem _
    have rz := rr'.2 i z _ (by rw [List.getElem?_eq_getElem hi, ei]) hd
    rw [byD_eq rz]
    exact cmp_of (hs _ (List.mem_of_getElem? hd)) rz rv
  · rw [byD_count rr']
    exact k' _ _ _ _ q2 E2 (c1.tr c2) (.int _))
end
end LD
end
section
namespace L2
open PySem PySem.Spec PyProof.Rows HT
noncomputable def lexF (z : Bool) (e l : Nat → Bool) : Nat → Nat → Bool
 | 0, _ => z
 | f + 1, i => if e i then lexF z e l f (i + 1) else l i
def LeAt (A : Around) (s : Shared) (y x : Value) (b : Bool) : Prop :=
 ∀ (prog : Program) (w : World) (E : Value → Shared → Prop) (Q : Value → Shared → Prop), Q (.bool b) s → wpAny (model prog w) A (richCompare .LtE y x) Q E s
section
open PySem.AutoSeq1 (wpAny_loadPart')
open PySem.MeetsSeq PySem.MeetsSeq2 PySem.MeetsSeq3
theorem tuple_le_deep (l b : Addr) (items items2 : Array Value) (n n2 : Nat) (dd dd2 : Option Addr) (sl sl2 : Array (Option Value)) (e lo : Nat → Bool) :
  Meets (Builtin.«tuple.__le__» ⟨[.ref l, .ref b], []⟩)
   (fun A R s => s.heap.get? l = some { cls := .type "tuple", dict := dd, data := .seq items n, slots := sl } ∧ s.heap.get? b = some { cls := .type "tuple", dict := dd2, data := .seq items2 n2, slots := sl2 } ∧
    (∀ j (h1 : j < items.size) (h2 : j < items2.size), SeqAt.EqAt A.in1 s items[j] items2[j] (e j)) ∧ (∀ j (h1 : j < items.size) (h2 : j < items2.size), e j = false → LeAt A.in1 s items[j] items2[j] (lo j)) ∧
    R (.ok (.ret (.bool (lexF (decide (items.size ≤ items2.size)) e lo (min items.size items2.size) 0)))) s) :=
 .of_wp fun prog w A R s h => by
  obtain ⟨hp, g, d, tk, os⟩ := s; obtain ⟨hl, hb, he, ho, h⟩ := h
  have f2 := AutoSeq1.sub_tuple_tuple
  have zl : (items.toList.zip items2.toList).length = min items.size items2.size := by rw [List.length_zip, Array.length_toList, Array.length_toList]
  wp_walk using wpAny_loadPart' hl, wpAny_loadPart' hb, wpAny_forIn_list _ (fun rest b s' => b.1 = none ∧ s' = ⟨hp, g, d, tk, os⟩ ∧ ∃ i, i ≤ min items.size items2.size ∧ rest = (items.toList.zip items2.toList).drop i ∧
   R (.ok (.ret (.bool (lexF (decide (items.size ≤ items2.size)) e lo (min items.size items2.size - i) i)))) ⟨hp, g, d, tk, os⟩) _
  case turn =>
   rintro ⟨y, x⟩ rest b s' ⟨hb', rfl, i, hi, hz, hR⟩
   have il : i < (items.toList.zip items2.toList).length := by
    rcases Nat.lt_or_ge i (items.toList.zip items2.toList).length with c | c
    · exact c
    · rw [List.drop_eq_nil_of_le c] at hz; cases hz
   rw [List.drop_eq_getElem_cons il] at hz
   injection hz with hyx hrest
   rw [zl] at il
   have i1 : i < items.size := by lia
   have i2 : i < items2.size := by lia
   rw [List.getElem_zip] at hyx
   injection hyx with hy hx
   have hy : y = items[i] := by rw [hy]; simp
   have hx : x = items2[i] := by rw [hx]; simp
   subst hy hx
   obtain ⟨f, ef⟩ : ∃ f, min items.size items2.size - i = f + 1 := ⟨min items.size items2.size - i - 1, by lia⟩
   rw [ef, lexF] at hR
   refine wpAny_bind (he i i1 i2 prog w _ _ ?_)
   cases c : e i with
   | true =>
    rw [c, if_pos rfl] at hR
    wp_walk
    exact ⟨rfl, rfl, i + 1, by lia, hrest, by rw [show min items.size items2.size - (i + 1) = f by lia]; exact hR⟩
   | false =>
    rw [c, if_neg Bool.false_ne_true] at hR
    have hri := ho i i1 i2 c prog w
    wp_walk using hri
    exact ⟨_, rfl, by simpa using hR⟩
  case fin =>
   rintro ⟨b1, b2⟩ s' ⟨hb', rfl, i, hi, hz, hR⟩
   simp only at hb'
   subst hb'
   have il : min items.size items2.size ≤ i := by
    rw [← zl]
    exact List.drop_eq_nil_iff.mp hz.symm
   rw [show min items.size items2.size - i = 0 by lia, lexF] at hR
   wp_walk
   exact ⟨_, rfl, by simpa [Builtin.Tuple.tupleCompareSizes] using hR⟩
  case h =>
   exact ⟨rfl, rfl, 0, Nat.zero_le _, rfl, h⟩
end
theorem LeAt.int (A : Around) (s : Shared) (a : Int) (t : Tok) (c : Int) (u : Tok) : LeAt A s (.int a t) (.int c u) (decide (a ≤ c)) := fun prog w E Q h => (PyProof.Rows.le_int h : wpAny (model prog w) A (compareOp .LtE (.int a t) (.int c u)) Q E s)
theorem LeAt.tuples {A : Around} {s : Shared} {l b : Addr} {items items2 : Array Value} {e lo : Nat → Bool} (hl : IsTup s.heap l items) (hb : IsTup s.heap b items2) (hu : A.units < cLine)
  (he : ∀ j (h1 : j < items.size) (h2 : j < items2.size), SeqAt.EqAt A.in1 s items[j] items2[j] (e j)) (ho : ∀ j (h1 : j < items.size) (h2 : j < items2.size), e j = false → LeAt A.in1 s items[j] items2[j] (lo j)) :
  LeAt A s (.ref l) (.ref b) (lexF (decide (items.size ≤ items2.size)) e lo (min items.size items2.size) 0) := fun prog w E Q h => by
 obtain ⟨⟨cls, dd, data, sl⟩, h1, hc, n, hd⟩ := id hl
 obtain ⟨⟨cls2, dd2, data2, sl2⟩, h2, hc2, n2, hd2⟩ := id hb
 simp only at hc hd hc2 hd2
 subst hc hd hc2 hd2
 exact richCompare_meets_room (op := .LtE) ⟨_, h1, rfl⟩ ⟨_, h2, rfl⟩ PySem.F.slot_tuple_le PySem.F.entry_tuple_le (PySem.F.args_tuple_le_2 _ _) (tuple_le_deep l b items items2 n n2 dd dd2 sl sl2 e lo)
  ⟨h1, h2, he, ho, show Value.bool _ ≠ Value.notImplemented ∧ Q (.bool _) s from ⟨(fun x => nomatch x), h⟩⟩ hu
section
variable {X : Cx}
def rLeT : R2 := fun x y H Q => ∃ (p q : Addr) (xs ys : List Int), x = .ref p ∧ y = .ref q ∧ H p = some (.tup (xs.map V.int)) ∧ H q = some (.tup (ys.map V.int)) ∧
 Q (.bl (lexF (decide (xs.length ≤ ys.length)) (fun j => decide (xs.getD j 0 = ys.getD j 0)) (fun j => decide (xs.getD j 0 ≤ ys.getD j 0)) (min xs.length ys.length) 0)) H
theorem op_leT (hu : X.A.units + 1 < cLine) : OpR X (compareOp .LtE) rLeT := by
 intro pins s σ H x y v u Q I rx ry h
 obtain ⟨p, q, xs, ys, rfl, rfl, h1, h2, k⟩ := h
 cases rx; cases ry
 obtain ⟨its, rv, pl, _⟩ := I.tuple (SqT.of h1)
 obtain ⟨its2, rv2, pl2, _⟩ := I.tuple (SqT.of h2)
 have sz1 : its.toArray.size = xs.length := by rw [List.size_toArray, ← rv.length, List.length_map]
 have sz2 : its2.toArray.size = ys.length := by rw [List.size_toArray, ← rv2.length, List.length_map]
 have at1 : ∀ {zs : List Int} {us : List Value} (r : Vals (zs.map V.int) us) (j : Nat) (hj : j < us.toArray.size), ∃ t, us.toArray[j] = .int (zs.getD j 0) t := fun {zs us} r j hj => by
  obtain ⟨x, hx, rx⟩ := item_at r hj
  rw [List.getElem?_map] at hx
  obtain ⟨i, hi, rfl⟩ := Option.map_eq_some_iff.mp hx
  obtain ⟨t, ht⟩ := rx
  exact ⟨t, by rw [ht, List.getD, hi]; rfl⟩
 have g := LeAt.tuples (A := X.A) (s := s) (e := fun j => decide (xs.getD j 0 = ys.getD j 0)) (lo := fun j => decide (xs.getD j 0 ≤ ys.getD j 0)) pl pl2 (by lia) (fun j j1 j2 => by
   obtain ⟨x, hx, rx⟩ := item_at rv j1
   obtain ⟨y, hy, ry⟩ := item_at rv2 j2
   have hx' := hx; have hy' := hy
   rw [List.getElem?_map] at hx' hy'
   obtain ⟨i1, hi1, e1⟩ := Option.map_eq_some_iff.mp hx'
   obtain ⟨i2, hi2, e2⟩ := Option.map_eq_some_iff.mp hy'
   subst e1; subst e2
   have := (Cmp.flat (H := H) (k := 0) (v := .int i1) (w := .int i2) rfl rfl).at I (A := X.A.in1) (by show X.A.units + 1 + 0 < cLine; lia) rx ry
   rw [show decide (xs.getD j 0 = ys.getD j 0) = eqV (.int i1) (.int i2) by rw [List.getD, List.getD, hi1, hi2]; show decide (i1 = i2) = (i1 == i2); rfl]
   exact this) fun j j1 j2 ej => by
   obtain ⟨t, ht⟩ := at1 rv j j1
   obtain ⟨t2, ht2⟩ := at1 rv2 j j2
   rw [ht, ht2]
   exact LeAt.int _ _ _ _ _ _
 rw [sz1, sz2] at g
 exact g _ _ _ _ ⟨.bl _, H, I, rfl, k⟩
theorem noI_tuple_add : typeLookup (.type "tuple") (dunderI "add") = pure none := by rw [typeLookup_type, builtinLookup_eq_fast]; kernel_rfl
section
variable {prog : Program} {w : World} {A : Around} {E : Value → Shared → Prop} {s : Shared}
theorem iconcat_meets {T id : String} {B : Builtin} {a b : Value} {S : PySem.Spec} {Q : Value → Shared → Prop} (ha : s.TypeIs a T) (hb : s.TypeIs b T) (hno : typeLookup (.type T) (dunderI "add") = pure none)
  (hfill : fillsNumberSlot (.type T) "add" = pure false) (hseq : seqSlot? (.type T) "__add__" = pure (some (.builtin id))) (slot : Slot T "__add__" id)
  (entry : entryFor table id = some B) (args : argsOk id ⟨[a, b], []⟩) (g : Meets (B ⟨[a, b], []⟩) S) (h : S A (wants Q E) s) : wpAny (model prog w) A (inplaceOp .Add a b) Q E s :=
 wpAny_inplaceOp_concat ha hb hno hfill hseq (call_meets slot ha entry args g h)
theorem icat_tup0 {t b : Addr} {vs ws : List Value} {Q : Value → Shared → Prop} (ht : IsTup s.heap t vs.toArray) (hb : IsTup s.heap b ws.toArray) (hv : vs = []) (h : Q (.ref b) s) : wpAny (model prog w) A (inplaceOp .Add (.ref t) (.ref b)) Q E s := by
 obtain ⟨⟨c1, d1, t1, l1⟩, a1, a2, n1, a3⟩ := id ht
 obtain ⟨⟨c2, d2, t2, l2⟩, b1, b2, n2, b3⟩ := id hb
 simp only at a2 a3 b2 b3
 subst a2 a3 b2 b3
 exact iconcat_meets ⟨_, a1, rfl⟩ ⟨_, b1, rfl⟩ noI_tuple_add noFill_tuple_add seq_tuple_add PySem.F.slot_tuple_add PySem.F.entry_tuple_add (PySem.F.args_tuple_add_2 _ _) (tuple_addW0 t b vs.toArray ws.toArray n1 n2 d1 d2 l1 l2 (by simp [hv])) ⟨a1, b1, h⟩
theorem icat_tup {t b : Addr} {vs ws : List Value} {Q : Value → Shared → Prop} (ht : IsTup s.heap t vs.toArray) (hb : IsTup s.heap b ws.toArray) (hv : vs ≠ [])
  (h1 : ws = [] → Q (.ref t) s) (h2 : ws ≠ [] → Q (.ref s.heap.objs.size) { s with heap := s.heap.push { cls := .type "tuple", data := .seq (vs ++ ws).toArray } })
  (hsz : vs.length + ws.length ≤ sizeLine) : wpAny (model prog w) A (inplaceOp .Add (.ref t) (.ref b)) Q E s := by
 obtain ⟨⟨cls, dd, data, sl⟩, ho, hc, n, hd⟩ := id ht
 obtain ⟨⟨cls2, dd2, data2, sl2⟩, ho2, hc2, n2, hd2⟩ := id hb
 simp only at hc hd hc2 hd2
 subst hc hd hc2 hd2
 have e : vs.toArray ++ ws.toArray = (vs ++ ws).toArray := by simp
 by_cases hw : ws = []
 · exact iconcat_meets ⟨_, ho, rfl⟩ ⟨_, ho2, rfl⟩ noI_tuple_add noFill_tuple_add seq_tuple_add PySem.F.slot_tuple_add PySem.F.entry_tuple_add (PySem.F.args_tuple_add_2 _ _)
     (tuple_addW1 t b vs.toArray ws.toArray n n2 dd dd2 sl sl2 (by simpa using hv) (by simp [hw])) ⟨ho, ho2, h1 hw⟩
 · refine iconcat_meets ⟨_, ho, rfl⟩ ⟨_, ho2, rfl⟩ noI_tuple_add noFill_tuple_add seq_tuple_add PySem.F.slot_tuple_add PySem.F.entry_tuple_add (PySem.F.args_tuple_add_2 _ _)
     (tuple_addW2 t b vs.toArray ws.toArray n n2 dd dd2 sl sl2 (by simpa using hv) (by simpa using hw) (by rw [List.size_toArray, List.size_toArray]; exact hsz)) ⟨ho, ho2, ?_⟩
   rw [e]
   exact h2 hw
end
theorem ip_catA : PIp X .Add rCatA := by
 intro pins s σ H x y v u Q I rx ry h
 obtain ⟨a, b, xs, ys, rfl, rfl, h1, h2, hz, q⟩ := h
 cases rx; cases ry
 obtain ⟨its, r1, p1, _⟩ := I.tuple (SqT.of h1)
 obtain ⟨its2, r2, p2, _⟩ := I.tuple (SqT.of h2)
 by_cases e1 : its = []
 · have ex : xs = [] := r1.nil_iff.mp e1
   refine icat_tup0 p1 p2 e1 ⟨.ref b, H, I, rfl, q b H (.inl ⟨rfl, ?_⟩)⟩
   rw [ex]; exact h2
 · refine icat_tup p1 p2 e1 (fun e2 => ⟨.ref a, H, I, rfl, q a H (.inl ⟨rfl, ?_⟩)⟩) (fun e2 => ?_) (by rw [← r1.length, ← r2.length]; exact hz)
   · have ey : ys = [] := r2.nil_iff.mp e2
     rw [ey, List.append_nil]; exact h1
   · exact ⟨.ref s.heap.objs.size, _, I.laid (t' := s.toks) (o := .tup (xs ++ ys)) (fun b ob q => Heap.get?_push_of_some _ q) (Nat.le_refl _) ⟨by rw [List.length_append]; exact hz, _, r1.append r2, IsTp.new _ _⟩, rfl, q _ _ (.inr ⟨I.hok.fresh (Nat.le_refl _), rfl⟩)⟩
end
end L2
end
section
namespace LSrtR
open PySem PyProof.Rows PySem.W LSrt
noncomputable def lexI (fin : Bool) : List Int → List Int → Bool
 | x :: xs, y :: ys => if x == y then lexI fin xs ys else decide (x < y)
 | _, _ => fin
inductive Nu : List Value → List Int → Prop
 | nil : Nu [] []
 | cons {us : List Value} {xs : List Int} (x : Int) (t : Tok) : Nu us xs → Nu (.int x t :: us) (x :: xs)
theorem Nu.len {us : List Value} {xs : List Int} (h : Nu us xs) : us.length = xs.length := by
 induction h with
 | nil => rfl
 | cons _ _ _ ih => rw [List.length_cons, List.length_cons, ih]
structure TuAt (h : Heap) (v : Value) (xs : List Int) : Prop where
 ex : ∃ (t : Addr) (o : Obj) (us : List Value) (n : Nat), v = .ref t ∧ h.get? t = some o ∧ o.cls = .type "tuple" ∧ o.data = .seq us.toArray n ∧ Nu us xs ∧ xs ≠ []
section
variable {prog : Program} {w : World} {A : Around} {E : Value → Shared → Prop} {s : Shared}
theorem elemR {st : SortSt} {xs : Array Keyed} {i : Nat} {Q : Keyed → SortSt → Prop} (hi : i < xs.size) (h : Q xs[i] st) : wpS (model prog w) A E s (elem' xs i) Q st := by
 rw [elem'_eq, Array.getElem?_eq_getElem hi]
 exact wpS_pure h
theorem kat_ints {fin : Bool} {Q : Bool → Shared → Prop} : ∀ {us vs : List Value} {xs ys : List Int} {i : Nat}, Nu us xs → Nu vs ys → Q (lexI fin xs ys) s → KatLex prog w A true fin Q (us.zip vs) i s
 | _, _, _, _, _, .nil, _, q => kat_nil q
 | _, _, _, _, _, .cons _ _ _, .nil, q => kat_nil q
 | _, _, _, _, i, .cons (us := us) (xs := xs) x t h, .cons (us := vs) (xs := ys) y u h', q => by
  rw [List.zip_cons_cons]
  refine kat_cons (wpAny_eqBool_int ?_)
  unfold lexI at q
  by_cases c : (x == y) = true
  · rw [c]
    rw [if_pos c] at q
    exact kat_yes (kat_ints h h' q)
  · rw [if_neg c] at q
    rw [Bool.eq_false_iff.mpr c]
    refine kat_no ?_
    cases i with
    | zero => exact oneLt_int q
    | succ j => exact kat_one _ _ (lt_int q)
theorem ltR {st : SortSt} {x y : Keyed} {xs ys : List Int} {Q : Option Bool → SortSt → Prop} (hk : kindOf st = tuples' true) (hx : TuAt s.heap x.1 xs) (hy : TuAt s.heap y.1 ys) (h : Q (some (lexI (decide (xs.length < ys.length)) xs ys)) st) : wpS (model prog w) A E s (lt' x y) Q st := by
 obtain ⟨x1, x2⟩ := x
 obtain ⟨y1, y2⟩ := y
 obtain ⟨t, o, us, n, e, g, c, d, nu, _⟩ := hx.ex
 obtain ⟨t', o', us', n', e', g', c', d', nu', _⟩ := hy.ex
 dsimp only at e e'
 subst e; subst e'
 rw [lt'_eq]
 refine wpS_bind (wpS_get ?_)
 rw [hk]
 refine wpS_bind (wpS_lift (wpAny_attempt (kat_lt g d g' d' ?_)))
 rw [List.size_toArray, List.size_toArray, nu.len, nu'.len]
 exact kat_ints nu nu' ⟨rfl, wpS_pure h⟩
theorem minRun_le : ∀ {f n r : Nat}, r ≤ 1 → minRun' f n r ≤ n + r
 | 0, n, r, h => Nat.le_refl _
 | f + 1, n, r, h => by
  rw [minRun'_succ]
  by_cases c : n < 64
  · rw [if_pos c]; exact Nat.le_refl _
  · rw [if_neg c]
    have := minRun_le (f := f) (n := n / 2) (r := max r (n % 2)) (by lia)
    lia
theorem runsR {st : SortSt} {Q : Unit → SortSt → Prop} (h1 : 1 ≤ (arrOf st).size) (hp : pendingOf st = #[])
  (hl : ∀ (i : Nat) (Q' : Option Bool → SortSt → Prop), 1 ≤ i → i < (arrOf st).size → Q' (some false) st → wpS (model prog w) A E s (ltAt' i (i - 1)) Q' st)
  (h : ∀ st', arrOf st' = arrOf st → failedOf st' = failedOf st → Q () st') : wpS (model prog w) A E s sortRuns' Q st := by
 rw [sortRuns'_eq]
 refine wpS_bind (wpS_get ?_)
 dsimp only
 have mr := minRun_le (f := (arrOf st).size) (n := (arrOf st).size) (r := 0) (by lia)
 generalize minRun' (arrOf st).size (arrOf st).size 0 = mrn at mr ⊢
 refine wpS_bind (wpS_mono (wpS_forRange (I := fun x c st' => (x = 0 ∧ c = (none, 0) ∧ st' = st) ∨ (1 ≤ x ∧ c = (none, (arrOf st).size) ∧ st' = setPending st #[(0, (arrOf st).size, 0)]))
  (Q := fun c st' => c = (none, (arrOf st).size) ∧ st' = setPending st #[(0, (arrOf st).size, 0)]) ?step ?fin (.inl ⟨rfl, rfl, rfl⟩)) ?post)
 case fin =>
  rintro c st' (⟨hx, _, _⟩ | ⟨_, hc, hD⟩)
  · lia
  · exact ⟨hc, hD⟩
 case step =>
  rintro x c st' _ hx (⟨rfl, rfl, rfl⟩ | ⟨hx1, rfl, rfl⟩)
  · dsimp only
    rw [if_neg (by lia)]
    simp only [Nat.sub_zero, Nat.zero_add]
    have run : ∀ Q' : Option Nat → SortSt → Prop, Q' (some (arrOf st').size) st' → wpS (model prog w) A E s (countRun' 0 (arrOf st').size) Q' st' := fun Q' q => by
     rw [countRun'_eq]
     dsimp only
     refine wpS_bind (wpS_mono (wpS_forRange (I := fun i c st2 => st2 = st' ∧ c.1 = none ∧ c.2 = i) (Q := fun c st2 => st2 = st' ∧ c.1 = none ∧ c.2 = (arrOf st').size) ?_ ?_ ⟨rfl, rfl, rfl⟩) ?_)
     · rintro x ⟨r, n⟩ st2 hx1 hx2 ⟨rfl, e1, e2⟩
       dsimp only at e1 e2 ⊢
       subst e1; subst e2
       simp only [Nat.zero_add]
       exact wpS_bind (hl _ _ (by lia) (by lia) (wpS_pure ⟨rfl, rfl, rfl⟩))
     · rintro ⟨r, n⟩ st2 ⟨e0, e1, e2⟩
       dsimp only at e2
       exact ⟨e0, e1, by dsimp only; lia⟩
     · rintro ⟨r, n⟩ st2 ⟨rfl, e1, e2⟩
       dsimp only at e1 e2 ⊢
       subst e1; subst e2
       dsimp only
       rw [if_pos (beq_iff_eq.mpr rfl)]
       exact wpS_pure q
    refine wpS_bind (run _ ?_)
    dsimp only
    rw [if_neg (by lia)]
    refine wpS_bind (wpS_get ?_)
    rw [hp]
    refine wpS_bind (wpS_modify (wpS_pure (.inr ⟨by lia, ?_, ?_⟩)))
    · rfl
    · show setPending st' ((pendingOf st').push _) = _
      rw [hp]
      rfl
  · dsimp only
    rw [if_pos (Nat.le_refl _)]
    exact wpS_pure ⟨rfl, rfl⟩
 case post =>
  rintro c st' ⟨rfl, rfl⟩
  dsimp only
  refine wpS_bind (wpS_mono (wpS_forRange (I := fun x c st2 => c = (none, ()) ∧ st2 = setPending st #[(0, (arrOf st).size, 0)]) (Q := fun c st2 => c = (none, ()) ∧ st2 = setPending st #[(0, (arrOf st).size, 0)]) ?_ (fun _ _ h => h) ⟨rfl, rfl⟩) ?_)
  · rintro x c st2 _ _ ⟨rfl, rfl⟩
    refine wpS_bind (wpS_get ?_)
    rw [if_pos (show (pendingOf (setPending st #[(0, (arrOf st).size, 0)])).size ≤ 1 from Nat.le_refl _)]
    exact wpS_pure ⟨rfl, rfl⟩
  · rintro c st2 ⟨rfl, rfl⟩
    exact wpS_pure (h _ rfl rfl)
theorem firstsR {h : Heap} : ∀ {vs : List Value} {ts : List (List Int)}, vs.length = ts.length → (∀ (i : Nat) v xs, vs[i]? = some v → ts[i]? = some xs → TuAt h v xs) → ∃ fs, KatTups h vs fs ∧ fs.length = vs.length ∧ ∀ v ∈ fs, ∃ x t, v = Value.int x t
 | [], [], _, _ => ⟨[], .nil, rfl, fun v hv => absurd hv List.not_mem_nil⟩
 | [], _ :: _, l, _ => by simp at l
 | _ :: _, [], l, _ => by simp at l
 | v :: vs, q :: ps, l, hp => by
  obtain ⟨fs, t, lf, hi⟩ := firstsR (vs := vs) (ts := ps) (by simpa using l) fun i v q h1 h2 => hp (i + 1) v q (by simpa using h1) (by simpa using h2)
  obtain ⟨t0, o, us, n, rfl, g, c, d, nu, ne⟩ := (hp 0 v q rfl rfl).ex
  cases nu with
  | nil => exact absurd rfl ne
  | @cons us xs x tk _ =>
   refine ⟨.int x tk :: fs, .cons g c d rfl t, by rw [List.length_cons, List.length_cons, lf], fun v hv => ?_⟩
   rcases List.mem_cons.mp hv with e | hv
   · exact ⟨_, _, e⟩
   · exact hi v hv
theorem sortR {a : Addr} {vs : List Value} {ts : List (List Int)} {n : Nat} {P : PySem.Fin → Shared → Prop} (ho : s.heap.get? a = some (seqObj "list" vs.toArray n)) (hlen : vs.length ≤ 100000) (hts : vs.length = ts.length)
  (hT : ∀ h' : Heap, (∀ b o, b ≠ a → s.heap.get? b = some o → h'.get? b = some o) → ∀ (i : Nat) v xs, vs[i]? = some v → ts[i]? = some xs → TuAt h' v xs)
  (hr : ∀ (i : Nat) xs ys, ts[i + 1]? = some xs → ts[i]? = some ys → lexI (decide (xs.length < ys.length)) xs ys = false)
  (h : P (.done (.ret .none)) { s with heap := sortedHeap s.heap a vs vs.toArray }) :
  wpAny (model prog w) A (Builtin.«list.sort» ⟨[.ref a], []⟩) P E s := by
 rw [list_sort_plain]
 have ha : a < s.heap.objs.size := Heap.lt_size ho
 have hsz : vs.toArray.size = vs.length := by simp
 refine wpAny_bind (listItems_at ho rfl ?_)
 refine wpAny_bind (listUpdate_at ho rfl ?_ (by rw [hsz, sizeLine_eq]; lia) (Nat.zero_le _))
 obtain ⟨e1, ho1⟩ : ∃ e1, (s.heap.update a (Obj.mapSeq fun _ => #[])).get? a = some (seqObj "list" #[] e1) := ⟨_, get?_update_seq ho (fun _ => #[])⟩
 refine wpAny_bind (seqEpoch_at ho1 rfl ?_)
 refine wpAny_bind (wpAny_newTuple ?_)
 refine wpAny_bind (wpAny_newList ?_)
 refine wpAny_holding ?_
 have ho6 : (((s.heap.update a (Obj.mapSeq fun _ => #[])).push (seqObj "tuple" vs.toArray 0)).push (seqObj "list" #[] 0)).get? a = some (seqObj "list" #[] e1) := by
  rw [Heap.get?_push_ne _ _ _ (by rw [size_push', Heap.size_update]; exact Nat.ne_of_lt (Nat.lt_succ_of_lt ha)), Heap.get?_push_ne _ _ _ (by rw [Heap.size_update]; exact Nat.ne_of_lt ha)]
  exact ho1
 have kk : ∀ b o, b ≠ a → s.heap.get? b = some o → (((s.heap.update a (Obj.mapSeq fun _ => #[])).push (seqObj "tuple" vs.toArray 0)).push (seqObj "list" #[] 0)).get? b = some o := fun b o hb q => by
  have lb := Heap.lt_size q
  rw [Heap.get?_push_ne _ _ _ (by rw [size_push', Heap.size_update]; exact Nat.ne_of_lt (Nat.lt_succ_of_lt lb)), Heap.get?_push_ne _ _ _ (by rw [Heap.size_update]; exact Nat.ne_of_lt lb), Heap.get?_update_ne _ _ _ _ hb]
  exact q
 have hT' := hT _ kk
 show wpAny (model prog w) A _ P E { s with heap := ((s.heap.update a (Obj.mapSeq fun _ => #[])).push (seqObj "tuple" vs.toArray 0)).push (seqObj "list" #[] 0) }
 dsimp only
 have snd : (vs.toArray.zip vs.toArray).map (·.2) = vs.toArray := by
  apply Array.ext
  · simp
  · intro i h1 h2; simp
 by_cases h2 : vs.toArray.size < 2
 · rw [if_pos h2, if_pos h2]
   refine wpAny_bind (wpAny_pure ?_)
   rw [StateT.run_pure]
   refine wpAny_bind (wpAny_pure ?_)
   dsimp only
   refine wpAny_bind (seqEpoch_at ho6 rfl ?_)
   refine wpAny_bind (listUpdate_at ho6 rfl ?_ (hsz2 := by show (Array.map _ (vs.toArray.zip vs.toArray)).size ≤ _; rw [snd, hsz, sizeLine_eq]; lia))
   simp only [bne_self_eq_false, Bool.false_eq_true, if_false]
   refine wpAny_pure ?_
   show P _ { s with heap := sortedHeap s.heap a vs ((vs.toArray.zip vs.toArray).map (·.2)) }
   rw [snd]
   exact h
 · rw [if_neg h2, if_neg h2]
   rw [hsz] at h2
   obtain ⟨fs, tu, lf, hi⟩ := firstsR hts hT'
   refine wpAny_bind (kat_kind (T := .type "int") tu (by lia) (fun v hv => ?_) (by rfl) ?_)
   · obtain ⟨x, tk, rfl⟩ := hi v hv
     exact Looks.of_pure rfl
   have zs : (vs.toArray.zip vs.toArray).size = vs.length := by simp
   have zg : ∀ i (hi : i < vs.length), (vs.toArray.zip vs.toArray)[i]'(by lia) = (vs[i], vs[i]) := fun i hi => by simp
   refine wpAny_bind (wpAny_mono (runsR (st := SortSt.mk' (tuples' true) (vs.toArray.zip vs.toArray) #[] 7 none)
    (Q := fun _ st' => arrOf st' = vs.toArray.zip vs.toArray ∧ failedOf st' = none) (by show 1 ≤ (vs.toArray.zip vs.toArray).size; lia) rfl (fun i Q' i1 i2 q => ?_) fun st' a1 a2 => ⟨a1, a2⟩) ?_ fun _ _ e => e)
   · have i2 : i < (vs.toArray.zip vs.toArray).size := i2
     rw [ltAt'_eq]
     refine wpS_bind (wpS_get (wpS_bind (elemR i2 (wpS_bind (elemR (show i - 1 < (vs.toArray.zip vs.toArray).size by lia) ?_)))))
     have iv : i < vs.length := by lia
     have iv1 : i - 1 < vs.length := by lia
     have ex := List.getElem?_eq_getElem (l := ts) (i := i) (by lia)
     have ey := List.getElem?_eq_getElem (l := ts) (i := i - 1) (by lia)
     have := hr (i - 1) _ _ (by rw [Nat.sub_add_cancel i1]; exact ex) ey
     refine ltR rfl (hT' i _ _ ?_ ex) (hT' (i - 1) _ _ ?_ ey) ?_
     · show vs[i]? = some ((vs.toArray.zip vs.toArray)[i]'i2).1
       rw [zg i iv, List.getElem?_eq_getElem iv]
     · show vs[i - 1]? = some ((vs.toArray.zip vs.toArray)[i - 1]'(by lia)).1
       rw [zg (i - 1) iv1, List.getElem?_eq_getElem iv1]
     · rw [this]; exact q
   · rintro ⟨⟨⟩, st'⟩ s' ⟨rfl, hp, hf⟩
     dsimp only
     refine wpAny_bind (seqEpoch_at ho6 rfl ?_)
     refine wpAny_bind (listUpdate_at ho6 rfl ?_ (hsz2 := by rw [hp, snd, hsz, sizeLine_eq]; lia))
     rw [hf, hp, snd]
     simp only [bne_self_eq_false, Bool.false_eq_true, if_false]
     exact wpAny_pure h
theorem sortedR {l : Addr} {vs : List Value} {ts : List (List Int)} {Q : Value → Shared → Prop} (hl : s.heap.IsList l vs.toArray) (hlen : vs.length ≤ 100000) (hts : vs.length = ts.length)
  (hT : ∀ h' : Heap, (∀ b o, s.heap.get? b = some o → h'.get? b = some o) → ∀ (i : Nat) v xs, vs[i]? = some v → ts[i]? = some xs → TuAt h' v xs)
  (hr : ∀ (i : Nat) xs ys, ts[i + 1]? = some xs → ts[i]? = some ys → lexI (decide (xs.length < ys.length)) xs ys = false)
  (h : Q (.ref (s.heap.objs.size + 1)) { s with heap := sortedAll s.heap vs vs.toArray }) :
  wpAny (model prog w) A (call (.builtin "sorted") [.ref l]) Q E s := by
 refine Calls.call_function_entry kind_sorted plain_sorted entry_sorted (args_sorted1 _) ?_
 unfold Builtin.«sorted»
 refine wpAny_bind (m := checkCount "sorted" 1 1 _) (wpAny_pure ?_)
 refine wpAny_bind (collect_list hl ?_ (by rw [sizeLine_eq]; lia))
 refine wpAny_bind (wpAny_newList ?_)
 have hsz : ((s.heap.push (seqObj "list" #[] 0)).update s.heap.objs.size (Obj.mapSeq (· ++ vs.toArray))).objs.size = s.heap.objs.size + 1 := by
  rw [Heap.size_update, size_push']
 have hoL : (((s.heap.push (seqObj "list" #[] 0)).update s.heap.objs.size (Obj.mapSeq (· ++ vs.toArray))).push (seqObj "list" vs.toArray 0)).get? (s.heap.objs.size + 1) = some (seqObj "list" vs.toArray 0) := by
  rw [← hsz]; exact Heap.get?_push_size _ rfl
 have k2 : ∀ b o, s.heap.get? b = some o → (((s.heap.push (seqObj "list" #[] 0)).update s.heap.objs.size (Obj.mapSeq (· ++ vs.toArray))).push (seqObj "list" vs.toArray 0)).get? b = some o := fun b o q => by
  have lb := Heap.lt_size q
  rw [Heap.get?_push_ne _ _ _ (by rw [hsz]; exact Nat.ne_of_lt (Nat.lt_succ_of_lt lb)), Heap.get?_update_ne _ _ _ _ (Nat.ne_of_lt lb), Heap.get?_push_ne _ _ _ (Nat.ne_of_lt lb)]
  exact q
 show wpAny _ _ _ _ _ { s with heap := ((s.heap.push (seqObj "list" #[] 0)).update s.heap.objs.size (Obj.mapSeq (· ++ vs.toArray))).push (seqObj "list" vs.toArray 0) }
 rw [hsz]
 refine wpAny_bind (wpAny_holding (wpAny_call_entry slot_list_sort ⟨_, hoL, rfl⟩ entry_list_sort (sortR (s := { s with heap := ((s.heap.push (seqObj "list" #[] 0)).update s.heap.objs.size (Obj.mapSeq (· ++ vs.toArray))).push (seqObj "list" vs.toArray 0) }) hoL hlen hts (fun h' k3 => hT h' fun b o q => k3 b o (Nat.ne_of_lt (Nat.lt_succ_of_lt (Heap.lt_size q))) (k2 b o q)) hr ⟨_, rfl, ?_⟩) (args_list_sort _)))
 exact wpAny_pure ⟨_, rfl, h⟩
end
end LSrtR
end
section
namespace LD
open PySem PySem.Spec L2 LB PyProof.Rows LSrt LSrtR
section
variable {X : Cx} {a b c e : Expr} {ta tb tc t : DTE} {tA : DTA} {pos p : Pos}
theorem t_lt2 (ha : Ev X a ta) (hb : Ev X b tb) (hc : Ev X c tc) (hm : autoParam (lastMarks [.Lt, .Lt] [b, c] = false) au6._auto_1) : Tv X (.Compare a [.Lt, .Lt] [b, c] pos) (dT (dChain D_lt D_lt ta tb tc)) := t_chain op_lt op_lt (do_i fun _ _ _ _ => .bl _) (do_i fun _ _ _ _ => .bl _) ha hb hc hm
noncomputable def itup (xs : List Int) : Dt := .tup (xs.map .int)
inductive D_leT (d1 d2 : Dt) (Q : Dt → Prop) : Prop
 | mk (xs ys : List Int) (h1 : d1 = itup xs) (h2 : d2 = itup ys) (h3 : Q (.bl (lexF (decide (xs.length ≤ ys.length)) (fun j => decide (xs.getD j 0 = ys.getD j 0)) (fun j => decide (xs.getD j 0 ≤ ys.getD j 0)) (min xs.length ys.length) 0)))
theorem do_leT : DOp rLeT D_leT := fun M H x y d1 d2 Qd Q al r1 r2 zz kk => (by
 obtain ⟨xs, ys, rfl, rfl, q⟩ := zz
 obtain ⟨p, us, rfl, h1, _, rr⟩ := Rep.ofTup r1
 obtain ⟨p', us', rfl, h2, _, rr'⟩ := Rep.ofTup r2
 rw [ints_rep rr] at h1
 rw [ints_rep rr'] at h2
 exact ⟨p, p', xs, ys, rfl, rfl, h1, h2, kk H _ _ q (fun _ _ z => z) (.bl _)⟩)
theorem t_leT (hu : X.A.units + 1 < cLine) (ha : Ev X a ta) (hb : Ev X b tb) (hm : autoParam (behindInMarks .LtE b = false) au6._auto_1) : Tv X (.Compare a [.LtE] [b] pos) (dT (dOp D_leT ta tb)) := d_test (op_leT hu) do_leT ha hb hm
inductive dAugT_i (i : Nat) (Δ : DEnds) (d : Dt) (δ' : List Sl) : Prop
 | mk (ds es : List Dt) (h1 : δ'[i]? = some (.im (.tup ds))) (h2 : d = .tup es) (h3 : ds.length + es.length ≤ sizeLine) (h4 : Δ.nx (δ'.set i (.im (.tup (ds ++ es)))))
def dAugT (i : Nat) (t : DTE) : DTS := fun Δ δ => (∃ ds, δ[i]? = some (.im (.tup ds))) ∧ t δ fun d δ' => dAugT_i i Δ d δ'
theorem s_augT (i : Nat) {x : Str} {pos' : Pos} (hN : X.N.Nodup) (he : Ev X e t) (hi : autoParam (X.N[i]? = some x) au5._auto_1) (hx : autoParam (Loc X.env.scope x) au9._auto_1) (hf : autoParam (X.fn x = true ∨ X.env.scope.names.lookup x = some .local) au1._auto_1) :
  Ex X (.AugAssign (.Name x pos') .Add e pos) (dAugT i t) := PS.imp (ps_aug hN hi hx he ip_catA hf) fun D σ H zz6 => (by
 obtain ⟨Ws, M, α, δ, Δ, E, L, ⟨ds0, h0⟩, q⟩ := zz6
 obtain ⟨v, h1, r⟩ := E.im h0
 refine ⟨_, h1, Ws, M, α, δ, _, E, q, fun d δ' H' y zz16 E1 c1 r1 => ?_⟩
 obtain ⟨ds, es, hx', e, l, q1⟩ := zz16
 subst e
 obtain ⟨v', h1', r'⟩ := E1.im hx'
 rw [h1] at h1'
 cases h1'
 obtain ⟨a, xs, rfl, ha, n, rr⟩ := r'.ofTup
 obtain ⟨b, ys, rfl, hb, n2, rr2⟩ := r1.ofTup
 refine ⟨a, b, xs, ys, rfl, rfl, ha, hb, by rw [rr.1, rr2.1]; exact l, fun p H'' nt => ?_⟩
 exact L.nx _ _ _ _ _ ((E1.same nt.keep).setIm (Rep.toTup nt.at (E1.al.newT nt) ((rr.append rr2).same nt.keep)) ⟨_, hx', rfl⟩) q1)
end
end LD
namespace L2
open PySem PySem.Spec PyProof.Rows
theorem rangeAny (bs : List Bool) : ((List.range bs.length).any fun i => (bs[i]?).getD false) = bs.any id := by
 rw [Bool.eq_iff_iff, List.any_eq_true, List.any_eq_true]
 constructor
 · rintro ⟨i, hi, e⟩
   have hi' := List.mem_range.mp hi
   simp only [List.getElem?_eq_getElem hi', Option.getD_some] at e
   exact ⟨_, List.getElem_mem hi', e⟩
 · rintro ⟨b, hb, e⟩
   obtain ⟨i, hi, eb⟩ := List.getElem_of_mem hb
   exact ⟨i, List.mem_range.mpr hi, by simp only [List.getElem?_eq_getElem hi, Option.getD_some, eb]; exact e⟩
theorem boot_any' : bootBuiltins "any" = some (.builtin "any") := by decide +kernel
theorem call_any {X : Cx} (hc : X.calm = true) : CallR X (.builtin "any") (fun xs H Q => ∃ a bs, xs = [.ref a] ∧ SqL X.K H a (List.map V.bl bs) ∧ Q (.bl (bs.any id)) H) := by
 intro pins s σ H xs us Q I r h
 obtain ⟨a, bs, rfl, hq, q⟩ := h
 obtain ⟨u, rfl, ru⟩ := vals1 r
 cases ru
 obtain ⟨its, rv, pl, _⟩ := I.list hq
 have hl := pl.isList
 have hb := BlsAre.of rv
 have hlen : its.length = bs.length := by rw [← rv.length, List.length_map]
 have hlt : a < s.heap.objs.size := by obtain ⟨_, e, _⟩ := hl; exact Heap.lt_size e
 refine call_any_walk (wpAny_pyIter_list hl ?_)
 refine ⟨s.heap.objs.size, [s.heap.objs.size, a], [s.heap.objs.size], its.toArray.size, _, _, fun i => (bs[i]?).getD false, rfl, Walks.list (A := X.A.in1) (I.ok.hd hc) _ a (Nat.ne_of_lt hlt) its.toArray,
  ⟨⟨_, Heap.get?_push_size _ rfl, rfl, rfl⟩, hl.push _⟩, fun i v s' Q' E' hP hQ => ?_, fun h' tk hk => ?_⟩
 · obtain ⟨b, e, rfl⟩ := hb.get i v (by simpa using hP)
   simp only [e, Option.getD_some] at hQ
   exact wpAny_truthy_bool hQ
 · have e : ((List.range its.toArray.size).any fun i => (bs[i]?).getD false) = bs.any id := by
     rw [List.size_toArray, hlen]; exact rangeAny bs
   rw [e]
   exact ⟨.bl (bs.any id), H, I.kept fun b x e => hk b x (fun hm => by rw [List.mem_singleton.mp hm] at e; exact Nat.lt_irrefl _ (Heap.lt_size e)) (Heap.get?_push_of_some _ e), rfl, q⟩
end L2
namespace LSrtR
open PySem PySem.Spec L2 LB PyProof.Rows LSrt LD
theorem nu_of {us : List Value} : ∀ {xs : List Int}, Vals (xs.map V.int) us → Nu us xs := fun {xs} => by
 induction us generalizing xs with
 | nil => intro h; cases xs with
  | nil => exact .nil
  | cons x xs => cases h
 | cons u us ih => intro h; cases xs with
  | nil => cases h
  | cons x xs =>
   rw [List.map_cons] at h
   cases h with
   | cons r1 r2 =>
    obtain ⟨t, rfl⟩ := r1
    exact .cons x t (ih r2)
theorem call_sortedR {X : Cx} : CallR X (.builtin "sorted") (fun xs H Q => ∃ (a : Addr) (vs : List V) (ts : List (List Int)), xs = [.ref a] ∧ H a = some (.lst vs) ∧ vs.length ≤ 100000 ∧ vs.length = ts.length ∧ (∀ (i : Nat) v t, vs[i]? = some v → ts[i]? = some t → t ≠ [] ∧ ∃ q, v = .ref q ∧ H q = some (.tup (t.map V.int))) ∧
  (∀ (i : Nat) x y, ts[i + 1]? = some x → ts[i]? = some y → lexI (decide (x.length < y.length)) x y = false) ∧ ∀ p : Addr, H p = none → Q (.ref p) (upd H p (.lst vs))) := by
 intro pins s σ H xs us Q I r h
 obtain ⟨a, vs, ts, rfl, hq, hl, ht, hv, hr, q⟩ := h
 obtain ⟨u, rfl, ru⟩ := vals1 r
 cases ru
 obtain ⟨its, rv, pl, _⟩ := I.list (SqL.of hq)
 have hlen : its.length = vs.length := rv.length.symm
 have hpr : ∀ h' : Heap, (∀ b o, s.heap.get? b = some o → h'.get? b = some o) → ∀ (i : Nat) v t, its[i]? = some v → ts[i]? = some t → TuAt h' v t := fun h' kk i v t h1 h2 => by
  have il : i < vs.length := by rw [← hlen]; exact (List.getElem?_eq_some_iff.mp h1).1
  obtain ⟨u, hu, ru⟩ := rv.get (i := i) (x := vs[i]) (List.getElem?_eq_getElem il)
  rw [h1] at hu
  cases hu
  obtain ⟨ne, q, e, hq⟩ := hv i _ t (List.getElem?_eq_getElem il) h2
  rw [e] at ru
  cases ru
  obtain ⟨js, rj, pj, _⟩ := I.tuple (SqT.of hq)
  obtain ⟨o, ho, hc, n, hd⟩ := (show s.heap.IsTuple q js.toArray from pj)
  exact ⟨q, o, js, n, rfl, kk _ _ ho, hc, hd, nu_of rj, ne⟩
 refine sortedR pl.isList (by lia) (by lia) hpr hr ?_
 obtain ⟨e, he⟩ := sortedAll_at s.heap its its.toArray
 have hf : H (s.heap.objs.size + 1) = none := I.hok.fresh (Nat.le_succ _)
 refine ⟨.ref (s.heap.objs.size + 1), _, I.laid (t' := s.toks) (o := .lst vs) (fun b o e => sortedAll_old e) (Nat.le_succ _) ?_, rfl, q _ hf⟩
 exact ⟨Nat.le_trans hl (by rw [sizeLine_eq]; decide), its, e, rv, he⟩
end LSrtR
namespace LD
open PySem PySem.Spec L2 LB PyProof.Rows LSrt LSrtR
section
variable {X : Cx} {e : Expr} {tA : DTA} {pos p : Pos}
inductive D_sortedR (ds : List Dt) (Q : Dt → Prop) : Prop
 | mk (ts : List (List Int)) (h1 : ds = [.lst (ts.map itup)]) (h2 : ts.length ≤ 100000) (h3 : ∀ t ∈ ts, t ≠ []) (h4 : ∀ (i : Nat) x y, ts[i + 1]? = some x → ts[i]? = some y → lexI (decide (x.length < y.length)) x y = false) (h5 : Q (.lst (ts.map itup)))
theorem d_sortedR (hm : X.mg "sorted" = none) (ha : Av X [e] tA) (hg : autoParam (Gl X "sorted") au5._auto_1) (he : autoParam (starEach [e] X.env = (false, eval e X.env) :: starEach [] X.env) au5._auto_1) (hpl : autoParam ((backTo pos (starEach [] X.env)).any (·.1) = false) au5._auto_1) :
  Ev X (.Call (.Name "sorted" p) [e] [] pos) (dCa D_sortedR tA) := d_callB call_sortedR (fun M H xs ds Qd Q al r zz1 k => (by
 obtain ⟨ts, e, l, ne, hr, q⟩ := zz1
 subst e
 obtain ⟨x, rfl, r1⟩ := one_arg r
 obtain ⟨a, zs, rfl, ha, n, rr⟩ := r1.ofLst
 have zl : zs.length = ts.length := by have := rr.1; rw [List.length_map] at this; exact this
 refine ⟨a, zs, ts, rfl, ha, by lia, zl, fun i v t h1 h2 => ?_, hr, fun p hp => ?_⟩
 · have := rr.2 i v (itup t) h1 (by rw [List.getElem?_map, h2]; rfl)
   obtain ⟨q, us, e, hq, _, r2⟩ := this.ofTup
   rw [ints_rep r2] at hq
   exact ⟨ne t (List.mem_of_getElem? h2), q, e, hq⟩
 · have s : Same H (upd H p (.lst zs)) := Same.new hp
   exact k _ _ _ q s (Rep.toLst upd_same (al.fresh hp) (rr.same s)))) hg hm boot_sorted' ha (by decide) (by decide) he hpl
inductive D_any (ds : List Dt) (Q : Dt → Prop) : Prop
 | mk (bs : List Bool) (h1 : ds = [.lst (bs.map .bl)]) (h2 : Q (.bl (bs.any id)))
theorem d_any (hc : X.calm = true) (hm : X.mg "any" = none) (ha : Av X [e] tA) (hg : autoParam (Gl X "any") au5._auto_1) (he : autoParam (starEach [e] X.env = (false, eval e X.env) :: starEach [] X.env) au5._auto_1) (hpl : autoParam ((backTo pos (starEach [] X.env)).any (·.1) = false) au5._auto_1) :
  Ev X (.Call (.Name "any" p) [e] [] pos) (dCa D_any tA) := d_callB (call_any hc) (fun M H xs ds Qd Q al r zz6 k => (by
 obtain ⟨bs, e, q⟩ := zz6
 subst e
 obtain ⟨x, rfl, r1⟩ := one_arg r
 obtain ⟨a, zs, rfl, ha, n, rr⟩ := r1.ofLst
 rw [bools_rep rr] at ha
 exact ⟨a, bs, rfl, SqL.of ha, k H _ _ q (fun _ _ z => z) (.bl _)⟩)) hg hm boot_any' ha (by decide) (by decide) he hpl
end
end LD
end
section
namespace LD
open PySem PySem.Spec L2 LB PyProof.Rows LW
def SlRs (M : Addr → Prop) (H : Hp) (vs : List V) (ss : List Sl) : Prop := vs.length = ss.length ∧ ∀ (i : Nat) v s, vs[i]? = some v → ss[i]? = some s → SlR M H (some v) s [] ∧ s.isBx = false
theorem SlRs.nil {M : Addr → Prop} {H : Hp} : SlRs M H [] [] := ⟨rfl, fun i v s h => by simp at h⟩
theorem SlRs.cons {M : Addr → Prop} {H : Hp} {v : V} {s : Sl} {vs : List V} {ss : List Sl} (h : SlR M H (some v) s []) (nb : s.isBx = false) (r : SlRs M H vs ss) : SlRs M H (v :: vs) (s :: ss) :=
 ⟨by rw [List.length_cons, List.length_cons, r.1], fun i y t h1 h2 => by
  cases i with
  | zero => cases h1; cases h2; exact ⟨h, nb⟩
  | succ j => exact r.2 j y t (by simpa using h1) (by simpa using h2)⟩
abbrev DS := List Sl → (Dt → Prop) → Prop
def spS (S : DS) : Sp := fun vs H Q _ => ∃ M ss Qd, MOk M H ∧ SlRs M H vs ss ∧ S ss Qd ∧ ∀ r H' v', Qd r → Same H H' → Rep M H' v' r → Q v' H'
theorem env_startS {Ws : List Wd} {M : Addr → Prop} {H : Hp} {vs : List V} {ss : List Sl} {n : Nat} (al : MOk M H) (r : SlRs M H vs ss) (w : ∀ W ∈ Ws, WOk W M (List.replicate (ss.length + n) []) H (ss ++ List.replicate n .no)) :
  EnvR Ws M (List.replicate (ss.length + n) []) H (vs.map some ++ List.replicate n none) (ss ++ List.replicate n .no) := by
 have hflat : (List.replicate (ss.length + n) ([] : List Addr)).flatten = [] := by simp
 refine ⟨by simp [r.1], by simp, fun i s h => ?_, by rw [hflat]; exact List.nodup_nil, fun a ha => by rw [hflat] at ha; exact absurd ha List.not_mem_nil, al, w⟩
 have hi := (List.getElem?_eq_some_iff.mp h).1
 rw [List.length_append, List.length_replicate] at hi
 have ha : (List.replicate (ss.length + n) ([] : List Addr))[i]? = some [] := by rw [List.getElem?_replicate, if_pos hi]
 by_cases hl : i < ss.length
 · rw [List.getElem?_append_left hl] at h
   have hv : vs[i]? = some (vs[i]'(by rw [r.1]; exact hl)) := List.getElem?_eq_getElem _
   exact ⟨_, [], by rw [List.getElem?_append_left (by rw [List.length_map, r.1]; exact hl), List.getElem?_map, hv]; rfl, ha, (r.2 i _ s hv h).1⟩
 · rw [List.getElem?_append_right (by omega), List.getElem?_replicate] at h
   split at h
   · rename_i hn
     cases h
     exact ⟨none, [], by rw [List.getElem?_append_right (by rw [List.length_map, r.1]; omega), List.getElem?_replicate, if_pos (by rw [List.length_map, r.1]; exact hn)], ha, rfl⟩
   · cases h
theorem wok_start {M : Addr → Prop} {H : Hp} {δ : List Sl} {k : Nat} : WOk ⟨H, fun _ => False, M, M, none⟩ M (List.replicate k []) H δ := by
 have hflat : (List.replicate k ([] : List Addr)).flatten = [] := by simp
 refine ⟨fun b o e _ => e, fun b n => n, fun a ha => by rw [hflat] at ha; exact absurd ha List.not_mem_nil, fun a h => h, fun a h => .inl h, fun d c e => (by cases e), fun j s as h1 h2 _ a ha => ?_⟩
 rw [List.getElem?_replicate] at h2
 split at h2
 · cases h2; exact absurd ha List.not_mem_nil
 · cases h2
section
variable {P : Program} {w : World} {K : PySem.W.Frag} {mg : Str → Option Value} {base : Heap}
theorem start_of {M : Addr → Prop} {H : Hp} {N ps : List Str} {vs : List V} {ss : List Sl} (r : SlRs M H vs ss) (l : ss.length = ps.length) : L2.start N vs = vs.map some ++ List.replicate (N.length - ps.length) none := by unfold L2.start; rw [r.1, l]
theorem fnS {x qual : Str} {st : Stmt} {f : Addr} {fd : FuncData} {N ps : List Str} {k : Nat} {S : DS} (F : Fun K x qual st f fd) (sc : FnScope N ps (defScope st)) (len : ∀ ss Qd, S ss Qd → ss.length = ps.length)
  (hbody : ∀ (cdv : Value) (A : Around) (outer : List Env) (s : Shared) (H : Hp) (E : XK), Room k (A.deeper (envOfC qual (defScope st) s.heap.objs.size f cdv)) →
   ∃ T, Exs (cxOf CX0 P w K mg base N qual (defScope st) f cdv A outer s H E).nox (defBody st) T ∧ ∀ ss Qd, S ss Qd → T { nx := fun _ => Qd .non, rt := fun d _ => Qd d } (ss ++ List.replicate (N.length - ps.length) .no)) :
  FnOk P w K mg base CX0 (k + 1) f fd ps (spS S) := by
 refine F.ok sc (fun vs H Q E h => ?_) (fun cdv A outer s H vs Q E hr h => ?_)
 · obtain ⟨M, ss, Qd, al, r, q, _⟩ := h
   rw [r.1]; exact len ss Qd q
 · obtain ⟨M, ss, Qd, al, r, q, kk⟩ := h
   obtain ⟨T, hT, hq⟩ := hbody cdv A outer s H E hr
   refine ⟨lS T, hT, [⟨H, fun _ => False, M, M, none⟩], M, List.replicate (ss.length + (N.length - ps.length)) [], ss ++ List.replicate (N.length - ps.length) .no, _, ?_, ?_, hq ss Qd q⟩
   · rw [start_of r (len ss Qd q)]
     exact env_startS al r fun W hW => by rw [List.mem_singleton.mp hW]; exact wok_start
   · have same : ∀ {M' α' H' σ' δ'}, EnvR [⟨H, fun _ => False, M, M, none⟩] M' α' H' σ' δ' → Same H H' ∧ ∀ a, M a → M' a := fun E' => by
       have k := E'.w _ (List.mem_singleton.mpr rfl)
       exact ⟨fun b o e => k.bs b o e (fun z => z), k.m0⟩
     refine ⟨fun M' α' H' σ' δ' E' q => kk _ _ _ q (same E').1 .non, fun M' α' H' σ' δ' v d E' r' q => kk _ _ _ q (same E').1 (r'.mono fun a o e n => ⟨e, fun z => n ((same E').2 a z)⟩), fun _ _ _ _ _ _ z => z.elim, fun _ _ _ _ _ _ z => z.elim⟩
end
end LD
end
section
namespace L2
open PySem PySem.Spec PyProof.Rows
def HasF (P : Program) (w : World) (K : PySem.W.Frag) (mg : Str → Option Value) (base : Heap) (f : Addr) (k : Nat) (ps : List Str) (sp : Sp) : Prop :=
 ∃ fd, PySem.W.keepIn K (.ref f) = true ∧ Binds K fd ps [] ∧ FnOk P w K mg base CX0 k f fd ps sp
section
variable {X : Cx} {f : Addr} {k i : Nat} {ps : List Str} {sp : Sp} {x : Str} {p pos : Pos} {e : Expr} {es : List Expr} {t : TA}
def tCallL (f : Addr) (sp : Sp) (i : Nat) (t : TA) : TE := fun σ H Q => σ[i]? = some (some (.ref f)) ∧ t σ H fun vs H1 => sp vs H1 Q E0
theorem pe_callL (h : HasF X.prog X.w X.K X.mg X.base f k ps sp) (hr : Room k X.A) (hn : PE X (.Name x p) (tVar i)) (ha : PA X (e :: es) t)
  (he : autoParam (starEach (e :: es) X.env = (false, eval e X.env) :: starEach es X.env) au5._auto_1) (hpl : autoParam ((backTo pos (starEach es X.env)).any (·.1) = false) au5._auto_1) :
  PE X (.Call (.Name x p) (e :: es) [] pos) (tCallL f sp i t) := by
 obtain ⟨fd, hk, hb, F⟩ := h
 intro pins s σ H Q I hh
 obtain ⟨hσ, q⟩ := hh
 refine wpAny_Call_Name_kw (thn (hn pins s σ H (fun v H1 => v = .ref f ∧ t σ H1 fun vs H2 => sp vs H2 Q E0) I ⟨_, hσ, rfl, q⟩) fun u s1 zz => ?_)
 obtain ⟨v, H1, I1, rv, ev, q1⟩ := zz
 subst ev
 obtain rfl : u = Value.ref f := rv
 refine PySem.W.callWith_K (h₀ := X.base) I.ok.mod.kin hk (thn (ha pos pins s1 σ H1 _ I1 q1) fun us s2 zz2 => ?_) he hpl
 obtain ⟨vs, H2, I2, r, q2⟩ := zz2
 refine ⟨I2.kIn, ?_⟩
 exact run_fn (dvs := []) (ds := []) F hr hb .nil pass0 I2 r (by rw [List.append_nil]; exact q2)
end
end L2
namespace LD
open PySem PySem.Spec L2 LB PyProof.Rows LW
abbrev DTW := List Sl → (List Sl → List Sl → Prop) → Prop
inductive lW (t : DTW) (σ : L2.St) (H : Hp) (Q : List V → Hp → Prop) : Prop
 | mk (W : List Wd) (M : Addr → Prop) (α : List (List Addr)) (δ : List Sl) (Qd : List Sl → List Sl → Prop) (h1 : EnvR W M α H σ δ) (h2 : t δ Qd) (h3 : ∀ ss δ' H' vs, Qd ss δ' → EnvR W M α H' σ δ' → Chg α H H' → SlRs M H' vs ss → Q vs H')
abbrev Wv (X : Cx) (es : List Expr) (t : DTW) : Prop := PA X es (lW t)
section
variable {X : Cx} {e : Expr} {es : List Expr} {te : DTE} {t : DTW} {tA : DTA} {y x : Str} {yp p pos : Pos} {f : Addr} {k : Nat} {ps : List Str} {S : DS} {S1 : DN}
def wNil : DTW := fun δ Q => Q [] δ
def wIm (te : DTE) (t : DTW) : DTW := fun δ Q => te δ fun d δ1 => t δ1 fun ss δ2 => Q (.im d :: ss) δ2
def wGl (f : Addr) (t : DTW) : DTW := fun δ Q => t δ fun ss δ2 => Q (.fn f :: ss) δ2
theorem w_nil : Wv X [] wNil := PA.imp pa_nil fun σ H Q zz => (by obtain ⟨W, M, α, δ, Qd, E, q, k⟩ := zz; exact k _ _ _ _ q E Chg.rf .nil)
theorem w_im (he : Ev X e te) (hr : Wv X es t) (hs : autoParam (starEach (e :: es) X.env = (false, eval e X.env) :: starEach es X.env) au5._auto_1) : Wv X (e :: es) (wIm te t) := PA.imp (pa_cons he hr hs) fun σ H Q zz => (by
 obtain ⟨W, M, α, δ, Qd, E, q, k⟩ := zz
 exact ⟨W, M, α, δ, _, E, q, fun d δ1 H1 v q1 E1 c1 r1 => ⟨W, M, α, δ1, _, E1, q1, fun ss δ2 H2 vs q2 E2 c2 r2 => k _ _ _ _ q2 E2 (c1.tr c2) (.cons (s := .im d) ⟨rfl, v, rfl, r1.chg E1 c2⟩ rfl r2)⟩⟩)
theorem w_gl (hg : Gl X x) (hm : X.mg x = some (.ref f)) (hr : Wv X es t) (hdb : autoParam ((x == ("__debug__" : Str)) = false) au2._auto_1) (hs : autoParam (starEach (.Name x p :: es) X.env = (false, eval (.Name x p) X.env) :: starEach es X.env) au5._auto_1) : Wv X (.Name x p :: es) (wGl f t) := PA.imp (pa_cons (pe_glob (v := .ref f) hg hm rfl hdb) hr hs) fun σ H Q zz => (by
 obtain ⟨W, M, α, δ, Qd, E, q, k⟩ := zz
 exact ⟨W, M, α, δ, _, E, q, fun ss δ2 H2 vs q2 E2 c2 r2 => k _ _ _ _ q2 E2 c2 (.cons (s := .fn f) ⟨rfl, rfl⟩ rfl r2)⟩)
def dCS (S : DS) (t : DTW) : DTE := fun δ Q => t δ fun ss δ' => S ss fun r => Q r δ'
theorem d_fnS (h : Has X.prog X.w X.K X.mg X.base x k ps (spS S)) (hr : Room k X.A) (ha : Wv X (e :: es) t) (hg : autoParam (Gl X x) au5._auto_1)
  (hdb : autoParam ((x == ("__debug__" : Str)) = false) au2._auto_1) (he : autoParam (starEach (e :: es) X.env = (false, eval e X.env) :: starEach es X.env) au5._auto_1) (hpl : autoParam ((backTo pos (starEach es X.env)).any (·.1) = false) au5._auto_1) :
  Ev X (.Call (.Name x p) (e :: es) [] pos) (dCS S t) := PE.imp (pe_has h hr hg ha hdb he hpl) fun σ H Q zz => (by
 obtain ⟨W, M, α, δ, Qd, E, q, k⟩ := zz
 refine ⟨W, M, α, δ, _, E, q, fun ss δ' H' vs q1 E1 c1 r1 => ?_⟩
 show spS S (vs ++ []) H' Q E0
 rw [List.append_nil]
 exact ⟨M, ss, _, E1.al, r1, q1, fun r H2 v2 q2 s r2 => k _ _ _ _ q2 (E1.same s) (c1.tr (Chg.of s)) r2⟩)
def dFnF (f : Addr) (S1 : DN) (i : Nat) (tA : DTA) : DTE := fun δ Q => δ[i]? = some (.fn f) ∧ tA δ fun ds δ' => S1 ds fun r => Q r δ'
theorem d_fnF (i : Nat) (h : HasF X.prog X.w X.K X.mg X.base f k ps (spA S1)) (hr : Room k X.A) (ho : PE X (.Name y yp) (tVar i)) (ha : Av X (e :: es) tA)
  (he : autoParam (starEach (e :: es) X.env = (false, eval e X.env) :: starEach es X.env) au5._auto_1) (hpl : autoParam ((backTo pos (starEach es X.env)).any (·.1) = false) au5._auto_1) :
  Ev X (.Call (.Name y yp) (e :: es) [] pos) (dFnF f S1 i tA) := PE.imp (pe_callL h hr ho ha he hpl) fun σ H Q zz => (by
 obtain ⟨W, M, α, δ, Qd, E, ⟨hf, q⟩, k⟩ := zz
 obtain ⟨o, as, s1, s2, ea, eo⟩ := E.sl i _ hf
 subst eo
 refine ⟨s1, W, M, α, δ, _, E, q, fun ds δ' H' vs q1 E1 c1 r1 => ?_⟩
 exact ⟨M, ds, _, E1.al, r1, q1, fun r H2 v2 q2 s r2 => k _ _ _ _ q2 (E1.same s) (c1.tr (Chg.of s)) r2⟩)
end
end LD
end
section
namespace LD
open PySem PySem.Spec L2 LB PyProof.Rows
theorem while_abs {u : DTT} {tb : DTS} {Δ : DEnds} {δ : List Sl} (I : Nat → List Sl → Prop) (h0 : ∃ m, I m δ)
  (h : ∀ m δ, I m δ → ∀ Δ' : DEnds, (∀ m' δ', m' < m → I m' δ' → Δ'.nx δ') → (∀ d δ', Δ.rt d δ' → Δ'.rt d δ') → u δ fun b δ1 => if b = true then tb Δ' δ1 else Δ.nx δ1) : dWhile u tb Δ δ :=
 ⟨I, h0, fun m δ hI => h m δ hI _ (fun m' δ' hm hi => ⟨m', hm, hi⟩) fun _ _ z => z⟩
theorem for_abs {its : List Dt} {g : DTG} {tb : DTS} {Δ : DEnds} {δ1 : List Sl} (I : Nat → List Sl → Prop) (h0 : I 0 δ1)
  (h : ∀ i d δ2, its[i]? = some d → I i δ2 → ∀ Δ' : DEnds, (∀ δ', I (i + 1) δ' → Δ'.nx δ') → (∀ d δ', Δ.rt d δ' → Δ'.rt d δ') → g d δ2 fun δ3 => tb Δ' δ3) (fin : ∀ δ2, I its.length δ2 → Δ.nx δ2) :
  ∃ P : Nat → List Sl → Prop, P 0 δ1 ∧ (∀ i d δ2, its[i]? = some d → P i δ2 → g d δ2 fun δ3 => tb { Δ with nx := P (i + 1), ct := P (i + 1), bk := Δ.nx } δ3) ∧ ∀ δ2, P its.length δ2 → Δ.nx δ2 :=
 ⟨I, h0, fun i d δ2 e hI => h i d δ2 e hI _ (fun _ z => z) fun _ _ z => z, fin⟩
end LD
end
section
namespace LSrtQ
open PySem PySem.W PyProof.Rows LSrt
section
variable {N : Nat} {K : Nat → Int} {s : Shared} {cmp : Nat → Nat → (Bool → Shared → Prop) → Shared → Prop}
theorem asc_ok (hc : Cok N K cmp s) {p : Array Nat} (hp : Pm N p) : ∀ (f n : Nat), 1 ≤ n → n + f ≤ N → ∀ Q : Nat → Shared → Prop, (∀ m, n ≤ m → m ≤ n + f → Q m s) → (kas_asc p f n).kasWp cmp Q s
 | 0, n, h1, h2, Q, k => k n (Nat.le_refl _) (by lia)
 | f + 1, n, h1, h2, Q, k => by
  refine hc _ _ (hp.lt (by lia)) (hp.lt (by lia)) _ ?_
  dsimp only
  split
  · exact k n (Nat.le_refl _) (by lia)
  · exact asc_ok hc hp f (n + 1) (by lia) (by lia) Q fun m a b => k m (by lia) (by lia)
theorem desc_ok (hc : Cok N K cmp s) : ∀ (f : Nat) (p : Array Nat) (n q : Nat), n + f ≤ N → Pm N p → 1 ≤ n → ∀ Q : Array Nat × Nat × Nat → Shared → Prop, (∀ p' m q', n ≤ m → m ≤ n + f → Pm N p' → Q (p', m, q') s) → (kas_desc f p n q).kasWp cmp Q s
 | 0, p, n, q, h2, hp, h1, Q, k => k p n q (Nat.le_refl _) (by lia) hp
 | f + 1, p, n, q, h2, hp, h1, Q, k => by
  have k' : ∀ p' m q', n + 1 ≤ m → m ≤ n + 1 + f → Pm N p' → Q (p', m, q') s := fun p' m q' a b c => k p' m q' (by lia) (by lia) c
  refine hc _ _ (hp.lt (by lia)) (hp.lt (by lia)) _ ?_
  dsimp only
  split
  · split
    · exact desc_ok hc f _ (n + 1) 0 (by lia) (hp.rev _ _) (by lia) Q k'
    · exact desc_ok hc f _ (n + 1) 0 (by lia) hp (by lia) Q k'
  · refine hc _ _ (hp.lt (by lia)) (hp.lt (by lia)) _ ?_
    dsimp only
    split
    · exact k p n q (Nat.le_refl _) (by lia) hp
    · exact desc_ok hc f _ (n + 1) (q + 1) (by lia) hp (by lia) Q k'
theorem tail_ok (hc : Cok N K cmp s) {p : Array Nat} {n : Nat} (hp : Pm N p) (h1 : 1 ≤ n) (hn : n ≤ N) (Q : Nat × Array Nat → Shared → Prop) (k : ∀ m p', 1 ≤ m → m ≤ N → Pm N p' → Q (m, p') s) : (kas_tail3 n N p).kasWp cmp Q s := by
 unfold kas_tail3
 rw [KasT.kasWp_bind]
 exact asc_ok hc (hp.rev _ _) (N - n) n h1 (by lia) _ fun m a b => k m _ (by lia) (by lia) (hp.rev _ _)
theorem descPart_ok (hc : Cok N K cmp s) {p : Array Nat} {n : Nat} (hp : Pm N p) (hn : n + 1 ≤ N) (Q : Nat × Array Nat → Shared → Prop) (k : ∀ m p', 1 ≤ m → m ≤ N → Pm N p' → Q (m, p') s) : (kas_descPart n N p).kasWp cmp Q s := by
 unfold kas_descPart
 rw [KasT.kasWp_bind]
 refine desc_ok hc _ p (n + 1) 0 (by lia) hp (by lia) _ fun p' m q' a b c => ?_
 split
 · exact tail_ok hc (c.rev _ _) (by lia) (by lia) Q k
 · exact tail_ok hc c (by lia) (by lia) Q k
theorem count_ok (hc : Cok N K cmp s) {p : Array Nat} (hp : Pm N p) (h1 : 1 ≤ N) (Q : Nat × Array Nat → Shared → Prop) (k : ∀ m p', 1 ≤ m → m ≤ N → Pm N p' → Q (m, p') s) : (kas_count N p).kasWp cmp Q s := by
 unfold kas_count
 rw [KasT.kasWp_bind]
 refine asc_ok hc hp (N - 1) 1 (Nat.le_refl _) (by lia) _ fun n a b => ?_
 by_cases hn : n = N
 · rw [if_pos (by rw [beq_iff_eq]; exact hn)]
   exact k n p a (by lia) hp
 · rw [if_neg (by rw [beq_iff_eq]; exact hn)]
   split
   · refine hc _ _ (hp.lt (by lia)) (hp.lt (by lia)) _ ?_
     dsimp only
     split
     · exact k n p a (by lia) hp
     · exact descPart_ok hc (n := n) (hp.rev _ _) (by lia) Q k
   · exact descPart_ok hc (n := n) hp (by lia) Q k
theorem place_ok (hc : Cok N K cmp s) {p : Array Nat} (hp : Pm N p) {k : Nat} (hk : k < N) : ∀ (f l r : Nat), l ≤ r → r ≤ k → ∀ Q : Nat → Shared → Prop, (∀ m, m ≤ k → Q m s) → (kas_place p k f l r).kasWp cmp Q s
 | 0, l, r, h1, h2, Q, q => q l (by lia)
 | f + 1, l, r, h1, h2, Q, q => by
  unfold kas_place
  by_cases h : l ≥ r
  · rw [if_pos h]
    exact q l (by lia)
  · rw [if_neg h]
    refine hc _ _ (hp.lt (by lia)) (hp.lt (by lia)) _ ?_
    dsimp only
    split
    · exact place_ok hc hp hk f l ((l + r) / 2) (by lia) (by lia) Q q
    · exact place_ok hc hp hk f ((l + r) / 2 + 1) r (by lia) (by lia) Q q
theorem bin_ok (hc : Cok N K cmp s) : ∀ (f : Nat) (p : Array Nat) (k : Nat), k + f = N → Pm N p → ∀ Q : Array Nat → Shared → Prop, (∀ p', Pm N p' → Q p' s) → (kas_bin f p k).kasWp cmp Q s
 | 0, p, k, h2, hp, Q, q => q p hp
 | f + 1, p, k, h2, hp, Q, q => by
  unfold kas_bin
  rw [KasT.kasWp_bind]
  exact place_ok hc hp (show k < N by lia) k 0 k (Nat.zero_le _) (Nat.le_refl _) _ fun m hm => bin_ok hc f _ (k + 1) (by lia) (hp.bub _ _) Q q
theorem sort_ok (hc : Cok N K cmp s) (h1 : 1 ≤ N) (Q : Array Nat → Shared → Prop) (q : ∀ p, Pm N p → Q p s) : (kas_sort N).kasWp cmp Q s := by
 unfold kas_sort
 rw [KasT.kasWp_bind]
 refine count_ok hc ⟨Array.Perm.refl _⟩ h1 _ fun m p a b hp => ?_
 by_cases h : m < N
 · rw [if_pos h]
   exact bin_ok hc _ p _ (by lia) hp Q q
 · rw [if_neg h]
   exact q p hp
end
section
variable {prog : Program} {w : World} {A : Around} {E : Value → Shared → Prop} {z : Shared} {K : Nat → Int} {vs : List Value}
theorem sort_list {a : Addr} {m : Nat} {P : PySem.Fin → Shared → Prop} (ho : z.heap.get? a = some (seqObj "list" vs.toArray m)) (h64 : vs.length < 64)
  (hk : 2 ≤ vs.length → ∀ h' : Heap, (∀ b o, b ≠ a → z.heap.get? b = some o → h'.get? b = some o) → ∃ κ, Ask prog w A vs K { z with heap := h' } κ)
  (h : ∀ p, Pm vs.length p → P (.done (.ret .none)) { z with heap := sortedHeap z.heap a vs (outs vs p) }) : wpAny (model prog w) A (Builtin.«list.sort» ⟨[.ref a], []⟩) P E z := by
 have la : a < z.heap.objs.size := Heap.lt_size ho
 let h1 : Heap := z.heap.update a (Obj.mapSeq fun _ => #[])
 let h3 : Heap := (h1.push (seqObj "tuple" vs.toArray 0)).push (seqObj "list" #[] 0)
 obtain ⟨m1, o1⟩ : ∃ m1, h1.get? a = some (seqObj "list" #[] m1) := ⟨_, get?_update_seq ho (fun _ => #[])⟩
 have s1 : h1.objs.size = z.heap.objs.size := Heap.size_update _ _ _
 have o3 : h3.get? a = some (seqObj "list" #[] m1) := by
  show ((h1.push _).push _).get? a = _
  rw [Heap.get?_push_ne _ _ _ (by rw [size_push', s1]; exact Nat.ne_of_lt (Nat.lt_succ_of_lt la)), Heap.get?_push_ne _ _ _ (by rw [s1]; exact Nat.ne_of_lt la)]; exact o1
 have k3 : ∀ b o, b ≠ a → z.heap.get? b = some o → h3.get? b = some o := fun b o hb q => by
  have lb := Heap.lt_size q
  show ((h1.push _).push _).get? b = _
  rw [Heap.get?_push_ne _ _ _ (by rw [size_push', s1]; exact Nat.ne_of_lt (Nat.lt_succ_of_lt lb)), Heap.get?_push_ne _ _ _ (by rw [s1]; exact Nat.ne_of_lt lb)]
  show (z.heap.update a _).get? b = _
  rw [Heap.get?_update_ne _ _ _ _ hb]; exact q
 have fit : ∀ p, Pm vs.length p → (outs vs p).size ≤ sizeLine + 1 := fun p hp => by rw [outs_len hp, sizeLine_eq]; lia
 rw [list_sort_plain]
 refine wpAny_bind (listItems_at ho rfl (wpAny_bind (listUpdate_at ho rfl (wpAny_bind (seqEpoch_at o1 rfl ?_)) (by rw [List.size_toArray, sizeLine_eq]; lia) (Nat.zero_le _))))
 refine wpAny_bind (wpAny_newTuple (wpAny_bind (wpAny_newList (wpAny_holding ?_) (Nat.zero_le _))) (by show vs.length ≤ _; rw [sizeLine_eq]; lia))
 show wpAny _ _ _ _ _ { z with heap := h3 }
 dsimp only
 by_cases c2 : vs.toArray.size < 2
 · rw [if_pos c2, if_pos c2]
   refine wpAny_bind (wpAny_pure ?_)
   rw [StateT.run_pure]
   refine wpAny_bind (wpAny_pure ?_)
   dsimp only
   have pm : Pm vs.length (List.range vs.length).toArray := ⟨Array.Perm.refl _⟩
   have hout := outs_id (vs := vs)
   refine wpAny_bind (seqEpoch_at o3 rfl (wpAny_bind (listUpdate_at o3 rfl ?_ (Nat.zero_le _) (by show (Array.map _ (vs.toArray.zip vs.toArray)).size ≤ _; rw [hout]; exact fit _ pm))))
   simp only [bne_self_eq_false, Bool.false_eq_true, if_false]
   refine wpAny_pure ?_
   have := h _ pm
   rw [← hout] at this
   exact this
 · rw [if_neg c2, if_neg c2]
   have l2 : 2 ≤ vs.length := by rw [List.size_toArray] at c2; lia
   obtain ⟨κ, ak⟩ := hk l2 h3 k3
   refine wpAny_bind (wpAny_mono (ak.kind (fun κ' z' => κ' = κ ∧ z' = { z with heap := h3 }) ⟨rfl, rfl⟩) (fun κ' z' q => ?_) fun _ _ x => x.elim)
   obtain ⟨e1, e2⟩ := q
   subst e1; subst e2
   refine wpAny_bind (wpAny_mono (kat_run (Q := fun st z' => z' = { z with heap := h3 } ∧ failedOf st = none ∧ ∃ p, Pm vs.length p ∧ (arrOf st).map (·.2) = outs vs p) (ks := vs) rfl l2 h64 (G := fun p z' => z' = { z with heap := h3 } ∧ Pm vs.length p) (fun p st z' _ x y g => ⟨g.1, y, p, g.2, kat_snds rfl x⟩) (sort_ok ak.ask (by lia) _ fun p x => ⟨rfl, x⟩)) ?_ fun _ _ x => x)
   rintro ⟨⟨⟩, st⟩ z' ⟨e, hf, p, hp, hout⟩
   subst e
   dsimp only
   refine wpAny_bind (seqEpoch_at o3 rfl (wpAny_bind (listUpdate_at o3 rfl ?_ (Nat.zero_le _) (by rw [hout]; exact fit _ hp))))
   rw [hf, hout]
   simp only [bne_self_eq_false, Bool.false_eq_true, if_false]
   exact wpAny_pure (h p hp)
theorem sorted_by {l : Addr} {Q : Value → Shared → Prop} (hl : z.heap.IsList l vs.toArray) (h64 : vs.length < 64)
  (hk : 2 ≤ vs.length → ∀ h' : Heap, (∀ b o, z.heap.get? b = some o → h'.get? b = some o) → ∃ κ, Ask prog w A.in1.in1 vs K { z with heap := h' } κ)
  (h : ∀ p, Pm vs.length p → Q (.ref (z.heap.objs.size + 1)) { z with heap := sortedAll z.heap vs (outs vs p) }) : wpAny (model prog w) A (call (.builtin "sorted") [.ref l]) Q E z := by
 refine Calls.call_function_entry kind_sorted plain_sorted entry_sorted (args_sorted1 _) ?_
 unfold Builtin.«sorted»
 let g1 : Heap := (z.heap.push (seqObj "list" #[] 0)).update z.heap.objs.size (Obj.mapSeq (· ++ vs.toArray))
 let g2 : Heap := g1.push (seqObj "list" vs.toArray 0)
 have s1 : g1.objs.size = z.heap.objs.size + 1 := by show (Heap.update _ _ _).objs.size = _; rw [Heap.size_update, size_push']
 have o2 : g2.get? (z.heap.objs.size + 1) = some (seqObj "list" vs.toArray 0) := by rw [← s1]; exact Heap.get?_push_size _ rfl
 have k2 : ∀ b o, z.heap.get? b = some o → g2.get? b = some o := fun b o q => by
  have lb := Heap.lt_size q
  show (g1.push _).get? b = _
  rw [Heap.get?_push_ne _ _ _ (by rw [s1]; exact Nat.ne_of_lt (Nat.lt_succ_of_lt lb))]
  show (Heap.update _ _ _).get? b = _
  rw [Heap.get?_update_ne _ _ _ _ (Nat.ne_of_lt lb), Heap.get?_push_ne _ _ _ (Nat.ne_of_lt lb)]; exact q
 refine wpAny_bind (m := checkCount "sorted" 1 1 _) (wpAny_pure (wpAny_bind (collect_list hl (wpAny_bind (wpAny_newList ?_ (by rw [sizeLine_eq]; lia))) (by rw [sizeLine_eq]; lia))))
 show wpAny _ _ _ _ _ { z with heap := g2 }
 rw [s1]
 refine wpAny_bind (wpAny_holding (wpAny_call_entry slot_list_sort ⟨_, o2, rfl⟩ entry_list_sort (sort_list (z := { z with heap := g2 }) (K := K) o2 h64 (fun c h' kk => hk c h' fun b o q => kk b o (Nat.ne_of_lt (Nat.lt_succ_of_lt (Heap.lt_size q))) (k2 b o q)) fun p x => ⟨_, rfl, wpAny_pure ⟨_, rfl, h p x⟩⟩) (args_list_sort _)))
end
end LSrtQ
namespace L2
open PySem PySem.Spec PyProof.Rows LSrt LSrtQ
theorem call_sortedQ {X : Cx} : CallR X (.builtin "sorted") (fun xs H Q => ∃ (a : Addr) (ws : List (V × Int × Int)) (B : Int), xs = [.ref a] ∧ H a = some (.lst (ws.map (·.1))) ∧ ws.length < 64 ∧ (∀ q ∈ ws, (∃ t, q.1 = .ref t ∧ H t = some (.tup [.int q.2.1, .int q.2.2])) ∧ 0 ≤ q.2.2 ∧ q.2.2 < B) ∧
  ∀ (p : Addr) (ms : List (V × Int × Int)), H p = none → ms.Perm ws → Q (.ref p) (upd H p (.lst (ms.map (·.1))))) := by
 intro pins s σ H xs us Q I r h
 obtain ⟨a, ws, B, rfl, hq, hl, hw, q⟩ := h
 obtain ⟨u, rfl, ru⟩ := vals1 r
 cases ru
 obtain ⟨its, rv, pl, _⟩ := I.list (SqL.of hq)
 have hlen : its.length = ws.length := by have := rv.length; rw [List.length_map] at this; exact this.symm
 have hpr : ∀ (i : Nat) v p, its[i]? = some v → (ws.map (·.2))[i]? = some p → PrAt s.heap v p := fun i v p h1 h2 => by
  rw [List.getElem?_map] at h2
  cases h3 : ws[i]? with
  | none => rw [h3] at h2; cases h2
  | some w0 =>
   rw [h3] at h2
   cases h2
   obtain ⟨⟨t, e, ht⟩, _⟩ := hw w0 (List.mem_of_getElem? h3)
   obtain ⟨u, hu, ru⟩ := rv.get (i := i) (x := w0.1) (by rw [List.getElem?_map, h3]; rfl)
   rw [h1] at hu
   cases hu
   rw [e] at ru
   cases ru
   obtain ⟨js, rj, pj, _⟩ := I.tuple (SqT.of ht)
   obtain ⟨o, ho, hc, n, hd⟩ := (show s.heap.IsTuple t js.toArray from pj)
   cases rj with
   | cons r1 r2 => cases r2 with
    | cons r2 r3 =>
     cases r3
     obtain ⟨a1, rfl⟩ := r1
     obtain ⟨b1, rfl⟩ := r2
     exact ⟨t, o, a1, b1, n, rfl, ho, hc, hd⟩
 refine LSrtQ.sorted_by (K := fun i => enc B ((ws.map (·.2)).getD i (0, 0))) pl.isList (by lia) (fun h2 h' kk => ask_pairs (by rw [List.length_map]; exact hlen) h2 (fun i v p x y => (hpr i v p x y).keep kk) fun p hp => ?_) fun p hp => ?_
 · obtain ⟨w0, hw0, rfl⟩ := List.mem_map.mp hp
   exact (hw w0 hw0).2
 · obtain ⟨e, he⟩ := sortedAll_at s.heap its (outs its p)
   have hf : H (s.heap.objs.size + 1) = none := I.hok.fresh (Nat.le_succ _)
   have hpl : p.toList.Perm (List.range ws.length) := by have := Array.perm_iff_toList_perm.mp hp.pm; rw [← hlen]; simpa using this
   let d : V × Int × Int := (.non, 0, 0)
   have pm : (p.toList.map fun i => ws.getD i d).Perm ws := by
    have := hpl.map fun i => ws.getD i d
    rw [LSrt.map_getD] at this
    exact this
   have lt : ∀ i ∈ p.toList, i < ws.length := fun i hi => by have := hpl.mem_iff.mp hi; simpa using this
   refine ⟨.ref (s.heap.objs.size + 1), _, I.laid (t' := s.toks) (o := .lst ((p.toList.map fun i => ws.getD i d).map (·.1))) (fun b o e => sortedAll_old e) (Nat.le_succ _) ?_, rfl, q _ _ hf pm⟩
   refine ⟨by rw [List.length_map, pm.length_eq]; exact Nat.le_of_lt (Nat.lt_trans hl (by decide)), p.toList.map (fun i => its.getD i Value.none), e, ?_, he⟩
   rw [List.map_map]
   refine vals_map fun i hi => ?_
   have li := lt i hi
   have e1 : ws.getD i d = ws[i] := by simp [List.getD, li]
   have e2 : its.getD i Value.none = its[i]'(by lia) := by simp [List.getD, hlen, li]
   show RelV (ws.getD i d).1 _
   rw [e1, e2]
   obtain ⟨u, hu2, ru⟩ := rv.get (i := i) (x := ws[i].1) (by rw [List.getElem?_map, List.getElem?_eq_getElem li]; rfl)
   rw [List.getElem?_eq_getElem (by lia)] at hu2
   cases hu2
   exact ru
end L2
namespace LD
open PySem PySem.Spec L2 LB PyProof.Rows LSrt
section
variable {X : Cx} {e : Expr} {tA : DTA} {pos p : Pos}
def D_sortedQ : DN := fun ds Q => ∃ (qs : List (Int × Int)) (B : Int), ds = [.lst (qs.map prD)] ∧ qs.length < 64 ∧ (∀ q ∈ qs, 0 ≤ q.2 ∧ q.2 < B) ∧ ∀ ms : List (Int × Int), ms.Perm qs → Q (.lst (ms.map prD))
theorem d_sortedQ (hm : X.mg "sorted" = none) (ha : Av X [e] tA) (hg : autoParam (Gl X "sorted") au5._auto_1) (he : autoParam (starEach [e] X.env = (false, eval e X.env) :: starEach [] X.env) au5._auto_1) (hpl : autoParam ((backTo pos (starEach [] X.env)).any (·.1) = false) au5._auto_1) :
  Ev X (.Call (.Name "sorted" p) [e] [] pos) (dCa D_sortedQ tA) := d_callB call_sortedQ (fun M H xs ds Qd Q al r zz1 k => (by obtain ⟨qs, B, e, l, hb, q⟩ := zz1; exact (by
 subst e
 obtain ⟨x, rfl, r1⟩ := one_arg r
 obtain ⟨a, zs, rfl, ha, n, rr⟩ := r1.ofLst
 obtain ⟨ws, e1, e2, hw⟩ := prs_rep rr
 subst e1; subst e2
 refine ⟨a, ws, B, rfl, ha, by rw [List.length_map] at l; exact l, fun w hm => ⟨?_, hb _ (List.mem_map_of_mem hm)⟩, fun p ms hp hpm => ?_⟩
 · obtain ⟨t, ts, e, ht, nt, rt⟩ := (hw w hm).ofTup
   obtain ⟨y1, ys, rfl, q1, q2⟩ := rt.uncons
   obtain ⟨y2, ys, rfl, q3, q4⟩ := q2.uncons
   cases q4.unnil
   cases q1.ofInt
   cases q3.ofInt
   exact ⟨t, e, ht⟩
 · have s : Same H (upd H p (.lst (ms.map (·.1)))) := Same.new hp
   exact k _ _ _ (q (ms.map (·.2)) (hpm.map _)) s (Rep.toLst upd_same (al.fresh hp) (rep_prs fun w hm => (hw w (hpm.mem_iff.mp hm)).same s))))) hg hm boot_sorted' ha (by decide) (by decide) he hpl
end
end LD
end
section
namespace MH
noncomputable def up (hs : List Nat) (w : Nat) : Nat := hs.getD (w - 1) 0
structure Hg (hs : List Nat) : Prop where
 pos : 0 < hs.length
 le : ∀ x ∈ hs, x ≤ hs.length
 rk : ∃ rk : Nat → Nat, ∀ w, 1 ≤ w → w ≤ hs.length → up hs w ≠ 0 → rk (up hs w) < rk w
 one : ∃ t : Nat, hs[t]? = some 0 ∧ ∀ j : Nat, hs[j]? = some 0 → j = t
theorem up_get {hs : List Nat} {w : Nat} (h1 : 1 ≤ w) (h2 : w ≤ hs.length) : hs[w - 1]? = some (up hs w) := by
 unfold up
 rw [List.getD, List.getElem?_eq_getElem (by lia)]
 rfl
theorem Hg.up_le {hs : List Nat} (h : Hg hs) {w : Nat} (h1 : 1 ≤ w) (h2 : w ≤ hs.length) : up hs w ≤ hs.length := h.le _ (List.mem_of_getElem? (up_get h1 h2))
inductive Up (hs : List Nat) : Nat → List Nat → Prop where
 | top {w : Nat} : up hs w = 0 → Up hs w [w]
 | step {w : Nat} {L : List Nat} : up hs w ≠ 0 → Up hs (up hs w) L → Up hs w (w :: L)
theorem Hg.has {hs : List Nat} (h : Hg hs) : ∀ (w : Nat), 1 ≤ w → w ≤ hs.length → ∃ L, Up hs w L := by
 obtain ⟨rk, hrk⟩ := h.rk
 have : ∀ (m w : Nat), rk w ≤ m → 1 ≤ w → w ≤ hs.length → ∃ L, Up hs w L := fun m => by
  induction m with
  | zero => intro w hm h1 h2
            by_cases e : up hs w = 0
            · exact ⟨_, .top e⟩
            · have := hrk w h1 h2 e; lia
  | succ m ih => intro w hm h1 h2
                 by_cases e : up hs w = 0
                 · exact ⟨_, .top e⟩
                 · have := hrk w h1 h2 e
                   obtain ⟨L, hL⟩ := ih (up hs w) (by lia) (by lia) (h.up_le h1 h2)
                   exact ⟨_, .step e hL⟩
 intro w
 exact this (rk w) w (Nat.le_refl _)
theorem nd_len : ∀ {l m : List Nat}, l.Nodup → l ⊆ m → l.length ≤ m.length
 | [], _, _, _ => Nat.zero_le _
 | x :: l, m, h, s => by
  have hx : x ∈ m := s List.mem_cons_self
  obtain ⟨h1, h2⟩ := List.nodup_cons.mp h
  have := nd_len (l := l) (m := m.erase x) h2 fun y hy => (List.mem_erase_of_ne (show y ≠ x from fun e => h1 (by rw [← e]; exact hy))).mpr (s (List.mem_cons_of_mem _ hy))
  rw [List.length_erase_of_mem hx] at this
  have := List.length_pos_of_mem hx
  rw [List.length_cons]
  lia
end MH
end
section
namespace MH
structure Plc (hs : List Nat) (t k : Nat) (L : List Nat) (rk : Nat → Nat) : Prop where
 nd : L.Nodup
 mem : ∀ w ∈ L, 1 ≤ w ∧ w ≤ hs.length
 top : t ∈ L
 par : ∀ w ∈ L, w ≠ t → up hs w ∈ L ∧ rk (up hs w) < rk w
 bd : ∀ w ∈ L, rk w < k
 len : k ≤ L.length
noncomputable def tops (hs : List Nat) : List Nat := (List.range' 1 hs.length).filter fun x => decide (up hs x = 0)
noncomputable def moreL (hs L : List Nat) : List Nat := (List.range' 1 hs.length).filter fun x => decide (up hs x ∈ L) && !decide (x ∈ L)
theorem mem_tops {hs : List Nat} {x : Nat} : x ∈ tops hs ↔ 1 ≤ x ∧ x ≤ hs.length ∧ up hs x = 0 := by
 unfold tops
 rw [List.mem_filter, List.mem_range'_1, decide_eq_true_eq]
 lia
theorem mem_more {hs L : List Nat} {x : Nat} : x ∈ moreL hs L ↔ 1 ≤ x ∧ x ≤ hs.length ∧ up hs x ∈ L ∧ x ∉ L := by
 unfold moreL
 rw [List.mem_filter, List.mem_range'_1]
 simp only [Bool.and_eq_true, decide_eq_true_eq, Bool.not_eq_true', decide_eq_false_iff_not]
 constructor
 · rintro ⟨a, b, c⟩; exact ⟨by lia, by lia, b, c⟩
 · rintro ⟨a, b, c, d⟩; exact ⟨by lia, c, d⟩
theorem more_nd {hs L : List Nat} : (moreL hs L).Nodup := List.Pairwise.filter _ (List.nodup_range' ..)
theorem tops_nd {hs : List Nat} : (tops hs).Nodup := List.Pairwise.filter _ (List.nodup_range' ..)
theorem Plc.start {hs : List Nat} {t : Nat} (h : tops hs = [t]) : Plc hs t 1 [t] (fun _ => 0) := by
 have ht := (mem_tops (hs := hs) (x := t)).mp (by rw [h]; simp)
 exact ⟨by simp, fun w hw => by rw [List.mem_singleton.mp hw]; exact ⟨ht.1, ht.2.1⟩, by simp, fun w hw n => absurd (List.mem_singleton.mp hw) n, fun w hw => by lia, by simp⟩
theorem Plc.app_nd {hs : List Nat} {t k : Nat} {L : List Nat} {rk : Nat → Nat} (g : Plc hs t k L rk) : (L ++ moreL hs L).Nodup :=
 List.nodup_append.mpr ⟨g.nd, more_nd, fun x hx y hy e => (mem_more.mp hy).2.2.2 (e ▸ hx)⟩
theorem Plc.step {hs : List Nat} {t k : Nat} {L : List Nat} {rk : Nat → Nat} (g : Plc hs t k L rk) (hne : moreL hs L ≠ []) : Plc hs t (k + 1) (L ++ moreL hs L) (fun x => if x ∈ L then rk x else k) := by
 refine ⟨g.app_nd, fun w hw => ?_, by simp [g.top], fun w hw n => ?_, fun w hw => ?_, ?_⟩
 · rcases List.mem_append.mp hw with y | y
   · exact g.mem w y
   · have := mem_more.mp y; exact ⟨this.1, this.2.1⟩
 · rcases List.mem_append.mp hw with y | y
   · obtain ⟨a, b⟩ := g.par w y n
     refine ⟨by simp [a], ?_⟩
     simp only [if_pos a, if_pos y]; exact b
   · obtain ⟨_, _, a, b⟩ := mem_more.mp y
     refine ⟨by simp [a], ?_⟩
     simp only [if_pos a, if_neg b]; exact g.bd _ a
 · by_cases c : w ∈ L
   · simp only [if_pos c]; have := g.bd w c; lia
   · simp only [if_neg c]; lia
 · have := List.length_pos_iff.mpr hne
   have := g.len
   rw [List.length_append]; lia
theorem Plc.le {hs : List Nat} {t k : Nat} {L : List Nat} {rk : Nat → Nat} (g : Plc hs t k L rk) : L.length ≤ hs.length := by
 have := nd_len g.nd (m := List.range' 1 hs.length) fun x hx => by
  have := g.mem x hx
  rw [List.mem_range'_1]; lia
 rwa [List.length_range'] at this
theorem tops_one {hs : List Nat} (g : Hg hs) : ∃ t, tops hs = [t] := by
 obtain ⟨t, ht, tu⟩ := g.one
 have tl := (List.getElem?_eq_some_iff.mp ht).1
 have u0 : up hs (t + 1) = 0 := by have := up_get (hs := hs) (w := t + 1) (by lia) (by lia); rw [show t + 1 - 1 = t by lia, ht] at this; exact (Option.some.inj this).symm
 have all : ∀ x ∈ tops hs, x = t + 1 := fun x hx => by
  obtain ⟨x1, x2, x3⟩ := mem_tops.mp hx
  have := up_get (hs := hs) x1 x2
  rw [x3] at this
  have := tu _ this
  lia
 have m : t + 1 ∈ tops hs := mem_tops.mpr ⟨by lia, by lia, u0⟩
 refine ⟨t + 1, ?_⟩
 have nd := tops_nd (hs := hs)
 match h : tops hs with
 | [] => rw [h] at m; exact absurd m List.not_mem_nil
 | [x] => rw [all x (by rw [h]; simp)]
 | x :: y :: r =>
  rw [h] at nd
  have e1 := all x (by rw [h]; simp)
  have e2 := all y (by rw [h]; simp)
  rw [e1, e2] at nd
  simp at nd
theorem Plc.iff {hs : List Nat} {t k : Nat} {L : List Nat} {rk : Nat → Nat} (g : Plc hs t k L rk) (ht : tops hs = [t]) (hle : ∀ x ∈ hs, x ≤ hs.length) (he : moreL hs L = []) : L.length = hs.length ↔ Hg hs := by
 have tt := (mem_tops (hs := hs) (x := t)).mp (by rw [ht]; simp)
 constructor
 · intro hl
   have all : ∀ w, 1 ≤ w → w ≤ hs.length → w ∈ L := fun w w1 w2 => by
    refine Classical.byContradiction fun n => ?_
    have := nd_len (l := w :: L) (m := List.range' 1 hs.length) (List.nodup_cons.mpr ⟨n, g.nd⟩) fun x hx => by
     rw [List.mem_range'_1]
     rcases List.mem_cons.mp hx with e | hx
     · lia
     · have := g.mem x hx; lia
    rw [List.length_cons, List.length_range'] at this
    lia
   have zero : ∀ w, 1 ≤ w → w ≤ hs.length → up hs w = 0 → w = t := fun w w1 w2 h => by
    have := mem_tops.mpr ⟨w1, w2, h⟩
    rw [ht] at this
    exact List.mem_singleton.mp this
   refine ⟨by lia, hle, ⟨rk, fun w w1 w2 n => (g.par w (all w w1 w2) fun e => n (by rw [e]; exact tt.2.2)).2⟩, ⟨t - 1, by have := up_get (hs := hs) tt.1 tt.2.1; rw [tt.2.2] at this; exact this, fun j hj => ?_⟩⟩
   have jl := (List.getElem?_eq_some_iff.mp hj).1
   have := up_get (hs := hs) (w := j + 1) (by lia) (by lia)
   rw [show j + 1 - 1 = j by lia, hj] at this
   have := zero (j + 1) (by lia) (by lia) (Option.some.inj this).symm
   lia
 · intro hg
   have all : ∀ w L', Up hs w L' → 1 ≤ w → w ≤ hs.length → w ∈ L := fun w L' h => by
    induction h with
    | @top w e => intro w1 w2; have := mem_tops.mpr ⟨w1, w2, e⟩; rw [ht] at this; rw [List.mem_singleton.mp this]; exact g.top
    | @step w L' n h ih =>
     intro w1 w2
     refine Classical.byContradiction fun nw => ?_
     have : w ∈ moreL hs L := mem_more.mpr ⟨w1, w2, ih (by lia) (hg.up_le w1 w2), nw⟩
     rw [he] at this
     exact List.not_mem_nil this
   have := nd_len (l := List.range' 1 hs.length) (m := L) (List.nodup_range' ..) fun x hx => by
    rw [List.mem_range'_1] at hx
    obtain ⟨L', h⟩ := hg.has x (by lia) (by lia)
    exact all x L' h (by lia) (by lia)
   rw [List.length_range'] at this
   have := g.le
   lia
end MH
end
section
namespace MH
noncomputable def ofF (n : Nat) (f : Nat → Nat) : List Nat := (List.range' 1 n).map f
theorem ofF_len {n : Nat} {f : Nat → Nat} : (ofF n f).length = n := by unfold ofF; rw [List.length_map, List.length_range']
theorem ofF_get {n : Nat} {f : Nat → Nat} {i : Nat} (h : i < n) : (ofF n f)[i]? = some (f (i + 1)) := by
 unfold ofF
 rw [List.getElem?_map, List.getElem?_range' h]
 show some _ = some _
 rw [show 1 + 1 * i = i + 1 by lia]
theorem up_ofF {n : Nat} {f : Nat → Nat} {w : Nat} (h1 : 1 ≤ w) (h2 : w ≤ n) : up (ofF n f) w = f w := by
 have := up_get (hs := ofF n f) h1 (by rw [ofF_len]; exact h2)
 rw [ofF_get (by lia), show w - 1 + 1 = w by lia] at this
 exact (Option.some.inj this).symm
theorem hg_of {n : Nat} {f rk : Nat → Nat} {t : Nat} (t1 : 1 ≤ t) (t2 : t ≤ n) (t0 : f t = 0) (tu : ∀ w, 1 ≤ w → w ≤ n → f w = 0 → w = t) (le : ∀ w, 1 ≤ w → w ≤ n → f w ≤ n) (hrk : ∀ w, 1 ≤ w → w ≤ n → f w ≠ 0 → rk (f w) < rk w) : Hg (ofF n f) := by
 refine ⟨by rw [ofF_len]; lia, fun x hx => ?_, ⟨rk, fun w h1 h2 h3 => ?_⟩, ⟨t - 1, by rw [ofF_get (by lia), show t - 1 + 1 = t by lia, t0], fun j hj => ?_⟩⟩
 · rw [ofF_len]
   obtain ⟨w, hw, rfl⟩ := List.mem_map.mp hx
   rw [List.mem_range'_1] at hw
   exact le w (by lia) (by lia)
 · rw [ofF_len] at h2
   rw [up_ofF h1 h2] at h3 ⊢
   exact hrk w h1 h2 h3
 · have hl := (List.getElem?_eq_some_iff.mp hj).1
   rw [ofF_len] at hl
   rw [ofF_get hl] at hj
   have := tu (j + 1) (by lia) (by lia) (Option.some.inj hj)
   lia
structure Pile (n fo : Nat) (P : List Nat) (f tm : Nat → Nat) (T : Nat) : Prop where
 nd : P.Nodup
 mem : ∀ x ∈ P, 1 ≤ x ∧ x < fo
 f1 : 1 ≤ fo
 f2 : fo ≤ n + 1
 ne : P = [] → fo ≤ n
 par : ∀ w, 1 ≤ w → w < fo → w ∉ P → 1 ≤ f w ∧ f w ≤ n ∧ tm w < T ∧ (f w < fo → f w ∉ P → tm w < tm (f w))
theorem Pile.start {n : Nat} (h : 1 ≤ n) : Pile n 1 [] (fun _ => 0) (fun _ => 0) 0 := ⟨by simp, fun x hx => absurd hx List.not_mem_nil, by lia, by lia, fun _ => h, fun w h1 h2 => by lia⟩
theorem Pile.push {n fo : Nat} {P : List Nat} {f tm : Nat → Nat} {T : Nat} (g : Pile n fo P f tm T) (h : fo ≤ n) : Pile n (fo + 1) (P ++ [fo]) f tm T := by
 refine ⟨List.nodup_append.mpr ⟨g.nd, by simp, fun x hx y hy e => ?_⟩, fun x hx => ?_, by lia, by lia, fun e => by simp at e, fun w h1 h2 h3 => ?_⟩
 · have := (g.mem x hx).2
   rw [List.mem_singleton.mp hy] at e; lia
 · rcases List.mem_append.mp hx with y | y
   · have := g.mem x y; lia
   · rw [List.mem_singleton.mp y]; have := g.f1; lia
 · have h4 : w ∉ P := fun z => h3 (by simp [z])
   have h5 : w ≠ fo := fun z => h3 (by simp [z])
   obtain ⟨a, b, c, d⟩ := g.par w h1 (by lia) h4
   refine ⟨a, b, c, fun e1 e2 => d ?_ fun z => e2 (by simp [z])⟩
   have : f w ≠ fo := fun z => e2 (by simp [z])
   lia
theorem Pile.pop {n fo a p : Nat} {P : List Nat} {f tm : Nat → Nat} {T : Nat} (g : Pile n fo (P ++ [a]) f tm T) (p1 : 1 ≤ p) (p2 : p ≤ n) (hp : p < fo → p ∈ P) (hne : P = [] → fo ≤ n) : Pile n fo P (fun x => if x = a then p else f x) (fun x => if x = a then T else tm x) (T + 1) := by
 have nd := g.nd
 have haP : a ∉ P := fun z => (List.nodup_append.mp nd).2.2 a z a (by simp) rfl
 refine ⟨(List.nodup_append.mp nd).1, fun x hx => g.mem x (by simp [hx]), g.f1, g.f2, hne, fun w h1 h2 h3 => ?_⟩
 by_cases e : w = a
 · subst e
   rw [if_pos rfl, if_pos rfl]
   exact ⟨p1, p2, by lia, fun z1 z2 => absurd (hp z1) z2⟩
 · rw [if_neg e, if_neg e]
   obtain ⟨x1, x2, x3, x4⟩ := g.par w h1 h2 (by simp [h3, e])
   refine ⟨x1, x2, by lia, fun z1 z2 => ?_⟩
   by_cases e2 : f w = a
   · rw [if_pos e2]; exact x3
   · rw [if_neg e2]; exact x4 z1 (by simp [z2, e2])
theorem Pile.hg {n t : Nat} {f tm : Nat → Nat} {T : Nat} (g : Pile n (n + 1) [t] f tm T) : Hg (ofF n fun x => if x = t then 0 else f x) := by
 have ht := g.mem t (by simp)
 have h : ∀ w, 1 ≤ w → w ≤ n → w ≠ t → 1 ≤ f w ∧ f w ≤ n ∧ tm w < T ∧ (f w < n + 1 → f w ∉ [t] → tm w < tm (f w)) := fun w h1 h2 h3 => g.par w h1 (by grind) (by simpa using h3)
 refine hg_of (t := t) (rk := fun x => if x = t then 0 else T - tm x) ht.1 (by grind) (if_pos rfl) (fun w h1 h2 h3 => ?_) (fun w h1 h2 => ?_) (fun w h1 h2 h3 => ?_)
 · by_cases e : w = t
   · exact e
   · rw [if_neg e] at h3; have := (h w h1 h2 e).1; grind
 · by_cases e : w = t
   · rw [if_pos e]; grind
   · rw [if_neg e]; exact (h w h1 h2 e).2.1
 · by_cases e : w = t
   · rw [if_pos e] at h3; exact absurd rfl h3
   · rw [if_neg e]
     obtain ⟨x1, x2, x3, x4⟩ := h w h1 h2 e
     by_cases e2 : f w = t
     · rw [if_pos e2, if_neg e]; grind
     · have x5 := x4 (by grind) (by simpa using e2)
       have := (h (f w) x1 x2 e2).2.2.1
       rw [if_neg e2, if_neg e]
       grind
end MH
end
section
namespace MH
noncomputable def tieN (hs : List Nat) (x : Nat) : Nat × Nat := (min x (up hs x), max x (up hs x))
noncomputable def crs (p q : Nat × Nat) : Bool := decide (p.1 < q.1) && (decide (q.1 < p.2) && decide (p.2 < q.2))
theorem crs_iff {p q : Nat × Nat} : crs p q = true ↔ p.1 < q.1 ∧ q.1 < p.2 ∧ p.2 < q.2 := by unfold crs; simp
def Crossed (hs : List Nat) (x y : Nat) : Prop := 1 ≤ x ∧ x ≤ hs.length ∧ 1 ≤ y ∧ y ≤ hs.length ∧ crs (tieN hs x) (tieN hs y) = true
end MH
end
section
namespace MH
noncomputable def tieF (f : Nat → Nat) (x : Nat) : Nat × Nat := (min x (f x), max x (f x))
structure PileC (n fo : Nat) (P : List Nat) (f tm : Nat → Nat) (T : Nat) : Prop where
 b : Pile n fo P f tm T
 so : P.Pairwise (· < ·)
 sp : ∀ x, 1 ≤ x → x < fo → x ∉ P → ∀ c, min x (f x) < c → c < max x (f x) → c < fo ∧ c ∉ P
 nc : ∀ x y, 1 ≤ x → x < fo → x ∉ P → 1 ≤ y → y < fo → y ∉ P → crs (tieF f x) (tieF f y) = false
theorem PileC.f1 {n fo T : Nat} {P : List Nat} {f tm : Nat → Nat} (g : PileC n fo P f tm T) : 1 ≤ fo := g.b.f1
theorem PileC.f2 {n fo T : Nat} {P : List Nat} {f tm : Nat → Nat} (g : PileC n fo P f tm T) : fo ≤ n + 1 := g.b.f2
theorem PileC.nd {n fo T : Nat} {P : List Nat} {f tm : Nat → Nat} (g : PileC n fo P f tm T) : P.Nodup := g.b.nd
theorem PileC.ne {n fo T : Nat} {P : List Nat} {f tm : Nat → Nat} (g : PileC n fo P f tm T) : P = [] → fo ≤ n := g.b.ne
theorem PileC.mem {n fo T : Nat} {P : List Nat} {f tm : Nat → Nat} (g : PileC n fo P f tm T) : ∀ x ∈ P, 1 ≤ x ∧ x < fo := g.b.mem
theorem PileC.start {n : Nat} (h : 1 ≤ n) : PileC n 1 [] (fun _ => 0) (fun _ => 0) 0 := ⟨Pile.start h, List.Pairwise.nil, fun x h1 h2 => by omega, fun x y h1 h2 => by omega⟩
theorem PileC.push {n fo : Nat} {P : List Nat} {f tm : Nat → Nat} {T : Nat} (g : PileC n fo P f tm T) (h : fo ≤ n) : PileC n (fo + 1) (P ++ [fo]) f tm T := by
 have hung : ∀ x, x < fo + 1 → x ∉ P ++ [fo] → x < fo ∧ x ∉ P := fun x h1 h2 => by
  have a : x ≠ fo := fun z => h2 (by simp [z])
  exact ⟨by omega, fun z => h2 (by simp [z])⟩
 refine ⟨g.b.push h, ?_, fun x h1 h2 h3 c q1 q2 => ?_, fun x y h1 h2 h3 k1 k2 k3 => ?_⟩
 · rw [List.pairwise_append]
   exact ⟨g.so, by simp, fun a ha b hb => by rw [List.mem_singleton.mp hb]; exact (g.mem a ha).2⟩
 · obtain ⟨a, b⟩ := hung x h2 h3
   obtain ⟨u, v⟩ := g.sp x h1 a b c q1 q2
   refine ⟨by omega, fun z => ?_⟩
   rcases List.mem_append.mp z with y | y
   · exact v y
   · rw [List.mem_singleton.mp y] at u; omega
 · obtain ⟨a, b⟩ := hung x h2 h3
   obtain ⟨c, d⟩ := hung y k2 k3
   exact g.nc x y h1 a b k1 c d
theorem PileC.popX {n fo a p : Nat} {P : List Nat} {f tm : Nat → Nat} {T : Nat} (g : PileC n fo (P ++ [a]) f tm T) (p1 : 1 ≤ p) (p2 : p ≤ n) (hp : p < fo → p ∈ P) (hne : P = [] → fo ≤ n) (hc : p = fo ∨ (p ∈ P ∧ ∀ y ∈ P, y ≤ p)) : PileC n fo P (fun x => if x = a then p else f x) (fun x => if x = a then T else tm x) (T + 1) := by
 have ga := g.mem a (by simp)
 have nd := g.nd
 have haP : a ∉ P := fun z => (List.nodup_append.mp nd).2.2 a z a (by simp) rfl
 have lt : ∀ y ∈ P, y < a := fun y hy => (List.pairwise_append.mp g.so).2.2 y hy a (by simp)
 have unh : ∀ b, b = a ∨ b = p → ∀ x, 1 ≤ x → x < fo → x ∉ P ++ [a] → ¬ (min x (f x) < b ∧ b < max x (f x)) := fun b hb x h1 h2 h3 zz1 => (by obtain ⟨q1, q2⟩ := zz1; exact (by
  obtain ⟨u, v⟩ := g.sp x h1 h2 h3 b q1 q2
  rcases hb with rfl | rfl
  · exact v (by simp)
  · rcases hc with e | e
    · omega
    · exact v (by simp [e.1])))
 have old : ∀ x, x < fo → x ∉ P → x ≠ a → x ∉ P ++ [a] := fun x h1 h2 h3 z => by
  rcases List.mem_append.mp z with y | y
  · exact h2 y
  · exact h3 (List.mem_singleton.mp y)
 have pa : p ≠ a := by
  rcases hc with e | e
  · omega
  · have := lt p e.1; omega
 refine ⟨g.b.pop p1 p2 hp hne, (List.pairwise_append.mp g.so).1, fun x h1 h2 h3 c q1 q2 => ?_, fun x y h1 h2 h3 k1 k2 k3 => ?_⟩
 · by_cases e : x = a
   · subst e
     simp only [if_true] at q1 q2
     rcases hc with z | z
     · refine ⟨by omega, fun y => ?_⟩
       have := lt c y
       omega
     · have := lt p z.1
       refine ⟨by omega, fun y => ?_⟩
       have := z.2 c y
       omega
   · simp only [if_neg e] at q1 q2
     obtain ⟨u, v⟩ := g.sp x h1 h2 (old x h2 h3 e) c q1 q2
     exact ⟨u, fun z => v (by simp [z])⟩
 · rw [Bool.eq_false_iff]
   intro z
   obtain ⟨z1, z2, z3⟩ := crs_iff.mp z
   unfold tieF at z1 z2 z3
   by_cases e : x = a
   · subst e
     by_cases e2 : y = x
     · subst e2
       simp only [if_true] at z1 z2 z3
       omega
     · simp only [if_true, if_neg e2] at z1 z2 z3
       exact unh (max x p) (by omega) y k1 k2 (old y k2 k3 e2) ⟨by omega, by omega⟩
   · by_cases e2 : y = a
     · subst e2
       simp only [if_true, if_neg e] at z1 z2 z3
       exact unh (min y p) (by omega) x h1 h2 (old x h2 h3 e) ⟨by omega, by omega⟩
     · simp only [if_neg e, if_neg e2] at z1 z2 z3
       have := g.nc x y h1 h2 (old x h2 h3 e) k1 k2 (old y k2 k3 e2)
       rw [Bool.eq_false_iff] at this
       exact this (crs_iff.mpr ⟨z1, z2, z3⟩)
theorem PileC.popF {n fo a : Nat} {P : List Nat} {f tm : Nat → Nat} {T : Nat} (g : PileC n fo (P ++ [a]) f tm T) (p2 : fo ≤ n) : PileC n fo P (fun x => if x = a then fo else f x) (fun x => if x = a then T else tm x) (T + 1) :=
 g.popX g.f1 p2 (fun z => by omega) (fun _ => p2) (.inl rfl)
theorem PileC.popL {n fo a b : Nat} {P : List Nat} {f tm : Nat → Nat} {T : Nat} (g : PileC n fo (P ++ [b] ++ [a]) f tm T) : PileC n fo (P ++ [b]) (fun x => if x = a then b else f x) (fun x => if x = a then T else tm x) (T + 1) := by
 have gb := g.mem b (by simp)
 have f2 := g.f2
 refine g.popX gb.1 (by omega) (fun _ => by simp) (fun z => by simp at z) (.inr ⟨by simp, fun y hy => ?_⟩)
 rcases List.mem_append.mp hy with y1 | y1
 · exact Nat.le_of_lt ((List.pairwise_append.mp (List.pairwise_append.mp g.so).1).2.2 y y1 b (by simp))
 · rw [List.mem_singleton.mp y1]; exact Nat.le_refl _
def NoX (hs : List Nat) : Prop := ∀ x y, ¬ Crossed hs x y
theorem PileC.plain {n t : Nat} {f tm : Nat → Nat} {T : Nat} (g : PileC n (n + 1) [t] f tm T) : NoX (ofF n fun x => if x = t then 0 else f x) := by
 rintro x y ⟨x1, x2, y1, y2, h⟩
 rw [ofF_len] at x2 y2
 obtain ⟨z1, z2, z3⟩ := crs_iff.mp h
 unfold tieN at z1 z2 z3
 rw [up_ofF x1 x2, up_ofF y1 y2] at z1 z2 z3
 by_cases e2 : y = t
 · subst e2
   simp only [if_true] at z1 z2 z3
   omega
 · by_cases e : x = t
   · subst e
     simp only [if_true, if_neg e2] at z1 z2 z3
     have := (g.sp y y1 (by omega) (by simpa using e2) x (by omega) (by omega)).2
     exact this (by simp)
   · simp only [if_neg e, if_neg e2] at z1 z2 z3
     have := g.nc x y x1 (by omega) (by simpa using e) y1 (by omega) (by simpa using e2)
     rw [Bool.eq_false_iff] at this
     exact this (crs_iff.mpr ⟨z1, z2, z3⟩)
theorem PileC.hg {n t : Nat} {f tm : Nat → Nat} {T : Nat} (g : PileC n (n + 1) [t] f tm T) : Hg (ofF n fun x => if x = t then 0 else f x) := g.b.hg
end MH
end
section
namespace MH
theorem up_snoc_lt {s : List Nat} {o x : Nat} (h1 : 1 ≤ x) (h2 : x ≤ s.length) : up (s ++ [o]) x = up s x := by
 unfold up
 rw [List.getD, List.getD, List.getElem?_append_left (by lia)]
theorem up_snoc_eq {s : List Nat} {o : Nat} : up (s ++ [o]) (s.length + 1) = o := by
 unfold up
 rw [List.getD, Nat.add_sub_cancel, List.getElem?_append_right (Nat.le_refl _), Nat.sub_self]
 rfl
inductive Rc (s : List Nat) : Nat → Nat → Prop
 | refl {a : Nat} : Rc s a a
 | step {a b : Nat} : 1 ≤ a → a ≤ s.length → Rc s (up s a) b → Rc s a b
theorem Rc.step_iff {s : List Nat} {a b : Nat} (h1 : 1 ≤ a) (h2 : a ≤ s.length) (hb : s.length < b) : Rc s a b ↔ Rc s (up s a) b := by
 constructor
 · intro h
   cases h with
   | refl => lia
   | step _ _ h => exact h
 · exact Rc.step h1 h2
theorem Rc.stop {s : List Nat} {a b : Nat} (h : Rc s a b) (ha : a = 0 ∨ s.length < a) : a = b := by
 cases h with
 | refl => rfl
 | step h1 h2 _ => lia
def Fits (s : List Nat) (on : Nat) : Prop := if on = 0 then 0 ∉ s else ¬ Rc s on (s.length + 1)
noncomputable def tieP (x y : Nat) : Nat × Nat := (min x y, max x y)
theorem tieN_eq {s : List Nat} {x : Nat} : tieN s x = tieP x (up s x) := rfl
def NoC (s : List Nat) (on : Nat) : Prop := ∀ x, 1 ≤ x → x ≤ s.length → crs (tieP (s.length + 1) on) (tieN s x) = false ∧ crs (tieN s x) (tieP (s.length + 1) on) = false
def May (s : List Nat) (on : Nat) : Prop := Fits s on ∧ NoC s on
inductive Okp : List Nat → Prop
 | nil : Okp []
 | snoc {s : List Nat} {o : Nat} : Okp s → May s o → Okp (s ++ [o])
theorem snoc_inj {s t : List Nat} {o p : Nat} (e : s ++ [o] = t ++ [p]) : s = t ∧ o = p := by
 have := List.append_inj' e rfl
 exact ⟨this.1, by simpa using this.2⟩
theorem Okp.last {s : List Nat} {o : Nat} (h : Okp (s ++ [o])) : Okp s ∧ May s o := by
 generalize e : s ++ [o] = t at h
 cases h with
 | nil => simp at e
 | snoc h m => obtain ⟨rfl, rfl⟩ := snoc_inj e; exact ⟨h, m⟩
def Ac (s : List Nat) : Prop := ∃ rk : Nat → Nat, ∀ w, 1 ≤ w → w ≤ s.length → 1 ≤ up s w → up s w ≤ s.length → rk (up s w) < rk w
theorem rkBd (s : List Nat) (rk : Nat → Nat) : ∀ n : Nat, ∃ M, ∀ w, w ≤ n → rk w ≤ M
 | 0 => ⟨rk 0, fun w h => by rw [Nat.le_zero.mp h]; exact Nat.le_refl _⟩
 | n + 1 => by
  obtain ⟨M, hM⟩ := rkBd s rk n
  refine ⟨max M (rk (n + 1)), fun w h => ?_⟩
  by_cases e : w = n + 1
  · rw [e]; exact Nat.le_max_right ..
  · exact Nat.le_trans (hM w (by lia)) (Nat.le_max_left ..)
theorem Okp.ac {s : List Nat} (h : Okp s) : Ac s := by
 induction h with
 | nil => exact ⟨fun _ => 0, fun w h1 h2 => by simp at h2; lia⟩
 | @snoc s o _ m ih =>
  classical
  obtain ⟨rk, hrk⟩ := ih
  obtain ⟨M, hM⟩ := rkBd s rk s.length
  refine ⟨fun x => if x = s.length + 1 then M + 1 else if Rc s x (s.length + 1) then M + 2 + rk x else rk x, fun w h1 h2 h3 h4 => ?_⟩
  simp only [List.length_append, List.length_singleton] at h2 h4
  by_cases e : w = s.length + 1
  · subst e
    rw [up_snoc_eq] at h3 h4 ⊢
    have hf := m.1
    unfold Fits at hf
    rw [if_neg (by lia)] at hf
    have ne : o ≠ s.length + 1 := fun z => hf (z ▸ Rc.refl)
    dsimp only
    rw [if_neg ne, if_neg hf, if_pos rfl]
    have := hM o (by lia)
    lia
  · have w2 : w ≤ s.length := by lia
    rw [up_snoc_lt h1 w2] at h3 h4 ⊢
    dsimp only
    rw [if_neg e]
    by_cases e2 : up s w = s.length + 1
    · rw [if_pos e2, if_pos ((Rc.step_iff h1 w2 (by lia)).mpr (e2 ▸ Rc.refl))]
      lia
    · have := hrk w h1 w2 h3 (by lia)
      rw [if_neg e2]
      by_cases r : Rc s w (s.length + 1)
      · rw [if_pos r, if_pos ((Rc.step_iff h1 w2 (by lia)).mp r)]; lia
      · rw [if_neg r, if_neg fun z => r ((Rc.step_iff h1 w2 (by lia)).mpr z)]; exact this
theorem Okp.zero {s : List Nat} (h : Okp s) : ∀ i j : Nat, s[i]? = some 0 → s[j]? = some 0 → i = j := by
 induction h with
 | nil => intro i j h; simp at h
 | @snoc s o _ m ih =>
  intro i j hi hj
  have hf := m.1
  unfold Fits at hf
  have key : ∀ i : Nat, (s ++ [o])[i]? = some 0 → (i < s.length ∧ s[i]? = some 0) ∨ (i = s.length ∧ o = 0) := fun i hi => by
   by_cases c : i < s.length
   · rw [List.getElem?_append_left c] at hi; exact .inl ⟨c, hi⟩
   · rw [List.getElem?_append_right (by lia)] at hi
     cases k : i - s.length with
     | zero => rw [k] at hi; simp at hi; exact .inr ⟨by lia, hi⟩
     | succ k' => rw [k] at hi; simp at hi
  rcases key i hi with ⟨a, b⟩ | ⟨a, b⟩ <;> rcases key j hj with ⟨c, d⟩ | ⟨c, d⟩
  · exact ih i j b d
  · rw [if_pos d] at hf; exact absurd (List.mem_of_getElem? b) hf
  · rw [if_pos b] at hf; exact absurd (List.mem_of_getElem? d) hf
  · lia
theorem crs_self (p : Nat × Nat) : crs p p = false := by unfold crs; simp
theorem Okp.nox {s : List Nat} (h : Okp s) : NoX s := by
 induction h with
 | nil => intro x y h; obtain ⟨h1, h2, _⟩ := h; simp at h2; lia
 | @snoc s o _ m ih =>
  intro x y hc
  obtain ⟨x1, x2, y1, y2, c⟩ := hc
  simp only [List.length_append, List.length_singleton] at x2 y2
  have tl : ∀ z, 1 ≤ z → z ≤ s.length → tieN (s ++ [o]) z = tieN s z := fun z a b => by rw [tieN_eq, tieN_eq, up_snoc_lt a b]
  have te : tieN (s ++ [o]) (s.length + 1) = tieP (s.length + 1) o := by rw [tieN_eq, up_snoc_eq]
  by_cases ex : x = s.length + 1 <;> by_cases ey : y = s.length + 1
  · subst ex; subst ey; rw [crs_self] at c; exact Bool.noConfusion c
  · subst ex; rw [te, tl y y1 (by lia), (m.2 y y1 (by lia)).1] at c; exact Bool.noConfusion c
  · subst ey; rw [te, tl x x1 (by lia), (m.2 x x1 (by lia)).2] at c; exact Bool.noConfusion c
  · rw [tl x x1 (by lia), tl y y1 (by lia)] at c
    exact ih x y ⟨x1, by lia, y1, by lia, c⟩
theorem Okp.hg {s : List Nat} (h : Okp s) (h0 : 0 < s.length) (hle : ∀ x ∈ s, x ≤ s.length) : Hg s := by
 obtain ⟨rk, hrk⟩ := h.ac
 have ul : ∀ w, 1 ≤ w → w ≤ s.length → up s w ≤ s.length := fun w h1 h2 => hle _ (List.mem_of_getElem? (up_get h1 h2))
 refine ⟨h0, hle, ⟨rk, fun w h1 h2 h3 => hrk w h1 h2 (by lia) (ul w h1 h2)⟩, ?_⟩
 have : ∀ (m w : Nat), rk w ≤ m → 1 ≤ w → w ≤ s.length → ∃ t : Nat, s[t]? = some 0 := fun m => by
  induction m with
  | zero =>
   intro w hm h1 h2
   by_cases e : up s w = 0
   · exact ⟨w - 1, by rw [up_get h1 h2, e]⟩
   · have := hrk w h1 h2 (by lia) (ul w h1 h2); lia
  | succ m ih =>
   intro w hm h1 h2
   by_cases e : up s w = 0
   · exact ⟨w - 1, by rw [up_get h1 h2, e]⟩
   · have := hrk w h1 h2 (by lia) (ul w h1 h2)
     exact ih (up s w) (by lia) (by lia) (ul w h1 h2)
 obtain ⟨t, ht⟩ := this (rk 1) 1 (Nat.le_refl _) (Nat.le_refl _) h0
 exact ⟨t, ht, fun j hj => h.zero j t hj ht⟩
theorem up_take {h : List Nat} {k x : Nat} (h1 : 1 ≤ x) (h2 : x ≤ k) : up (h.take k) x = up h x := by
 unfold up
 rw [List.getD, List.getD, List.getElem?_take_of_lt (by lia)]
theorem ok_pre {h : List Nat} (g : Hg h) (nx : NoX h) : ∀ k, k ≤ h.length → Okp (h.take k)
 | 0, _ => by simp; exact .nil
 | k + 1, hk => by
  have ih := ok_pre g nx k (by lia)
  have hl : (h.take k).length = k := List.length_take_of_le (by lia)
  have e : h.take (k + 1) = h.take k ++ [up h (k + 1)] := by
   rw [List.take_succ_eq_append_getElem (by lia)]
   congr 2
   have := up_get (hs := h) (w := k + 1) (by lia) hk
   rw [Nat.add_sub_cancel, List.getElem?_eq_getElem (by lia)] at this
   exact Option.some.inj this
  rw [e]
  refine .snoc ih ⟨?_, fun x x1 x2 => ?_⟩
  · unfold Fits
    by_cases z : up h (k + 1) = 0
    · rw [if_pos z]
      intro hm
      obtain ⟨i, hi⟩ := List.mem_iff_getElem?.mp hm
      obtain ⟨t, _, hu⟩ := g.one
      have hik : i < k := by
       by_cases c : i < k
       · exact c
       · rw [List.getElem?_eq_none (by lia)] at hi; cases hi
      rw [List.getElem?_take_of_lt hik] at hi
      have a := hu i hi
      have b := hu k (by have := up_get (hs := h) (w := k + 1) (by lia) hk; rw [Nat.add_sub_cancel, z] at this; exact this)
      lia
    · rw [if_neg z, hl]
      obtain ⟨rk, hrk⟩ := g.rk
      have key : ∀ {a b : Nat}, Rc (h.take k) a b → b = k + 1 → rk b ≤ rk a := fun {a b} r => by
       induction r with
       | refl => intro _; exact Nat.le_refl _
       | @step a b h1 h2 r ih =>
        intro eb
        have i := ih eb
        rw [hl] at h2
        rw [up_take h1 h2] at i r
        have nz : up h a ≠ 0 := fun e0 => by
         have := r.stop (.inl e0); lia
        have := hrk a h1 (by lia) nz
        lia
      intro r
      have := key r rfl
      have := hrk (k + 1) (by lia) hk z
      lia
  · rw [hl] at x2 ⊢
    have tx : tieN (h.take k) x = tieN h x := by rw [tieN_eq, tieN_eq, up_take x1 x2]
    rw [tx]
    have n1 := nx (k + 1) x
    have n2 := nx x (k + 1)
    rw [show tieP (k + 1) (up h (k + 1)) = tieN h (k + 1) from rfl]
    constructor
    · cases c : crs (tieN h (k + 1)) (tieN h x) with
      | false => rfl
      | true => exact absurd ⟨by lia, hk, x1, by lia, c⟩ n1
    · cases c : crs (tieN h x) (tieN h (k + 1)) with
      | false => rfl
      | true => exact absurd ⟨x1, by lia, by lia, hk, c⟩ n2
theorem Hg.ok {h : List Nat} (g : Hg h) (nx : NoX h) : Okp h := by
 have := ok_pre g nx h.length (Nat.le_refl _)
 rwa [List.take_length] at this
structure Pl (n : Nat) (g : List Nat) : Prop where
 ok : Okp g
 len : g.length = n
 le : ∀ x ∈ g, x ≤ n
theorem Pl.hg {n : Nat} {g : List Nat} (h : Pl n g) (h0 : 0 < n) : Hg g := h.ok.hg (by rw [h.len]; exact h0) (fun x hx => by rw [h.len]; exact h.le x hx)
theorem Pl.of {g : List Nat} (h : Hg g) (nx : NoX g) : Pl g.length g := ⟨h.ok nx, rfl, h.le⟩
theorem Pl.take {n : Nat} {g : List Nat} (h : Pl n g) (h0 : 0 < n) (k : Nat) (hk : k ≤ n) : Okp (g.take k) := ok_pre (h.hg h0) h.ok.nox k (by rw [h.len]; exact hk)
theorem Pl.may {n : Nat} {g : List Nat} (h : Pl n g) (h0 : 0 < n) {k x : Nat} (e : g[k]? = some x) : May (g.take k) x := by
 have hk : k < g.length := by
  by_cases c : k < g.length
  · exact c
  · rw [List.getElem?_eq_none (by lia)] at e; cases e
 have := h.take h0 (k + 1) (by have := h.len; lia)
 rw [List.take_succ_eq_append_getElem hk] at this
 rw [List.getElem?_eq_getElem hk] at e
 rw [Option.some.inj e] at this
 exact this.last.2
def ltL : List Nat → List Nat → Prop
 | a :: as, b :: bs => a < b ∨ (a = b ∧ ltL as bs)
 | _, _ => False
noncomputable def va (B : Nat) : Nat → List Nat → Nat
 | p, [] => p
 | p, x :: xs => va B (p * B + x) xs
theorem va_snoc {B : Nat} {x : Nat} : ∀ {p : Nat} {l : List Nat}, va B p (l ++ [x]) = va B p l * B + x
 | _, [] => rfl
 | p, y :: l => va_snoc (p := p * B + y) (l := l)
theorem mul_lt_iff {B p q x y : Nat} (hx : x < B) (hy : y < B) : p * B + x < q * B + y ↔ p < q ∨ (p = q ∧ x < y) := by
 rcases Nat.lt_trichotomy p q with h | h | h
 · have := Nat.mul_le_mul_right B (Nat.succ_le_of_lt h)
   rw [Nat.succ_mul] at this
   constructor
   · intro _; exact .inl h
   · intro _; lia
 · subst h; lia
 · have := Nat.mul_le_mul_right B (Nat.succ_le_of_lt h)
   rw [Nat.succ_mul] at this
   constructor
   · intro _; lia
   · rintro (z | ⟨z, _⟩) <;> lia
theorem va_lt {B : Nat} : ∀ {a b : List Nat} {p q : Nat}, a.length = b.length → (∀ x ∈ a, x < B) → (∀ x ∈ b, x < B) → (va B p a < va B q b ↔ p < q ∨ (p = q ∧ ltL a b))
 | [], [], p, q, _, _, _ => by simp [va, ltL]
 | [], _ :: _, _, _, h, _, _ => by simp at h
 | _ :: _, [], _, _, h, _, _ => by simp at h
 | x :: as, y :: bs, p, q, h, ha, hb => by
  have hx := ha x (by simp)
  have hy := hb y (by simp)
  have e : ∀ {p q : Nat}, p * B + x = q * B + y ↔ p = q ∧ x = y := fun {p q} => by
   have a := mul_lt_iff (p := p) (q := q) hx hy
   have b := mul_lt_iff (p := q) (q := p) hy hx
   constructor
   · intro z; lia
   · rintro ⟨rfl, rfl⟩; rfl
  show va B (p * B + x) as < va B (q * B + y) bs ↔ p < q ∨ p = q ∧ (x < y ∨ x = y ∧ ltL as bs)
  rw [va_lt (by simpa using h) (fun z hz => ha z (by simp [hz])) (fun z hz => hb z (by simp [hz])), mul_lt_iff hx hy, e]
  constructor
  · rintro ((z | ⟨z, u⟩) | ⟨⟨z, u⟩, v⟩)
    · exact .inl z
    · exact .inr ⟨z, .inl u⟩
    · exact .inr ⟨z, .inr ⟨u, v⟩⟩
  · rintro (z | ⟨z, u | ⟨u, v⟩⟩)
    · exact .inl (.inl z)
    · exact .inl (.inr ⟨z, u⟩)
    · exact .inr ⟨⟨z, u⟩, v⟩
theorem ltL_tri : ∀ {a b : List Nat}, a.length = b.length → ltL a b ∨ a = b ∨ ltL b a
 | [], [], _ => .inr (.inl rfl)
 | [], _ :: _, h => by simp at h
 | _ :: _, [], h => by simp at h
 | x :: as, y :: bs, h => by
  rcases Nat.lt_trichotomy x y with z | z | z
  · exact .inl (.inl z)
  · subst z
    rcases ltL_tri (a := as) (b := bs) (by simpa using h) with u | u | u
    · exact .inl (.inr ⟨rfl, u⟩)
    · exact .inr (.inl (by rw [u]))
    · exact .inr (.inr (.inr ⟨rfl, u⟩))
  · exact .inr (.inr (.inl z))
theorem va_inj {B : Nat} {a b : List Nat} (h : a.length = b.length) (ha : ∀ x ∈ a, x < B) (hb : ∀ x ∈ b, x < B) (e : va B 0 a = va B 0 b) : a = b := by
 rcases ltL_tri h with z | z | z
 · have := (va_lt (p := 0) (q := 0) h ha hb).mpr (.inr ⟨rfl, z⟩); lia
 · exact z
 · have := (va_lt (p := 0) (q := 0) h.symm hb ha).mpr (.inr ⟨rfl, z⟩); lia
theorem va_ltL {B : Nat} {a b : List Nat} (h : a.length = b.length) (ha : ∀ x ∈ a, x < B) (hb : ∀ x ∈ b, x < B) : va B 0 a < va B 0 b ↔ ltL a b := by
 rw [va_lt h ha hb]
 constructor
 · rintro (z | ⟨_, z⟩)
   · lia
   · exact z
 · exact fun z => .inr ⟨rfl, z⟩
theorem va_pow {B : Nat} : ∀ {a : List Nat} {p : Nat}, (∀ x ∈ a, x < B) → va B p a < (p + 1) * B ^ a.length
 | [], p, _ => by simp [va]
 | x :: as, p, h => by
  have := va_pow (a := as) (p := p * B + x) (fun z hz => h z (by simp [hz]))
  have hx := h x (by simp)
  show va B (p * B + x) as < _
  refine Nat.lt_of_lt_of_le this ?_
  rw [List.length_cons, Nat.pow_succ, Nat.mul_comm (B ^ as.length) B, ← Nat.mul_assoc]
  refine Nat.mul_le_mul_right _ ?_
  rw [Nat.succ_mul]
  lia
theorem va_set {B : Nat} : ∀ {a : List Nat} {p i x y : Nat}, a[i]? = some x → va B p (a.set i y) + x * B ^ (a.length - 1 - i) = va B p a + y * B ^ (a.length - 1 - i)
 | [], _, _, _, _, h => by simp at h
 | z :: as, p, 0, x, y, h => by
  simp at h
  subst h
  have sh : ∀ {a : List Nat} {p d : Nat}, va B (p + d) a = va B p a + d * B ^ a.length := fun {a} => by
   induction a with
   | nil => intro p d; simp [va]
   | cons u as ih =>
    intro p d
    show va B ((p + d) * B + u) as = va B (p * B + u) as + d * B ^ (as.length + 1)
    rw [show (p + d) * B + u = (p * B + u) + d * B by rw [Nat.add_mul]; lia, ih, Nat.pow_succ, Nat.mul_assoc, Nat.mul_comm B]
  show va B (p * B + y) as + z * B ^ (as.length + 1 - 1 - 0) = va B (p * B + z) as + y * B ^ (as.length + 1 - 1 - 0)
  rw [Nat.add_sub_cancel, Nat.sub_zero, sh, sh]
  lia
 | z :: as, p, i + 1, x, y, h => by
  have := va_set (B := B) (a := as) (p := p * B + z) (i := i) (x := x) (y := y) (by simpa using h)
  show va B (p * B + z) (as.set i y) + x * B ^ (as.length + 1 - 1 - (i + 1)) = va B (p * B + z) as + y * B ^ (as.length + 1 - 1 - (i + 1))
  rw [show as.length + 1 - 1 - (i + 1) = as.length - 1 - i by lia]
  exact this
end MH
end
section
namespace MH
noncomputable def pre (g : List Nat) (j : Nat) : Nat := va 100 0 (g.take j)
theorem pre_succ {g : List Nat} {j x : Nat} (h : g[j]? = some x) : pre g (j + 1) = pre g j * 100 + x := by
 unfold pre
 have hj : j < g.length := by
  by_cases c : j < g.length
  · exact c
  · rw [List.getElem?_eq_none (by lia)] at h; cases h
 rw [List.getElem?_eq_getElem hj] at h
 rw [List.take_succ_eq_append_getElem hj, va_snoc, Option.some.inj h]
theorem pre_all {g : List Nat} {n : Nat} (h : g.length = n) : pre g n = va 100 0 g := by unfold pre; rw [← h, List.take_length]
structure Nx (n : Nat) (h s : List Nat) (low : Nat) : Prop where
 ok : Okp s
 le : ∀ x ∈ s, x ≤ n
 len : s.length ≤ n
 lo : low ≤ n + 1
 z : s.length = n → low = 0
 iff : s.length < n → ∀ g, Pl n g → (va 100 0 h < va 100 0 g ↔ va 100 0 s * 100 + low ≤ pre g (s.length + 1))
 fin : s.length = n → ∀ g, Pl n g → (va 100 0 h < va 100 0 g ↔ va 100 0 s ≤ va 100 0 g)
theorem Nx.start {n : Nat} {h : List Nat} (p : Pl n h) (h0 : 0 < n) (hn : n ≤ 12) {s : List Nat} {x : Nat} (e : h = s ++ [x]) : Nx n h s (x + 1) := by
 have hl := p.len
 rw [e, List.length_append, List.length_singleton] at hl
 have hx : x ≤ n := p.le x (by rw [e]; simp)
 have hv : va 100 0 h = va 100 0 s * 100 + x := by rw [e, va_snoc]
 refine ⟨(e ▸ p.ok).last.1, fun y hy => p.le y (by rw [e]; simp [hy]), by lia, by lia, fun z => by lia, fun _ g pg => ?_, fun z => by lia⟩
 rw [hl, pre_all pg.len, hv]
 lia
theorem small {n : Nat} {g : List Nat} (hn : n ≤ 12) (h : ∀ x ∈ g, x ≤ n) : ∀ x ∈ g, x < 100 := fun x hx => by have := h x hx; lia
theorem Pl.getx {n : Nat} {g : List Nat} (pg : Pl n g) {k : Nat} (hk : k < n) : ∃ x, g[k]? = some x ∧ x ≤ n := by
 have := pg.len
 exact ⟨g[k], List.getElem?_eq_getElem (by lia), pg.le _ (List.getElem_mem _)⟩
theorem Nx.same {n : Nat} {h s : List Nat} {low : Nat} (N : Nx n h s low) (hn : n ≤ 12) {g : List Nat} (pg : Pl n g) (e : pre g s.length = va 100 0 s) : g.take s.length = s := by
 refine va_inj (B := 100) (List.length_take_of_le (by have := pg.len; have := N.len; lia)) (fun x hx => small hn pg.le x (List.mem_of_mem_take hx)) (small hn N.le) e
theorem Nx.push {n : Nat} {h s : List Nat} {low o : Nat} (N : Nx n h s low) (h0 : 0 < n) (hn : n ≤ 12) (hk : s.length < n) (m : May s o) (o1 : low ≤ o) (o2 : o ≤ n) (hno : ∀ x, low ≤ x → x < o → ¬ May s x) : Nx n h (s ++ [o]) 0 := by
 have hl : (s ++ [o]).length = s.length + 1 := by simp
 have key : ∀ g, Pl n g → (va 100 0 h < va 100 0 g ↔ va 100 0 (s ++ [o]) ≤ pre g (s.length + 1)) := fun g pg => by
  rw [N.iff hk g pg, va_snoc]
  obtain ⟨x, hx, hxn⟩ := pg.getx hk
  rw [pre_succ hx]
  rcases Nat.lt_trichotomy (pre g s.length) (va 100 0 s) with c | c | c
  · lia
  · have mx := pg.may h0 hx
    rw [N.same hn pg c] at mx
    rw [c]
    constructor
    · intro z
      by_cases y : x < o
      · exact absurd mx (hno x (by lia) y)
      · lia
    · intro z; lia
  · lia
 refine ⟨.snoc N.ok m, fun x hx => ?_, by rw [hl]; lia, by lia, fun _ => rfl, fun hk2 g pg => ?_, fun e g pg => ?_⟩
 · rcases List.mem_append.mp hx with y | y
   · exact N.le x y
   · rw [List.mem_singleton.mp y]; exact o2
 · rw [hl] at hk2 ⊢
   obtain ⟨x, hx, hxn⟩ := pg.getx hk2
   rw [key g pg, pre_succ hx]
   lia
 · rw [hl] at e
   rw [key g pg, e, pre_all pg.len]
theorem Nx.none {n : Nat} {h s : List Nat} {low : Nat} (N : Nx n h s low) (h0 : 0 < n) (hn : n ≤ 12) (hk : s.length < n) (hno : ∀ x, low ≤ x → x ≤ n → ¬ May s x) : ∀ g, Pl n g → (va 100 0 h < va 100 0 g ↔ va 100 0 s < pre g s.length) := fun g pg => by
 rw [N.iff hk g pg]
 obtain ⟨x, hx, hxn⟩ := pg.getx hk
 rw [pre_succ hx]
 have := N.lo
 rcases Nat.lt_trichotomy (pre g s.length) (va 100 0 s) with c | c | c
 · lia
 · have mx := pg.may h0 hx
   rw [N.same hn pg c] at mx
   rw [c]
   constructor
   · intro z
     exact absurd mx (hno x (by lia) hxn)
   · intro z; lia
 · lia
theorem Nx.pop {n : Nat} {h s t : List Nat} {low x : Nat} (N : Nx n h s low) (h0 : 0 < n) (hn : n ≤ 12) (hk : s.length < n) (hno : ∀ x, low ≤ x → x ≤ n → ¬ May s x) (e : s = t ++ [x]) : Nx n h t (x + 1) := by
 have hv : va 100 0 s = va 100 0 t * 100 + x := by rw [e, va_snoc]
 have hl : s.length = t.length + 1 := by rw [e]; simp
 have hx := N.le x (by rw [e]; simp)
 refine ⟨(e ▸ N.ok).last.1, fun y hy => N.le y (by rw [e]; simp [hy]), by lia, by lia, fun z => by lia, fun _ g pg => ?_, fun z => by lia⟩
 rw [N.none h0 hn hk hno g pg, hv, hl]
 lia
theorem Nx.end {n : Nat} {h s : List Nat} {low : Nat} (N : Nx n h s low) (h0 : 0 < n) (hn : n ≤ 12) (hno : ∀ x, low ≤ x → x ≤ n → ¬ May s x) (e : s = []) : ∀ g, Pl n g → ¬ va 100 0 h < va 100 0 g := fun g pg z => by
 have := (N.none h0 hn (by rw [e]; exact h0) hno g pg).mp z
 subst e
 exact absurd this (by unfold pre; simp)
noncomputable def nxW (n : Nat) (s : List Nat) (low : Nat) : Nat := va 100 0 s * 100 ^ (n - s.length) + low * 100 ^ (n - 1 - s.length)
noncomputable def nxM (n : Nat) (s : List Nat) (low : Nat) : Nat := (100 ^ n - nxW n s low) * 13 + (n - s.length)
theorem Nx.bd {n : Nat} {h s : List Nat} {low : Nat} (N : Nx n h s low) (hn : n ≤ 12) : nxW n s low < 100 ^ n := by
 have v := va_pow (B := 100) (p := 0) (small hn N.le)
 rw [Nat.zero_add, Nat.one_mul] at v
 have hl := N.len
 have lo := N.lo
 unfold nxW
 by_cases e : s.length = n
 · rw [N.z e, e, Nat.sub_self, Nat.zero_mul, Nat.pow_zero, Nat.mul_one, Nat.add_zero]
   rw [e] at v; exact v
 · have e1 : n - s.length = (n - 1 - s.length) + 1 := by lia
   have e2 : 100 ^ n = 100 ^ s.length * 100 ^ (n - s.length) := by rw [← Nat.pow_add]; congr 1; lia
   rw [e2]
   have e3 : 100 ^ (n - s.length) = 100 ^ (n - 1 - s.length) * 100 := by rw [e1, Nat.pow_succ]
   have p0 : 0 < 100 ^ (n - 1 - s.length) := Nat.pow_pos (by lia)
   generalize 100 ^ (n - s.length) = A at *
   generalize 100 ^ (n - 1 - s.length) = D at *
   have h1 := Nat.mul_le_mul_right A (Nat.succ_le_of_lt v)
   rw [Nat.succ_mul] at h1
   have h2 : low * D ≤ 13 * D := Nat.mul_le_mul_right D (by lia)
   lia
theorem Nx.push_lt {n : Nat} {h s : List Nat} {low o : Nat} (N : Nx n h s low) (hn : n ≤ 12) (hk : s.length < n) (o1 : low ≤ o) (N' : Nx n h (s ++ [o]) 0) : nxM n (s ++ [o]) 0 < nxM n s low := by
 have b := N'.bd hn
 have hl : (s ++ [o]).length = s.length + 1 := by simp
 have w : nxW n s low ≤ nxW n (s ++ [o]) 0 := by
  unfold nxW
  rw [hl, va_snoc, Nat.zero_mul, Nat.add_zero]
  have e3 : 100 ^ (n - s.length) = 100 * 100 ^ (n - 1 - s.length) := by rw [show n - s.length = (n - 1 - s.length) + 1 by lia, Nat.pow_succ, Nat.mul_comm]
  rw [show n - (s.length + 1) = n - 1 - s.length by lia, e3, Nat.add_mul, Nat.mul_assoc]
  have := Nat.mul_le_mul_right (100 ^ (n - 1 - s.length)) o1
  lia
 unfold nxM
 rw [hl]
 lia
theorem Nx.pop_lt {n : Nat} {h s t : List Nat} {low x : Nat} (N : Nx n h s low) (hn : n ≤ 12) (hk : s.length < n) (e : s = t ++ [x]) (N' : Nx n h t (x + 1)) : nxM n t (x + 1) < nxM n s low := by
 have b := N'.bd hn
 have hl : s.length = t.length + 1 := by rw [e]; simp
 have lo := N.lo
 have w : nxW n s low < nxW n t (x + 1) := by
  unfold nxW
  have hv : va 100 0 s = va 100 0 t * 100 + x := by rw [e, va_snoc]
  rw [hv, hl]
  have e1 : 100 ^ (n - (t.length + 1)) = 100 * 100 ^ (n - 1 - (t.length + 1)) := by rw [show n - (t.length + 1) = (n - 1 - (t.length + 1)) + 1 by lia, Nat.pow_succ, Nat.mul_comm]
  have e2 : 100 ^ (n - t.length) = 100 * 100 ^ (n - (t.length + 1)) := by rw [show n - t.length = (n - (t.length + 1)) + 1 by lia, Nat.pow_succ, Nat.mul_comm]
  have e3 : n - 1 - t.length = n - (t.length + 1) := by lia
  have p0 : 0 < 100 ^ (n - 1 - (t.length + 1)) := Nat.pow_pos (by lia)
  rw [e3, e2, e1]
  generalize 100 ^ (n - 1 - (t.length + 1)) = D at *
  have h2 : low * D ≤ 13 * D := Nat.mul_le_mul_right D (by lia)
  have h3 : va 100 0 t * (100 * (100 * D)) = (va 100 0 t * 100) * (100 * D) := by rw [Nat.mul_assoc]
  rw [h3, Nat.add_mul, Nat.add_mul x 1]
  lia
 unfold nxM
 have : 13 * (nxW n t (x + 1) - nxW n s low) ≥ 13 := by lia
 have := N.len
 lia
def NxA (n : Nat) (h : List Nat) : Option (List Nat) → Prop
 | .none => ∀ g, Pl n g → ¬ va 100 0 h < va 100 0 g
 | .some r => Pl n r ∧ va 100 0 h < va 100 0 r ∧ ∀ g, Pl n g → va 100 0 h < va 100 0 g → va 100 0 r ≤ va 100 0 g
theorem Nx.answer {n : Nat} {h s : List Nat} {low : Nat} (N : Nx n h s low) (e : s.length = n) : NxA n h (some s) := by
 have p : Pl n s := ⟨N.ok, e, N.le⟩
 exact ⟨p, (N.fin e s p).mpr (Nat.le_refl _), fun g pg z => (N.fin e g pg).mp z⟩
open Classical in
noncomputable def mayB (s : List Nat) (o : Nat) : Bool := decide (May s o)
theorem mayB_iff {s : List Nat} {o : Nat} : mayB s o = true ↔ May s o := @decide_eq_true_iff _ (_)
noncomputable def grow (n : Nat) : Nat → List (List Nat)
 | 0 => [[]]
 | k + 1 => (grow n k).flatMap fun s => ((List.range (n + 1)).filter (mayB s)).map fun o => s ++ [o]
theorem mem_grow {n : Nat} : ∀ {k : Nat} {s : List Nat}, s ∈ grow n k ↔ Okp s ∧ s.length = k ∧ ∀ x ∈ s, x ≤ n
 | 0, s => by
  unfold grow
  rw [List.mem_singleton]
  constructor
  · rintro rfl; exact ⟨.nil, rfl, fun x hx => by simp at hx⟩
  · rintro ⟨_, h, _⟩; exact List.length_eq_zero_iff.mp h
 | k + 1, s => by
  show s ∈ (grow n k).flatMap _ ↔ _
  rw [List.mem_flatMap]
  constructor
  · rintro ⟨t, ht, h⟩
    obtain ⟨o, ho, rfl⟩ := List.mem_map.mp h
    obtain ⟨o1, o2⟩ := List.mem_filter.mp ho
    obtain ⟨a, b, c⟩ := mem_grow.mp ht
    refine ⟨.snoc a (mayB_iff.mp o2), by simp [b], fun x hx => ?_⟩
    rcases List.mem_append.mp hx with y | y
    · exact c x y
    · rw [List.mem_singleton.mp y]; have := List.mem_range.mp o1; lia
  · rintro ⟨a, b, c⟩
    rcases List.eq_nil_or_concat s with e | ⟨t, o, e⟩
    · rw [e] at b; simp at b
    · rw [List.concat_eq_append] at e
      subst e
      have l := a.last
      refine ⟨t, mem_grow.mpr ⟨l.1, by simpa using b, fun x hx => c x (by simp [hx])⟩, List.mem_map.mpr ⟨o, List.mem_filter.mpr ⟨List.mem_range.mpr (by have := c o (by simp); lia), mayB_iff.mpr l.2⟩, rfl⟩⟩
theorem pair_flat {α β : Type} {R : β → β → Prop} {S : α → α → Prop} {f : α → List β} : ∀ {l : List α}, l.Pairwise S → (∀ a ∈ l, (f a).Pairwise R) → (∀ a ∈ l, ∀ b ∈ l, S a b → ∀ x ∈ f a, ∀ y ∈ f b, R x y) → (l.flatMap f).Pairwise R
 | [], _, _, _ => List.Pairwise.nil
 | a :: l, h, h1, h2 => by
  rw [List.flatMap_cons, List.pairwise_append]
  obtain ⟨ha, hl⟩ := List.pairwise_cons.mp h
  refine ⟨h1 a (by simp), pair_flat hl (fun b hb => h1 b (by simp [hb])) (fun b hb c hc => h2 b (by simp [hb]) c (by simp [hc])), fun x hx y hy => ?_⟩
  obtain ⟨b, hb, hy⟩ := List.mem_flatMap.mp hy
  exact h2 a (by simp) b (by simp [hb]) (ha b hb) x hx y hy
theorem grow_srt {n : Nat} (hn : n ≤ 12) : ∀ (k : Nat), (grow n k).Pairwise fun a b => va 100 0 a < va 100 0 b
 | 0 => List.pairwise_singleton ..
 | k + 1 => by
  refine pair_flat (grow_srt hn k) (fun s hs => ?_) (fun s hs t ht c x hx y hy => ?_)
  · rw [List.pairwise_map]
    refine List.Pairwise.filter _ (List.Pairwise.imp ?_ List.pairwise_lt_range)
    intro a b h
    rw [va_snoc, va_snoc]
    lia
  · obtain ⟨o, ho, rfl⟩ := List.mem_map.mp hx
    obtain ⟨p, hp, rfl⟩ := List.mem_map.mp hy
    have := List.mem_range.mp (List.mem_filter.mp ho).1
    rw [va_snoc, va_snoc]
    lia
theorem mem_all {n : Nat} {s : List Nat} : s ∈ grow n n ↔ Pl n s := mem_grow.trans ⟨fun ⟨a, b, c⟩ => ⟨a, b, c⟩, fun h => ⟨h.ok, h.len, h.le⟩⟩
theorem star_ok : ∀ j : Nat, Okp (0 :: List.replicate j 1)
 | 0 => Okp.snoc (s := []) .nil ⟨by unfold Fits; simp, fun x h1 h2 => by simp at h2; lia⟩
 | j + 1 => by
  rw [List.replicate_succ', ← List.cons_append]
  have hl : (0 :: List.replicate j 1).length = j + 1 := by simp
  have u1 : up (0 :: List.replicate j 1) 1 = 0 := rfl
  have ux : ∀ x, 2 ≤ x → x ≤ j + 1 → up (0 :: List.replicate j 1) x = 1 := fun x h1 h2 => by
   unfold up
   rw [show x - 1 = (x - 2) + 1 by lia, List.getD_cons_succ, List.getD, List.getElem?_replicate, if_pos (by lia)]
   rfl
  refine .snoc (star_ok j) ⟨?_, fun x h1 h2 => ?_⟩
  · unfold Fits
    rw [if_neg (by decide), hl]
    intro r
    cases r with
    | step _ _ r => rw [u1] at r; have := r.stop (.inl rfl); lia
  · rw [hl] at h2 ⊢
    rw [tieN_eq]
    by_cases e : x = 1
    · subst e
      rw [u1]
      constructor <;> (unfold crs tieP; simp; try lia)
    · rw [ux x (by lia) h2]
      constructor <;> (unfold crs tieP; simp; try lia)
theorem grow_ne {n : Nat} (h0 : 0 < n) : grow n n ≠ [] := fun e => by
 have : (0 :: List.replicate (n - 1) 1) ∈ grow n n := mem_all.mpr ⟨star_ok _, by simp; lia, fun x hx => by
  rcases List.mem_cons.mp hx with z | z
  · lia
  · have := (List.mem_replicate.mp z).2; lia⟩
 rw [e] at this
 simp at this
theorem next_in {n : Nat} (hn : n ≤ 12) {i : Nat} {h : List Nat} {r : Option (List Nat)} (e : (grow n n)[i]? = some h) (a : NxA n h r) : r = (grow n n)[i + 1]? := by
 have hi : i < (grow n n).length := by
  by_cases c : i < (grow n n).length
  · exact c
  · rw [List.getElem?_eq_none (by lia)] at e; cases e
 have srt := grow_srt hn n
 have lt : ∀ a b (ha : a < (grow n n).length) (hb : b < (grow n n).length), a < b → va 100 0 (grow n n)[a] < va 100 0 (grow n n)[b] := List.pairwise_iff_getElem.mp srt
 rw [List.getElem?_eq_getElem hi] at e
 have eh := Option.some.inj e
 by_cases c : i + 1 < (grow n n).length
 · rw [List.getElem?_eq_getElem c]
   have pn : Pl n (grow n n)[i + 1] := mem_all.mp (List.getElem_mem _)
   have ln := lt i (i + 1) hi c (by lia)
   rw [eh] at ln
   cases r with
   | none => exact absurd ln (a _ pn)
   | some g =>
    obtain ⟨pg, gl, gm⟩ := a
    obtain ⟨j, hj, ej⟩ := List.mem_iff_getElem.mp (mem_all.mpr pg)
    have l1 := gm _ pn ln
    have : j = i + 1 := by
     rcases Nat.lt_trichotomy j (i + 1) with z | z | z
     · by_cases y : j = i
       · subst y; rw [eh] at ej; rw [ej] at gl; lia
       · have := lt j i hj hi (by lia); rw [ej, eh] at this; lia
     · exact z
     · have := lt (i + 1) j c hj z; rw [ej] at this; lia
    subst this
    rw [ej]
 · rw [List.getElem?_eq_none (by lia)]
   cases r with
   | none => rfl
   | some g =>
    obtain ⟨pg, gl, gm⟩ := a
    obtain ⟨j, hj, ej⟩ := List.mem_iff_getElem.mp (mem_all.mpr pg)
    by_cases y : j = i
    · subst y; rw [eh] at ej; rw [ej] at gl; lia
    · have := lt j i hj hi (by lia); rw [ej, eh] at this; lia
theorem last_of_none {n : Nat} (hn : n ≤ 12) {h : List Nat} (p : Pl n h) (a : NxA n h .none) : (grow n n)[(grow n n).length - 1]? = some h := by
 obtain ⟨i, hi, ei⟩ := List.mem_iff_getElem.mp (mem_all.mpr p)
 have e : (grow n n)[i]? = some h := by rw [List.getElem?_eq_getElem hi, ei]
 have := next_in hn e a
 have c : ¬ i + 1 < (grow n n).length := fun c => by rw [List.getElem?_eq_getElem c] at this; cases this
 rw [show (grow n n).length - 1 = i by lia]
 exact e
end MH
end
section
namespace K08
open PySem L2 LB LD PyProof.Rows
noncomputable def top (i : Nat) : Stmt := PySem.Challenge.pw_hungwords_k08_the_next_plain_one.main.body.getD i (.Pass ⟨0, 0, 0, 0⟩)
noncomputable abbrev sTie : Stmt := top 1
noncomputable abbrev sCross : Stmt := top 2
noncomputable abbrev sTies : Stmt := top 3
noncomputable abbrev sAllPlain : Stmt := top 5
noncomputable abbrev sGrown : Stmt := top 6
noncomputable abbrev sFits : Stmt := top 7
noncomputable abbrev sFitsPlain : Stmt := top 8
noncomputable abbrev sNextPlain : Stmt := top 9
noncomputable abbrev sLBegin : Stmt := top 11
noncomputable abbrev sLTake : Stmt := top 12
noncomputable abbrev sLIsHung : Stmt := top 13
noncomputable abbrev sLCrossed : Stmt := top 14
noncomputable abbrev sLSame : Stmt := top 15
noncomputable abbrev sLPlain : Stmt := top 16
noncomputable abbrev sLBetween : Stmt := top 17
noncomputable abbrev sLaw : Stmt := top 18
structure Txt (mg : Str → Option Value) : Prop where
 isi : mg "isinstance" = none
 len : mg "len" = none
 enu : mg "enumerate" = none
 tup : mg "tuple" = none
 int : mg "int" = none
 bool : mg "bool" = none
 rng : mg "range" = none
 lst : mg "list" = none
 dvm : mg "divmod" = none
 all : mg "all" = none
 str : mg "str" = none
 zip : mg "zip" = none
 srt : mg "sorted" = none
 max : mg "max" = none
 min : mg "min" = none
 dct : mg "dict" = none
 any : mg "any" = none
theorem scTie : FnScope ["word", "on"] ["word", "on"] (defScope sTie) := ⟨rfl, rfl, rfl, by decide +kernel, rfl, by decide +kernel, by decide +kernel⟩
theorem scCross : FnScope ["first", "second"] ["first", "second"] (defScope sCross) := ⟨rfl, rfl, rfl, by decide +kernel, rfl, by decide +kernel, by decide +kernel⟩
theorem scTies : FnScope ["h"] ["h"] (defScope sTies) := ⟨rfl, rfl, rfl, by decide +kernel, rfl, by decide +kernel, by decide +kernel⟩
theorem scAllPlain : FnScope ["n"] ["n"] (defScope sAllPlain) := ⟨rfl, rfl, rfl, by decide +kernel, rfl, by decide +kernel, by decide +kernel⟩
theorem scGrown : FnScope ["n", "may_follow", "starts", "word"] ["n", "may_follow"] (defScope sGrown) := ⟨rfl, rfl, rfl, by decide +kernel, rfl, by decide +kernel, by decide +kernel⟩
theorem scFits : FnScope ["start", "on", "word", "at"] ["start", "on"] (defScope sFits) := ⟨rfl, rfl, rfl, by decide +kernel, rfl, by decide +kernel, by decide +kernel⟩
theorem scFitsPlain : FnScope ["start", "on", "new"] ["start", "on"] (defScope sFitsPlain) := ⟨rfl, rfl, rfl, by decide +kernel, rfl, by decide +kernel, by decide +kernel⟩
theorem scNextPlain : FnScope ["h", "start", "low", "ons"] ["h"] (defScope sNextPlain) := ⟨rfl, rfl, rfl, by decide +kernel, rfl, by decide +kernel, by decide +kernel⟩
theorem scLBegin : FnScope ["_law_script"] ["_law_script"] (defScope sLBegin) := ⟨rfl, rfl, rfl, by decide +kernel, rfl, by decide +kernel, by decide +kernel⟩
theorem scLTake : FnScope ["_law_box", "_law_many", "_law_turn", "_law_place", "_law_cell", "_law_digit", "_law_mixed"] ["_law_box", "_law_many"] (defScope sLTake) := ⟨rfl, rfl, rfl, by decide +kernel, rfl, by decide +kernel, by decide +kernel⟩
theorem scLIsHung : FnScope ["_law_h", "_law_placed", "_law_turn", "_law_more"] ["_law_h"] (defScope sLIsHung) := ⟨rfl, rfl, rfl, by decide +kernel, rfl, by decide +kernel, by decide +kernel⟩
theorem scLCrossed : FnScope ["_law_h", "_law_pairs", "_law_found", "_law_one", "_law_other"] ["_law_h"] (defScope sLCrossed) := ⟨rfl, rfl, rfl, by decide +kernel, rfl, by decide +kernel, by decide +kernel⟩
theorem scLSame : FnScope ["_law_found", "_law_due"] ["_law_found", "_law_due"] (defScope sLSame) := ⟨rfl, rfl, rfl, by decide +kernel, rfl, by decide +kernel, by decide +kernel⟩
theorem scLPlain : FnScope ["_law_box", "_law_n", "_law_pile", "_law_following", "_law_ons", "_law_way", "_law_word"] ["_law_box", "_law_n"] (defScope sLPlain) := ⟨rfl, rfl, rfl, by decide +kernel, rfl, by decide +kernel, by decide +kernel⟩
theorem scLBetween : FnScope ["_law_one", "_law_other", "_law_low", "_law_turn", "_law_place"] ["_law_one", "_law_other"] (defScope sLBetween) := ⟨rfl, rfl, rfl, by decide +kernel, rfl, by decide +kernel, by decide +kernel⟩
theorem scLaw : FnScope ["_law_script", "_law_box", "_law_n", "_law_due", "_law_h", "_law_one", "_law_other"] ["_law_script"] (defScope sLaw) := ⟨rfl, rfl, rfl, by decide +kernel, rfl, by decide +kernel, by decide +kernel⟩
end K08
end
section
namespace K08
open PySem L2 LB LD PyProof.Rows
section
variable {P : Program} {w : World} {K : PySem.W.Frag} {mg : Str → Option Value} {base : Heap}
theorem ok_take {f : Addr} {fd : FuncData} (F : Fun K "_law_take" "_law_take" sLTake f fd) (T : Txt mg) : FnOk P w K mg base CX0 1 f fd ["_law_box", "_law_many"] spTake := by
 refine F.ok scLTake (fun vs H Q E h => ?_) (fun cdv A outer s H vs Q E hr h => ?_)
 · obtain ⟨d, c, t, m, rfl, _⟩ := h; rfl
 · obtain ⟨d, c, t, m, rfl, B, ht, hm0, hm1, q⟩ := h
   have hu := hu_of hr
   have ndc := B.ne
   have t0 := B.t0
   obtain ⟨ns, hc, hn0, hn1⟩ := B.cs
   refine ⟨_, pss_cons (ps_set (i := 2) scLTake.nd rfl (Or.inl rfl) (pe_op op_add (pe_dget hu (pv 0) pe_str (fun _ _ => rfl)) pe_int))
    (pss_cons (ps_dput hu (pv 0) pe_str (pv 2) rfl)
    (pss_cons (ps_set (i := 3) scLTake.nd rfl (Or.inl rfl) (pe_op op_mod (pv 2) (pe_callB call_len_seq (by rfl) T.len PySem.boot_len (pa_cons (pe_dget hu (pv 0) pe_str (fun _ _ => rfl)) pa_nil))))
    (pss_cons (ps_set (i := 4) scLTake.nd rfl (Or.inl rfl) (pe_ix ix_list (pe_dget hu (pv 0) pe_str (fun _ _ => rfl)) (pv 3) (fun _ _ => rfl)))
    (pss_cons (ps_if (pt_cmpR op_ge (pv 4) (pe_op op_pow pe_int pe_int) (nomark _))
     (pss_cons (ps_asg (pe_callB call_divmodW (by rfl) T.dvm boot_divmod' (pa_cons (pv 4) (pa_cons (pv 1) pa_nil))) (pg_tup rfl (pgs_cons (pg_sub (pe_dget hu (pv 0) pe_str (fun _ _ => rfl)) (pv 3) set_list) (pgs_cons (pg_name (i := 5) scLTake.nd rfl (Or.inl rfl)) pgs_nil))))
      (pss_one (ps_ret (pv 5)))) pss_nil)
    (pss_cons (ps_set (i := 6) scLTake.nd rfl (Or.inl rfl) (pe_op op_mod (pe_op op_mul (pe_op op_add (pe_op op_add (pe_op op_add (pe_op op_mod (pv 4) pe_int) (pe_op op_mul (pe_op op_mul pe_int (pv 2)) (pv 2))) (pe_op op_mul pe_int (pv 2))) pe_int) pe_int) pe_int))
    (pss_cons (ps_set (i := 6) scLTake.nd rfl (Or.inl rfl) (pe_op op_mod (pe_op op_mul (pv 6) (pe_op op_add (pe_op op_mod (pv 6) pe_int) (pe_op op_mul pe_int (pv 2)))) pe_int))
    (pss_one (ps_ret (pe_op op_mod (pe_op op_fdiv (pe_op op_mod (pe_op op_mul (pv 6) (pe_op op_add (pe_op op_mod (pv 6) pe_int) (pv 2))) pe_int) pe_int) (pv 1)))))))))), ?_⟩
   refine ⟨_, rfl, d, _, rfl, by rw [← bx_turn c t]; exact DGet.k (k := Sum.inr "turn") B.dc, _, _, rfl, rfl, ?_⟩
   refine ⟨_, rfl, _, rfl, d, _, rfl, DPut.k (k := Sum.inr "turn") B.dc (by show 2 < sizeLine; decide), ?_⟩
   rw [bx_put]
   have hd1 : (upd H d (.dK (bx c (t + 1)))) d = some (.dK (bx c (t + 1))) := upd_same
   have hc1 : (upd H d (.dK (bx c (t + 1)))) c = some (.lst (ns.map V.int)) := by rw [upd_ne ndc.symm]; exact hc
   have gc : DGet (upd H d (.dK (bx c (t + 1)))) d (.str "cells") (some (.ref c)) := by rw [← bx_cells c (t + 1)]; exact DGet.k (k := Sum.inr "cells") hd1
   have hl : (0 : Int) < ((ns.map V.int).length : Int) := by rw [List.length_map]; omega
   refine ⟨_, rfl, _, rfl, d, _, rfl, gc, c, _, rfl, .inl (SqL.of hc1), _, _, rfl, rfl, hl, ?_⟩
   have hp0 : 0 ≤ (t + 1) % ((ns.map V.int).length : Int) := Int.emod_nonneg _ (by omega)
   have hp1 : (t + 1) % ((ns.map V.int).length : Int) < ((ns.map V.int).length : Int) := Int.emod_lt_of_pos _ hl
   obtain ⟨cell, hcell⟩ : ∃ cell, (ns.map V.int)[((t + 1) % ((ns.map V.int).length : Int)).toNat]? = some (V.int cell) := by
    have hpn : ((t + 1) % ((ns.map V.int).length : Int)).toNat < ns.length := by rw [List.length_map] at hp0 hp1 ⊢; omega
    exact ⟨ns[((t + 1) % ((ns.map V.int).length : Int)).toNat], by simp⟩
   refine ⟨_, rfl, d, _, rfl, gc, _, rfl, c, _, _, _, rfl, rfl, SqL.of hc1, atI_int hp0 hcell, ?_⟩
   refine ⟨_, rfl, _, _, rfl, rfl, (show CPow 10 18 from by unfold CPow; decide), _, _, rfl, rfl, _, rfl, ?_⟩
   refine ite2 (fun _ => ?_) (fun _ => ?_)
   · refine ⟨_, rfl, _, rfl, _, _, rfl, ⟨hm0, hm1⟩, fun p hp => ?_⟩
     have hd2 : (upd (upd H d (.dK (bx c (t + 1)))) p (.tup [.int (cell / m), .int (cell % m)])) d = some (.dK (bx c (t + 1))) := by rw [upd_ne (ne_of_none hd1 hp)]; exact hd1
     have hc2 : (upd (upd H d (.dK (bx c (t + 1)))) p (.tup [.int (cell / m), .int (cell % m)])) c = some (.lst (ns.map V.int)) := by rw [upd_ne (ne_of_none hc1 hp)]; exact hc1
     refine ⟨p, _, rfl, SqT.of upd_same, rfl, _, _, rfl, ?_⟩
     refine ⟨_, rfl, d, _, rfl, by rw [← bx_cells c (t + 1)]; exact DGet.k (k := Sum.inr "cells") hd2, _, rfl, c, _, _, _, rfl, rfl, hc2, ixN_int hp0 hp1, ?_⟩
     refine ⟨_, _, rfl, rfl, ?_⟩
     refine ⟨_, rfl, ?_⟩
     refine q _ _ (Int.emod_nonneg _ (by omega)) (Int.emod_lt_of_pos _ hm0) ⟨by rw [upd_ne ndc]; exact hd2, ⟨ns.set ((t + 1) % ((ns.map V.int).length : Int)).toNat (cell / m), ?_, by rw [List.length_set]; exact hn0, by rw [List.length_set]; exact hn1⟩, by omega, by omega⟩ fun b o e h1 h2 => ?_
     · rw [upd_same, List.map_set]
     · have e1 : (upd H d (.dK (bx c (t + 1)))) b = some o := by rw [upd_ne h1]; exact e
       rw [upd_ne h2, upd_ne (ne_of_none e1 hp)]
       exact e1
   · refine ⟨_, rfl, _, _, rfl, rfl, (by show (0 : Int) < 2147483629; decide), _, rfl, _, _, rfl, rfl, .inl ⟨by decide, by decide⟩, _, rfl, _, _, rfl, rfl, .inr ⟨by omega, by omega⟩, _, _, rfl, rfl, _, rfl, _, _, rfl, rfl, .inl ⟨by decide, by decide⟩, _, _, rfl, rfl, _, _, rfl, rfl, _, _, rfl, rfl, .inr ⟨by decide, by decide⟩, _, _, rfl, rfl, (by show (0 : Int) < 2147483647; decide), ?_⟩
     generalize hmx : ((cell % 2147483629 + 3 * (t + 1) * (t + 1) + 17 * (t + 1) + 5) * 48271 % 2147483647 : Int) = mx
     have m0 : 0 ≤ mx := by rw [← hmx]; exact Int.emod_nonneg _ (by decide)
     have m1 : mx < 2147483647 := by rw [← hmx]; exact Int.emod_lt_of_pos _ (by decide)
     refine ⟨_, rfl, _, rfl, _, _, rfl, rfl, (by show (0 : Int) < 998244353; decide), _, rfl, _, _, rfl, rfl, .inl ⟨by decide, by decide⟩, _, _, rfl, rfl, _, _, rfl, rfl, .inl ⟨by omega, by omega⟩, _, _, rfl, rfl, (by show (0 : Int) < 2147483587; decide), ?_⟩
     generalize hmy : (mx * (mx % 998244353 + 7919 * (t + 1)) % 2147483587 : Int) = my
     have y0 : 0 ≤ my := by rw [← hmy]; exact Int.emod_nonneg _ (by decide)
     have y1 : my < 2147483587 := by rw [← hmy]; exact Int.emod_lt_of_pos _ (by decide)
     refine ⟨_, rfl, _, rfl, _, _, rfl, rfl, (by show (0 : Int) < 1000003; decide), _, rfl, _, _, rfl, rfl, _, _, rfl, rfl, .inl ⟨by omega, by omega⟩, _, _, rfl, rfl, (by show (0 : Int) < 2147483563; decide), _, _, rfl, rfl, ⟨by decide, by decide⟩, _, rfl, _, _, rfl, rfl, hm0, ?_⟩
     refine q _ _ (Int.emod_nonneg _ (by omega)) (Int.emod_lt_of_pos _ hm0) ⟨hd1, ⟨ns, hc1, hn0, hn1⟩, by omega, by omega⟩ fun b o e h1 h2 => ?_
     rw [upd_ne h1]; exact e
theorem ok_begin {f : Addr} {fd : FuncData} (F : Fun K "_law_begin" "_law_begin" sLBegin f fd) (T : Txt mg) : FnOk P w K mg base CX0 1 f fd ["_law_script"] (spBegin K) := by
 refine F.ok scLBegin (fun vs H Q E h => ?_) (fun cdv A outer s H vs Q E hr h => ?_)
 · obtain ⟨a, ns, rfl, _⟩ := h; rfl
 · obtain ⟨a, ns, rfl, hS, hn, q⟩ := h
   have hu := hu_of hr
   refine ⟨_, pss_one (ps_ret (pe_disp (pps_cons pe_str (pe_op op_cat (pe_callTy call_list_of (by rfl) T.lst boot_list' (pa_cons (pe_slice sl_list (pv 0) po_none (po_some pe_int)) pa_nil))
    (pe_op op_rep (pe_lst (pa_cons pe_int pa_nil)) (pe_callTy call_int1 (by rfl) T.int boot_int' (pa_cons (pe_cmpR op_eq (pe_callB call_len_seq (by rfl) T.len PySem.boot_len (pa_cons (pv 0) pa_nil)) pe_int (nomark _)) pa_nil)))) (pps_cons pe_str pe_int pps_nil)) rfl rfl (by simp) (by decide))), ?_⟩
   intro d hd
   have s0 : Same H (upd H d (.dK [])) := Same.new hd
   have d0 : (upd H d (.dK [])) d = some (.dK []) := upd_same
   generalize upd H d (.dK []) = H0 at s0 d0
   refine ⟨_, rfl, _, rfl, a, _, rfl, s0.seq hS, fun p hp => ?_⟩
   have ecut : cutV (ns.map V.int) none (some 63) = ns.map V.int := by
    unfold cutV
    rw [HT.sIx_none, show ((63 : Int)) = ((63 : Nat) : Int) from rfl, HT.sIx_nat, List.drop_zero, Nat.sub_zero, List.length_map]
    exact List.take_of_length_le (by rw [List.length_map]; omega)
   rw [ecut]
   have s1 : Same H0 (upd H0 p (.lst (ns.map V.int))) := Same.new hp
   have e1 : (upd H0 p (.lst (ns.map V.int))) p = some (.lst (ns.map V.int)) := upd_same
   generalize upd H0 p (.lst (ns.map V.int)) = H1 at s1 e1
   refine ⟨p, _, rfl, .inl (SqL.of e1), fun l hl => ?_⟩
   have s2 : Same H1 (upd H1 l (.lst (ns.map V.int))) := Same.new hl
   have e2 : (upd H1 l (.lst (ns.map V.int))) l = some (.lst (ns.map V.int)) := upd_same
   generalize upd H1 l (.lst (ns.map V.int)) = H2 at s2 e2
   refine ⟨by show 1 ≤ sizeLine; decide, fun g hg => ?_⟩
   have s3 : Same H2 (upd H2 g (.lst [V.int 5])) := Same.new hg
   have e3 : (upd H2 g (.lst [V.int 5])) g = some (.lst [V.int 5]) := upd_same
   generalize upd H2 g (.lst [V.int 5]) = H3 at s3 e3
   have s03 : Same H H3 := Same.tr (Same.tr (Same.tr s0 s1) s2) s3
   refine ⟨_, rfl, a, _, rfl, .inl (s03.seq hS), rfl, .inr ⟨_, rfl, ?_⟩⟩
   have fin : ∀ (k : Int) (ms : List Int), 0 ≤ k → k ≤ 1 → (ns.map V.int) ++ (List.replicate k.toNat [V.int 5]).flatten = ms.map V.int → 0 < ms.length → ms.length ≤ 63 → rRep (.ref g) (.int k) H3 fun y H4 => rCat (.ref l) y H4 fun y H5 => tPairs [(tC (.str "turn"), tC (.int 0))] [some (.ref a)] H5 fun ps H2 => (fun ps H2 => H2 d = some (.dK []) ∧ ∃ kvs : List (Key × V), ps = kvs.map (fun kv => (kV kv.1, kv.2)) ∧ kvs.length ≤ 15 ∧ Q (.ref d) (upd H2 d (.dK (mergeK [] kvs)))) ((.str "cells", y) :: ps) H2 := fun k ms k0 k1 em l0 l63 => by
    refine ⟨g, k, _, rfl, rfl, e3, by omega, by omega, by show 1 * _ ≤ sizeLine; exact Nat.le_trans (by omega : 1 * k.toNat ≤ 1) (by decide), fun r hr' => ?_⟩
    have s4 : Same H3 (upd H3 r (.lst (List.replicate k.toNat [V.int 5]).flatten)) := Same.new hr'
    have e4 : (upd H3 r (.lst (List.replicate k.toNat [V.int 5]).flatten)) r = some (.lst (List.replicate k.toNat [V.int 5]).flatten) := upd_same
    generalize upd H3 r (.lst (List.replicate k.toNat [V.int 5]).flatten) = H4 at s4 e4
    have hlen : (ns.map V.int).length + (List.replicate k.toNat [V.int 5]).flatten.length = ms.length := by rw [← List.length_append, em, List.length_map]
    refine ⟨l, r, _, _, rfl, rfl, s4 _ _ (s3 _ _ e2), e4, by rw [hlen]; exact Nat.le_trans l63 (by decide), fun c hc => ?_⟩
    rw [em]
    have e5 : (upd H4 c (.lst (ms.map V.int))) c = some (.lst (ms.map V.int)) := upd_same
    have s5 : Same H4 (upd H4 c (.lst (ms.map V.int))) := Same.new hc
    generalize upd H4 c (.lst (ms.map V.int)) = H5 at e5 s5
    have d5 : H5 d = some (.dK []) := s5 _ _ (s4 _ _ (s3 _ _ (s2 _ _ (s1 _ _ d0))))
    have nd : c ≠ d := ne_of e5 d5 (by intro z; cases z)
    refine ⟨d5, [(Sum.inr "cells", .ref c), (Sum.inr "turn", .int 0)], rfl, by show 2 ≤ 15; decide, ?_⟩
    have emk : mergeK [] [((Sum.inr "cells" : Key), V.ref c), (Sum.inr "turn", V.int 0)] = bx c 0 := by
     simp [mergeK, putK, bx, kct]
    rw [emk]
    refine q d c _ ⟨upd_same, ⟨ms, by rw [upd_ne nd]; exact e5, l0, l63⟩, Int.le_refl _, by decide⟩ fun b o e => ?_
    rw [upd_ne (ne_of_none e hd)]
    exact s5 _ _ (s4 _ _ (s03 _ _ e))
   cases hns : ns with
   | nil =>
    subst hns
    exact fin 1 [5] (by decide) (by decide) rfl (by decide) (by decide)
   | cons n0 nr =>
    rw [← hns]
    have hne : ¬ V.int (((ns.map V.int).length : Nat) : Int) = V.int 0 := fun z => by
     injection z with z
     rw [hns, List.length_map] at z
     simp at z
     omega
    rw [decide_eq_false hne]
    exact fin 0 ns (by decide) (by decide) (by simp) (by rw [hns]; simp) hn
theorem ok_takeB {f : Addr} {fd : FuncData} (F : Fun K "_law_take" "_law_take" sLTake f fd) (T : Txt mg) : FnOk P w K mg base CX0 1 f fd ["_law_box", "_law_many"] (spB takeS) := (ok_take F T).imp fun _ _ _ _ h => take_of h
end
end K08
end
section
namespace K08
open PySem L2 LB LD MH PyProof.Rows
noncomputable def nD (x : Nat) : Dt := .int (x : Int)
noncomputable def tupN (hs : List Nat) : Dt := .tup (hs.map nD)
theorem flatN (hs : List Nat) : (hs.map nD).all flatD = true := List.all_eq_true.mpr fun d hd => by
 obtain ⟨x, _, rfl⟩ := List.mem_map.mp hd
 rfl
theorem getN {hs : List Nat} {i : Nat} {x : Nat} (h : hs[i]? = some x) : (hs.map nD)[i]? = some (nD x) := by rw [List.getElem?_map, h]; rfl
theorem atN {hs : List Nat} {w : Nat} (h1 : 1 ≤ w) (h2 : w ≤ hs.length) : atI (hs.map nD) ((w : Int) - 1) = some (nD (up hs w)) :=
 atI_int (by omega) (by rw [show ((w : Int) - 1).toNat = w - 1 by omega]; exact getN (up_get h1 h2))
theorem eqN {x y : Nat} : eqD (nD x) (nD y) = decide (x = y) := by
 show ((x : Int) == (y : Int)) = _
 by_cases h : x = y
 · subst h; simp
 · rw [decide_eq_false h]
   simpa using (fun z => h (by exact_mod_cast z))
theorem eq2N {x y : Nat} : eq2 (nD x) (nD y) = some (decide (x = y)) := by
 show some (decide ((x : Int) = (y : Int))) = _
 congr 1
 by_cases h : x = y
 · subst h; simp
 · rw [decide_eq_false h, decide_eq_false fun z => h (by omega)]
theorem en1 (hs : List Nat) : enumD 1 (hs.map nD) = (List.range' 1 hs.length).map fun x => .tup [nD x, nD (up hs x)] := by
 refine List.ext_getElem? fun i => ?_
 unfold enumD
 rw [List.getElem?_mapIdx, List.getElem?_map, List.getElem?_map]
 by_cases hi : i < hs.length
 · have := up_get (hs := hs) (w := i + 1) (by omega) (by omega)
   rw [Nat.add_sub_cancel] at this
   rw [this, List.getElem?_range' (by omega)]
   show some _ = some _
   rw [show 1 + 1 * i = i + 1 by omega]
   rfl
 · rw [List.getElem?_eq_none (by omega), List.getElem?_eq_none (by rw [List.length_range']; omega)]
   rfl
theorem last_app {W : List Nat} {a : Nat} : ((W ++ [a]).map nD)[((W ++ [a]).map nD).length - 1]? = some (nD a) := by
 rw [List.length_map, List.length_append, List.getElem?_map, show W.length + [a].length - 1 = W.length by simp, List.getElem?_append_right (Nat.le_refl _)]
 simp
theorem drop_app {W : List Nat} {a : Nat} : ((W ++ [a]).map nD).dropLast = W.map nD := by rw [List.map_append]; simp
noncomputable def onN (f : Nat → Dt) : Dt → Dt | .int i => f i.toNat | d => d
theorem onN_nD {f : Nat → Dt} {x : Nat} : onN f (nD x) = f x := by
 show f ((x : Int)).toNat = f x
 rw [Int.toNat_natCast]
noncomputable def isN (f : Nat → Bool) : Dt → Bool | .int i => f i.toNat | _ => false
theorem isN_nD {f : Nat → Bool} {x : Nat} : isN f (nD x) = f x := by
 show f ((x : Int)).toNat = f x
 rw [Int.toNat_natCast]
theorem isN_map {L : List Nat} {f : Nat → Bool} : (((L.map nD).filter (isN f)).map id) = (L.filter f).map nD := by
 rw [List.map_id, List.filter_map]
 congr 1
theorem inN {x : Nat} {L : List Nat} : inD (nD x) (L.map nD) = decide (x ∈ L) := by
 unfold inD
 rw [List.any_map, Bool.eq_iff_iff, List.any_eq_true, decide_eq_true_eq]
 constructor
 · rintro ⟨y, hy, e⟩
   have e : eqD (nD y) (nD x) = true := e
   rw [eqN, decide_eq_true_eq] at e
   exact e ▸ hy
 · intro h
   refine ⟨x, h, ?_⟩
   show eqD (nD x) (nD x) = true
   rw [eqN]; simp
theorem ux {A : Around} {k j : Nat} (hr : Room k A) (hj : autoParam (j ≤ 3) au2._auto_1) : A.units + j < cLine := by have := hr.un; lia
end K08
end
section
namespace K08
open PySem PySem.Spec L2 LB LD MH LSrt PyProof.Rows
noncomputable def prN (p : Nat × Nat) : Dt := .tup [nD p.1, nD p.2]
noncomputable def ppN (p : (Nat × Nat) × (Nat × Nat)) : Dt := .tup [prN p.1, prN p.2]
noncomputable def cp (p : Nat × Nat) : Int × Int := ((p.1 : Nat), (p.2 : Nat))
noncomputable def tiesU (hs : List Nat) : List (Nat × Nat) := (List.range' 1 hs.length).map (tieN hs)
theorem tiesU_len {hs : List Nat} : (tiesU hs).length = hs.length := by unfold tiesU; rw [List.length_map, List.length_range']
theorem tie_le {hs : List Nat} (h12 : hs.length ≤ 12) (hle : ∀ x ∈ hs, x ≤ 12) {p : Nat × Nat} (h : p ∈ (List.range' 1 hs.length).map (tieN hs)) : p.1 ≤ 12 ∧ p.2 ≤ 12 := by
 obtain ⟨x, hx, rfl⟩ := List.mem_map.mp h
 rw [List.mem_range'_1] at hx
 have := hle _ (List.mem_of_getElem? (up_get (hs := hs) (w := x) (by lia) (by lia)))
 unfold tieN
 simp only
 lia
noncomputable def uc (q : Int × Int) : Nat × Nat := (q.1.toNat, q.2.toNat)
theorem uc_cp {p : Nat × Nat} : uc (cp p) = p := by
 show (((p.1 : Nat) : Int).toNat, ((p.2 : Nat) : Int).toNat) = p
 rw [Int.toNat_natCast, Int.toNat_natCast]
theorem ties_back {L : List (Nat × Nat)} {ms : List (Int × Int)} (hp : ms.Perm (L.map cp)) : ∃ T : List (Nat × Nat), T.Perm L ∧ ms = T.map cp := by
 refine ⟨ms.map uc, ?_, ?_⟩
 · have := hp.map uc
   have e : L.map (uc ∘ cp) = L := (List.map_congr_left (f := uc ∘ cp) (g := id) fun p _ => uc_cp).trans (List.map_id L)
   rw [List.map_map, e] at this
   exact this
 · rw [List.map_map]
   refine (List.map_id ms).symm.trans (List.map_congr_left fun m hm => ?_)
   obtain ⟨p, _, rfl⟩ := List.mem_map.mp (hp.mem_iff.mp hm)
   show cp p = cp (uc (cp p))
   rw [uc_cp]
noncomputable def crossL (L : List (Nat × Nat)) : List ((Nat × Nat) × (Nat × Nat)) := L.flatMap fun p => (L.filter (crs p)).map fun q => (p, q)
def tieS : DN := fun ds Q => ∃ x y : Nat, ds = [nD x, nD y] ∧ Q (prN (min x y, max x y))
def crossS : DN := fun ds Q => ∃ p q : Nat × Nat, ds = [prN p, prN q] ∧ Q (.bl (crs p q))
def tiesS : DN := fun ds Q => ∃ hs : List Nat, ds = [tupN hs] ∧ hs.length ≤ 12 ∧ (∀ x ∈ hs, x ≤ 12) ∧ ∀ L : List (Nat × Nat), L.Perm (tiesU hs) → Q (.lst (L.map prN))
def crossingsS : DN := fun ds Q => ∃ hs : List Nat, ds = [tupN hs] ∧ hs.length ≤ 12 ∧ (∀ x ∈ hs, x ≤ 12) ∧ ∀ L : List (Nat × Nat), L.Perm (tiesU hs) → Q (.lst ((crossL L).map ppN))
def crossedS : DN := crossingsS
section
variable {P : Program} {w : World} {K : PySem.W.Frag} {mg : Str → Option Value} {base : Heap}
theorem ok_tie {f : Addr} {fd : FuncData} (F : Fun K "tie" "tie" sTie f fd) (T : Txt mg) : FnOk P w K mg base CX0 1 f fd ["word", "on"] (spA tieS) := by
 refine fnA F scTie (fun ds Qd h => ?_) (fun cdv A outer s H E hr => ⟨_, (s_one (s_ret (d_tup (a_cons (d_min2 rfl T.min (a_cons (dv 0) (a_cons (dv 1) a_nil))) (a_cons (d_max2 rfl T.max (a_cons (dv 0) (a_cons (dv 1) a_nil))) a_nil))))), fun ds Qd h => ?_⟩)
 · obtain ⟨x, y, rfl, _⟩ := h; rfl
 · obtain ⟨x, y, rfl, q⟩ := h
   refine ⟨_, rfl, _, rfl, _, _, rfl, _, rfl, _, rfl, _, _, rfl, by show 2 ≤ sizeLine; decide, ?_⟩
   have e1 : min (x : Int) (y : Int) = ((min x y : Nat) : Int) := by omega
   have e2 : max (x : Int) (y : Int) = ((max x y : Nat) : Int) := by omega
   rw [e1, e2]
   exact q
theorem ok_cross {f : Addr} {fd : FuncData} (F : Fun K "cross" "cross" sCross f fd) (T : Txt mg) : FnOk P w K mg base CX0 1 f fd ["first", "second"] (spA crossS) := by
 refine fnA F scCross (fun ds Qd h => ?_) (fun cdv A outer s H E hr => ⟨_, (s_one (s_ret (d_lt3 (d_ix (dv 0) d_int) (d_ix (dv 1) d_int) (d_ix (dv 0) d_int) (d_ix (dv 1) d_int)))), fun ds Qd h => ?_⟩)
 · obtain ⟨p, q, rfl, _⟩ := h; rfl
 · obtain ⟨p, q, rfl, k⟩ := h
   refine ⟨_, rfl, _, _, _, .inr rfl, rfl, rfl, _, rfl, _, _, _, .inr rfl, rfl, rfl, _, _, rfl, rfl, ?_⟩
   by_cases h1 : p.1 < q.1
   · rw [if_pos (by omega)]
     refine ⟨_, rfl, _, _, _, .inr rfl, rfl, rfl, _, rfl, ?_⟩
     by_cases h2 : q.1 < p.2
     · rw [if_pos (by omega)]
       refine ⟨_, rfl, _, _, _, .inr rfl, rfl, rfl, _, rfl, ?_⟩
       have e : crs p q = decide ((p.2 : Int) < (q.2 : Int)) := by unfold crs; rw [decide_eq_true h1, decide_eq_true h2]; exact decide_eq_decide.mpr (by omega)
       rw [e] at k; exact k
     · rw [if_neg (by omega)]
       have e : crs p q = false := by unfold crs; rw [decide_eq_false h2]; simp
       rw [e] at k; exact k
   · rw [if_neg (by omega)]
     have e : crs p q = false := by unfold crs; rw [decide_eq_false h1]; rfl
     rw [e] at k; exact k
noncomputable def unPr : Dt → Nat × Nat
 | .tup [.int a, .int b] => (a.toNat, b.toNat)
 | _ => (0, 0)
theorem unPr_prN {p : Nat × Nat} : unPr (prN p) = p := by
 show (((p.1 : Nat) : Int).toNat, ((p.2 : Nat) : Int).toNat) = p
 rw [Int.toNat_natCast, Int.toNat_natCast]
theorem flat_len {α β : Type} {F : α → List β} {k : Nat} : ∀ {L : List α}, (∀ x ∈ L, (F x).length ≤ k) → (L.flatMap F).length ≤ L.length * k
 | [], _ => by simp
 | x :: L, h => by
  rw [List.flatMap_cons, List.length_append, List.length_cons, Nat.add_mul]
  have := h x (by simp)
  have := flat_len (L := L) fun y hy => h y (by simp [hy])
  lia
theorem tie_map {hs : List Nat} : ((List.range' 1 hs.length).map fun x => Dt.tup [nD x, nD (up hs x)]).map (fun d => prN (min (unPr d).1 (unPr d).2, max (unPr d).1 (unPr d).2)) = (((List.range' 1 hs.length).map (tieN hs)).map cp).map prD := by
 rw [List.map_map, List.map_map, List.map_map]
 refine List.map_congr_left fun x _ => ?_
 show prN (min (unPr (prN (x, up hs x))).1 (unPr (prN (x, up hs x))).2, max (unPr (prN (x, up hs x))).1 (unPr (prN (x, up hs x))).2) = _
 rw [unPr_prN]
 rfl
theorem ok_ties {f : Addr} {fd : FuncData} (F : Fun K "ties" "ties" sTies f fd) (T : Txt mg) (NTie : Has P w K mg base "tie" 1 ["word", "on"] (spA tieS)) : FnOk P w K mg base CX0 2 f fd ["h"] (spA tiesS) := by
 refine fnA F scTies (fun ds Qd h => ?_) (fun cdv A outer s H E hr => ⟨_, (s_one (s_ret (d_sortedQ T.srt (a_cons (Ov.ev (o_comp (N := ["word", "on"]) (nt := 2) (js := []) ⟨rfl, by decide +kernel, by decide, rfl, by decide +kernel, (by show ∀ x ∈ (_ : List (Str × NameKind)), x.2 = NameKind.free → (defScope sTies).names.lookup x.1 = some .cell ∨ (defScope sTies).names.lookup x.1 = some .free; decide +kernel)⟩ rfl (i_enumS T.enu (a_cons (dv 0) a_nil) d_int) (fun _ _ _ _ _ => pg_tup rfl (pgs_cons (pg_name (i := 0) (show (["word", "on"] : List Str).Nodup by decide +kernel) rfl (by first | exact Or.inl rfl | exact Or.inr rfl)) (pgs_cons (pg_name (i := 1) (show (["word", "on"] : List Str).Nodup by decide +kernel) rfl (by first | exact Or.inl rfl | exact Or.inr rfl)) pgs_nil))) glow_pair gpair_read (fun _ _ _ _ _ => f_nil) (fun _ _ _ _ _ => (d_fnA NTie (hr.mono (by decide)) (a_cons (dv 0) (a_cons (dv 1) a_nil)))))) a_nil)))), fun ds Qd h => ?_⟩)
 · obtain ⟨hs, rfl, _⟩ := h; rfl
 · obtain ⟨hs, rfl, h12, hle, q⟩ := h
   have hl : (enumD 1 (hs.map nD)).length = hs.length := by rw [en1, List.length_map, List.length_range']
   refine ⟨_, rfl, _, rfl, rfl, by rw [hl]; exact Nat.le_of_lt (small1000 (by lia)), fun _ => true, fun d => prN (min (unPr d).1 (unPr d).2, max (unPr d).1 (unPr d).2), fun d hd => ?_, ?_⟩
   · rw [en1] at hd
     obtain ⟨x, _, rfl⟩ := List.mem_map.mp hd
     refine ⟨_, _, rfl, ⟨_, rfl, rfl⟩, ⟨_, rfl, rfl⟩, rfl, fun _ => ⟨_, rfl, _, rfl, x, up hs x, rfl, ?_⟩⟩
     show prN (min x (up hs x), max x (up hs x)) = prN (min (unPr (prN (x, up hs x))).1 (unPr (prN (x, up hs x))).2, max (unPr (prN (x, up hs x))).1 (unPr (prN (x, up hs x))).2)
     rw [unPr_prN]
   · rw [List.filter_eq_self.mpr (fun _ _ => rfl), en1, tie_map]
     refine ⟨((List.range' 1 hs.length).map (tieN hs)).map cp, 1000, rfl, by rw [List.length_map, List.length_map, List.length_range']; lia, fun p hp => ?_, fun ms h1 => ?_⟩
     · obtain ⟨p, hp2, rfl⟩ := List.mem_map.mp hp
       have := tie_le h12 hle hp2
       unfold cp
       simp only
       lia
     · obtain ⟨L, hL, rfl⟩ := ties_back h1
       rw [List.map_map]
       exact q L hL
end
noncomputable def crTo (L : List (Nat × Nat)) (i : Nat) : List ((Nat × Nat) × (Nat × Nat)) := (L.take i).flatMap fun p => (L.filter (crs p)).map fun q => (p, q)
theorem crTo_succ {L : List (Nat × Nat)} {i : Nat} {p : Nat × Nat} (h : L[i]? = some p) : crTo L (i + 1) = crTo L i ++ (L.filter (crs p)).map fun q => (p, q) := by
 unfold crTo
 rw [List.take_succ, h, List.flatMap_append]
 simp
theorem crTo_all {L : List (Nat × Nat)} : crTo L L.length = crossL L := by unfold crTo crossL; rw [List.take_length]
theorem fil_succ {L : List (Nat × Nat)} {j : Nat} {p q : Nat × Nat} (h : L[j]? = some q) : ((L.take (j + 1)).filter (crs p)).map (fun q => (p, q)) = ((L.take j).filter (crs p)).map (fun q => (p, q)) ++ (if crs p q = true then [(p, q)] else []) := by
 rw [List.take_succ, h, List.filter_append, List.map_append]
 congr 1
 by_cases c : crs p q = true
 · rw [if_pos c]; simp [c]
 · rw [if_neg c]; simp [c]
theorem getP {L : List (Nat × Nat)} {i : Nat} {d : Dt} (h : (L.map prN)[i]? = some d) : ∃ p, L[i]? = some p ∧ d = prN p := by
 rw [List.getElem?_map] at h
 cases e : L[i]? with
 | none => rw [e] at h; cases h
 | some p => rw [e] at h; cases h; exact ⟨p, rfl, rfl⟩
section
variable {P : Program} {w : World} {K : PySem.W.Frag} {mg : Str → Option Value} {base : Heap}
theorem ok_crossed {f : Addr} {fd : FuncData} (F : Fun K "_law_crossed" "_law_crossed" sLCrossed f fd) (T : Txt mg) : FnOk P w K mg base CX0 1 f fd ["_law_h"] (spA crossedS) := by
 refine fnA F scLCrossed (fun ds Qd h => ?_) (fun cdv A outer s H E hr => ⟨_, (s_cons (s_set 1 scLCrossed.nd (d_sortedQ T.srt (a_cons (Ov.ev (o_comp (N := ["_law_word", "_law_on"]) (nt := 2) (js := []) ⟨rfl, by decide +kernel, by decide, rfl, by decide +kernel, (by show ∀ x ∈ (_ : List (Str × NameKind)), x.2 = NameKind.free → (defScope sLCrossed).names.lookup x.1 = some .cell ∨ (defScope sLCrossed).names.lookup x.1 = some .free; decide +kernel)⟩ rfl (i_enum1 T.enu (a_cons (dv 0) (a_cons d_int a_nil))) (fun _ _ _ _ _ => pg_tup rfl (pgs_cons (pg_name (i := 0) (show (["_law_word", "_law_on"] : List Str).Nodup by decide +kernel) rfl (by first | exact Or.inl rfl | exact Or.inr rfl)) (pgs_cons (pg_name (i := 1) (show (["_law_word", "_law_on"] : List Str).Nodup by decide +kernel) rfl (by first | exact Or.inl rfl | exact Or.inr rfl)) pgs_nil))) glow_pair gpair_read (fun _ _ _ _ _ => f_nil) (fun _ _ _ _ _ => (d_tup (a_cons (d_min2 rfl T.min (a_cons (dv 0) (a_cons (dv 1) a_nil))) (a_cons (d_max2 rfl T.max (a_cons (dv 0) (a_cons (dv 1) a_nil))) a_nil)))))) a_nil)))
 (s_cons (s_setO 2 scLCrossed.nd (o_lst a_nil))
 (s_cons (s_for rfl (i_list (dv 1)) (g_name 3 scLCrossed.nd)
 (s_one (s_for rfl (i_list (dv 1)) (g_name 4 scLCrossed.nd)
 (s_one (s_if (t_lt3 (d_ix (dv 3) d_int) (d_ix (dv 4) d_int) (d_ix (dv 3) d_int) (d_ix (dv 4) d_int))
 (s_one (s_expr (d_append 2 (pv 2) (a_cons (d_tup (a_cons (dv 3) (a_cons (dv 4) a_nil))) a_nil))))
 s_nil)) PassesOwn.never)) PassesOwn.never)
 (s_one (s_frz 2 (s_ret (dv 2))))))), fun ds Qd h => ?_⟩)
 · obtain ⟨hs, rfl, _⟩ := h; rfl
 · obtain ⟨hs, rfl, h12, hle, q⟩ := h
   have hl : (enumD 1 (hs.map nD)).length = hs.length := by rw [en1, List.length_map, List.length_range']
   refine ⟨_, rfl, _, rfl, by rw [hl]; exact Nat.le_of_lt (small1000 (by omega)), fun _ => true, fun d => prN (min (unPr d).1 (unPr d).2, max (unPr d).1 (unPr d).2), fun d hd => ?_, ?_⟩
   · rw [en1] at hd
     obtain ⟨x, _, rfl⟩ := List.mem_map.mp hd
     refine ⟨_, _, rfl, ⟨_, rfl, rfl⟩, ⟨_, rfl, rfl⟩, rfl, fun _ => ⟨_, rfl, _, rfl, _, _, rfl, _, rfl, _, rfl, _, _, rfl, by show 2 ≤ sizeLine; decide, ?_⟩⟩
     show Dt.tup [.int (min (x : Int) (up hs x : Int)), .int (max (x : Int) (up hs x : Int))] = prN (min (unPr (prN (x, up hs x))).1 (unPr (prN (x, up hs x))).2, max (unPr (prN (x, up hs x))).1 (unPr (prN (x, up hs x))).2)
     rw [unPr_prN, show min (x : Int) (up hs x : Int) = ((min x (up hs x) : Nat) : Int) by omega, show max (x : Int) (up hs x : Int) = ((max x (up hs x) : Nat) : Int) by omega]
     rfl
   rw [List.filter_eq_self.mpr (fun _ _ => rfl), en1, tie_map]
   refine ⟨((List.range' 1 hs.length).map (tieN hs)).map cp, 1000, rfl, by rw [List.length_map, List.length_map, List.length_range']; omega, fun p hp => ?_, fun ms h1 => ?_⟩
   · obtain ⟨p, hp2, rfl⟩ := List.mem_map.mp hp
     have := tie_le h12 hle hp2
     unfold cp
     simp only
     omega
   obtain ⟨L, hL, rfl⟩ := ties_back h1
   rw [List.map_map]
   have Ll : L.length = hs.length := hL.length_eq.trans tiesU_len
   show _
   refine ⟨⟨_, rfl, rfl⟩, by show 0 ≤ sizeLine; decide, ⟨_, rfl, rfl⟩, ?_⟩
   have lc : ∀ (l : List ((Nat × Nat) × (Nat × Nat))), l.length ≤ 144 → l.length < sizeLine := fun l h => small1000 (by omega)
   refine ⟨_, rfl, _, rfl, fun i δ => ∃ s3 s4, δ = [.im (tupN hs), .im (.lst (L.map prN)), .ow ((crTo L i).map ppN), s3, s4] ∧ s3.isBx = false ∧ s4.isBx = false, ⟨_, _, rfl, rfl, rfl⟩, fun i d δ hi hP => ?_, fun δ hP => ?_⟩
   · obtain ⟨s3, s4, rfl, b3, b4⟩ := hP
     obtain ⟨p, hp, rfl⟩ := getP hi
     refine ⟨⟨_, rfl, b3⟩, ?_⟩
     refine ⟨_, rfl, _, rfl, fun j δ => ∃ s4, δ = [.im (tupN hs), .im (.lst (L.map prN)), .ow ((crTo L i ++ ((L.take j).filter (crs p)).map fun q => (p, q)).map ppN), .im (prN p), s4] ∧ s4.isBx = false, ⟨_, by simp, b4⟩, fun j d δ hj hP => ?_, fun δ hP => ?_⟩
     · obtain ⟨s4, rfl, b4⟩ := hP
       obtain ⟨r, hr2, rfl⟩ := getP hj
       refine ⟨⟨_, rfl, b4⟩, ?_⟩
       have lc2 : (crTo L i ++ ((L.take j).filter (crs p)).map fun q => (p, q)).length ≤ 200 := by
        rw [List.length_append, List.length_map]
        have h1 := flat_len (F := fun p => (L.filter (crs p)).map fun q => (p, q)) (k := 12) (L := L.take i) fun p _ => by rw [List.length_map]; exact Nat.le_trans (List.length_filter_le _ _) (by rw [Ll]; exact h12)
        have h2 : (L.take i).length ≤ 12 := by rw [List.length_take, Ll]; omega
        have h3 : ((L.take j).filter (crs p)).length ≤ 12 := Nat.le_trans (List.length_filter_le _ _) (by rw [List.length_take, Ll]; omega)
        unfold crTo
        omega
       have no : crs p r = false → ∃ s4 : Sl, ([.im (tupN hs), .im (.lst (L.map prN)), .ow ((crTo L i ++ ((L.take j).filter (crs p)).map fun q => (p, q)).map ppN), .im (prN p), .im (prN r)] : List Sl) = [.im (tupN hs), .im (.lst (L.map prN)), .ow ((crTo L i ++ ((L.take (j + 1)).filter (crs p)).map fun q => (p, q)).map ppN), .im (prN p), s4] ∧ s4.isBx = false := fun c => ⟨.im (prN r), by rw [fil_succ hr2, if_neg (by rw [c]; exact Bool.false_ne_true), List.append_nil], rfl⟩
       refine ⟨_, rfl, _, _, _, .inr rfl, rfl, rfl, _, rfl, _, _, _, .inr rfl, rfl, rfl, _, _, rfl, rfl, ?_⟩
       by_cases h1 : p.1 < r.1
       · rw [if_pos (by omega)]
         refine ⟨_, rfl, _, _, _, .inr rfl, rfl, rfl, _, rfl, ?_⟩
         by_cases h2 : r.1 < p.2
         · rw [if_pos (by omega)]
           refine ⟨_, rfl, _, _, _, .inr rfl, rfl, rfl, _, rfl, ?_⟩
           by_cases h3 : p.2 < r.2
           · refine ⟨true, by rw [decide_eq_true (by omega)], iteT ?_⟩
             refine ⟨⟨_, rfl⟩, _, rfl, _, rfl, by show 2 ≤ sizeLine; decide, _, _, rfl, rfl, by rw [List.length_map]; exact small1000 (by omega), ?_⟩
             refine ⟨.im (prN r), ?_, rfl⟩
             rw [fil_succ hr2, if_pos (crs_iff.mpr ⟨h1, h2, h3⟩), ← List.append_assoc, List.map_append (l₂ := [(p, r)])]
             rfl
           · exact ⟨false, by rw [decide_eq_false (by omega)], iteF (no (by rw [Bool.eq_false_iff]; exact fun z => h3 (crs_iff.mp z).2.2))⟩
         · rw [if_neg (by omega)]
           exact ⟨false, rfl, iteF (no (by rw [Bool.eq_false_iff]; exact fun z => h2 (crs_iff.mp z).2.1))⟩
       · rw [if_neg (by omega)]
         exact ⟨false, rfl, iteF (no (by rw [Bool.eq_false_iff]; exact fun z => h1 (crs_iff.mp z).1))⟩
     · obtain ⟨s4, rfl, b4⟩ := hP
       refine ⟨.im (prN p), s4, ?_, rfl, b4⟩
       rw [List.length_map, List.take_length, crTo_succ hp]
   · obtain ⟨s3, s4, rfl, b3, b4⟩ := hP
     rw [List.length_map, crTo_all]
     exact ⟨_, rfl, _, rfl, q L hL⟩
end
end K08
end
section
namespace K08
open PySem L2 LB LD MH PyProof.Rows
noncomputable def keyN (x : Nat) : Key := .inl (x : Int)
theorem keyN_inj {x y : Nat} (h : keyN x = keyN y) : x = y := by
 have : (x : Int) = (y : Int) := Sum.inl.inj h
 lia
theorem keyN_ne {x y : Nat} (h : x ≠ y) : keyN x ≠ keyN y := fun z => h (keyN_inj z)
structure Ons (ks : List Key) (ds : List Dt) (A : Nat → Prop) (f : Nat → Nat) : Prop where
 len : ks.length = ds.length
 val : ∀ w, A w → valD ks ds (keyN w) = some (nD (f w))
theorem Ons.put {ks : List Key} {ds : List Dt} {A A' : Nat → Prop} {f : Nat → Nat} (h : Ons ks ds A f) (a p : Nat) (hA : ∀ w, A' w → w = a ∨ A w) : Ons (putKs ks (keyN a)) (putDs ks ds (keyN a) (nD p)) A' (fun x => if x = a then p else f x) := by
 refine ⟨put_len h.len, fun w hw => ?_⟩
 rw [valD_put h.len]
 by_cases e : w = a
 · subst e; rw [if_pos rfl, if_pos rfl]
 · rw [if_neg (keyN_ne (Ne.symm e)), if_neg e]
   exact h.val w ((hA w hw).resolve_left e)
theorem rng1 (n : Nat) : ((List.range n).map fun k => Dt.int (1 + (k : Nat))) = (List.range' 1 n).map nD := by
 refine List.ext_getElem? fun i => ?_
 rw [List.getElem?_map, List.getElem?_map]
 by_cases h : i < n
 · rw [List.getElem?_range h, List.getElem?_range' h]
   show some _ = some _
   rw [show 1 + 1 * i = 1 + i by lia]
   show some (Dt.int (1 + (i : Int))) = some (Dt.int ((1 + i : Nat) : Int))
   rw [show (1 + (i : Int)) = ((1 + i : Nat) : Int) by lia]
 · rw [List.getElem?_eq_none (by simpa using h), List.getElem?_eq_none (by simpa using h)]
   rfl
theorem put_le {ks : List Key} {k : Key} : (putKs ks k).length ≤ ks.length + 1 := by
 unfold putKs
 split
 · lia
 · simp
def hangS : DB := fun t ds Q => ∃ n : Nat, ds = [nD n] ∧ 1 ≤ n ∧ n ≤ 12 ∧ t < 900000 ∧ ∀ hs t', Hg hs → NoX hs → hs.length = n → t' ≤ t + 100 → Q (tupN hs) t'
noncomputable def toF (f : Nat → Nat) : Dt → Dt | .int i => nD (f i.toNat) | d => d
theorem toF_map {n : Nat} {f : Nat → Nat} : (((List.range' 1 n).map nD).filter fun _ => true).map (toF f) = (ofF n f).map nD := by
 rw [List.filter_eq_self.mpr (fun _ _ => rfl), List.map_map]
 unfold ofF
 rw [List.map_map]
 refine List.map_congr_left fun x _ => ?_
 show nD (f ((x : Int)).toNat) = nD (f x)
 rw [Int.toNat_natCast]
section
variable {P : Program} {w : World} {K : PySem.W.Frag} {mg : Str → Option Value} {base : Heap}
theorem at_last {pre : List Nat} {c : Nat} : atI ((pre ++ [c]).map nD) (-1) = some (nD c) := by
 unfold atI ixN
 rw [if_neg (by decide), if_pos (by rw [List.length_map, List.length_append]; simp; lia)]
 show ((pre ++ [c]).map nD)[_]? = _
 rw [List.length_map, List.length_append, show (-1 + ((pre.length + [c].length : Nat) : Int)).toNat = pre.length by simp; lia, List.getElem?_map, List.getElem?_append_right (Nat.le_refl _)]
 simp
theorem or_len {P : List Nat} {δ : List Sl} {fo n : Nat} {Q : Bool → List Sl → Prop} (hP : δ[2]? = some (.ow (P.map nD))) (hA : (fo ≤ n ∨ 1 < P.length) → Q true δ) (hB : n < fo → P.length ≤ 1 → Q false δ) :
  if decide ((fo : Int) ≤ (n : Int)) = true then Q true δ else dT (dOp D_gt (dLenO 2) (dC (.int 1))) δ Q := by
 by_cases h : fo ≤ n
 · rw [decide_eq_true (by lia)]
   exact iteT (hA (.inl h))
 · rw [decide_eq_false (by lia)]
   refine iteF ⟨_, hP, _, _, rfl, rfl, _, rfl, ?_⟩
   rw [List.length_map]
   by_cases h2 : 1 < P.length
   · rw [decide_eq_true (by lia)]
     exact hA (.inr h2)
   · rw [decide_eq_false (by lia)]
     exact hB (by lia) (by lia)
theorem and_3 {r : Int} {P : List Nat} {δ : List Sl} {fo n : Nat} {Q : Bool → List Sl → Prop} (hP : δ[2]? = some (.ow (P.map nD))) (h3 : δ[3]? = some (.im (nD fo))) (h1 : δ[1]? = some (.im (nD n))) (hA : r = 1 → P ≠ [] → fo ≤ n → Q true δ) (hB : ¬ (r = 1 ∧ P ≠ [] ∧ fo ≤ n) → Q false δ) :
  if decide (r = 1) = true then dAnd (dT (dNilO true 2)) (dT (dOp D_le (dVar 3) (dVar 1))) δ Q else Q false δ := by
 by_cases e1 : r = 1
 · rw [decide_eq_true e1]
   refine iteT ⟨_, hP, _, rfl, ?_⟩
   by_cases e2 : P = []
   · subst e2
     exact iteF (hB (by simp))
   · have tt : (if true = true then !(P.map nD).isEmpty else (P.map nD).isEmpty) = true := by cases P with
       | nil => exact absurd rfl e2
       | cons _ _ => rfl
     rw [tt]
     refine iteT ⟨_, h3, _, h1, _, _, rfl, rfl, _, rfl, ?_⟩
     by_cases e3 : fo ≤ n
     · rw [decide_eq_true (by lia)]
       exact hA e1 e2 e3
     · rw [decide_eq_false (by lia)]
       exact hB (by simp [e3])
 · rw [decide_eq_false e1]
   exact iteF (hB (by simp [e1]))
theorem and_or {r : Int} {P : List Nat} {δ : List Sl} {fo n : Nat} {Q : Bool → List Sl → Prop} (h5 : δ[5]? = some (.im (.int r))) (h3 : δ[3]? = some (.im (nD fo))) (h1 : δ[1]? = some (.im (nD n))) (hA : 1 < P.length → (r = 2 ∨ n < fo) → Q true δ) (hB : ¬ (1 < P.length ∧ (r = 2 ∨ n < fo)) → Q false δ) :
  if decide (((P.map nD).length : Int) > 1) = true then dOr (dT (dOp D_eq (dVar 5) (dC (.int 2)))) (dT (dOp D_gt (dVar 3) (dVar 1))) δ Q else Q false δ := by
 rw [List.length_map]
 by_cases e1 : 1 < P.length
 · rw [decide_eq_true (by lia)]
   refine iteT ⟨_, h5, _, rfl, _, rfl, ?_⟩
   by_cases e2 : r = 2
   · rw [decide_eq_true e2]
     exact iteT (hA e1 (.inl e2))
   · rw [decide_eq_false e2]
     refine iteF ⟨_, h3, _, h1, _, _, rfl, rfl, _, rfl, ?_⟩
     by_cases e3 : n < fo
     · rw [decide_eq_true (by lia)]
       exact hA e1 (.inr e3)
     · rw [decide_eq_false (by lia)]
       exact hB (by simp [e2]; lia)
 · rw [decide_eq_false (by lia)]
   exact iteF (hB (by lia))
theorem ok_plain {f : Addr} {fd : FuncData} (F : Fun K "_law_plain" "_law_plain" sLPlain f fd) (T : Txt mg) (NLTake : Has P w K mg base "_law_take" 1 ["_law_box", "_law_many"] (spB takeS)) : FnOk P w K mg base CX0 2 f fd ["_law_box", "_law_n"] (spB hangS) := by
 refine fnB F scLPlain (fun t ds Qd h => ?_) (fun cdv A outer s H E hr => ⟨_, (s_cons (s_par3c 2 3 4 rfl scLPlain.nd (h_ow (o_lst a_nil) (h_im d_int (h_dk h_nil))))
 (s_cons (s_while (PW.pt (w_or (t_le (dv 3) (dv 1)) (w_or1 (t_gt (d_lenO 2 T.len (pv 2)) d_int))))
 (s_cons (s_set 5 scLPlain.nd (d_fnB 0 NLTake (hr.mono (by decide)) (pv 0) (a_cons d_int a_nil)))
 (s_one (s_if (PW.pt (w_and (t_eq (dv 5) d_int) (w_and (t_neNilO hr.units0 2 (pv 2)) (w_and1 (t_le (dv 3) (dv 1))))))
 (s_one (s_dput 4 (hu_of hr) (pv 4) (d_pop 2 (pv 2)) (dv 3)))
 (s_one (s_if (PW.pt (w_and (t_gt (d_lenO 2 T.len (pv 2)) d_int) (w_and1 (PW.pt (w_or (t_eq (dv 5) d_int) (w_or1 (t_gt (dv 3) (dv 1))))))))
 (s_cons (s_set 6 scLPlain.nd (d_pop 2 (pv 2)))
 (s_one (s_dput 4 (hu_of hr) (pv 4) (dv 6) (d_ixO 2 (pv 2) (d_neg d_int)))))
 (s_cons (s_expr (d_append 2 (pv 2) (a_cons (dv 3) a_nil)))
 (s_one (s_set 3 scLPlain.nd (d_add (dv 3) d_int))))))))) PassesOwn.never)
 (s_cons (s_dput 4 (hu_of hr) (pv 4) (d_ixO 2 (pv 2) d_int) d_int)
 (s_one (s_frzD 4 (s_ret (d_tuple T.tup (a_cons (Ov.ev (o_comp (N := ["_law_word", "_law_ons"]) (nt := 1) (js := [4]) ⟨rfl, by decide +kernel, by decide, rfl, by decide +kernel, (by show ∀ x ∈ (_ : List (Str × NameKind)), x.2 = NameKind.free → (defScope sLPlain).names.lookup x.1 = some .cell ∨ (defScope sLPlain).names.lookup x.1 = some .free; decide +kernel)⟩ rfl (i_rng2 T.rng (a_cons d_int (a_cons (d_add (dv 1) d_int) a_nil))) (fun _ _ _ _ _ => pg_name (i := 0) (show (["_law_word", "_law_ons"] : List Str).Nodup by decide +kernel) rfl (by first | exact Or.inl rfl | exact Or.inr rfl)) glow_name gname_read (fun _ _ _ _ _ => f_nil) (fun _ _ _ _ _ => (d_dget (hu_of hr) (dv 1) (dv 0))))) a_nil)))))))), fun t ds Qd h => ?_⟩)
 · obtain ⟨n, rfl, _⟩ := h; rfl
 · obtain ⟨n, rfl, n1, n12, ht, q⟩ := h
   refine ⟨by show 0 ≤ sizeLine; decide, _, _, _, rfl, ⟨_, rfl, rfl⟩, ⟨_, rfl, rfl⟩, ⟨_, rfl, rfl⟩, ?_⟩
   refine ⟨fun m δ => ∃ t' P fo f tm T ks ds s5 s6, δ = [.bx t', .im (nD n), .ow (P.map nD), .im (nD fo), .dk ks ds, s5, s6] ∧ s5.isBx = false ∧ s6.isBx = false ∧ PileC n fo P f tm T ∧ Ons ks ds (fun w => 1 ≤ w ∧ w < fo ∧ w ∉ P) f ∧ m = 2 * (n + 1 - fo) + P.length ∧ ks.length + m ≤ 24 ∧ t' + (m : Int) ≤ t + 50, ⟨_, _, [], 1, _, _, _, _, _, _, _, rfl, rfl, rfl, PileC.start n1, ⟨rfl, fun w hw => by lia⟩, rfl, by simp; lia, by simp; lia⟩, ?_⟩
   rintro m δ ⟨t', P, fo, f, tm, T, ks, ds, s5, s6, rfl, b5, b6, g, on, rfl, hk, ht'⟩
   refine ⟨_, rfl, _, rfl, _, _, rfl, rfl, _, rfl, ?_⟩
   have g1 := g.f1
   have g2 := g.f2
   have pl : P.length ≤ n := by
    have := nd_len g.nd (m := List.range' 1 n) fun x hx => by
     have := g.mem x hx
     rw [List.mem_range'_1]; lia
    rwa [List.length_range'] at this
   refine or_len rfl (fun hc => iteT ?_) (fun h1 h2 => iteF ?_)
   · refine ⟨⟨_, rfl⟩, _, rfl, _, rfl, by lia, by decide, by decide, fun r r1 r2 => ⟨⟨_, rfl, b5⟩, ?_⟩⟩
     refine ⟨_, rfl, _, rfl, _, rfl, ?_⟩
     refine and_3 rfl rfl rfl (fun e1 e2 e3 => iteT ?_) (fun hn => iteF ?_)
     · rcases List.eq_nil_or_concat P with rfl | ⟨P, a, rfl⟩
       · exact absurd rfl e2
       rw [List.concat_eq_append] at *
       have pl2 : P.length + 1 ≤ n := by rw [List.length_append] at pl; exact pl
       have := put_le (ks := ks) (k := keyN a)
       rw [List.length_append, List.length_singleton] at hk ht'
       refine ⟨_, rfl, ⟨_, _, rfl⟩, _, nD a, rfl, last_app, _, _, _, rfl, rfl, small1000 (by lia), ?_⟩
       rw [drop_app]
       refine ⟨2 * (n + 1 - fo) + P.length, by rw [List.length_append, List.length_singleton]; lia, _, P, fo, _, _, _, _, _, .im (.int r), s6, rfl, rfl, b6, g.popF e3, on.put a fo (fun w hw => ?_), rfl, ?_, ?_⟩
       · by_cases z : w = a
         · exact .inl z
         · exact .inr ⟨hw.1, hw.2.1, by simp [z, hw.2.2]⟩
       · show (putKs ks (keyN a)).length + _ ≤ _
         lia
       · lia
     · refine ⟨_, rfl, _, _, rfl, rfl, _, rfl, ?_⟩
       refine and_or rfl rfl rfl (fun e1 e2 => iteT ?_) (fun hn => iteF ?_)
       · rcases List.eq_nil_or_concat P with rfl | ⟨P, a, rfl⟩
         · simp at e1
         rw [List.concat_eq_append] at *
         rcases List.eq_nil_or_concat P with rfl | ⟨P, b, rfl⟩
         · simp at e1
         rw [List.concat_eq_append] at *
         have hb := g.mem b (by simp)
         have := put_le (ks := ks) (k := keyN a)
         rw [List.length_append, List.length_append, List.length_singleton, List.length_singleton] at hk ht' pl
         refine ⟨_, nD a, rfl, last_app, ⟨_, rfl, b6⟩, ?_⟩
         rw [drop_app]
         refine ⟨⟨_, rfl⟩, _, rfl, _, _, nD b, rfl, rfl, at_last, ⟨_, _, rfl⟩, _, rfl, _, _, _, rfl, rfl, small1000 (by lia), ?_⟩
         refine ⟨2 * (n + 1 - fo) + (P ++ [b]).length, by rw [List.length_append (as := P ++ [b]), List.length_singleton]; lia, _, P ++ [b], fo, _, _, _, _, _, .im (.int r), .im (nD a), rfl, rfl, rfl, g.popL, on.put a b (fun w hw => ?_), rfl, ?_, ?_⟩
         · by_cases z : w = a
           · exact .inl z
           · refine .inr ⟨hw.1, hw.2.1, fun y => ?_⟩
             rcases List.mem_append.mp y with y | y
             · exact hw.2.2 y
             · exact z (List.mem_singleton.mp y)
         · rw [List.length_append, List.length_singleton]
           show (putKs ks (keyN a)).length + _ ≤ _
           lia
         · rw [List.length_append, List.length_singleton]
           lia
       · have e3 : fo ≤ n := by
           rcases hc with z | z
           · exact z
           · refine Nat.not_lt.mp fun y => hn ⟨z, .inr y⟩
         refine ⟨⟨_, rfl⟩, _, rfl, _, _, rfl, rfl, by rw [List.length_map]; exact small1000 (by lia), _, rfl, _, _, rfl, rfl, ⟨_, rfl, rfl⟩, ?_⟩
         refine ⟨2 * (n + 1 - (fo + 1)) + (P ++ [fo]).length, by rw [List.length_append, List.length_singleton]; lia, _, P ++ [fo], fo + 1, f, tm, T, ks, ds, .im (.int r), s6, by rw [List.map_append]; rfl, rfl, b6, g.push e3, ⟨on.len, fun w hw => on.val w ⟨hw.1, ?_, fun z => hw.2.2 (by simp [z])⟩⟩, rfl, ?_, ?_⟩
         · have : w ≠ fo := fun z => hw.2.2 (by simp [z])
           have := hw.2.1
           lia
         · rw [List.length_append, List.length_singleton]; lia
         · rw [List.length_append, List.length_singleton]; lia
   · obtain rfl : fo = n + 1 := by lia
     match P, g, on, hk, ht', h2 with
     | [], g, _, _, _, _ => have := g.ne rfl; lia
     | _ :: _ :: _, _, _, _, _, h2 => simp at h2
     | [t0], g, on, hk, ht', _ =>
      have on2 := on.put (A' := fun w => 1 ≤ w ∧ w ≤ n) t0 0 (fun w hw => by
       by_cases z : w = t0
       · exact .inl z
       · exact .inr ⟨hw.1, by lia, by simpa using z⟩)
      refine ⟨⟨_, _, rfl⟩, ⟨_, rfl⟩, _, _, nD t0, rfl, rfl, rfl, _, _, _, rfl, rfl, small1000 (by lia), ?_⟩
      have hg := g.hg
      have nx := g.plain
      generalize (fun x => if x = t0 then 0 else f x) = f at hg nx on2
      refine ⟨_, _, rfl, _, rfl, _, _, rfl, rfl, 1, (n : Int) + 1, rfl, ⟨by decide, by decide, by lia, by lia⟩, ?_⟩
      rw [show ((n : Int) + 1 - 1).toNat = n by lia, rng1]
      refine ⟨by rw [List.length_map, List.length_range']; exact Nat.le_of_lt (small1000 (by lia)), fun _ => true, toF f, fun d hd => ?_, ?_⟩
      · obtain ⟨x, hx, rfl⟩ := List.mem_map.mp hd
        rw [List.mem_range'_1] at hx
        refine ⟨⟨_, rfl, rfl⟩, rfl, fun _ => ⟨_, rfl, _, rfl, _, _, _, _, rfl, rfl, on2.val x (by lia), ?_⟩⟩
        show nD (f x) = nD (f ((x : Int)).toNat)
        rw [Int.toNat_natCast]
      · rw [toF_map]
        exact ⟨_, .inl rfl, _, rfl, q _ _ hg nx ofF_len (by lia)⟩
end
end K08
end
section
namespace K08
open PySem L2 LB LD MH LSrt PyProof.Rows
def isHungS : DN := fun ds Q => ∃ hs : List Nat, ds = [tupN hs] ∧ 1 ≤ hs.length ∧ hs.length ≤ 12 ∧ (∀ x ∈ hs, x ≤ hs.length) ∧ ∀ b, (b = true ↔ Hg hs) → Q (.bl b)
noncomputable def cz (L : List Nat) : List Int := L.map Int.ofNat
theorem cz_len {L : List Nat} : (cz L).length = L.length := List.length_map ..
theorem cz_app {L M : List Nat} : cz (L ++ M) = cz L ++ cz M := List.map_append ..
theorem cz_nd {L : List Nat} (h : L.Nodup) : (cz L).Nodup := List.Pairwise.map _ (fun a b (n : a ≠ b) (z : Int.ofNat a = Int.ofNat b) => n (Int.ofNat.inj z)) h
theorem val_cz {x : Nat} : ∀ {L : List Nat}, (valD (ksT (cz L)) (dsT (cz L)) (.inl (x : Int))).isSome = decide (x ∈ L)
 | [] => by simp [cz, ksT, dsT, valD]
 | y :: L => by
  show (valD (.inl (y : Int) :: ksT (cz L)) (.bl true :: dsT (cz L)) (.inl (x : Int))).isSome = _
  rw [valD]
  by_cases c : y = x
  · subst c
    rw [if_pos rfl]; simp
  · rw [if_neg (fun z => c (by have := Sum.inl.inj z; omega)), val_cz]
    have : x ≠ y := fun z => c z.symm
    simp [this]
noncomputable def onP (f : Nat → Nat → Bool) : Dt → Bool
 | .tup [.int a, .int b] => f a.toNat b.toNat
 | _ => false
theorem onP_eq {f : Nat → Nat → Bool} {x y : Nat} : onP f (.tup [nD x, nD y]) = f x y := by
 show f ((x : Int)).toNat ((y : Int)).toNat = _
 rw [Int.toNat_natCast, Int.toNat_natCast]
noncomputable def fstD : Dt → Dt
 | .tup [a, _] => a
 | d => d
section
variable {P : Program} {w : World} {K : PySem.W.Frag} {mg : Str → Option Value} {base : Heap}
theorem ok_isHung {f : Addr} {fd : FuncData} (F : Fun K "_law_is_hung" "_law_is_hung" sLIsHung f fd) (T : Txt mg) : FnOk P w K mg base CX0 1 f fd ["_law_h"] (spA isHungS) := by
 refine fnA F scLIsHung (fun ds Qd h => ?_) (fun cdv A outer s H E hr => ⟨_, (s_cons (s_dictT 1 scLIsHung.nd hr.hd T.dct (a_cons (Ov.ev (o_comp (N := ["_law_word", "_law_on"]) (nt := 2) (js := []) ⟨rfl, by decide +kernel, by decide, rfl, by decide +kernel, (by show ∀ x ∈ (_ : List (Str × NameKind)), x.2 = NameKind.free → (defScope sLIsHung).names.lookup x.1 = some .cell ∨ (defScope sLIsHung).names.lookup x.1 = some .free; decide +kernel)⟩ rfl (i_enum1 T.enu (a_cons (dv 0) (a_cons d_int a_nil))) (fun _ _ _ _ _ => pg_tup rfl (pgs_cons (pg_name (i := 0) (show (["_law_word", "_law_on"] : List Str).Nodup by decide +kernel) rfl (by first | exact Or.inl rfl | exact Or.inr rfl)) (pgs_cons (pg_name (i := 1) (show (["_law_word", "_law_on"] : List Str).Nodup by decide +kernel) rfl (by first | exact Or.inl rfl | exact Or.inr rfl)) pgs_nil))) glow_pair gpair_read (fun _ _ _ _ _ => f_one (t_eq (dv 1) d_int)) (fun _ _ _ _ _ => d_tup (a_cons (dv 0) (a_cons d_bl a_nil))))) a_nil))
 (s_cons (s_if (t_ne (d_lenD 1 T.len (pv 1)) d_int) (s_one (s_ret d_bl)) s_nil)
 (s_cons (s_for rfl (i_tup (dv 0)) (g_name 2 scLIsHung.nd)
 (s_cons (s_compL 3 1 scLIsHung.nd (N := ["_law_word", "_law_on", "_law_placed"]) (nt := 2) (js := [1]) ⟨rfl, by decide +kernel, by decide, rfl, by decide +kernel, (by show ∀ x ∈ (_ : List (Str × NameKind)), x.2 = NameKind.free → (defScope sLIsHung).names.lookup x.1 = some .cell ∨ (defScope sLIsHung).names.lookup x.1 = some .free; decide +kernel)⟩ rfl (i_enum1 T.enu (a_cons (dv 0) (a_cons d_int a_nil))) (fun _ _ _ _ _ => pg_tup rfl (pgs_cons (pg_name (i := 0) (show (["_law_word", "_law_on", "_law_placed"] : List Str).Nodup by decide +kernel) rfl (by first | exact Or.inl rfl | exact Or.inr rfl)) (pgs_cons (pg_name (i := 1) (show (["_law_word", "_law_on", "_law_placed"] : List Str).Nodup by decide +kernel) rfl (by first | exact Or.inl rfl | exact Or.inr rfl)) pgs_nil))) glow_pair gpair_read (fun _ _ _ _ _ => f_one (PW.pt (w_and (t_din (hu_of hr) (dv 1) (dv 2)) (w_and1 (t_dnotin (hu_of hr) (dv 0) (dv 2)))))) (fun _ _ _ _ _ => dv 0))
 (s_cons (s_expr (d_updT 1 hr.hd (pv 1) (a_cons (Ov.ev (o_comp (N := ["_law_word"]) (nt := 1) (js := []) ⟨rfl, by decide +kernel, by decide, rfl, by decide +kernel, (by show ∀ x ∈ (_ : List (Str × NameKind)), x.2 = NameKind.free → (defScope sLIsHung).names.lookup x.1 = some .cell ∨ (defScope sLIsHung).names.lookup x.1 = some .free; decide +kernel)⟩ rfl (i_list (dv 3)) (fun _ _ _ _ _ => pg_name (i := 0) (show (["_law_word"] : List Str).Nodup by decide +kernel) rfl (by first | exact Or.inl rfl | exact Or.inr rfl)) glow_name gname_read (fun _ _ _ _ _ => f_nil) (fun _ _ _ _ _ => d_tup (a_cons (dv 0) (a_cons d_bl a_nil))))) a_nil)))
 (s_one (s_if (t_eqNilL hr.units0 (dv 3)) (s_one (s_ret (d_eq (d_lenD 1 T.len (pv 1)) (d_len T.len (a_cons (dv 0) a_nil))))) s_nil)))) PassesOwn.never)
 (s_one (s_ret (d_eq (d_lenD 1 T.len (pv 1)) (d_len T.len (a_cons (dv 0) a_nil)))))))), fun ds Qd h => ?_⟩)
 · obtain ⟨hs, rfl, _⟩ := h; rfl
 · obtain ⟨hs, rfl, h1, h12, hle, q⟩ := h
   have hl : (enumD 1 (hs.map nD)).length = hs.length := by rw [en1, List.length_map, List.length_range']
   have dl : (hs.map nD).length = hs.length := List.length_map ..
   refine ⟨_, rfl, _, rfl, by rw [hl]; exact Nat.le_of_lt (small1000 (by omega)), onP fun _ y => decide (y = 0), fun d => .tup [fstD d, .bl true], fun d hd => ?_, ?_⟩
   · rw [en1] at hd
     obtain ⟨x, _, rfl⟩ := List.mem_map.mp hd
     refine ⟨_, _, rfl, ⟨_, rfl, rfl⟩, ⟨_, rfl, rfl⟩, _, rfl, _, eq2N (y := 0), _, rfl, ?_, fun _ => ⟨_, rfl, by show 2 ≤ sizeLine; decide, rfl⟩⟩
     rw [onP_eq]
   have e0 : List.map (fun d => Dt.tup [fstD d, .bl true]) (List.filter (onP fun _ y => decide (y = 0)) (enumD 1 (hs.map nD))) = (cz (tops hs)).map prT := by
    rw [en1, List.filter_map, List.map_map]
    have : (onP (fun _ y => decide (y = 0)) ∘ fun x => Dt.tup [nD x, nD (up hs x)]) = fun x => decide (up hs x = 0) := by funext x; exact onP_eq
    rw [this]
    unfold cz tops
    rw [List.map_map]
    rfl
   rw [e0]
   have tl : (tops hs).length ≤ 12 := Nat.le_trans (List.length_filter_le _ _) (by rw [List.length_range']; exact h12)
   refine ⟨cz (tops hs), rfl, cz_nd tops_nd, by rw [cz_len]; omega, ⟨_, rfl, rfl⟩, ?_⟩
   have kl : ∀ L : List Nat, (ksT (cz L)).length = L.length := fun L => by unfold ksT; rw [List.length_map, cz_len]
   refine ⟨_, _, rfl, decide ((tops hs).length = 1), by rw [kl]; exact eq2N (x := (tops hs).length) (y := 1), _, rfl, ?_⟩
   by_cases c1 : (tops hs).length = 1
   · obtain ⟨t, ht⟩ : ∃ t, tops hs = [t] := by
       match h : tops hs, c1 with
       | [t], _ => exact ⟨t, rfl⟩
     rw [decide_eq_true c1]
     refine iteF ?_
     rw [ht]
     refine ⟨_, rfl, _, rfl, fun i δ => ∃ L rk s2 s3, δ = [.im (tupN hs), .dk (ksT (cz L)) (dsT (cz L)), s2, s3] ∧ (s2 = .no ∨ ∃ d, s2 = .im d) ∧ (s3 = .no ∨ ∃ d, s3 = .im d) ∧ Plc hs t (i + 1) L rk, ⟨[t], _, .no, .no, rfl, .inl rfl, .inl rfl, Plc.start ht⟩, fun i d δ hi hP => ?_, fun δ hP => ?_⟩
     · obtain ⟨L, rk, s2, s3, rfl, o2, o3, g⟩ := hP
       have gl := g.le
       have b2 : s2.isBx = false := by rcases o2 with rfl | ⟨_, rfl⟩ <;> rfl
       have b3 : s3.isBx = false := by rcases o3 with rfl | ⟨_, rfl⟩ <;> rfl
       refine ⟨⟨_, rfl, b2⟩, ?_⟩
       refine ⟨_, _, rfl, ?_, _, rfl, _, rfl, by rw [hl]; exact Nat.le_of_lt (small1000 (by omega)), onP fun x y => decide (y ∈ L) && !decide (x ∈ L), fstD, fun e he => ?_, ?_⟩
       · intro j s nj hj
         match j, nj, hj with
         | 0, _, hj => cases hj; exact .inr (.inl ⟨_, rfl⟩)
         | 1, nj, _ => exact absurd rfl nj
         | 2, _, hj => cases hj; exact .inr (.inl ⟨_, rfl⟩)
         | 3, _, hj =>
          cases hj
          rcases o3 with rfl | ⟨d3, rfl⟩
          · exact .inl rfl
          · exact .inr (.inl ⟨_, rfl⟩)
         | n + 4, _, hj => cases hj
       · rw [en1] at he
         obtain ⟨x, _, rfl⟩ := List.mem_map.mp he
         refine ⟨_, _, rfl, ⟨_, rfl, rfl⟩, ⟨_, rfl, rfl⟩, _, rfl, _, rfl, _, _, _, rfl, rfl, _, rfl, ?_⟩
         rw [onP_eq]
         rw [if_neg Bool.false_ne_true, val_cz]
         by_cases cy : up hs x ∈ L
         · rw [decide_eq_true cy]
           refine iteT ⟨_, rfl, _, rfl, _, _, _, rfl, rfl, _, rfl, ?_, fun _ => ⟨_, rfl, rfl⟩⟩
           rw [if_pos rfl, val_cz, Bool.true_and]
         · rw [decide_eq_false cy]
           exact iteF ⟨by rw [Bool.false_and], fun z => by cases z⟩
       · have e1 : List.map fstD (List.filter (onP fun x y => decide (y ∈ L) && !decide (x ∈ L)) (enumD 1 (hs.map nD))) = (cz (moreL hs L)).map .int := by
           rw [en1, List.filter_map, List.map_map]
           have : (onP (fun x y => decide (y ∈ L) && !decide (x ∈ L)) ∘ fun x => Dt.tup [nD x, nD (up hs x)]) = fun x => decide (up hs x ∈ L) && !decide (x ∈ L) := by funext x; exact onP_eq
           rw [this]
           unfold cz moreL
           rw [List.map_map]
           rfl
         rw [e1]
         have ml : (moreL hs L).length ≤ 12 := Nat.le_trans (List.length_filter_le _ _) (by rw [List.length_range']; exact h12)
         refine ⟨rfl, ⟨_, rfl⟩, ⟨_, rfl, b3⟩, ?_⟩
         refine ⟨⟨_, _, rfl⟩, _, rfl, _, rfl, by rw [List.length_map, cz_len]; exact Nat.le_of_lt (small1000 (by omega)), fun _ => true, fun d => .tup [d, .bl true], fun e he => ⟨⟨_, rfl, rfl⟩, rfl, fun _ => ⟨_, rfl, by show 2 ≤ sizeLine; decide, rfl⟩⟩, ?_⟩
         rw [List.filter_eq_self.mpr (fun _ _ => rfl)]
         have e2 : ((cz (moreL hs L)).map Dt.int).map (fun d => Dt.tup [d, .bl true]) = (cz (moreL hs L)).map prT := by rw [List.map_map]; rfl
         rw [e2]
         refine ⟨cz L, cz (moreL hs L), rfl, rfl, by rw [← cz_app]; exact cz_nd g.app_nd, by rw [← cz_app, cz_len, List.length_append]; omega, ?_⟩
         rw [← cz_app]
         refine ⟨_, rfl, _, rfl, _, rfl, ?_⟩
         by_cases ce : moreL hs L = []
         · rw [ce, List.append_nil]
           refine iteT ?_
           refine ⟨_, _, rfl, _, rfl, _, .inr rfl, decide (L.length = hs.length), ?_, ?_⟩
           · rw [kl, dl]; exact eq2N
           · refine q _ ?_
             rw [decide_eq_true_eq]
             exact g.iff ht hle ce
         · have ne : ((cz (moreL hs L)).map Dt.int).isEmpty = false := by
             cases hm : moreL hs L with
             | nil => exact absurd hm ce
             | cons a l => rfl
           rw [show (if false = true then !((cz (moreL hs L)).map Dt.int).isEmpty else ((cz (moreL hs L)).map Dt.int).isEmpty) = false by rw [if_neg Bool.false_ne_true]; exact ne]
           refine iteF ?_
           exact ⟨L ++ moreL hs L, _, _, _, rfl, .inr ⟨_, rfl⟩, .inr ⟨_, rfl⟩, g.step ce⟩
     · obtain ⟨L, rk, s2, s3, rfl, o2, o3, g⟩ := hP
       exfalso
       have a := g.len
       have b := g.le
       rw [dl] at a
       omega
   · rw [decide_eq_false c1]
     refine iteT ?_
     refine q false ⟨fun z => (by cases z), fun hg => ?_⟩
     obtain ⟨t, ht⟩ := tops_one hg
     rw [ht] at c1
     exact absurd rfl c1
end
end K08
end
section
namespace K08
open PySem PySem.Spec L2 LB LD MH LSrt PyProof.Rows
def fitsS : DN := fun ds Q => ∃ (s : List Nat) (on : Nat), ds = [tupN s, nD on] ∧ Ac s ∧ s.length ≤ 12 ∧ ∀ b, (b = true ↔ Fits s on) → Q (.bl b)
def mayS : DN := fun ds Q => ∃ (s : List Nat) (on : Nat), ds = [tupN s, nD on] ∧ Okp s ∧ s.length ≤ 12 ∧ (∀ x ∈ s, x ≤ 12) ∧ on ≤ 12 ∧ Q (.bl (mayB s on))
noncomputable def muF (s : List Nat) (rk : Nat → Nat) (a : Nat) : Nat := if 1 ≤ a ∧ a ≤ s.length then rk a + 1 else 0
inductive IfI (s : List Nat) (on : Nat) (rk : Nat → Nat) (m : Nat) (δ : List Sl) : Prop
 | mk (a : Nat) (e : δ = [.im (tupN s), .im (nD on), .im (nD (s.length + 1)), .im (nD a)]) (h : muF s rk a = m) (r : Rc s on (s.length + 1) ↔ Rc s a (s.length + 1))
noncomputable def croF (n : Nat × Nat) (d : Dt) : Dt := .bl (crs n (unPr d) || crs (unPr d) n)
theorem noc_iff {s : List Nat} {on : Nat} {L : List (Nat × Nat)} (hL : L.Perm (tiesU s)) : (L.any fun q => crs (tieP (s.length + 1) on) q || crs q (tieP (s.length + 1) on)) = false ↔ NoC s on := by
 rw [List.any_eq_false]
 constructor
 · intro h x h1 h2
   have := h (tieN s x) (hL.mem_iff.mpr (by unfold tiesU; exact List.mem_map_of_mem (List.mem_range'_1.mpr ⟨h1, by lia⟩)))
   rw [Bool.not_eq_true, Bool.or_eq_false_iff] at this
   exact this
 · intro h q hq
   have hq := hL.mem_iff.mp hq
   unfold tiesU at hq
   obtain ⟨x, hx, rfl⟩ := List.mem_map.mp hq
   have hx := List.mem_range'_1.mp hx
   rw [Bool.not_eq_true, Bool.or_eq_false_iff]
   exact h x hx.1 (by lia)
section
variable {P : Program} {w : World} {K : PySem.W.Frag} {mg : Str → Option Value} {base : Heap}
theorem ok_fits {f : Addr} {fd : FuncData} (F : Fun K "fits" "fits" sFits f fd) (T : Txt mg) : FnOk P w K mg base CX0 1 f fd ["start", "on"] (spA fitsS) := by
 refine fnA F scFits (fun ds Qd h => ?_) (fun cdv A outer s H E hr => ⟨_, (s_cons (s_set 2 scFits.nd (d_add (d_len T.len (a_cons (dv 0) a_nil)) d_int))
 (s_cons (s_if (t_eq (dv 1) d_int)
 (s_one (s_ret (d_notin d_int (dv 0))))
 s_nil)
 (s_cons (s_set 3 scFits.nd (dv 1))
 (s_cons (s_while (t_lt2 d_int (dv 3) (dv 2))
 (s_one (s_set 3 scFits.nd (d_ix (dv 0) (d_sub (dv 3) d_int)))) PassesOwn.never)
 (s_one (s_ret (d_ne (dv 3) (dv 2)))))))), fun ds Qd h => ?_⟩)
 · obtain ⟨s, on, rfl, _⟩ := h; rfl
 · obtain ⟨s, on, rfl, ac, l12, q⟩ := h
   obtain ⟨rk, hrk⟩ := ac
   refine ⟨_, rfl, _, .inr rfl, _, _, rfl, rfl, ⟨_, rfl, rfl⟩, ?_⟩
   rw [show (((s.map nD).length : Nat) : Int) + 1 = ((s.length + 1 : Nat) : Int) by rw [List.length_map]; rfl]
   refine ⟨_, rfl, _, eq2N (y := 0), _, rfl, ?_⟩
   by_cases e : on = 0
   · rw [decide_eq_true e]
     refine iteT ⟨_, rfl, _, .inr rfl, rfl, flatN s, q _ ?_⟩
     unfold Fits
     rw [if_pos e]
     show (!inD (nD 0) (s.map nD)) = true ↔ _
     rw [inN]
     simp
   · rw [decide_eq_false e]
     refine iteF ⟨_, rfl, ⟨_, rfl, rfl⟩, ?_⟩
     have fin : ∀ a : Nat, (Rc s on (s.length + 1) ↔ Rc s a (s.length + 1)) → (a = 0 ∨ s.length < a) → ((!decide (a = s.length + 1)) = true ↔ Fits s on) := fun a hr2 ha => by
      unfold Fits
      rw [if_neg e, hr2, Bool.not_eq_true', decide_eq_false_iff_not]
      exact ⟨fun h r => h (r.stop ha), fun h z => h (z ▸ Rc.refl)⟩
     refine while_abs (IfI s on rk) ⟨_, on, rfl, rfl, Iff.rfl⟩ fun m δ hI Δ2 hn2 _ => ?_
     obtain ⟨a, rfl, hm, hr2⟩ := hI
     refine ⟨_, rfl, _, _, rfl, rfl, _, rfl, ?_⟩
     by_cases a0 : 0 < a
     · rw [decide_eq_true (show (0 : Int) < (a : Int) by lia)]
       refine iteT ⟨_, rfl, _, _, rfl, rfl, _, rfl, ?_⟩
       by_cases a1 : a < s.length + 1
       · rw [decide_eq_true (show (a : Int) < ((s.length + 1 : Nat) : Int) by lia)]
         refine iteT ⟨_, rfl, _, rfl, _, _, rfl, rfl, _, _, _, .inr rfl, rfl, atN (by lia) (by lia), ⟨_, rfl, rfl⟩, hn2 _ _ ?_ ⟨up s a, rfl, rfl, hr2.trans (Rc.step_iff (by lia) (by lia) (by lia))⟩⟩
         rw [← hm]
         unfold muF
         rw [if_pos (show 1 ≤ a ∧ a ≤ s.length by lia)]
         by_cases c : 1 ≤ up s a ∧ up s a ≤ s.length
         · rw [if_pos c]
           have := hrk a (by lia) (by lia) c.1 c.2
           lia
         · rw [if_neg c]; lia
       · rw [decide_eq_false (show ¬ (a : Int) < ((s.length + 1 : Nat) : Int) by lia)]
         exact iteF ⟨_, rfl, _, rfl, _, eq2N, q _ (fin a hr2 (.inr (by lia)))⟩
     · rw [decide_eq_false (show ¬ (0 : Int) < (a : Int) by lia)]
       exact iteF ⟨_, rfl, iteF ⟨_, rfl, _, rfl, _, eq2N, q _ (fin a hr2 (.inl (by lia)))⟩⟩
theorem ok_fitsPlain {f : Addr} {fd : FuncData} (F : Fun K "fits_plain" "fits_plain" sFitsPlain f fd) (T : Txt mg) (NFits : Has P w K mg base "fits" 1 ["start", "on"] (spA fitsS)) (NTie : Has P w K mg base "tie" 1 ["word", "on"] (spA tieS)) (NCross : Has P w K mg base "cross" 1 ["first", "second"] (spA crossS)) (NTies : Has P w K mg base "ties" 2 ["h"] (spA tiesS)) : FnOk P w K mg base CX0 3 f fd ["start", "on"] (spA mayS) := by
 refine fnA F scFitsPlain (fun ds Qd h => ?_) (fun cdv A outer s H E hr => ⟨_, (s_cons (s_if (t_not (d_val (d_fnA NFits (hr.mono (by decide)) (a_cons (dv 0) (a_cons (dv 1) a_nil)))))
 (s_one (s_ret d_bl))
 s_nil)
 (s_cons (s_set 2 scFitsPlain.nd (d_fnA NTie (hr.mono (by decide)) (a_cons (d_add (d_len T.len (a_cons (dv 0) a_nil)) d_int) (a_cons (dv 1) a_nil))))
 (s_one (s_ret (d_not (d_any rfl T.any (a_cons (Ov.ev (o_comp (N := ["old", "new"]) (nt := 1) (js := [2]) ⟨rfl, by decide +kernel, by decide, rfl, by decide +kernel, (by show ∀ x ∈ (_ : List (Str × NameKind)), x.2 = NameKind.free → (defScope sFitsPlain).names.lookup x.1 = some .cell ∨ (defScope sFitsPlain).names.lookup x.1 = some .free; decide +kernel)⟩ rfl (i_list (d_fnA NTies (hr.mono (by decide)) (a_cons (dv 0) a_nil))) (fun _ _ _ _ _ => pg_name (i := 0) (show (["old", "new"] : List Str).Nodup by decide +kernel) rfl (by first | exact Or.inl rfl | exact Or.inr rfl)) glow_name gname_read (fun _ _ _ _ _ => f_nil) (fun _ _ _ _ _ => (d_or (d_fnA NCross (hr.mono (by decide)) (a_cons (dv 1) (a_cons (dv 0) a_nil))) (d_one (d_fnA NCross (hr.mono (by decide)) (a_cons (dv 0) (a_cons (dv 1) a_nil)))))))) a_nil))))))), fun ds Qd h => ?_⟩)
 · obtain ⟨s, on, rfl, _⟩ := h; rfl
 · obtain ⟨s, on, rfl, ok, l12, hle, o12, q⟩ := h
   have bl : ∀ b : Bool, (b = true ↔ May s on) → Qd (.bl b) := fun b hb => by
    have : b = mayB s on := by rw [Bool.eq_iff_iff, hb, mayB_iff]
    rw [this]; exact q
   refine ⟨_, rfl, _, rfl, s, on, rfl, ok.ac, l12, fun b hb => ⟨_, rfl, ?_⟩⟩
   cases b with
   | false => exact iteT (bl false ⟨fun z => (nomatch z), fun z => hb.mpr z.1⟩)
   | true =>
    have hf := hb.mp rfl
    refine iteF ⟨_, rfl, _, .inr rfl, _, _, rfl, rfl, _, rfl, s.length + 1, on, ?_, ⟨_, rfl, rfl⟩, ?_⟩
    · rw [List.length_map]; rfl
    refine ⟨_, rfl, s, rfl, l12, hle, fun L hL => ?_⟩
    have Ll : L.length = s.length := hL.length_eq.trans tiesU_len
    refine ⟨_, rfl, by rw [List.length_map]; exact Nat.le_of_lt (small1000 (by lia)), fun _ => true, croF (tieP (s.length + 1) on), fun d hd => ?_, ?_⟩
    · obtain ⟨p, _, rfl⟩ := List.mem_map.mp hd
      refine ⟨⟨_, rfl, rfl⟩, rfl, fun _ => ?_⟩
      refine ⟨_, rfl, _, rfl, tieP (s.length + 1) on, p, rfl, ?_⟩
      unfold croF
      rw [unPr_prN]
      cases c : crs (tieP (s.length + 1) on) p with
      | true => exact ⟨_, rfl, iteT rfl⟩
      | false => exact ⟨_, rfl, iteF ⟨_, rfl, _, rfl, p, tieP (s.length + 1) on, rfl, rfl⟩⟩
    · refine ⟨L.map fun q => crs (tieP (s.length + 1) on) q || crs q (tieP (s.length + 1) on), ?_, ?_⟩
      · rw [List.filter_eq_self.mpr fun _ _ => rfl, List.map_map, List.map_map]
        congr 2
      · refine ⟨_, rfl, bl _ ?_⟩
        rw [List.any_map]
        show (!(L.any fun q => crs (tieP (s.length + 1) on) q || crs q (tieP (s.length + 1) on))) = true ↔ _
        rw [Bool.not_eq_true', noc_iff hL]
        exact ⟨fun z => ⟨hf, z⟩, fun z => z.2⟩
end
end K08
end
section
namespace K08
open PySem PySem.Spec L2 LB LD MH LSrt PyProof.Rows
noncomputable def grownS (fm : Addr) : DS := fun ss Q => ∃ n : Nat, ss = [.im (nD n), .fn fm] ∧ 1 ≤ n ∧ n ≤ 6 ∧ Q (.lst ((grow n n).map tupN))
noncomputable def allS : DN := fun ds Q => ∃ n : Nat, ds = [nD n] ∧ 1 ≤ n ∧ n ≤ 6 ∧ Q (.lst ((grow n n).map tupN))
inductive GrI (n : Nat) (fm : Addr) (i : Nat) (δ : List Sl) : Prop
 | mk (s3 : Sl) (e : δ = [.im (nD n), .fn fm, .im (.lst ((grow n i).map tupN)), s3]) (b : s3.isBx = false)
theorem grow_len {n : Nat} : ∀ k : Nat, (grow n k).length ≤ (n + 1) ^ k
 | 0 => Nat.le_refl _
 | k + 1 => by
  show ((grow n k).flatMap _).length ≤ _
  refine Nat.le_trans (flat_len (k := n + 1) fun s _ => ?_) ?_
  · rw [List.length_map]
    exact Nat.le_trans (List.length_filter_le _ _) (by rw [List.length_range]; exact Nat.le_refl _)
  · rw [Nat.pow_succ]
    exact Nat.mul_le_mul_right _ (grow_len k)
theorem grow_small {n k : Nat} (hn : n ≤ 6) (hk : k ≤ 6) : (grow n k).length < sizeLine := by
 have h1 : (n + 1) ^ k ≤ 7 ^ k := Nat.pow_le_pow_left (by lia) k
 have h2 : 7 ^ k ≤ 7 ^ 6 := Nat.pow_le_pow_right (by lia) hk
 have := grow_len (n := n) k
 rw [sizeLine_eq]
 lia
noncomputable def unT : Dt → List Nat
 | .tup ds => ds.map fun d => match d with | .int i => i.toNat | _ => 0
 | _ => []
theorem unT_tup {s : List Nat} : unT (tupN s) = s := by
 show (s.map nD).map _ = s
 rw [List.map_map]
 refine (List.map_congr_left fun x _ => ?_).trans (List.map_id s)
 show ((x : Int)).toNat = x
 exact Int.toNat_natCast x
noncomputable def growF (n : Nat) (d : Dt) : List Dt := (((List.range (n + 1)).filter (mayB (unT d))).map fun o => unT d ++ [o]).map tupN
theorem growF_all {n k : Nat} : ((grow n k).map tupN).flatMap (growF n) = (grow n (k + 1)).map tupN := by
 show _ = ((grow n k).flatMap _).map tupN
 rw [List.map_flatMap, List.flatMap_map]
 congr 1
 funext s
 show growF n (tupN s) = _
 unfold growF
 rw [unT_tup]
theorem rng0' {n : Nat} : ((List.range (((n : Nat) : Int) + 1).toNat).map fun k => Dt.int (0 + ((k : Nat) : Int))) = (List.range (n + 1)).map nD := by
 rw [show (((n : Nat) : Int) + 1).toNat = n + 1 by lia]
 refine List.map_congr_left fun k _ => ?_
 rw [Int.zero_add]
 rfl
section
variable {P : Program} {w : World} {K : PySem.W.Frag} {mg : Str → Option Value} {base : Heap}
theorem ok_grown {fm : Addr} (hM : HasF P w K mg base fm 3 ["start", "on"] (spA mayS)) {f : Addr} {fd : FuncData} (F : Fun K "grown" "grown" sGrown f fd) (T : Txt mg) : FnOk P w K mg base CX0 4 f fd ["n", "may_follow"] (spS (grownS fm)) := by
 refine fnS F scGrown (fun ss Qd h => ?_) (fun cdv A outer s H E hr => ⟨_, (s_cons (s_set 2 scGrown.nd (d_lst (a_cons (d_tup a_nil) a_nil)))
 (s_cons (s_for rfl (i_rng1 T.rng (a_cons (dv 0) a_nil)) (g_name 3 scGrown.nd)
 (s_one (s_comp2F 2 1 (N := ["start", "on", "n", "may_follow"]) (nt := 2) (js := [0, 1]) scGrown.nd ⟨rfl, by decide +kernel, by decide, rfl, by decide +kernel, (by show ∀ x ∈ (_ : List (Str × NameKind)), x.2 = NameKind.free → (defScope sGrown).names.lookup x.1 = some .cell ∨ (defScope sGrown).names.lookup x.1 = some .free; decide +kernel)⟩ rfl
 (i_list (dv 2)) (fun _ _ _ _ _ => pg_name (i := 0) (show (["start", "on", "n", "may_follow"] : List Str).Nodup by decide +kernel) rfl (by first | exact Or.inl rfl | exact Or.inr rfl)) glow_name gname_read (fun _ _ _ _ _ => f_nil) (fun _ _ _ _ _ => (i_rng1 T.rng (a_cons (d_add (dv 2) d_int) a_nil))) (fun _ _ _ _ _ => pg_name (i := 1) (show (["start", "on", "n", "may_follow"] : List Str).Nodup by decide +kernel) rfl (by first | exact Or.inl rfl | exact Or.inr rfl)) gmid_name gname_read (fun _ _ _ _ _ => f_one (d_val (d_fnF 3 hM (hr.mono (by decide)) (pv 3) (a_cons (dv 0) (a_cons (dv 1) a_nil))))) (fun _ _ _ _ _ => (d_catT (dv 0) (d_tup (a_cons (dv 1) a_nil)))))) PassesOwn.never)
 (s_one (s_ret (dv 2))))), fun ss Qd h => ?_⟩)
 · obtain ⟨n, rfl, _⟩ := h; rfl
 · obtain ⟨n, rfl, n1, n6, q⟩ := h
   refine ⟨by show 0 ≤ sizeLine; decide, by show 1 ≤ sizeLine; decide, ⟨_, rfl, rfl⟩, ?_⟩
   refine ⟨_, rfl, n, rfl, by lia, by lia, ?_⟩
   refine for_abs (GrI n fm) ⟨.no, rfl, rfl⟩ (fun i d δ hi hP Δ' hnx _ => ?_) (fun δ hP => ?_)
   · obtain ⟨s3, rfl, b3⟩ := hP
     have il : i < n := by have := (List.getElem?_eq_some_iff.mp hi).1; simp at this; exact this
     refine ⟨⟨_, rfl, b3⟩, ?_⟩
     refine ⟨_, rfl, _, rfl, growF n, ?_, fun d hd => ?_, ?_⟩
     · rw [growF_all, List.length_map]; exact grow_small n6 (by lia)
     · obtain ⟨s, hs, rfl⟩ := List.mem_map.mp hd
       obtain ⟨ok, sl, sle⟩ := mem_grow.mp hs
       refine ⟨⟨_, rfl, rfl⟩, ?_⟩
       simp only [dTrue, if_true]
       refine ⟨_, rfl, _, _, rfl, rfl, ((n : Nat) : Int) + 1, rfl, by lia, by lia, isN (mayB s), onN fun o => tupN (s ++ [o]), fun e he => ?_, ?_⟩
       · rw [rng0'] at he
         obtain ⟨o, ho, rfl⟩ := List.mem_map.mp he
         have := List.mem_range.mp ho
         refine ⟨⟨_, rfl, rfl⟩, rfl, _, rfl, _, rfl, s, o, rfl, ok, by lia, fun x hx => by have := sle x hx; lia, by lia, _, rfl, by rw [isN_nD], fun _ => ?_⟩
         exact ⟨_, rfl, _, rfl, by show 1 ≤ sizeLine; decide, _, _, rfl, rfl, by rw [List.length_map]; exact Nat.le_of_lt (small1000 (by show s.length + 1 ≤ 1000; lia)), by rw [onN_nD]; unfold tupN; rw [List.map_append]; rfl⟩
       · rw [rng0']
         unfold growF
         rw [unT_tup, List.map_map, List.filter_map, List.map_map]
         have e1 : (isN (mayB s) ∘ nD) = mayB s := by funext o; exact isN_nD
         rw [e1]
         refine List.map_congr_left fun o _ => ?_
         show tupN (s ++ [o]) = onN (fun o => tupN (s ++ [o])) (nD o)
         rw [onN_nD]
     · rw [growF_all]
       exact ⟨⟨_, rfl, rfl⟩, hnx _ ⟨_, rfl, rfl⟩⟩
   · obtain ⟨s3, rfl, b3⟩ := hP
     rw [List.length_map, List.length_range, Int.toNat_natCast]
     exact ⟨_, rfl, q⟩
theorem ok_allPlain {fm : Addr} (gF : mg "fits_plain" = some (.ref fm)) {f : Addr} {fd : FuncData} (F : Fun K "all_plain" "all_plain" sAllPlain f fd) (T : Txt mg) (NGrown : Has P w K mg base "grown" 4 ["n", "may_follow"] (spS (grownS fm))) : FnOk P w K mg base CX0 5 f fd ["n"] (spA allS) := by
 refine fnA F scAllPlain (fun ds Qd h => ?_) (fun cdv A outer s H E hr => ⟨_, (s_one (s_ret (d_fnS NGrown (hr.mono (by decide)) (w_im (dv 0) (w_gl (by rfl) gF w_nil))))), fun ds Qd h => ?_⟩)
 · obtain ⟨n, rfl, _⟩ := h; rfl
 · obtain ⟨n, rfl, n1, n6, q⟩ := h
   exact ⟨_, rfl, n, rfl, n1, n6, q⟩
end
end K08
end
section
namespace K08
open PySem PySem.Spec L2 LB LD MH LSrt PyProof.Rows
noncomputable def optD : Option (List Nat) → Dt
 | none => .non
 | some s => tupN s
def nextS : DN := fun ds Q => ∃ (n : Nat) (h : List Nat), ds = [tupN h] ∧ Pl n h ∧ 1 ≤ n ∧ n ≤ 6 ∧ ∀ r, NxA n h r → Q (optD r)
inductive NxI (n : Nat) (h : List Nat) (m : Nat) (δ : List Sl) : Prop
 | mk (s : List Nat) (low : Nat) (s3 : Sl) (e : δ = [.im (tupN h), .im (tupN s), .im (nD low), s3]) (b : s3.isBx = false) (N : Nx n h s low) (hm : nxM n s low = m)
theorem cut_last {s : List Nat} {x : Nat} : LD.cutD ((s ++ [x]).map nD) none (some (-1)) = s.map nD := by
 unfold LD.cutD HT.sIx
 rw [List.map_append]
 simp
 rw [show (-1 + ((s.length : Int) + 1)).toNat = (s.map nD).length by rw [List.length_map]; lia, List.take_left']
 rfl
theorem rngL {l n : Nat} : ((List.range (((n : Nat) : Int) + 1 - (l : Int)).toNat).map fun k => Dt.int ((l : Int) + (k : Nat))) = (List.range' l (n + 1 - l)).map nD := by
 rw [show (((n : Nat) : Int) + 1 - (l : Int)).toNat = n + 1 - l by lia, List.range'_eq_map_range, List.map_map]
 refine List.map_congr_left fun k _ => ?_
 show Dt.int _ = Dt.int _
 congr 1
theorem ons_nil {s : List Nat} {n low : Nat} (e : (List.range' low (n + 1 - low)).filter (mayB s) = []) : ∀ x, low ≤ x → x ≤ n → ¬ May s x := fun x h1 h2 m => by
 have : x ∈ (List.range' low (n + 1 - low)).filter (mayB s) := List.mem_filter.mpr ⟨List.mem_range'_1.mpr ⟨h1, by lia⟩, mayB_iff.mpr m⟩
 rw [e] at this
 exact List.not_mem_nil this
theorem ons_cons {s : List Nat} {n low o : Nat} {L : List Nat} (e : (List.range' low (n + 1 - low)).filter (mayB s) = o :: L) : low ≤ o ∧ o ≤ n ∧ May s o ∧ ∀ x, low ≤ x → x < o → ¬ May s x := by
 have ho : o ∈ (List.range' low (n + 1 - low)).filter (mayB s) := by rw [e]; simp
 obtain ⟨h1, h2⟩ := List.mem_filter.mp ho
 have h1 := List.mem_range'_1.mp h1
 refine ⟨h1.1, by lia, mayB_iff.mp h2, fun x x1 x2 m => ?_⟩
 have hx : x ∈ (List.range' low (n + 1 - low)).filter (mayB s) := List.mem_filter.mpr ⟨List.mem_range'_1.mpr ⟨x1, by lia⟩, mayB_iff.mpr m⟩
 have pw : ((List.range' low (n + 1 - low)).filter (mayB s)).Pairwise (· < ·) := List.Pairwise.filter _ (List.pairwise_lt_range' ..)
 rw [e] at hx pw
 rcases List.mem_cons.mp hx with z | z
 · lia
 · have := (List.pairwise_cons.mp pw).1 x z; lia
theorem iteT' {b : Bool} {A B : Prop} (h : b = true) (a : A) : if b = true then A else B := by rw [if_pos h]; exact a
section
variable {P : Program} {w : World} {K : PySem.W.Frag} {mg : Str → Option Value} {base : Heap}
theorem ok_next {f : Addr} {fd : FuncData} (F : Fun K "next_plain" "next_plain" sNextPlain f fd) (T : Txt mg) (NFitsPlain : Has P w K mg base "fits_plain" 3 ["start", "on"] (spA mayS)) : FnOk P w K mg base CX0 4 f fd ["h"] (spA nextS) := by
 refine fnA F scNextPlain (fun ds Qd h => ?_) (fun cdv A outer s H E hr => ⟨_, (s_cons (s_set 1 scNextPlain.nd (d_slT (dv 0) p_none (p_some (d_neg d_int))))
 (s_cons (s_set 2 scNextPlain.nd (d_add (d_ix (dv 0) (d_neg d_int)) d_int))
 (s_cons (s_while (t_lt (d_len T.len (a_cons (dv 1) a_nil)) (d_len T.len (a_cons (dv 0) a_nil)))
 (s_cons (s_comp 3 scNextPlain.nd (N := ["on", "start"]) (nt := 1) (js := [1]) ⟨rfl, by decide +kernel, by decide, rfl, by decide +kernel, (by show ∀ x ∈ (_ : List (Str × NameKind)), x.2 = NameKind.free → (defScope sNextPlain).names.lookup x.1 = some .cell ∨ (defScope sNextPlain).names.lookup x.1 = some .free; decide +kernel)⟩ rfl (i_rng2 T.rng (a_cons (dv 2) (a_cons (d_add (d_len T.len (a_cons (dv 0) a_nil)) d_int) a_nil))) (fun _ _ _ _ _ => pg_name (i := 0) (show (["on", "start"] : List Str).Nodup by decide +kernel) rfl (by first | exact Or.inl rfl | exact Or.inr rfl)) glow_name gname_read (fun _ _ _ _ _ => f_one (d_val (d_fnA NFitsPlain (hr.mono (by decide)) (a_cons (dv 1) (a_cons (dv 0) a_nil))))) (fun _ _ _ _ _ => (dv 0)))
 (s_one (s_if (t_truO 3 (pv 3))
 (s_cons (s_augT 1 scNextPlain.nd (d_tup (a_cons (d_ixO 3 (pv 3) d_int) a_nil)))
 (s_one (s_set 2 scNextPlain.nd d_int)))
 (s_one (s_if (t_tru (dv 1))
 (s_cons (s_set 2 scNextPlain.nd (d_add (d_ix (dv 1) (d_neg d_int)) d_int))
 (s_one (s_set 1 scNextPlain.nd (d_slT (dv 1) p_none (p_some (d_neg d_int))))))
 (s_one (s_ret d_non))))))) PassesOwn.never)
 (s_one (s_ret (dv 1)))))), fun ds Qd h => ?_⟩)
 · obtain ⟨n, h, rfl, _⟩ := h; rfl
 · obtain ⟨n, h, rfl, pl, n1, n6, q⟩ := h
   have hl : (h.map nD).length = n := by rw [List.length_map]; exact pl.len
   rcases List.eq_nil_or_concat h with e | ⟨s0, x0, e⟩
   · have := pl.len; rw [e] at this; simp at this; lia
   rw [List.concat_eq_append] at e
   have N0 := Nx.start pl (by lia) (by lia) e
   refine ⟨_, rfl, _, rfl, _, rfl, _, rfl, ⟨_, rfl, rfl⟩, ?_⟩
   rw [show LD.cutD (h.map nD) none (some (-1)) = s0.map nD by rw [e]; exact cut_last]
   refine ⟨_, rfl, _, rfl, _, _, _, .inr rfl, rfl, (show atI (h.map nD) (-1) = some (nD x0) by rw [e]; exact at_last), _, _, rfl, rfl, ⟨_, rfl, rfl⟩, ?_⟩
   refine while_abs (NxI n h) ⟨_, s0, x0 + 1, .no, rfl, rfl, N0, rfl⟩ fun m δ hI Δ2 hn2 hrt => ?_
   obtain ⟨s, low, s3, rfl, b3, N, hm⟩ := hI
   refine ⟨_, rfl, _, .inr rfl, _, rfl, _, .inr rfl, _, _, rfl, rfl, _, rfl, ?_⟩
   rw [hl, List.length_map]
   by_cases c : s.length < n
   · rw [decide_eq_true (show (s.length : Int) < (n : Int) by lia)]
     have lo := N.lo
     refine iteT ⟨_, rfl, _, rfl, _, .inr rfl, _, _, rfl, rfl, (low : Int), ((n : Nat) : Int) + 1, by rw [hl]; rfl, ⟨by lia, by lia, by lia, by lia⟩, ?_⟩
     rw [rngL]
     refine ⟨by rw [List.length_map, List.length_range']; exact Nat.le_of_lt (small1000 (by lia)), isN (mayB s), id, fun d hd => ?_, ?_⟩
     · obtain ⟨x, hx, rfl⟩ := List.mem_map.mp hd
       have := List.mem_range'_1.mp hx
       exact ⟨⟨_, rfl, rfl⟩, _, rfl, _, rfl, s, x, rfl, N.ok, by lia, fun y hy => by have := N.le y hy; lia, by lia, _, rfl, by rw [isN_nD], fun _ => ⟨_, rfl, rfl⟩⟩
     rw [isN_map]
     refine ⟨⟨_, rfl, b3⟩, _, rfl, ?_⟩
     cases eL : (List.range' low (n + 1 - low)).filter (mayB s) with
     | nil =>
      have no := ons_nil eL
      refine iteF ⟨_, rfl, _, rfl, ?_⟩
      rcases List.eq_nil_or_concat s with es | ⟨t, x, es⟩
      · subst es
        exact iteF (hrt _ _ (q none (N.end (by lia) (by lia) no rfl)))
      · rw [List.concat_eq_append] at es
        subst es
        have N' := N.pop (by lia) (by lia) c no rfl
        refine iteT' (by rw [List.map_append]; simp) ⟨_, rfl, _, rfl, _, _, _, .inr rfl, rfl, at_last, _, _, rfl, rfl, ⟨_, rfl, rfl⟩, ?_⟩
        refine ⟨_, rfl, _, rfl, _, rfl, _, rfl, ⟨_, rfl, rfl⟩, ?_⟩
        rw [cut_last]
        exact hn2 _ _ (by rw [← hm]; exact N.pop_lt (by lia) c rfl N') ⟨t, x + 1, _, rfl, rfl, N', rfl⟩
     | cons o L =>
      obtain ⟨o1, o2, om, on⟩ := ons_cons eL
      have N' := N.push (by lia) (by lia) c om o1 o2 on
      refine iteT ⟨⟨_, rfl⟩, ⟨_, rfl⟩, _, 0, nD o, rfl, rfl, atI_nat (j := 0) rfl, by show 1 ≤ sizeLine; decide, _, _, rfl, rfl, by rw [List.length_map]; exact Nat.le_of_lt (small1000 (by show s.length + 1 ≤ 1000; lia)), ⟨_, rfl, rfl⟩, ?_⟩
      refine hn2 _ _ (by rw [← hm]; exact N.push_lt (by lia) c o1 N') ⟨s ++ [o], 0, .ow (nD o :: L.map nD), ?_, rfl, N', rfl⟩
      unfold tupN
      rw [List.map_append]
      rfl
   · rw [decide_eq_false (show ¬ (s.length : Int) < (n : Int) by lia)]
     refine iteF ⟨_, rfl, ?_⟩
     exact q (some s) (N.answer (by have := N.len; lia))
end
end K08
end
section
namespace K08
open PySem PySem.Spec L2 LB LD MH LSrt PyProof.Rows
def betweenS : DN := fun ds Q => ∃ h o : List Nat, ds = [tupN h, tupN o] ∧ h.length = 6 ∧ o.length = 6 ∧ (∀ x ∈ h, x ≤ 6) ∧ (∀ x ∈ o, x ≤ 6) ∧ va 7 0 h < va 7 0 o ∧ (∀ g, Pl 6 g → va 7 0 h < va 7 0 g → va 7 0 o ≤ va 7 0 g) ∧ Q (.bl false)
inductive BtI (h o : List Nat) (i : Nat) (δ : List Sl) : Prop
 | mk (g : List Nat) (s3 s4 : Sl) (e : δ = [.im (tupN h), .im (tupN o), .ow (g.map nD), s3, s4]) (b3 : s3.isBx = false) (b4 : s4.isBx = false) (gl : g.length = 6) (gle : ∀ x ∈ g, x ≤ 6) (lo : va 7 0 h ≤ va 7 0 g) (hi : va 7 0 g < va 7 0 o)
inductive WpI (h o g : List Nat) (d : Dt) (m : Nat) (δ : List Sl) : Prop
 | mk (g' : List Nat) (e : δ = [.im (tupN h), .im (tupN o), .ow (g'.map nD), .im d, .im (.int ((m : Int) - 1))]) (m6 : m ≤ 6) (gl : g'.length = 6) (gle : ∀ x ∈ g', x ≤ 6) (v : 1 ≤ m → va 7 0 g' + 7 ^ (6 - m) = va 7 0 g + 1)
theorem eqX_nats {k : Nat} {a b : List Nat} : eqX (k + 1) (tupN a) (tupN b) = decide (a = b) := by
 unfold tupN
 unfold eqX
 rw [Bool.eq_iff_iff, decide_eq_true_eq, Bool.and_eq_true, List.all_eq_true, beq_iff_eq, List.length_map, List.length_map]
 constructor
 · rintro ⟨h, l⟩
   refine List.ext_getElem l fun i h1 h2 => ?_
   have := h i (List.mem_range.mpr (by lia))
   rw [show (a.map nD).getD i .non = nD a[i] by simp [List.getD, h1], show (b.map nD).getD i .non = nD b[i] by simp [List.getD, h2], eqX_flat rfl rfl, eqN, decide_eq_true_eq] at this
   exact this
 · rintro rfl
   refine ⟨fun i hi => ?_, rfl⟩
   have h1 : i < a.length := by have := List.mem_range.mp hi; lia
   rw [show (a.map nD).getD i .non = nD a[i] by simp [List.getD, h1], eqX_flat rfl rfl, eqN]
   simp
theorem shp_nats {k : Nat} {a b : List Nat} : Shp (k + 1) (tupN a) (tupN b) := .tup fun j d e h1 h2 => by
 rw [List.getElem?_map] at h1 h2
 obtain ⟨x, _, rfl⟩ := Option.map_eq_some_iff.mp h1
 obtain ⟨y, _, rfl⟩ := Option.map_eq_some_iff.mp h2
 exact .flat rfl rfl
theorem set_le {g : List Nat} {i x : Nat} (h : ∀ y ∈ g, y ≤ 6) (hx : x ≤ 6) : ∀ y ∈ g.set i x, y ≤ 6 := fun y hy => by
 rcases List.mem_or_eq_of_mem_set hy with z | z
 · exact h y z
 · rw [z]; exact hx
theorem lt7 {g : List Nat} (h : ∀ y ∈ g, y ≤ 6) : ∀ y ∈ g, y < 7 := fun y hy => by have := h y hy; lia
theorem atM {g : List Nat} {m : Nat} (h1 : 1 ≤ m) (h2 : m ≤ g.length) : atI (g.map nD) ((m : Int) - 1) = some (nD (up g m)) := atN h1 h2
theorem ixM {g : List Nat} {m : Nat} (h1 : 1 ≤ m) (h2 : m ≤ g.length) : ixN (g.map nD).length ((m : Int) - 1) = some (m - 1) := by
 rw [ixN_int (by lia) (by rw [List.length_map]; lia)]
 congr 1
 lia
theorem cross_emp {hs : List Nat} {L : List (Nat × Nat)} (hL : L.Perm (tiesU hs)) : crossL L = [] ↔ NoX hs := by
 have mt : ∀ p, p ∈ L ↔ ∃ x, 1 ≤ x ∧ x ≤ hs.length ∧ tieN hs x = p := fun p => by
  rw [hL.mem_iff]
  unfold tiesU
  rw [List.mem_map]
  exact ⟨fun ⟨x, hx, e⟩ => ⟨x, (List.mem_range'_1.mp hx).1, by have := (List.mem_range'_1.mp hx).2; lia, e⟩, fun ⟨x, h1, h2, e⟩ => ⟨x, List.mem_range'_1.mpr ⟨h1, by lia⟩, e⟩⟩
 constructor
 · rintro e x y ⟨x1, x2, y1, y2, hc⟩
   have : (tieN hs x, tieN hs y) ∈ crossL L := List.mem_flatMap.mpr ⟨_, (mt _).mpr ⟨x, x1, x2, rfl⟩, List.mem_map.mpr ⟨_, List.mem_filter.mpr ⟨(mt _).mpr ⟨y, y1, y2, rfl⟩, hc⟩, rfl⟩⟩
   rw [e] at this
   exact List.not_mem_nil this
 · intro h
   refine List.eq_nil_iff_forall_not_mem.mpr fun pq hm => ?_
   unfold crossL at hm
   obtain ⟨p, hp, hm⟩ := List.mem_flatMap.mp hm
   obtain ⟨q, hq, _⟩ := List.mem_map.mp hm
   obtain ⟨hq2, hc⟩ := List.mem_filter.mp hq
   obtain ⟨x, x1, x2, rfl⟩ := (mt _).mp hp
   obtain ⟨y, y1, y2, rfl⟩ := (mt _).mp hq2
   exact h x y ⟨x1, x2, y1, y2, hc⟩
section
variable {P : Program} {w : World} {K : PySem.W.Frag} {mg : Str → Option Value} {base : Heap}
theorem ok_between {f : Addr} {fd : FuncData} (F : Fun K "_law_between" "_law_between" sLBetween f fd) (T : Txt mg) (NLIsHung : Has P w K mg base "_law_is_hung" 1 ["_law_h"] (spA isHungS)) (NLCrossed : Has P w K mg base "_law_crossed" 1 ["_law_h"] (spA crossedS)) : FnOk P w K mg base CX0 2 f fd ["_law_one", "_law_other"] (spA betweenS) := by
 refine fnA F scLBetween (fun ds Qd h => ?_) (fun cdv A outer s H E hr => ⟨_, (s_cons (s_setO 2 scLBetween.nd (o_list T.lst (a_cons (dv 0) a_nil)))
 (s_cons (s_for rfl (i_rng1 T.rng (a_cons d_int a_nil)) (g_name 3 scLBetween.nd)
 (s_cons (s_set 4 scLBetween.nd d_int)
 (s_cons (s_while (PW.pt (w_and (t_ge (dv 4) d_int) (w_and1 (t_eq (d_ixO 2 (pv 2) (dv 4)) d_int))))
 (s_cons (s_item 2 d_int (pv 2) (dv 4))
 (s_one (s_set 4 scLBetween.nd (d_sub (dv 4) d_int)))) PassesOwn.never)
 (s_cons (s_if (t_lt (dv 4) d_int)
 (s_one (s_ret d_bl))
 s_nil)
 (s_cons (s_item 2 (d_add (d_ixO 2 (pv 2) (dv 4)) d_int) (pv 2) (dv 4))
 (s_cons (s_if (t_eqX 1 (ux hr) (d_tupO 2 T.tup (pv 2)) (dv 1))
 (s_one (s_ret d_bl))
 s_nil)
 (s_one (s_if (PW.pt (w_and (t_eq (d_lendW 2 (d_countX 0 (ux hr) (dv 2) (a_cons d_int a_nil))) d_int) (w_and (d_val (d_fnA NLIsHung (hr.mono (by decide)) (a_cons (d_tupO 2 T.tup (pv 2)) a_nil))) (w_and1 (t_eqNilL hr.units0 (d_fnA NLCrossed (hr.mono (by decide)) (a_cons (d_tupO 2 T.tup (pv 2)) a_nil)))))))
 (s_one (s_ret d_bl))
 s_nil))))))) PassesOwn.never)
 (s_one (s_ret d_bl)))), fun ds Qd h => ?_⟩)
 · obtain ⟨h, o, rfl, _⟩ := h; rfl
 · obtain ⟨h, o, rfl, hl, ol, hle, ole, ho, nb, q⟩ := h
   refine ⟨_, rfl, _, .inr rfl, ⟨_, rfl, rfl⟩, ?_⟩
   refine ⟨3000, rfl, by lia, by lia, ?_⟩
   refine for_abs (BtI h o) ⟨h, .no, .no, rfl, rfl, rfl, hl, hle, Nat.le_refl _, ho⟩ (fun i d δ hi hP Δ' hnx hrt => ?_) (fun δ hP => ?_)
   · obtain ⟨g, s3, s4, rfl, b3, b4, gl, gle, lo, hi'⟩ := hP
     refine ⟨⟨_, rfl, b3⟩, ⟨_, rfl, b4⟩, ?_⟩
     refine while_abs (WpI h o g d) ⟨6, g, rfl, Nat.le_refl _, gl, gle, fun _ => rfl⟩ fun m δ hI Δ2 hn2 _ => ?_
     obtain ⟨g', rfl, m6, gl', gle', v⟩ := hI
     refine ⟨_, rfl, _, _, rfl, rfl, _, rfl, ?_⟩
     by_cases c : 1 ≤ m
     · rw [decide_eq_true (show (m : Int) - 1 ≥ 0 by lia)]
       have gx : g'[m - 1]? = some (up g' m) := up_get c (by lia)
       have pw : (7 : Nat) ^ (6 - (m - 1)) = 7 * 7 ^ (6 - m) := by rw [show 6 - (m - 1) = (6 - m) + 1 by lia, Nat.pow_succ, Nat.mul_comm]
       refine iteT ⟨⟨_, rfl⟩, _, rfl, _, _, _, rfl, rfl, atM c (by lia), _, eq2N (y := 6), _, rfl, ?_⟩
       by_cases e6 : up g' m = 6
       · rw [decide_eq_true e6]
         refine iteT ⟨⟨_, rfl⟩, _, rfl, _, _, m - 1, rfl, rfl, ixM c (by lia), ?_⟩
         refine ⟨_, rfl, _, _, rfl, rfl, ⟨_, rfl, rfl⟩, ?_⟩
         have vs := va_set (B := 7) (p := 0) (y := 0) gx
         rw [gl', show 6 - 1 - (m - 1) = 6 - m by lia, e6] at vs
         have v1 := v c
         refine hn2 (m - 1) _ (by lia) ⟨g'.set (m - 1) 0, ?_, by lia, by rw [List.length_set]; exact gl', set_le gle' (by lia), fun h1 => ?_⟩
         · rw [List.map_set, show ((m - 1 : Nat) : Int) - 1 = (m : Int) - 1 - 1 by lia]
           rfl
         · rw [pw]
           generalize 7 ^ (6 - m) = D at *
           lia
       · rw [decide_eq_false e6]
         have ux6 : up g' m ≤ 6 := gle' _ (List.mem_of_getElem? gx)
         refine iteF ⟨_, rfl, _, _, rfl, rfl, _, rfl, ?_⟩
         rw [decide_eq_false (show ¬ (m : Int) - 1 < 0 by lia)]
         refine iteF ⟨⟨_, rfl⟩, _, rfl, _, _, _, rfl, rfl, atM c (by lia), _, _, rfl, rfl, ⟨_, rfl⟩, _, rfl, _, _, m - 1, rfl, rfl, ixM c (by lia), ?_⟩
         rw [show (g'.map nD).set (m - 1) (.int (((up g' m : Nat) : Int) + 1)) = (g'.set (m - 1) (up g' m + 1)).map nD by rw [List.map_set]; rfl]
         have vs := va_set (B := 7) (p := 0) (y := up g' m + 1) gx
         rw [gl', show 6 - 1 - (m - 1) = 6 - m by lia, Nat.add_mul, Nat.one_mul] at vs
         have v1 := v c
         have g2l : (g'.set (m - 1) (up g' m + 1)).length = 6 := by rw [List.length_set]; exact gl'
         have g2le := set_le (i := m - 1) (x := up g' m + 1) gle' (by lia)
         generalize g'.set (m - 1) (up g' m + 1) = g2 at vs g2l g2le
         have v2 : va 7 0 g2 = va 7 0 g + 1 := by generalize 7 ^ (6 - m) = D at *; lia
         refine ⟨_, rfl, _, rfl, rfl, shp_nats, _, rfl, ?_⟩
         rw [show (if false = true then !eqX (1 + 1) (Dt.tup (g2.map nD)) (tupN o) else eqX (1 + 1) (Dt.tup (g2.map nD)) (tupN o)) = decide (g2 = o) from eqX_nats]
         by_cases eo : g2 = o
         · rw [decide_eq_true eo]
           exact iteT (hrt _ _ q)
         rw [decide_eq_false eo]
         have lt2 : va 7 0 g2 < va 7 0 o := by
          have : va 7 0 g2 ≠ va 7 0 o := fun z => eo (va_inj (by lia) (lt7 g2le) (lt7 ole) z)
          lia
         have go : Δ'.nx [.im (tupN h), .im (tupN o), .ow (g2.map nD), .im d, .im (.int ((m : Int) - 1))] := hnx _ ⟨g2, _, _, rfl, rfl, rfl, g2l, g2le, by lia, lt2⟩
         refine iteF ⟨_, rfl, fun j z hj e => ?_, _, rfl, ⟨_, rfl⟩, _, _, rfl, rfl, fun z hz => ?_, rfl, .int _, _, rfl, _, rfl, ?_⟩
         · match j, hj, e with
           | 0, _, e => exact .inr (.inl ⟨_, (Option.some.inj e).symm⟩)
           | 1, _, e => exact .inr (.inl ⟨_, (Option.some.inj e).symm⟩)
           | 2, hj, _ => exact absurd rfl hj
           | 3, _, e => exact .inr (.inl ⟨_, (Option.some.inj e).symm⟩)
           | 4, _, e => exact .inr (.inl ⟨_, (Option.some.inj e).symm⟩)
           | _ + 5, _, e => cases e
         · obtain ⟨x, _, rfl⟩ := List.mem_map.mp hz
           exact .flat rfl rfl
         generalize decide (_ = (1 : Int)) = b1
         cases b1 with
         | false => exact iteF (iteF go)
         | true =>
          refine iteT ⟨_, rfl, g2, rfl, by lia, by lia, fun x hx => by rw [g2l]; exact g2le x hx, fun b2 hb2 => ⟨_, rfl, ?_⟩⟩
          cases b2 with
          | false => exact iteF (iteF go)
          | true =>
           have hg := hb2.mp rfl
           refine iteT ⟨_, rfl, g2, rfl, by lia, fun x hx => by have := g2le x hx; lia, fun L hL => ?_⟩
           refine ⟨_, rfl, _, rfl, ?_⟩
           rw [show (if false = true then !((crossL L).map ppN).isEmpty else ((crossL L).map ppN).isEmpty) = (crossL L).isEmpty by rw [if_neg Bool.false_ne_true]; cases crossL L <;> rfl]
           cases hc : (crossL L).isEmpty with
           | false => exact iteF go
           | true =>
            have nx := (cross_emp hL).mp (List.isEmpty_iff.mp hc)
            have pl : Pl 6 g2 := g2l ▸ Pl.of hg nx
            have := nb g2 pl (by lia)
            lia
     · rw [decide_eq_false (show ¬ (m : Int) - 1 ≥ 0 by lia)]
       refine iteF (iteF ⟨_, rfl, _, _, rfl, rfl, _, rfl, ?_⟩)
       rw [decide_eq_true (show (m : Int) - 1 < 0 by lia)]
       exact iteT (hrt _ _ q)
   · obtain ⟨g, s3, s4, rfl, _⟩ := hP
     exact q
end
end K08
end
section
namespace K08
open PySem PySem.Spec L2 LB LD MH LSrt PyProof.Rows
def P0 (d : Dt) : Prop := d = .non ∨ ∃ i : Int, d = .int i
def UpD (p : Dt → Prop) (d : Dt) : Prop := ∃ es : List Dt, (d = .lst es ∨ d = .tup es) ∧ es.length ≤ 60 ∧ ∀ e ∈ es, p e
def sameS (p : Dt → Prop) : DN := fun ds Q => ∃ d, ds = [d, d] ∧ p d ∧ Q (.bl true)
section
variable {P : Program} {w : World} {K : PySem.W.Frag} {mg : Str → Option Value} {base : Heap}
theorem ok_same0 {f : Addr} {fd : FuncData} (F : Fun K "_law_same" "_law_same" sLSame f fd) (T : Txt mg) : FnOk P w K mg base CX0 1 f fd ["_law_found", "_law_due"] (spA (sameS P0)) := by
 refine fnA F scLSame (fun ds Qd h => ?_) (fun cdv A outer s H E hr => ⟨_, (s_cons (s_if (t_isN (dv 1))
 (s_one (s_ret (d_isN (dv 0))))
 s_nil)
 (s_cons (s_if (d_val (d_isi (T := "bool") (by decide) T.isi (pa_cons (dv 1) (pa_cons (pe_bltn (v := .ty "bool") (by rfl) T.bool boot_bool' rfl) pa_nil))))
 (s_one (s_ret (d_and (d_isi (T := "bool") (by decide) T.isi (pa_cons (dv 0) (pa_cons (pe_bltn (v := .ty "bool") (by rfl) T.bool boot_bool' rfl) pa_nil))) (d_one (d_eq (dv 0) (dv 1))))))
 s_nil)
 (s_cons (s_if (d_val (d_isi4 (dv 1) T.isi T.lst T.tup))
 (s_cons (s_if (PW.pt (w_or (t_ne (d_isi (T := "list") (by decide) T.isi (pa_cons (dv 0) (pa_cons (pe_bltn (v := .ty "list") (by rfl) T.lst boot_list' rfl) pa_nil))) (d_isi (T := "list") (by decide) T.isi (pa_cons (dv 1) (pa_cons (pe_bltn (v := .ty "list") (by rfl) T.lst boot_list' rfl) pa_nil)))) (w_or1 (t_ne (d_isi (T := "tuple") (by decide) T.isi (pa_cons (dv 0) (pa_cons (pe_bltn (v := .ty "tuple") (by rfl) T.tup boot_tuple' rfl) pa_nil))) (d_isi (T := "tuple") (by decide) T.isi (pa_cons (dv 1) (pa_cons (pe_bltn (v := .ty "tuple") (by rfl) T.tup boot_tuple' rfl) pa_nil)))))))
 (s_one (s_ret d_bl))
 s_nil)
 (s_one (s_ret (d_and (d_eq (d_len T.len (a_cons (dv 0) a_nil)) (d_len T.len (a_cons (dv 1) a_nil))) (d_one (d_all rfl T.all (a_cons (Ov.ev (o_comp (N := ["_law_one", "_law_other"]) (nt := 2) (js := []) ⟨rfl, by decide +kernel, by decide, rfl, by decide +kernel, (by show ∀ x ∈ (_ : List (Str × NameKind)), x.2 = NameKind.free → (defScope sLSame).names.lookup x.1 = some .cell ∨ (defScope sLSame).names.lookup x.1 = some .free; decide +kernel)⟩ rfl (i_zip (a_cons (dv 0) (a_cons (dv 1) a_nil)) fun z => pi_zip (by rfl) T.zip z) (fun _ _ _ _ _ => pg_tup rfl (pgs_cons (pg_name (i := 0) (show (["_law_one", "_law_other"] : List Str).Nodup by decide +kernel) rfl (by first | exact Or.inl rfl | exact Or.inr rfl)) (pgs_cons (pg_name (i := 1) (show (["_law_one", "_law_other"] : List Str).Nodup by decide +kernel) rfl (by first | exact Or.inl rfl | exact Or.inr rfl)) pgs_nil))) glow_pair gpair_read (fun _ _ _ _ _ => f_nil) (fun _ _ _ _ _ => d_never))) a_nil)))))))
 s_nil)
 (s_cons (s_if (d_val (d_isi (T := "str") (by decide) T.isi (pa_cons (dv 1) (pa_cons (pe_bltn (v := .ty "str") (by rfl) T.str boot_str' rfl) pa_nil))))
 (s_one (s_ret (d_and (d_isi (T := "str") (by decide) T.isi (pa_cons (dv 0) (pa_cons (pe_bltn (v := .ty "str") (by rfl) T.str boot_str' rfl) pa_nil))) (d_one (d_eq (dv 0) (dv 1))))))
 s_nil)
 (s_one (s_ret (d_and (d_isi (T := "int") (by decide) T.isi (pa_cons (dv 0) (pa_cons (pe_bltn (v := .ty "int") (by rfl) T.int boot_int' rfl) pa_nil))) (d_and (d_not (d_isi (T := "bool") (by decide) T.isi (pa_cons (dv 0) (pa_cons (pe_bltn (v := .ty "bool") (by rfl) T.bool boot_bool' rfl) pa_nil)))) (d_one (d_eq (dv 0) (dv 1))))))))))), fun ds Qd h => ?_⟩)
 · obtain ⟨d, rfl, _⟩ := h; rfl
 · obtain ⟨d, rfl, a, q⟩ := h
   rcases a with rfl | ⟨i, rfl⟩
   · exact ⟨_, rfl, _, rfl, iteT ⟨_, rfl, q⟩⟩
   · refine ⟨_, rfl, _, rfl, iteF ⟨_, rfl, _, rfl, _, rfl, iteF ⟨_, rfl, _, rfl, _, rfl, iteF ⟨_, rfl, _, rfl, _, rfl, iteF ?_⟩⟩⟩⟩
     exact ⟨_, rfl, _, rfl, _, rfl, iteT ⟨_, rfl, _, rfl, _, rfl, _, rfl, iteT ⟨_, rfl, _, rfl, true, (show some (decide _) = some true from congrArg some (decide_eq_true rfl)), q⟩⟩⟩
theorem ok_same1 {p : Dt → Prop} {f : Addr} {fd : FuncData} (F : Fun K "_law_same" "_law_same" sLSame f fd) (T : Txt mg) (NLSame : Has P w K mg base "_law_same" 1 ["_law_found", "_law_due"] (spA (sameS p))) : FnOk P w K mg base CX0 2 f fd ["_law_found", "_law_due"] (spA (sameS (UpD p))) := by
 refine fnA F scLSame (fun ds Qd h => ?_) (fun cdv A outer s H E hr => ⟨_, (s_cons (s_if (t_isN (dv 1))
 (s_one (s_ret (d_isN (dv 0))))
 s_nil)
 (s_cons (s_if (d_val (d_isi (T := "bool") (by decide) T.isi (pa_cons (dv 1) (pa_cons (pe_bltn (v := .ty "bool") (by rfl) T.bool boot_bool' rfl) pa_nil))))
 (s_one (s_ret (d_and (d_isi (T := "bool") (by decide) T.isi (pa_cons (dv 0) (pa_cons (pe_bltn (v := .ty "bool") (by rfl) T.bool boot_bool' rfl) pa_nil))) (d_one (d_eq (dv 0) (dv 1))))))
 s_nil)
 (s_cons (s_if (d_val (d_isi4 (dv 1) T.isi T.lst T.tup))
 (s_cons (s_if (PW.pt (w_or (t_ne (d_isi (T := "list") (by decide) T.isi (pa_cons (dv 0) (pa_cons (pe_bltn (v := .ty "list") (by rfl) T.lst boot_list' rfl) pa_nil))) (d_isi (T := "list") (by decide) T.isi (pa_cons (dv 1) (pa_cons (pe_bltn (v := .ty "list") (by rfl) T.lst boot_list' rfl) pa_nil)))) (w_or1 (t_ne (d_isi (T := "tuple") (by decide) T.isi (pa_cons (dv 0) (pa_cons (pe_bltn (v := .ty "tuple") (by rfl) T.tup boot_tuple' rfl) pa_nil))) (d_isi (T := "tuple") (by decide) T.isi (pa_cons (dv 1) (pa_cons (pe_bltn (v := .ty "tuple") (by rfl) T.tup boot_tuple' rfl) pa_nil)))))))
 (s_one (s_ret d_bl))
 s_nil)
 (s_one (s_ret (d_and (d_eq (d_len T.len (a_cons (dv 0) a_nil)) (d_len T.len (a_cons (dv 1) a_nil))) (d_one (d_all rfl T.all (a_cons (Ov.ev (o_comp (N := ["_law_one", "_law_other"]) (nt := 2) (js := []) ⟨rfl, by decide +kernel, by decide, rfl, by decide +kernel, (by show ∀ x ∈ (_ : List (Str × NameKind)), x.2 = NameKind.free → (defScope sLSame).names.lookup x.1 = some .cell ∨ (defScope sLSame).names.lookup x.1 = some .free; decide +kernel)⟩ rfl (i_zip (a_cons (dv 0) (a_cons (dv 1) a_nil)) fun z => pi_zip (by rfl) T.zip z) (fun _ _ _ _ _ => pg_tup rfl (pgs_cons (pg_name (i := 0) (show (["_law_one", "_law_other"] : List Str).Nodup by decide +kernel) rfl (by first | exact Or.inl rfl | exact Or.inr rfl)) (pgs_cons (pg_name (i := 1) (show (["_law_one", "_law_other"] : List Str).Nodup by decide +kernel) rfl (by first | exact Or.inl rfl | exact Or.inr rfl)) pgs_nil))) glow_pair gpair_read (fun _ _ _ _ _ => f_nil) (fun _ _ _ _ _ => (d_fnA NLSame (hr.mono (by decide)) (a_cons (dv 0) (a_cons (dv 1) a_nil)))))) a_nil)))))))
 s_nil)
 (s_cons (s_if (d_val (d_isi (T := "str") (by decide) T.isi (pa_cons (dv 1) (pa_cons (pe_bltn (v := .ty "str") (by rfl) T.str boot_str' rfl) pa_nil))))
 (s_one (s_ret (d_and (d_isi (T := "str") (by decide) T.isi (pa_cons (dv 0) (pa_cons (pe_bltn (v := .ty "str") (by rfl) T.str boot_str' rfl) pa_nil))) (d_one (d_eq (dv 0) (dv 1))))))
 s_nil)
 (s_one (s_ret (d_and (d_isi (T := "int") (by decide) T.isi (pa_cons (dv 0) (pa_cons (pe_bltn (v := .ty "int") (by rfl) T.int boot_int' rfl) pa_nil))) (d_and (d_not (d_isi (T := "bool") (by decide) T.isi (pa_cons (dv 0) (pa_cons (pe_bltn (v := .ty "bool") (by rfl) T.bool boot_bool' rfl) pa_nil)))) (d_one (d_eq (dv 0) (dv 1))))))))))), fun ds Qd h => ?_⟩)
 · obtain ⟨d, rfl, _⟩ := h; rfl
 · obtain ⟨d, rfl, ⟨es, hd, el, pe⟩, q⟩ := h
   rcases hd with rfl | rfl
   · refine ⟨_, rfl, _, rfl, iteF ⟨_, rfl, _, rfl, _, rfl, iteF ⟨_, rfl, _, rfl, _, rfl, iteT ?_⟩⟩⟩
     refine ⟨_, rfl, _, rfl, _, rfl, _, rfl, true, rfl, _, rfl, iteF ⟨_, rfl, _, rfl, _, rfl, _, rfl, true, rfl, _, rfl, iteF ?_⟩⟩
     refine ⟨_, rfl, _, .inl rfl, _, rfl, _, .inl rfl, true, eq2N.trans (by simp), _, rfl, iteT ?_⟩
     refine ⟨_, rfl, _, rfl, false, false, _, _, rfl, ?_, fun _ => true, fun _ => .bl true, fun e he => ?_, ?_⟩
     · unfold zipD; rw [List.length_zipWith, Nat.min_self]; exact Nat.le_trans el (by decide)
     · obtain ⟨i, hi, ei⟩ := List.getElem_of_mem he
       unfold zipD at hi ei
       rw [List.getElem_zipWith] at ei
       subst ei
       exact ⟨_, _, rfl, ⟨_, rfl, rfl⟩, ⟨_, rfl, rfl⟩, rfl, fun _ => ⟨_, rfl, _, rfl, _, rfl, pe _ (List.getElem_mem _), rfl⟩⟩
     · refine ⟨List.replicate (zipD es es).length true, ?_, ?_⟩
       · rw [List.filter_eq_self.mpr (fun _ _ => rfl), List.map_replicate]
         congr 2
         exact List.eq_replicate_iff.mpr ⟨by rw [List.length_map], fun b hb => by obtain ⟨_, _, rfl⟩ := List.mem_map.mp hb; rfl⟩
       rw [show (List.replicate (zipD es es).length true).all id = true from List.all_eq_true.mpr fun b hb => (List.eq_of_mem_replicate hb)]
       exact q
   · refine ⟨_, rfl, _, rfl, iteF ⟨_, rfl, _, rfl, _, rfl, iteF ⟨_, rfl, _, rfl, _, rfl, iteT ?_⟩⟩⟩
     refine ⟨_, rfl, _, rfl, _, rfl, _, rfl, true, rfl, _, rfl, iteF ⟨_, rfl, _, rfl, _, rfl, _, rfl, true, rfl, _, rfl, iteF ?_⟩⟩
     refine ⟨_, rfl, _, .inr rfl, _, rfl, _, .inr rfl, true, eq2N.trans (by simp), _, rfl, iteT ?_⟩
     refine ⟨_, rfl, _, rfl, true, true, _, _, rfl, ?_, fun _ => true, fun _ => .bl true, fun e he => ?_, ?_⟩
     · unfold zipD; rw [List.length_zipWith, Nat.min_self]; exact Nat.le_trans el (by decide)
     · obtain ⟨i, hi, ei⟩ := List.getElem_of_mem he
       unfold zipD at hi ei
       rw [List.getElem_zipWith] at ei
       subst ei
       exact ⟨_, _, rfl, ⟨_, rfl, rfl⟩, ⟨_, rfl, rfl⟩, rfl, fun _ => ⟨_, rfl, _, rfl, _, rfl, pe _ (List.getElem_mem _), rfl⟩⟩
     · refine ⟨List.replicate (zipD es es).length true, ?_, ?_⟩
       · rw [List.filter_eq_self.mpr (fun _ _ => rfl), List.map_replicate]
         congr 2
         exact List.eq_replicate_iff.mpr ⟨by rw [List.length_map], fun b hb => by obtain ⟨_, _, rfl⟩ := List.mem_map.mp hb; rfl⟩
       rw [show (List.replicate (zipD es es).length true).all id = true from List.all_eq_true.mpr fun b hb => (List.eq_of_mem_replicate hb)]
       exact q
end
end K08
end
section
namespace LD
open PySem PySem.Spec L2 LB PyProof.Rows LW
theorem seq_abs {T R : DTS} {Δ : DEnds} {δ : List Sl} (Q : List Sl → Prop) (h : ∀ Δ' : DEnds, (∀ δ', Q δ' → Δ'.nx δ') → (∀ d δ', Δ.rt d δ' → Δ'.rt d δ') → T Δ' δ) (fin : ∀ δ', Q δ' → R Δ δ') : dSeq T R Δ δ := h _ fin fun _ _ z => z
end LD
end
section
namespace K08
open PySem PySem.Spec L2 LB LD MH LSrt LSrtR PyProof.Rows
noncomputable def h6 : List Nat := [6, 6, 6, 6, 6, 0]
theorem pl6 : Pl 6 h6 := by
 have u : ∀ x ∈ List.range' 1 6, (tieN h6 x).2 = 6 ∧ (x = 6 ∨ up h6 x = 6) := by decide
 have ux : ∀ x, 1 ≤ x → x ≤ h6.length → (tieN h6 x).2 = 6 ∧ (x = 6 ∨ up h6 x = 6) := fun x h1 h2 => u x (List.mem_range'_1.mpr ⟨h1, by have : h6.length = 6 := rfl; lia⟩)
 refine Pl.of (g := h6) ⟨by decide, by decide, ⟨fun w => if w = 6 then 0 else 1, fun w h1 h2 h3 => ?_⟩, 5, rfl, fun j hj => ?_⟩ fun x y hc => ?_
 · rcases (ux w h1 h2).2 with e | e
   · subst e; exact absurd rfl h3
   · rw [e]
     have : w ≠ 6 := fun z => by subst z; revert e; decide
     dsimp only
     rw [if_pos rfl, if_neg this]
     decide
 · match j, hj with
   | 5, _ => rfl
   | 0, hj => cases hj
   | 1, hj => cases hj
   | 2, hj => cases hj
   | 3, hj => cases hj
   | 4, hj => cases hj
   | _ + 6, hj => cases hj
 · obtain ⟨x1, x2, y1, y2, c⟩ := hc
   have := crs_iff.mp c
   have a := (ux x x1 x2).1
   have b := (ux y y1 y2).1
   lia
theorem last6 {r : Option (List Nat)} (h : NxA 6 h6 r) : r = none := by
 cases r with
 | none => rfl
 | some g =>
  obtain ⟨pg, lt, _⟩ := h
  have hg := pg.hg (by decide)
  have l := (va_ltL (B := 100) (by rw [pg.len]; rfl) (small (by decide) pl6.le) (small (n := 6) (by decide) pg.le)).mp lt
  obtain ⟨t, ht, _⟩ := hg.one
  have gl := pg.len
  have le := pg.le
  clear lt hg pg
  match g, gl, l, le, ht with
  | [a, b, c, d, e, f], _, l, le, ht =>
   have a6 := le a (by simp); have b6 := le b (by simp); have c6 := le c (by simp); have d6 := le d (by simp); have e6 := le e (by simp); have f6 := le f (by simp)
   unfold h6 ltL at l
   simp only [ltL] at l
   have : a = 6 ∧ b = 6 ∧ c = 6 ∧ d = 6 ∧ e = 6 ∧ 0 < f := by
    rcases l with l | ⟨ra, l⟩
    · lia
    rcases l with l | ⟨rb, l⟩
    · lia
    rcases l with l | ⟨rc, l⟩
    · lia
    rcases l with l | ⟨rd, l⟩
    · lia
    rcases l with l | ⟨re, l⟩
    · lia
    rcases l with l | ⟨_, l⟩
    · exact ⟨ra.symm, rb.symm, rc.symm, rd.symm, re.symm, l⟩
    · exact l.elim
   match t, ht with
   | 0, ht => simp at ht; lia
   | 1, ht => simp at ht; lia
   | 2, ht => simp at ht; lia
   | 3, ht => simp at ht; lia
   | 4, ht => simp at ht; lia
   | 5, ht => simp at ht; lia
   | _ + 6, ht => simp at ht
theorem lexI_lt {z : Bool} : ∀ {a b : List Nat}, ltL a b → lexI z (b.map Int.ofNat) (a.map Int.ofNat) = false
 | x :: as, y :: bs, h => by
  rw [List.map_cons, List.map_cons]
  unfold lexI
  rcases h with h | ⟨rfl, h⟩
  · rw [if_neg (by rw [beq_iff_eq]; exact fun e => by have := Int.ofNat.inj e; lia)]
    exact decide_eq_false (by show ¬ (y : Int) < (x : Int); lia)
  · rw [if_pos (by rw [beq_iff_eq])]
    exact lexI_lt h
theorem lexF_lt {z : Bool} {xs ys : List Int} : ∀ {a b : List Nat} {i : Nat}, a.length = b.length → ltL a b → (∀ j, j < a.length → xs.getD (i + j) 0 = ((b.getD j 0 : Nat) : Int)) → (∀ j, j < a.length → ys.getD (i + j) 0 = ((a.getD j 0 : Nat) : Int)) → lexF z (fun j => decide (xs.getD j 0 = ys.getD j 0)) (fun j => decide (xs.getD j 0 ≤ ys.getD j 0)) a.length i = false
 | x :: as, y :: bs, i, hl, h, hx, hy => by
  rw [List.length_cons]
  unfold lexF
  have x0 := hx 0 (by simp)
  have y0 := hy 0 (by simp)
  rw [Nat.add_zero, List.getD_cons_zero] at x0 y0
  rw [x0, y0]
  rcases h with h | ⟨rfl, h⟩
  · rw [if_neg (by rw [decide_eq_true_eq]; lia)]
    exact decide_eq_false (by lia)
  · rw [if_pos (by rw [decide_eq_true_eq])]
    refine lexF_lt (by simpa using hl) h (fun j hj => ?_) (fun j hj => ?_)
    · have := hx (j + 1) (by simp; exact hj)
      rw [List.getD_cons_succ] at this
      rw [← this]; congr 1; lia
    · have := hy (j + 1) (by simp; exact hj)
      rw [List.getD_cons_succ] at this
      rw [← this]; congr 1; lia
theorem getD_of_nat {s : List Nat} {j : Nat} : (s.map Int.ofNat).getD j 0 = ((s.getD j 0 : Nat) : Int) := by
 rw [List.getD, List.getD, List.getElem?_map]
 cases s[j]? <;> rfl
theorem le_false {g o : List Nat} (hl : g.length = o.length) (l : ltL g o) : lexF (decide ((o.map Int.ofNat).length ≤ (g.map Int.ofNat).length)) (fun j => decide ((o.map Int.ofNat).getD j 0 = (g.map Int.ofNat).getD j 0)) (fun j => decide ((o.map Int.ofNat).getD j 0 ≤ (g.map Int.ofNat).getD j 0)) (min (o.map Int.ofNat).length (g.map Int.ofNat).length) 0 = false := by
 rw [show min (o.map Int.ofNat).length (g.map Int.ofNat).length = g.length by rw [List.length_map, List.length_map, hl, Nat.min_self]]
 exact lexF_lt hl l (fun j _ => by rw [Nat.zero_add]; exact getD_of_nat) (fun j _ => by rw [Nat.zero_add]; exact getD_of_nat)
theorem itup_nats (s : List Nat) : itup (s.map Int.ofNat) = tupN s := by
 unfold itup tupN
 rw [List.map_map]
 rfl
theorem itups (G : List (List Nat)) : (G.map fun s => s.map Int.ofNat).map itup = G.map tupN := by
 rw [List.map_map]
 exact List.map_congr_left fun s _ => itup_nats s
theorem eqX_tups {k : Nat} {G : List (List Nat)} : eqX (k + 2) (.lst (G.map tupN)) (.lst (G.map tupN)) = true := by
 unfold eqX
 rw [Bool.and_eq_true, List.all_eq_true]
 refine ⟨fun j hj => ?_, beq_self_eq_true _⟩
 have hj := List.mem_range.mp hj
 rw [Nat.min_self, List.length_map] at hj
 rw [show (G.map tupN).getD j .non = tupN G[j] by simp [List.getD, hj], eqX_nats]
 simp
theorem shp_tups {k : Nat} {G G' : List (List Nat)} : Shp (k + 2) (.lst (G.map tupN)) (.lst (G'.map tupN)) := .lst fun j d e h1 h2 => by
 rw [List.getElem?_map] at h1 h2
 obtain ⟨x, _, rfl⟩ := Option.map_eq_some_iff.mp h1
 obtain ⟨y, _, rfl⟩ := Option.map_eq_some_iff.mp h2
 exact shp_nats
theorem va_conv {a b : List Nat} (ha : a.length = 6) (hb : b.length = 6) (la : ∀ x ∈ a, x ≤ 6) (lb : ∀ x ∈ b, x ≤ 6) : va 7 0 a < va 7 0 b ↔ va 100 0 a < va 100 0 b := by
 rw [va_ltL (by lia) (lt7 la) (lt7 lb), va_ltL (by lia) (small (n := 6) (by decide) la) (small (n := 6) (by decide) lb)]
theorem grow_at {n : Nat} (n1 : 1 ≤ n) (n6 : n ≤ 6) {i : Nat} {h : List Nat} (e : (grow n n)[i]? = some h) : Pl n h := mem_all.mp (List.mem_of_getElem? e)
theorem grow_rise {n : Nat} (n6 : n ≤ 6) : ∀ (i : Nat) x y, ((grow n n).map fun s => s.map Int.ofNat)[i + 1]? = some x → ((grow n n).map fun s => s.map Int.ofNat)[i]? = some y → lexI (decide (x.length < y.length)) x y = false := fun i x y h1 h2 => by
 rw [List.getElem?_map] at h1 h2
 obtain ⟨a, ha, rfl⟩ := Option.map_eq_some_iff.mp h1
 obtain ⟨b, hb, rfl⟩ := Option.map_eq_some_iff.mp h2
 have pa : Pl n a := mem_all.mp (List.mem_of_getElem? ha)
 have pb : Pl n b := mem_all.mp (List.mem_of_getElem? hb)
 have ia := (List.getElem?_eq_some_iff.mp ha)
 have ib := (List.getElem?_eq_some_iff.mp hb)
 have := List.pairwise_iff_getElem.mp (grow_srt (n := n) (by lia) n) i (i + 1) ib.1 ia.1 (by lia)
 rw [ia.2, ib.2] at this
 exact lexI_lt ((va_ltL (by rw [pa.len, pb.len]) (small (n := n) (by lia) pb.le) (small (n := n) (by lia) pa.le)).mp this)
theorem at_neg {ds : List Dt} {d : Dt} (h0 : 0 < ds.length) (h : ds[ds.length - 1]? = some d) : atI ds (-1) = some d := by
 unfold atI ixN
 rw [if_neg (by decide), if_pos (by lia)]
 show ds[(-1 + (ds.length : Int)).toNat]? = _
 rw [show (-1 + (ds.length : Int)).toNat = ds.length - 1 by lia]
 exact h
inductive LpI (n : Nat) (t : Int) (i : Nat) (δ : List Sl) : Prop
 | mk (h : List Nat) (s5 : Sl) (e : δ = [.no, .bx t, .im (nD n), .im (.lst ((grow n n).map tupN)), .im (tupN h), s5, .no]) (hg : (grow n n)[i]? = some h) (b5 : s5.isBx = false)
theorem cut_one {G : List (List Nat)} : LD.cutD (G.map tupN) (some 1) none = (G.drop 1).map tupN := by
 unfold LD.cutD HT.sIx
 cases G with
 | nil => rfl
 | cons a l =>
  have : min (1 : Int).toNat ((a :: l).map tupN).length = 1 := by rw [List.length_map, List.length_cons]; show min 1 (l.length + 1) = 1; lia
  dsimp only
  rw [if_neg (by decide), this]
  simp
  exact List.take_of_length_le (by rw [List.length_map]; exact Nat.le_refl _)
section
variable {P : Program} {w : World} {K : PySem.W.Frag} {mg : Str → Option Value} {base : Heap}
theorem ok_law {f : Addr} {fd : FuncData} (F : Fun K "law" "law" sLaw f fd) (T : Txt mg) (NB : Has P w K mg base "_law_begin" 1 ["_law_script"] (spBegin K)) (NLTake : Has P w K mg base "_law_take" 1 ["_law_box", "_law_many"] (spB takeS)) (NAllPlain : Has P w K mg base "all_plain" 5 ["n"] (spA allS)) (NNextPlain : Has P w K mg base "next_plain" 4 ["h"] (spA nextS)) (NLSame : Has P w K mg base "_law_same" 2 ["_law_found", "_law_due"] (spA (sameS (UpD P0)))) (NLPlain : Has P w K mg base "_law_plain" 2 ["_law_box", "_law_n"] (spB hangS)) (NLIsHung : Has P w K mg base "_law_is_hung" 1 ["_law_h"] (spA isHungS)) (NLCrossed : Has P w K mg base "_law_crossed" 1 ["_law_h"] (spA crossedS)) (NLBetween : Has P w K mg base "_law_between" 2 ["_law_one", "_law_other"] (spA betweenS)) :
  FnOk P w K mg base CX0 6 f fd ["_law_script"] (spLaw K) := by
 refine lawOk F scLaw (by decide) (fun cdv A outer s H E hr => ⟨_, _, _, rfl, ps_set (i := 1) scLaw.nd rfl (Or.inl rfl) (pe_has NB (hr.mono (by decide)) rfl (pa_cons (pv 0) pa_nil)), (s_cons (s_set 2 scLaw.nd (d_add d_int (d_fnB 1 NLTake (hr.mono (by decide)) (pv 1) (a_cons d_int a_nil))))
 (s_cons (s_set 3 scLaw.nd (d_fnA NAllPlain (hr.mono (by decide)) (a_cons (dv 2) a_nil)))
 (s_cons (s_set 4 scLaw.nd (d_ix (dv 3) d_int))
 (s_cons (s_for rfl (i_list (d_slL (dv 3) (p_some d_int) p_none)) (g_name 5 scLaw.nd)
 (s_cons (s_set 4 scLaw.nd (d_fnA NNextPlain (hr.mono (by decide)) (a_cons (dv 4) a_nil)))
 (s_one (s_if (t_not (d_val (d_fnA NLSame (hr.mono (by decide)) (a_cons (dv 4) (a_cons (dv 5) a_nil)))))
 (s_one (s_ret d_bl))
 s_nil))) PassesOwn.never)
 (s_cons (s_if (PW.pt (w_or (t_notN (d_fnA NNextPlain (hr.mono (by decide)) (a_cons (dv 4) a_nil))) (w_or1 (t_neX 2 (ux hr) (d_sortedR T.srt (a_cons (dv 3) a_nil)) (dv 3)))))
 (s_one (s_ret d_bl))
 s_nil)
 (s_cons (s_if (t_gt (d_fnB 1 NLTake (hr.mono (by decide)) (pv 1) (a_cons d_int a_nil)) d_int)
 (s_one (s_ret d_bl))
 s_nil)
 (s_cons (s_if (t_notN (d_fnA NNextPlain (hr.mono (by decide)) (a_cons (d_tup (a_cons d_int (a_cons d_int (a_cons d_int (a_cons d_int (a_cons d_int (a_cons d_int a_nil))))))) a_nil)))
 (s_one (s_ret d_bl))
 s_nil)
 (s_cons (s_set 4 scLaw.nd (d_fnB 1 NLPlain (hr.mono (by decide)) (pv 1) (a_cons d_int a_nil)))
 (s_cons (s_set 6 scLaw.nd (d_fnA NNextPlain (hr.mono (by decide)) (a_cons (dv 4) a_nil)))
 (s_cons (s_if (t_isN (dv 6))
 (s_one (s_ret (d_eqX 2 (ux hr) (dv 4) (d_ix (d_fnA NAllPlain (hr.mono (by decide)) (a_cons d_int a_nil)) (d_neg d_int)))))
 s_nil)
 (s_cons (s_if (PW.pt (w_or (t_not (d_val (d_isi (T := "tuple") (by decide) T.isi (pa_cons (dv 6) (pa_cons (pe_bltn (v := .ty "tuple") (by rfl) T.tup boot_tuple' rfl) pa_nil))))) (w_or (t_leT (ux hr) (dv 6) (dv 4)) (w_or (t_not (d_val (d_fnA NLIsHung (hr.mono (by decide)) (a_cons (dv 6) a_nil)))) (w_or1 (t_neNilL hr.units0 (d_fnA NLCrossed (hr.mono (by decide)) (a_cons (dv 6) a_nil))))))))
 (s_one (s_ret d_bl))
 s_nil)
 (s_one (s_ret (d_not (d_fnA NLBetween (hr.mono (by decide)) (a_cons (dv 4) (a_cons (dv 6) a_nil))))))))))))))))), ?_⟩)
 refine seq_abs (fun δ' => ∃ (n : Nat) (t : Int), t ≤ 1 ∧ 1 ≤ n ∧ n ≤ 5 ∧ δ' = [.no, .bx t, .im (nD n), .no, .no, .no, .no]) (fun Δ0 hn0 _ => ?_) ?_
 · refine ⟨⟨_, rfl⟩, _, rfl, _, rfl, by decide, by decide, by decide, fun r r1 r2 => ⟨_, _, rfl, rfl, ⟨_, rfl, rfl⟩, ?_⟩⟩
   obtain ⟨k, rfl⟩ := Int.eq_ofNat_of_zero_le r1
   refine hn0 _ ⟨k + 1, 0 + 1, by decide, by lia, by lia, ?_⟩
   rw [show (1 : Int) + (k : Int) = ((k + 1 : Nat) : Int) by lia]
   rfl
 rintro _ ⟨n, t, ht, n1, n5, rfl⟩
 try dsimp only [dNext]
 have ne : 0 < (grow n n).length := List.length_pos_iff.mpr (grow_ne (by lia))
 obtain ⟨h0, e0⟩ : ∃ h0, (grow n n)[0]? = some h0 := ⟨_, List.getElem?_eq_getElem ne⟩
 refine seq_abs (fun δ' => δ' = [.no, .bx t, .im (nD n), .im (.lst ((grow n n).map tupN)), .no, .no, .no]) (fun Δ0 hn0 _ => ?_) ?_
 · exact ⟨_, rfl, n, rfl, n1, by lia, ⟨_, rfl, rfl⟩, hn0 _ rfl⟩
 rintro _ rfl
 try dsimp only [dNext]
 refine seq_abs (fun δ' => δ' = [.no, .bx t, .im (nD n), .im (.lst ((grow n n).map tupN)), .im (tupN h0), .no, .no]) (fun Δ0 hn0 _ => ?_) ?_
 · exact ⟨_, rfl, _, 0, tupN h0, .inl rfl, rfl, atI_nat (j := 0) (by rw [List.getElem?_map, e0]; rfl), ⟨_, rfl, rfl⟩, hn0 _ rfl⟩
 rintro _ rfl
 try dsimp only [dNext]
 refine seq_abs (fun δ' => ∃ (h : List Nat) (s5 : Sl), s5.isBx = false ∧ (grow n n)[(grow n n).length - 1]? = some h ∧ δ' = [.no, .bx t, .im (nD n), .im (.lst ((grow n n).map tupN)), .im (tupN h), s5, .no]) (fun Δ0 hn0 hrt => ?_) ?_
 · refine ⟨_, rfl, _, rfl, _, rfl, _, rfl, ?_⟩
   rw [cut_one]
   refine for_abs (LpI n t) ⟨h0, .no, rfl, e0, rfl⟩ (fun i d δ hi hP Δ' hnx hrt' => ?_) (fun δ hP => ?_)
   · obtain ⟨h, s5, rfl, hg, b5⟩ := hP
     rw [List.getElem?_map, List.getElem?_drop] at hi
     obtain ⟨o, ho, rfl⟩ := Option.map_eq_some_iff.mp hi
     rw [Nat.add_comm] at ho
     refine ⟨⟨_, rfl, b5⟩, _, rfl, n, h, rfl, grow_at n1 (by lia) hg, n1, by lia, fun r hr2 => ?_⟩
     have er := next_in (by lia) hg hr2
     rw [ho] at er
     subst er
     have po := grow_at n1 (by lia) ho
     refine ⟨⟨_, rfl, rfl⟩, _, rfl, _, rfl, tupN o, rfl, ⟨o.map nD, .inr rfl, by rw [List.length_map, po.len]; lia, fun e he => ?_⟩, _, rfl, iteF (hnx _ ⟨o, _, rfl, ho, rfl⟩)⟩
     obtain ⟨x, _, rfl⟩ := List.mem_map.mp he
     exact .inr ⟨_, rfl⟩
   · obtain ⟨h, s5, rfl, hg, b5⟩ := hP
     refine hn0 _ ⟨h, s5, b5, ?_, rfl⟩
     rw [List.length_map, List.length_drop] at hg
     exact hg
 rintro _ ⟨h, s5, b5, hg, rfl⟩
 try dsimp only [dNext]
 have ph := grow_at n1 (by lia) hg
 refine seq_abs (fun δ' => δ' = [.no, .bx t, .im (nD n), .im (.lst ((grow n n).map tupN)), .im (tupN h), s5, .no]) (fun Δ0 hn0 _ => ?_) ?_
 · refine ⟨_, rfl, n, h, rfl, ph, n1, by lia, fun r hr2 => ?_⟩
   have er := next_in (by lia) hg hr2
   rw [Nat.sub_add_cancel (by lia), List.getElem?_eq_none (Nat.le_refl _)] at er
   subst er
   refine ⟨_, rfl, iteF ⟨_, rfl, _, by rw [itups], ?_, fun s hs => ?_, grow_rise (by lia), ?_⟩⟩
   · rw [List.length_map]
     have := grow_len (n := n) n
     have h1 : (n + 1) ^ n ≤ 6 ^ n := Nat.pow_le_pow_left (by lia) n
     have h2 : 6 ^ n ≤ 6 ^ 5 := Nat.pow_le_pow_right (by lia) n5
     lia
   · obtain ⟨a, ha, rfl⟩ := List.mem_map.mp hs
     have := (mem_all.mp ha).len
     intro z
     rw [List.map_eq_nil_iff] at z
     rw [z] at this
     simp at this
     lia
   · rw [itups]
     refine ⟨_, rfl, rfl, shp_tups, _, rfl, ?_⟩
     rw [eqX_tups]
     exact iteF (hn0 _ rfl)
 rintro _ rfl
 try dsimp only [dNext]
 refine seq_abs (fun δ' => ∃ t' : Int, t' ≤ 2 ∧ δ' = [.no, .bx t', .im (nD n), .im (.lst ((grow n n).map tupN)), .im (tupN h), s5, .no]) (fun Δ0 hn0 hrt => ?_) ?_
 · refine ⟨⟨_, rfl⟩, _, rfl, _, rfl, by lia, by decide, by decide, fun r r1 r2 => ⟨_, _, rfl, rfl, _, rfl, ?_⟩⟩
   by_cases c : r > 0
   · rw [decide_eq_true c]
     exact iteT (hrt _ _ rfl)
   · rw [decide_eq_false c]
     exact iteF (hn0 _ ⟨t + 1, by lia, rfl⟩)
 rintro _ ⟨t', ht', rfl⟩
 try dsimp only [dNext]
 refine seq_abs (fun δ' => δ' = [.no, .bx t', .im (nD n), .im (.lst ((grow n n).map tupN)), .im (tupN h), s5, .no]) (fun Δ0 hn0 hrt => ?_) ?_
 · refine ⟨by show 6 ≤ sizeLine; decide, 6, h6, rfl, pl6, by decide, by decide, fun r hr2 => ?_⟩
   have er := last6 hr2
   subst er
   exact ⟨_, rfl, iteF (hn0 _ rfl)⟩
 rintro _ rfl
 try dsimp only [dNext]
 refine seq_abs (fun δ' => ∃ (t2 : Int) (g : List Nat), Pl 6 g ∧ δ' = [.no, .bx t2, .im (nD n), .im (.lst ((grow n n).map tupN)), .im (tupN g), s5, .no]) (fun Δ0 hn0 hrt => ?_) ?_
 · refine ⟨⟨_, rfl⟩, _, rfl, 6, rfl, by decide, by decide, by lia, fun g t2 hg nx hl ht2 => ⟨⟨_, rfl, rfl⟩, hn0 _ ⟨t2, g, hl ▸ Pl.of hg nx, rfl⟩⟩⟩
 rintro _ ⟨t2, g, pg, rfl⟩
 try dsimp only [dNext]
 refine seq_abs (fun δ' => ∃ r, NxA 6 g r ∧ δ' = [.no, .bx t2, .im (nD n), .im (.lst ((grow n n).map tupN)), .im (tupN g), s5, .im (optD r)]) (fun Δ0 hn0 hrt => ?_) ?_
 · exact ⟨_, rfl, 6, g, rfl, pg, by decide, by decide, fun r hr2 => ⟨⟨_, rfl, rfl⟩, hn0 _ ⟨r, hr2, rfl⟩⟩⟩
 rintro _ ⟨r, hr2, rfl⟩
 try dsimp only [dNext]
 have hl0 := pg.len
 cases r with
 | none =>
  have lst := last_of_none (by decide) pg hr2
  refine ⟨_, rfl, _, rfl, iteT ⟨_, rfl, 6, rfl, by decide, by decide, _, rfl, _, _, tupN g, .inl rfl, rfl, ?_, rfl, shp_nats, ?_⟩⟩
  · have l0 := (List.getElem?_eq_some_iff.mp lst).1
    exact at_neg (by rw [List.length_map]; lia) (by rw [List.length_map, List.getElem?_map, lst]; rfl)
  · rw [show (if false = true then !eqX (2 + 1) (tupN g) (tupN g) else eqX (2 + 1) (tupN g) (tupN g)) = decide (g = g) from eqX_nats, decide_eq_true rfl]
 | some o =>
  obtain ⟨po, lt, nb⟩ := hr2
  have hl1 := po.len
  have l1 := (va_ltL (by lia) (small (n := 6) (by decide) pg.le) (small (n := 6) (by decide) po.le)).mp lt
  have hgo := po.hg (by decide)
  refine ⟨_, rfl, _, rfl, iteF ?_⟩
  try dsimp only [dNext]
  refine seq_abs (fun δ' => δ' = [.no, .bx t2, .im (nD n), .im (.lst ((grow n n).map tupN)), .im (tupN g), s5, .im (tupN o)]) (fun Δ0 hn0 hrt => ?_) ?_
  · refine ⟨_, rfl, _, rfl, _, rfl, iteF ⟨_, rfl, _, rfl, o.map Int.ofNat, g.map Int.ofNat, (itup_nats o).symm, (itup_nats g).symm, _, rfl, ?_⟩⟩
    rw [le_false (by lia) l1]
    refine iteF ⟨_, rfl, o, rfl, by lia, by lia, fun x hx => by rw [hl1]; exact po.le x hx, fun b hb => ⟨_, rfl, ?_⟩⟩
    have : b = true := hb.mpr hgo
    subst this
    refine iteF ⟨_, rfl, o, rfl, by lia, fun x hx => by have := po.le x hx; lia, fun L hL => ?_⟩
    rw [(cross_emp hL).mpr po.ok.nox]
    exact ⟨_, rfl, _, rfl, iteF (hn0 _ rfl)⟩
  rintro _ rfl
  try dsimp only [dNext]
  refine ⟨_, rfl, _, rfl, g, o, rfl, hl0, hl1, pg.le, po.le, (va_conv hl0 hl1 pg.le po.le).mpr lt, fun q pq z => ?_, _, rfl, rfl⟩
  have z' := (va_conv hl0 pq.len pg.le pq.le).mp z
  have := nb q pq z'
  have c := va_conv pq.len hl1 pq.le po.le
  lia
end
end K08
end
section
namespace K08
open PySem L2 LB LD PyProof.Rows
theorem binds1 {K : PySem.W.Frag} {x qual : Str} {st : Stmt} {f : Addr} {fd : FuncData} {p1 : Str} (F : Fun K x qual st f fd) (h : ∀ (kV doc pm : Value) (an : Option Addr) (cdv ct a1 : Value), bindArgs (PySem.W.fnOf x qual (defArgs st) (defBody st) (defScope st) .none kV doc pm an cdv ct) ⟨[a1], []⟩ = pure [(p1, a1)]) : Binds K fd [p1] [] := F.binds fun kV doc pm an cdv ct us hl => by
 rcases us with _ | ⟨a1, us⟩
 · cases hl
 rcases us with _ | ⟨b, us⟩
 · exact h kV doc pm an cdv ct a1
 · simp at hl
theorem binds2 {K : PySem.W.Frag} {x qual : Str} {st : Stmt} {f : Addr} {fd : FuncData} {p1 p2 : Str} (F : Fun K x qual st f fd) (h : ∀ (kV doc pm : Value) (an : Option Addr) (cdv ct a1 a2 : Value), bindArgs (PySem.W.fnOf x qual (defArgs st) (defBody st) (defScope st) .none kV doc pm an cdv ct) ⟨[a1, a2], []⟩ = pure [(p1, a1), (p2, a2)]) : Binds K fd [p1, p2] [] := F.binds fun kV doc pm an cdv ct us hl => by
 rcases us with _ | ⟨a1, us⟩
 · cases hl
 rcases us with _ | ⟨a2, us⟩
 · cases hl
 rcases us with _ | ⟨b, us⟩
 · exact h kV doc pm an cdv ct a1 a2
 · simp at hl
theorem all_mk {l : PySem.W.OpenLaw} {w : World} {K : PySem.W.Frag} {h : Heap} {mg : Str → Option Value} {fa f1 f2 f3 f4 f5 f6 f7 f8 f9 f10 f11 f12 f13 f14 f15 f16 : Addr} (X : K.In h) (G : h.Ns mainGlobals mg) (hfa : mg "law" = some (.ref fa))
  {od1 an1 od2 an2 od3 an3 od4 an4 od5 an5 od6 an6 od7 an7 od8 an8 od9 an9 od10 an10 od11 an11 od12 an12 od13 an13 od14 an14 od15 an15 od16 an16 : Option Addr} {sl1 sl2 sl3 sl4 sl5 sl6 sl7 sl8 sl9 sl10 sl11 sl12 sl13 sl14 sl15 sl16 : Array (Option Value)} {oc1 kV1 dc1 pm1 cd1 ct1 oc2 kV2 dc2 pm2 cd2 ct2 oc3 kV3 dc3 pm3 cd3 ct3 oc4 kV4 dc4 pm4 cd4 ct4 oc5 kV5 dc5 pm5 cd5 ct5 oc6 kV6 dc6 pm6 cd6 ct6 oc7 kV7 dc7 pm7 cd7 ct7 oc8 kV8 dc8 pm8 cd8 ct8 oc9 kV9 dc9 pm9 cd9 ct9 oc10 kV10 dc10 pm10 cd10 ct10 oc11 kV11 dc11 pm11 cd11 ct11 oc12 kV12 dc12 pm12 cd12 ct12 oc13 kV13 dc13 pm13 cd13 ct13 oc14 kV14 dc14 pm14 cd14 ct14 oc15 kV15 dc15 pm15 cd15 ct15 oc16 kV16 dc16 pm16 cd16 ct16 : Value}
  (a1 : PySem.W.nsIn K mainGlobals "tie" = some (some (.ref f1))) (l1 : K.lookup f1 = some ⟨oc1, od1, .func (PySem.W.fnOf "tie" "tie" (defArgs sTie) (defBody sTie) (defScope sTie) .none kV1 dc1 pm1 an1 cd1 ct1), sl1⟩) (c1 : PySem.W.codeIn K cd1 "tie" = true) (k1 : PySem.W.keepIn K (.ref f1) = true)
  (a2 : PySem.W.nsIn K mainGlobals "cross" = some (some (.ref f2))) (l2 : K.lookup f2 = some ⟨oc2, od2, .func (PySem.W.fnOf "cross" "cross" (defArgs sCross) (defBody sCross) (defScope sCross) .none kV2 dc2 pm2 an2 cd2 ct2), sl2⟩) (c2 : PySem.W.codeIn K cd2 "cross" = true) (k2 : PySem.W.keepIn K (.ref f2) = true)
  (a3 : PySem.W.nsIn K mainGlobals "ties" = some (some (.ref f3))) (l3 : K.lookup f3 = some ⟨oc3, od3, .func (PySem.W.fnOf "ties" "ties" (defArgs sTies) (defBody sTies) (defScope sTies) .none kV3 dc3 pm3 an3 cd3 ct3), sl3⟩) (c3 : PySem.W.codeIn K cd3 "ties" = true) (k3 : PySem.W.keepIn K (.ref f3) = true)
  (a4 : PySem.W.nsIn K mainGlobals "all_plain" = some (some (.ref f4))) (l4 : K.lookup f4 = some ⟨oc4, od4, .func (PySem.W.fnOf "all_plain" "all_plain" (defArgs sAllPlain) (defBody sAllPlain) (defScope sAllPlain) .none kV4 dc4 pm4 an4 cd4 ct4), sl4⟩) (c4 : PySem.W.codeIn K cd4 "all_plain" = true) (k4 : PySem.W.keepIn K (.ref f4) = true)
  (a5 : PySem.W.nsIn K mainGlobals "grown" = some (some (.ref f5))) (l5 : K.lookup f5 = some ⟨oc5, od5, .func (PySem.W.fnOf "grown" "grown" (defArgs sGrown) (defBody sGrown) (defScope sGrown) .none kV5 dc5 pm5 an5 cd5 ct5), sl5⟩) (c5 : PySem.W.codeIn K cd5 "grown" = true) (k5 : PySem.W.keepIn K (.ref f5) = true)
  (a6 : PySem.W.nsIn K mainGlobals "fits" = some (some (.ref f6))) (l6 : K.lookup f6 = some ⟨oc6, od6, .func (PySem.W.fnOf "fits" "fits" (defArgs sFits) (defBody sFits) (defScope sFits) .none kV6 dc6 pm6 an6 cd6 ct6), sl6⟩) (c6 : PySem.W.codeIn K cd6 "fits" = true) (k6 : PySem.W.keepIn K (.ref f6) = true)
  (a7 : PySem.W.nsIn K mainGlobals "fits_plain" = some (some (.ref f7))) (l7 : K.lookup f7 = some ⟨oc7, od7, .func (PySem.W.fnOf "fits_plain" "fits_plain" (defArgs sFitsPlain) (defBody sFitsPlain) (defScope sFitsPlain) .none kV7 dc7 pm7 an7 cd7 ct7), sl7⟩) (c7 : PySem.W.codeIn K cd7 "fits_plain" = true) (k7 : PySem.W.keepIn K (.ref f7) = true)
  (a8 : PySem.W.nsIn K mainGlobals "next_plain" = some (some (.ref f8))) (l8 : K.lookup f8 = some ⟨oc8, od8, .func (PySem.W.fnOf "next_plain" "next_plain" (defArgs sNextPlain) (defBody sNextPlain) (defScope sNextPlain) .none kV8 dc8 pm8 an8 cd8 ct8), sl8⟩) (c8 : PySem.W.codeIn K cd8 "next_plain" = true) (k8 : PySem.W.keepIn K (.ref f8) = true)
  (a9 : PySem.W.nsIn K mainGlobals "_law_begin" = some (some (.ref f9))) (l9 : K.lookup f9 = some ⟨oc9, od9, .func (PySem.W.fnOf "_law_begin" "_law_begin" (defArgs sLBegin) (defBody sLBegin) (defScope sLBegin) .none kV9 dc9 pm9 an9 cd9 ct9), sl9⟩) (c9 : PySem.W.codeIn K cd9 "_law_begin" = true) (k9 : PySem.W.keepIn K (.ref f9) = true)
  (a10 : PySem.W.nsIn K mainGlobals "_law_take" = some (some (.ref f10))) (l10 : K.lookup f10 = some ⟨oc10, od10, .func (PySem.W.fnOf "_law_take" "_law_take" (defArgs sLTake) (defBody sLTake) (defScope sLTake) .none kV10 dc10 pm10 an10 cd10 ct10), sl10⟩) (c10 : PySem.W.codeIn K cd10 "_law_take" = true) (k10 : PySem.W.keepIn K (.ref f10) = true)
  (a11 : PySem.W.nsIn K mainGlobals "_law_is_hung" = some (some (.ref f11))) (l11 : K.lookup f11 = some ⟨oc11, od11, .func (PySem.W.fnOf "_law_is_hung" "_law_is_hung" (defArgs sLIsHung) (defBody sLIsHung) (defScope sLIsHung) .none kV11 dc11 pm11 an11 cd11 ct11), sl11⟩) (c11 : PySem.W.codeIn K cd11 "_law_is_hung" = true) (k11 : PySem.W.keepIn K (.ref f11) = true)
  (a12 : PySem.W.nsIn K mainGlobals "_law_crossed" = some (some (.ref f12))) (l12 : K.lookup f12 = some ⟨oc12, od12, .func (PySem.W.fnOf "_law_crossed" "_law_crossed" (defArgs sLCrossed) (defBody sLCrossed) (defScope sLCrossed) .none kV12 dc12 pm12 an12 cd12 ct12), sl12⟩) (c12 : PySem.W.codeIn K cd12 "_law_crossed" = true) (k12 : PySem.W.keepIn K (.ref f12) = true)
  (a13 : PySem.W.nsIn K mainGlobals "_law_same" = some (some (.ref f13))) (l13 : K.lookup f13 = some ⟨oc13, od13, .func (PySem.W.fnOf "_law_same" "_law_same" (defArgs sLSame) (defBody sLSame) (defScope sLSame) .none kV13 dc13 pm13 an13 cd13 ct13), sl13⟩) (c13 : PySem.W.codeIn K cd13 "_law_same" = true) (k13 : PySem.W.keepIn K (.ref f13) = true)
  (a14 : PySem.W.nsIn K mainGlobals "_law_plain" = some (some (.ref f14))) (l14 : K.lookup f14 = some ⟨oc14, od14, .func (PySem.W.fnOf "_law_plain" "_law_plain" (defArgs sLPlain) (defBody sLPlain) (defScope sLPlain) .none kV14 dc14 pm14 an14 cd14 ct14), sl14⟩) (c14 : PySem.W.codeIn K cd14 "_law_plain" = true) (k14 : PySem.W.keepIn K (.ref f14) = true)
  (a15 : PySem.W.nsIn K mainGlobals "_law_between" = some (some (.ref f15))) (l15 : K.lookup f15 = some ⟨oc15, od15, .func (PySem.W.fnOf "_law_between" "_law_between" (defArgs sLBetween) (defBody sLBetween) (defScope sLBetween) .none kV15 dc15 pm15 an15 cd15 ct15), sl15⟩) (c15 : PySem.W.codeIn K cd15 "_law_between" = true) (k15 : PySem.W.keepIn K (.ref f15) = true)
  (a16 : PySem.W.nsIn K mainGlobals "law" = some (some (.ref f16))) (l16 : K.lookup f16 = some ⟨oc16, od16, .func (PySem.W.fnOf "law" "law" (defArgs sLaw) (defBody sLaw) (defScope sLaw) .none kV16 dc16 pm16 an16 cd16 ct16), sl16⟩) (c16 : PySem.W.codeIn K cd16 "law" = true) (k16 : PySem.W.keepIn K (.ref f16) = true)
  (z1 : PySem.W.nsIn K mainGlobals "isinstance" = some none) (z2 : PySem.W.nsIn K mainGlobals "len" = some none) (z3 : PySem.W.nsIn K mainGlobals "enumerate" = some none) (z4 : PySem.W.nsIn K mainGlobals "tuple" = some none) (z5 : PySem.W.nsIn K mainGlobals "int" = some none) (z6 : PySem.W.nsIn K mainGlobals "bool" = some none) (z7 : PySem.W.nsIn K mainGlobals "range" = some none) (z8 : PySem.W.nsIn K mainGlobals "list" = some none) (z9 : PySem.W.nsIn K mainGlobals "divmod" = some none) (z10 : PySem.W.nsIn K mainGlobals "all" = some none) (z11 : PySem.W.nsIn K mainGlobals "str" = some none) (z12 : PySem.W.nsIn K mainGlobals "zip" = some none) (z13 : PySem.W.nsIn K mainGlobals "sorted" = some none) (z14 : PySem.W.nsIn K mainGlobals "max" = some none) (z15 : PySem.W.nsIn K mainGlobals "min" = some none) (z16 : PySem.W.nsIn K mainGlobals "dict" = some none) (z17 : PySem.W.nsIn K mainGlobals "any" = some none) :
  ∃ fd : FuncData, (∀ (s : Shared) (v : Value), BindsTo s fd ⟨[v], []⟩ [("_law_script", v)]) ∧ ∀ base : Heap, K.In base → base.Ns mainGlobals mg → FnOk l.prog w K mg base CX0 6 fa fd ["_law_script"] (spLaw K) := by
 have e := hfa.symm.trans (PySem.W.mg_of X G a16)
 cases e
 have T : Txt mg := ⟨PySem.W.mg_none_of X G z1, PySem.W.mg_none_of X G z2, PySem.W.mg_none_of X G z3, PySem.W.mg_none_of X G z4, PySem.W.mg_none_of X G z5, PySem.W.mg_none_of X G z6, PySem.W.mg_none_of X G z7, PySem.W.mg_none_of X G z8, PySem.W.mg_none_of X G z9, PySem.W.mg_none_of X G z10, PySem.W.mg_none_of X G z11, PySem.W.mg_none_of X G z12, PySem.W.mg_none_of X G z13, PySem.W.mg_none_of X G z14, PySem.W.mg_none_of X G z15, PySem.W.mg_none_of X G z16, PySem.W.mg_none_of X G z17⟩
 have F1 := fun_mk (st := sTie) l1 c1 k1
 have b1 := binds2 (p1 := "word") (p2 := "on") F1 fun _ _ _ _ _ _ _ _ => rfl
 have F2 := fun_mk (st := sCross) l2 c2 k2
 have b2 := binds2 (p1 := "first") (p2 := "second") F2 fun _ _ _ _ _ _ _ _ => rfl
 have F3 := fun_mk (st := sTies) l3 c3 k3
 have b3 := binds1 (p1 := "h") F3 fun _ _ _ _ _ _ _ => rfl
 have F4 := fun_mk (st := sAllPlain) l4 c4 k4
 have b4 := binds1 (p1 := "n") F4 fun _ _ _ _ _ _ _ => rfl
 have F5 := fun_mk (st := sGrown) l5 c5 k5
 have b5 := binds2 (p1 := "n") (p2 := "may_follow") F5 fun _ _ _ _ _ _ _ _ => rfl
 have F6 := fun_mk (st := sFits) l6 c6 k6
 have b6 := binds2 (p1 := "start") (p2 := "on") F6 fun _ _ _ _ _ _ _ _ => rfl
 have F7 := fun_mk (st := sFitsPlain) l7 c7 k7
 have b7 := binds2 (p1 := "start") (p2 := "on") F7 fun _ _ _ _ _ _ _ _ => rfl
 have F8 := fun_mk (st := sNextPlain) l8 c8 k8
 have b8 := binds1 (p1 := "h") F8 fun _ _ _ _ _ _ _ => rfl
 have F9 := fun_mk (st := sLBegin) l9 c9 k9
 have b9 := binds1 (p1 := "_law_script") F9 fun _ _ _ _ _ _ _ => rfl
 have F10 := fun_mk (st := sLTake) l10 c10 k10
 have b10 := binds2 (p1 := "_law_box") (p2 := "_law_many") F10 fun _ _ _ _ _ _ _ _ => rfl
 have F11 := fun_mk (st := sLIsHung) l11 c11 k11
 have b11 := binds1 (p1 := "_law_h") F11 fun _ _ _ _ _ _ _ => rfl
 have F12 := fun_mk (st := sLCrossed) l12 c12 k12
 have b12 := binds1 (p1 := "_law_h") F12 fun _ _ _ _ _ _ _ => rfl
 have F13 := fun_mk (st := sLSame) l13 c13 k13
 have b13 := binds2 (p1 := "_law_found") (p2 := "_law_due") F13 fun _ _ _ _ _ _ _ _ => rfl
 have F14 := fun_mk (st := sLPlain) l14 c14 k14
 have b14 := binds2 (p1 := "_law_box") (p2 := "_law_n") F14 fun _ _ _ _ _ _ _ _ => rfl
 have F15 := fun_mk (st := sLBetween) l15 c15 k15
 have b15 := binds2 (p1 := "_law_one") (p2 := "_law_other") F15 fun _ _ _ _ _ _ _ _ => rfl
 have F16 := fun_mk (st := sLaw) l16 c16 k16
 refine ⟨PySem.W.fnOf "law" "law" (defArgs sLaw) (defBody sLaw) (defScope sLaw) .none kV16 dc16 pm16 an16 cd16 ct16, fun s v => .of_eq rfl, fun base XB GB => ?_⟩
 have NTie : Has l.prog w K mg base "tie" 1 ["word", "on"] (spA tieS) := ⟨f1, _, PySem.W.mg_of X G a1, k1, b1, ok_tie F1 T⟩
 have NCross : Has l.prog w K mg base "cross" 1 ["first", "second"] (spA crossS) := ⟨f2, _, PySem.W.mg_of X G a2, k2, b2, ok_cross F2 T⟩
 have NTies : Has l.prog w K mg base "ties" 2 ["h"] (spA tiesS) := ⟨f3, _, PySem.W.mg_of X G a3, k3, b3, ok_ties F3 T NTie⟩
 have NFits : Has l.prog w K mg base "fits" 1 ["start", "on"] (spA fitsS) := ⟨f6, _, PySem.W.mg_of X G a6, k6, b6, ok_fits F6 T⟩
 have NFP : Has l.prog w K mg base "fits_plain" 3 ["start", "on"] (spA mayS) := ⟨f7, _, PySem.W.mg_of X G a7, k7, b7, ok_fitsPlain F7 T NFits NTie NCross NTies⟩
 have hM : HasF l.prog w K mg base f7 3 ["start", "on"] (spA mayS) := ⟨_, k7, b7, ok_fitsPlain F7 T NFits NTie NCross NTies⟩
 have NGrown : Has l.prog w K mg base "grown" 4 ["n", "may_follow"] (spS (grownS f7)) := ⟨f5, _, PySem.W.mg_of X G a5, k5, b5, ok_grown hM F5 T⟩
 have NAll : Has l.prog w K mg base "all_plain" 5 ["n"] (spA allS) := ⟨f4, _, PySem.W.mg_of X G a4, k4, b4, ok_allPlain (PySem.W.mg_of X G a7) F4 T NGrown⟩
 have NNext : Has l.prog w K mg base "next_plain" 4 ["h"] (spA nextS) := ⟨f8, _, PySem.W.mg_of X G a8, k8, b8, ok_next F8 T NFP⟩
 have NB : Has l.prog w K mg base "_law_begin" 1 ["_law_script"] (spBegin K) := ⟨f9, _, PySem.W.mg_of X G a9, k9, b9, ok_begin F9 T⟩
 have NTake : Has l.prog w K mg base "_law_take" 1 ["_law_box", "_law_many"] (spB takeS) := ⟨f10, _, PySem.W.mg_of X G a10, k10, b10, ok_takeB F10 T⟩
 have NHung : Has l.prog w K mg base "_law_is_hung" 1 ["_law_h"] (spA isHungS) := ⟨f11, _, PySem.W.mg_of X G a11, k11, b11, ok_isHung F11 T⟩
 have NCr : Has l.prog w K mg base "_law_crossed" 1 ["_law_h"] (spA crossedS) := ⟨f12, _, PySem.W.mg_of X G a12, k12, b12, ok_crossed F12 T⟩
 have NS0 : Has l.prog w K mg base "_law_same" 1 ["_law_found", "_law_due"] (spA (sameS P0)) := ⟨f13, _, PySem.W.mg_of X G a13, k13, b13, ok_same0 F13 T⟩
 have NS1 : Has l.prog w K mg base "_law_same" 2 ["_law_found", "_law_due"] (spA (sameS (UpD P0))) := ⟨f13, _, PySem.W.mg_of X G a13, k13, b13, ok_same1 F13 T NS0⟩
 have NPl : Has l.prog w K mg base "_law_plain" 2 ["_law_box", "_law_n"] (spB hangS) := ⟨f14, _, PySem.W.mg_of X G a14, k14, b14, ok_plain F14 T NTake⟩
 have NBt : Has l.prog w K mg base "_law_between" 2 ["_law_one", "_law_other"] (spA betweenS) := ⟨f15, _, PySem.W.mg_of X G a15, k15, b15, ok_between F15 T NHung NCr⟩
 exact ok_law F16 T NB NTake NAll NNext NS1 NPl NHung NCr NBt
theorem walk {l : PySem.W.OpenLaw} {q : Program} {loose : List Str} {XP : (Str → Option Value) → Heap → Prop} {YP : World → Heap → Prop} {d : DefRec} {K : Params → PySem.W.Frag} (hn : l.most = some 63) (hdf : d.params.defaults = [])
  (hY : ∀ (w : World) (h : Heap), YP w h → (K w.params).In h)
  (F : ∀ (w : World) (mg : Str → Option Value) (fa : Addr) (h : Heap), (K w.params).In h → h.Ns mainGlobals mg → mg d.name = some (.ref fa) →
   ∃ fd : FuncData, (∀ (s : Shared) (u : Value), BindsTo s fd ⟨[u], []⟩ [("_law_script", u)]) ∧ ∀ base : Heap, (K w.params).In base → base.Ns mainGlobals mg → FnOk l.prog w (K w.params) mg base CX0 6 fa fd ["_law_script"] (spLaw (K w.params))) :
  PySem.W.WalkO q loose XP YP l.row.toRowW d [] (fun f vs => PySem.call f vs) :=
 L2.walk_of (n := 63) (k := 6) (x := "_law_script") (CX := fun _ => CX0) (sp := fun w => spLaw (K w.params)) hn (by decide) hdf ⟨rfl, by decide, by decide, rfl⟩ hY F (fun _ _ a ns hl _ hS => ⟨a, ns, rfl, hS, hl, fun _ => rfl⟩) fun _ _ _ _ _ z => z
end K08
open PySem PySem.W PyProof.Rows
set_option maxRecDepth 100000 in
set_option maxHeartbeats 0 in
theorem PySem.Challenge.cw_hungwords_k08_the_next_plain_one_holds : PySem.Challenge.rw_hungwords_k08_the_next_plain_one.Holds := by
 w_on; o_law; k_head; (case hw => w_witness2)
 k_fill
 refine K08.walk (l := PySem.Challenge.rw_hungwords_k08_the_next_plain_one) rfl rfl (fun w h Y => PySem.W.kIn_of Y) ?F
 case F =>
  intro w mg fa h KX G hmg
  refine' K08.all_mk KX G hmg ?a1 ?l1 ?c1 ?k1 ?a2 ?l2 ?c2 ?k2 ?a3 ?l3 ?c3 ?k3 ?a4 ?l4 ?c4 ?k4 ?a5 ?l5 ?c5 ?k5 ?a6 ?l6 ?c6 ?k6 ?a7 ?l7 ?c7 ?k7 ?a8 ?l8 ?c8 ?k8 ?a9 ?l9 ?c9 ?k9 ?a10 ?l10 ?c10 ?k10 ?a11 ?l11 ?c11 ?k11 ?a12 ?l12 ?c12 ?k12 ?a13 ?l13 ?c13 ?k13 ?a14 ?l14 ?c14 ?k14 ?a15 ?l15 ?c15 ?k15 ?a16 ?l16 ?c16 ?k16 ?z1 ?z2 ?z3 ?z4 ?z5 ?z6 ?z7 ?z8 ?z9 ?z10 ?z11 ?z12 ?z13 ?z14 ?z15 ?z16 ?z17
  (case a1 => k_is)
  (case l1 => k_is)
  (case c1 => k_is)
  (case k1 => k_is)
  (case a2 => k_is)
  (case l2 => k_is)
  (case c2 => k_is)
  (case k2 => k_is)
  (case a3 => k_is)
  (case l3 => k_is)
  (case c3 => k_is)
  (case k3 => k_is)
  (case a4 => k_is)
  (case l4 => k_is)
  (case c4 => k_is)
  (case k4 => k_is)
  (case a5 => k_is)
  (case l5 => k_is)
  (case c5 => k_is)
  (case k5 => k_is)
  (case a6 => k_is)
  (case l6 => k_is)
  (case c6 => k_is)
  (case k6 => k_is)
  (case a7 => k_is)
  (case l7 => k_is)
  (case c7 => k_is)
  (case k7 => k_is)
  (case a8 => k_is)
  (case l8 => k_is)
  (case c8 => k_is)
  (case k8 => k_is)
  (case a9 => k_is)
  (case l9 => k_is)
  (case c9 => k_is)
  (case k9 => k_is)
  (case a10 => k_is)
  (case l10 => k_is)
  (case c10 => k_is)
  (case k10 => k_is)
  (case a11 => k_is)
  (case l11 => k_is)
  (case c11 => k_is)
  (case k11 => k_is)
  (case a12 => k_is)
  (case l12 => k_is)
  (case c12 => k_is)
  (case k12 => k_is)
  (case a13 => k_is)
  (case l13 => k_is)
  (case c13 => k_is)
  (case k13 => k_is)
  (case a14 => k_is)
  (case l14 => k_is)
  (case c14 => k_is)
  (case k14 => k_is)
  (case a15 => k_is)
  (case l15 => k_is)
  (case c15 => k_is)
  (case k15 => k_is)
  (case a16 => k_is)
  (case l16 => k_is)
  (case c16 => k_is)
  (case k16 => k_is)
  (case z1 => k_is)
  (case z2 => k_is)
  (case z3 => k_is)
  (case z4 => k_is)
  (case z5 => k_is)
  (case z6 => k_is)
  (case z7 => k_is)
  (case z8 => k_is)
  (case z9 => k_is)
  (case z10 => k_is)
  (case z11 => k_is)
  (case z12 => k_is)
  (case z13 => k_is)
  (case z14 => k_is)
  (case z15 => k_is)
  (case z16 => k_is)
  (case z17 => k_is)
end
