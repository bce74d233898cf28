import PyProof.Rows.All
import Wide.All
import OpenK.AllK
import Wide.FinOn
import Lean
import PyProof.EqAt
import PyProof.EqKinds
import PyProof.TupleCall
import Open.Pieces
import KE.KPairComp
import PyProof.DictValues
import PyProof.DictWalks
import PyProof.Rows.SumAny
import PyProof.AttrMissHeap
import KE.KDictOf
import KE.KDictList
import KE.KRevIter
import PyProof.Rows.SortWalk
import PyProof.Rows.SortRev
import PyProof.Rows.CallKwBuiltin
import KE.KLam
import PySem.Challenge.RW_twinwires_k24_halves
set_option maxRecDepth 100000
namespace Tw
open PySem PySem.Calls PySem.W PyProof.Rows

/-- the top's run on the tree of the heap, in one go; the count of the tokens is reckoned at each step -/
def runG (thr ok : Thread → Bool) (go : SharedT → Thread → Option (SharedT × Thread)) : Nat → SharedT → Thread → Option SharedT
  | 0, _, _ => none
  | m + 1, a, x => match thr x with
    | true => some a
    | false => match ok x with
      | false => none
      | true => match go a x with
        | some (b, y) => (match Nat.beq b.toks b.toks with
          | true => runG thr ok go m b y
          | false => none)
        | none => none

theorem runG_top {tb : String → Option Builtin} {p : Program} {w : World} {i : Nat} {an : Option Value} : ∀ (m : Nat) (a b : SharedT) (x : Thread),
    runG through (stepOk i an) (stepT (denote tb) p w) m a x = some b → topRun tb p w i an m a.abs x = some b.abs
  | 0, _, _, _, h => by cases h
  | m + 1, a, b, x, h => by
    unfold runG at h
    unfold topRun
    cases e1 : through x with
    | true => rw [e1] at h; cases h; rfl
    | false =>
      rw [e1] at h
      cases e2 : stepOk i an x with
      | false => rw [e2] at h; cases h
      | true =>
        rw [e2] at h
        cases e3 : stepT (denote tb) p w a x with
        | none => rw [e3] at h; cases h
        | some r =>
          obtain ⟨c, y⟩ := r
          rw [e3] at h
          rw [stepT_spec e3]
          dsimp only at h ⊢
          cases e4 : Nat.beq c.toks c.toks with
          | false => rw [e4] at h; cases h
          | true => rw [e4] at h; exact runG_top m c b y h

def runT (p : Program) (w : World) (i : Nat) (an : Option Value) (m : Nat) (a : SharedT) : Option SharedT := runG through (stepOk i an) (stepT (denote treeTable) p w) m a (topStub p)
noncomputable def bootT (P : Params) : BT := ((boot_heap P).objs.toList.foldl (fun (x : BT × Nat) o => (x.1.ins x.2 o, x.2 + 1)) (BT.nil, 0)).1
noncomputable def bootS (n : Nat) (w : World) (os : OsState) : SharedT := ⟨bootT w.params, n, (boot_heap w.params).life, Array.mk [], boot_drawn, boot_toks, os⟩

noncomputable def lookT (p q : Program) (lo : List Str) (Xt : Shared → Bool) (w : World) (s : Shared) :=
  ((staticsOk (importedModules p.main.body) (boot_heap w.params) s.heap && namesBound p s.heap && gensDone s && laidKept (boot_heap w.params) s.heap), openSeen q lo (importedModules p.main.body) Xt true s)

theorem left_once {p q : Program} {lo : List Str} {Xt : Shared → Bool} {β : Type} {Yf : Shared → β} {Ya : World → β} {N M n : Nat} {an : Option Value} (row : String)
    (e : opening p = plainProg p.main.scope.names) (h6 : Nat.ble 600 N = true) (fe : ∀ s, fenceModules? p s = some s)
    (tr : ∀ P, absHeap (bootT P) n (boot_heap P).life = boot_heap P)
    (sz : ∀ P, ((boot_heap P).isNs mainGlobals, (boot_heap P).objs.size, (boot_heap P).nsMap mainGlobals "__annotations__") = (true, n, an))
    (le : Nat.ble M N = true)
    (run0 : ∀ (w : World) (os : OsState), (runT p (w.withFollow row false) n an M (bootS n (w.withFollow row false) os)).map (fun s => (lookT p q lo Xt (w.withFollow row false) s.abs, Yf s.abs)) = some ((true, openGood q lo), Ya (w.withFollow row false)))
    (run1 : ∀ (w : World) (os : OsState), (runT p (w.withFollow row true) n an M (bootS n (w.withFollow row true) os)).map (fun s => (lookT p q lo Xt (w.withFollow row true) s.abs, Yf s.abs)) = some ((true, openGood q lo), Ya (w.withFollow row true))) :
    LeftO p q lo Xt Yf Ya N true := byRow2 row (P := fun w => (openEnds treeTable p w N).map (fun s => (openSeen q lo (importedModules p.main.body) Xt true s, Yf s)) = some (openGood q lo, Ya w)) (fun w => one _ (run0 w)) (fun w => one _ (run1 w))
  where
  one (w : World) (run : ∀ os : OsState, (runT p w n an M (bootS n w os)).map (fun s => (lookT p q lo Xt w s.abs, Yf s.abs)) = some ((true, openGood q lo), Ya w)) :
      (openEnds treeTable p w N).map (fun s => (openSeen q lo (importedModules p.main.body) Xt true s, Yf s)) = some (openGood q lo, Ya w) := by
    obtain ⟨⟨h, gs, d, k, os⟩, a1, a2⟩ := Option.map_eq_some_iff.mp (boot_open e h6 fe w)
    simp only [Prod.mk.injEq] at a2
    obtain ⟨rfl, rfl, rfl, rfl⟩ := a2
    obtain ⟨b, b1, b2⟩ := Option.map_eq_some_iff.mp (run os)
    simp only [Prod.mk.injEq, lookT] at b2
    obtain ⟨⟨l1, l2⟩, l3⟩ := b2
    have r : topRun treeTable p w n an M ⟨boot_heap w.params, Array.mk [], boot_drawn, boot_toks, os⟩ (topStub p) = some b.abs := by
      have := runG_top _ _ _ _ b1
      rw [← tr w.params]
      exact this
    have r := topRun_mono (N - M) _ _ _ _ r
    rw [show M + (N - M) = N by have := Nat.le_of_ble_eq_true le; omega] at r
    have z := sz w.params
    simp only [Prod.mk.injEq] at z
    obtain ⟨z1, z2, z3⟩ := z
    have t : topFrom treeTable p w N ⟨boot_heap w.params, Array.mk [], boot_drawn, boot_toks, os⟩ = some b.abs := by
      unfold topFrom
      dsimp only
      rw [z1, z2, z3, r]
      show (match staticsOk (importedModules p.main.body) (boot_heap w.params) b.abs.heap && namesBound p b.abs.heap && gensDone b.abs && laidKept (boot_heap w.params) b.abs.heap with | true => some b.abs | false => none) = _
      rw [l1]
    unfold openEnds
    rw [a1]
    show (topFrom treeTable p w N _).map _ = _
    rw [t]
    exact congrArg some (Prod.ext l2 l3)
theorem runT_self : Tw.runT = Tw.runT := rfl
theorem lookT_self : @Tw.lookT = @Tw.lookT := rfl
end Tw
lay_quick Tw.runT Tw.lookT
name_quick runQ for Tw.runT by Tw.runT_self
name_quick lookQ for Tw.lookT by Tw.lookT_self
namespace Tw
open PySem PySem.Calls PySem.W PyProof.Rows
theorem boot_tree (P : Params) : absHeap (bootT P) 11 (boot_heap P).life = boot_heap P := by kernel_rfl
theorem boot_size (P : Params) : ((boot_heap P).isNs mainGlobals, (boot_heap P).objs.size, (boot_heap P).nsMap mainGlobals "__annotations__") = (true, 11, some (.ref 6)) := by kernel_rfl
/-- the top's run in one go, one way of the world's row: what is seen behind it -/
def RunOk (r : OpenRow) (q : Program) (lo : List Str) (lv : List (Str × WData)) (H : Hook) (N : Nat) (row : String) (b : Bool) : Prop :=
  ∀ (w : World) (os : OsState), (Fast.runQ r.prog (w.withFollow row b) 11 (some (.ref 6)) N (bootS 11 (w.withFollow row b) os)).map (fun s => (Fast.lookQ r.prog q lo (fun s => xlAt q lv s && recOk r.records s) (w.withFollow row b) s.abs, H.obs s.abs)) = some ((true, openGood q lo), H.val (w.withFollow row b))
/-- the top in one go, then the call: the law holds -/
theorem holds_once {r : OpenRow} {q : Program} {lo : List Str} {lv : List (Str × WData)} {d : DefRec} {kwd : List (Str × Expr)} {N : Nat} {H : Hook} {row : String} (run0 : RunOk r q lo lv H N row false) (run1 : RunOk r q lo lv H N row true)
    (e : opening r.prog = plainProg r.prog.main.scope.names) (fe : ∀ s, fenceModules? r.prog s = some s) (h6 : Nat.ble 600 N = true)
    (hd : defOf q r.name = some (d, kwd)) (hp : r.prog.theDef r.name = some (d.params, d.body, d.scope)) (hk : kwWritten? d.params.kwonlyargs d.params.kw_defaults = some kwd) (hwr : (!r.writes || r.records.isEmpty) = true)
    (k1 : r.wellSaid = true) (ok : (chainsOk q && opensWell r.prog && (frees r.toRowW && r.within.isEmpty)) = true) (hb : r.prog.bare) (hw : r.toRowW.promised) (hc : WalkO q lo (XL q lv) H.says r.toRowW d kwd fun f vs => PySem.call f vs) : r.Holds :=
  holds_open (Xt := fun s => xlAt q lv s && recOk r.records s) (N := N)
    (left_once (M := N) row e h6 fe boot_tree boot_size (Nat.ble_eq.mpr (Nat.le_refl N)) (by rw [Fast.runQ_eq, Fast.lookQ_eq]; exact run0) (by rw [Fast.runQ_eq, Fast.lookQ_eq]; exact run1))
    H.of H.keeps (fun s z => xl_of s (Bool.and_eq_true_iff.mp z).1) XL.keeps hd hp hk (fun s z => recFacts_of (Bool.and_eq_true_iff.mp z).2) hwr k1 ok hb hw hc
end Tw

set_option Elab.async false
set_option maxRecDepth 100000
/-! the top -/
section
open PySem PySem.W
set_option maxHeartbeats 0
local macro_rules | `(tactic| o_head $_) => `(tactic| assumption)
theorem Tw.pre : PySem.Challenge.rw_twinwires_k24_halves.row.Holds → PySem.Challenge.rw_twinwires_k24_halves.row.Holds := by
  intro _
  k_head
noncomputable def Tw.vw : Program := PySem.W.view PySem.Challenge.pw_twinwires_k24_halves [0, 2, 3, 4, 6, 7, 8, 9, 11, 12, 13, 14, 16, 17, 18, 19, 21, 22, 23, 24, 25, 26, 27, 28, 29, 30, 31, 32, 33, 34, 36, 38, 39, 40, 41, 42, 43, 45, 46, 47, 48, 49, 50, 51, 52, 53, 54, 55, 56, 57]
noncomputable def Tw.hk : PySem.W.Hook := PySem.W.kmHook Tw.pre.heap_1 [2, 3, 15, 17, 18, 20, 21, 22, 24, 25, 27, 28, 29, 31, 32, 34, 35, 36, 38, 39, 41, 42, 43, 50, 51, 52, 53, 56, 63, 64, 65, 68, 75, 76, 77, 80, 87, 88, 89, 92, 94, 95, 97, 98, 99, 101, 102, 104, 105, 106, 108, 109, 111, 112, 113, 115, 116, 118, 119, 120, 122, 123, 125, 126, 127, 135, 137, 138, 140, 141, 142, 144, 145, 147, 148, 149, 151, 152, 154, 155, 156, 158, 159, 161, 162, 163, 164, 165, 166, 167, 170, 177, 179, 180, 182, 183, 184, 186, 187, 189, 190, 191, 193, 194, 196, 197, 198, 199, 200, 203, 210, 212, 213, 215, 216, 217, 219, 220, 222, 223, 224, 226, 227, 229, 230, 231, 232, 233, 236, 243, 245, 246, 248, 249, 250, 252, 253, 255, 256, 257, 259, 260, 262, 263, 264, 265, 266, 269, 276, 278, 279, 281, 282, 283, 285, 286, 288, 289, 290, 292, 293, 295, 296, 297, 298, 299, 302, 309, 311, 312, 314, 315, 316, 318, 319, 321, 322, 323, 325, 326, 328, 329, 330, 331, 332, 335, 342, 344, 345, 347, 348, 349, 351, 352, 354, 355, 356, 358, 359, 361, 362, 363, 364, 365, 368, 370, 371, 373, 374, 375, 377, 378, 380, 381, 382, 384, 385, 387, 388, 389, 391, 392, 394, 395, 396, 398, 399, 401, 402, 403, 406, 407, 415, 417, 418, 420, 421, 422, 424, 425, 427, 428, 429, 431, 432, 434, 435, 436, 437, 439, 440, 442, 443, 444, 445, 446, 447, 448, 451, 453, 454, 456, 457, 458, 461, 462, 463, 465, 466, 468, 469, 470, 472, 473, 475, 476, 477, 484, 486, 487, 489, 490, 491, 493, 494, 496, 497, 498, 500, 501, 503, 504, 505, 507, 508, 510, 511, 512, 514, 515, 517, 518, 519, 520, 521, 524, 526, 527, 529, 530, 531, 533, 534, 536, 537, 538, 540, 541, 543, 544, 545, 547, 548, 550, 551, 564, 566, 567, 569, 570, 571, 573, 574, 576, 577, 578, 580, 581, 583, 584, 585, 587, 588, 590, 591, 592, 595, 596, 597, 600, 601, 602, 604, 605, 607, 608] (fun _ => by kernel_rfl) [192, 324, 357]
theorem Tw.run0 : Tw.RunOk PySem.Challenge.rw_twinwires_k24_halves.row Tw.vw ["WIRES_BEHIND"] [] Tw.hk 9928 "special-get-raises" false := fun w os => by kernel_rfl
theorem Tw.run1 : Tw.RunOk PySem.Challenge.rw_twinwires_k24_halves.row Tw.vw ["WIRES_BEHIND"] [] Tw.hk 9928 "special-get-raises" true := fun w os => by kernel_rfl
end
/-! the top ends -/

-- CHANGE: your row's module here, as the last of these rows
set_option Elab.async false
set_option linter.all false
set_option maxRecDepth 100000
/-! THE HAND LAYER, for ints, bools, texts, own classes, LISTS and tuples (index, slices, in, append, pop ..), calls, loops. Paste it whole ahead of your own text; what your proof does not reach may be deleted. -/
namespace L2
open PySem PySem.Spec PyProof.Rows

/-- a key: an int or a str -/
abbrev Key := Sum Int Str
def keyIs : Key → Value → Bool
  | .inl k, v => Value.isInt k v
  | .inr x, v => Value.isStrOf x v
def keyH (w : World) : Key → Int
  | .inl k => hashInt k
  | .inr x => hashStr w x
theorem keyIs_shape : ∀ {k : Key} {v : Value}, keyIs k v = true → (∃ i t, k = Sum.inl i ∧ v = Value.int i t) ∨ (∃ x t, k = Sum.inr x ∧ v = Value.str x t)
  | .inl i, v, h => by
    obtain ⟨t, e⟩ := Value.isInt_shape (k := i) (v := v) h
    exact .inl ⟨i, t, rfl, e⟩
  | .inr x, v, h => by
    obtain ⟨t, e⟩ := Value.isStrOf_shape (x := x) (v := v) h
    exact .inr ⟨x, t, rfl, e⟩
theorem keyIs_int (i : Int) (t : Tok) : keyIs (.inl i) (.int i t) = true := by simp [keyIs, Value.isInt]
theorem keyIs_str (x : Str) (t : Tok) : keyIs (.inr x) (.str x t) = true := by simp [keyIs, Value.isStrOf]
theorem key_ll (a b : Int) : decide ((Sum.inl a : Key) = Sum.inl b) = (a == b) := by
  by_cases e : a = b
  · subst e; simp
  · have h : ¬ (Sum.inl a : Key) = Sum.inl b := fun q => e (Sum.inl.inj q)
    rw [decide_eq_false h]
    exact (beq_eq_false_iff_ne.mpr e).symm
theorem key_rr (a b : Str) : decide ((Sum.inr a : Key) = Sum.inr b) = decide (a = b) := by
  by_cases e : a = b
  · subst e; simp
  · have h : ¬ (Sum.inr a : Key) = Sum.inr b := fun q => e (Sum.inr.inj q)
    rw [decide_eq_false h, decide_eq_false e]
theorem key_lr (a : Int) (b : Str) : decide ((Sum.inl a : Key) = Sum.inr b) = false := decide_eq_false (fun q => nomatch q)
theorem key_rl (a : Str) (b : Int) : decide ((Sum.inr a : Key) = Sum.inl b) = false := decide_eq_false (fun q => nomatch q)

def mixKind (prog : Program) (w : World) : PySem.KeyKind prog w Key where
  is := keyIs
  hash := keyH w
  inj := fun v a b ha hb => by
    rcases keyIs_shape ha with ⟨i, t, rfl, rfl⟩ | ⟨x, t, rfl, rfl⟩
    · rcases keyIs_shape hb with ⟨j, u, rfl, e⟩ | ⟨y, u, rfl, e⟩
      · injection e with e1 _; rw [e1]
      · exact nomatch e
    · rcases keyIs_shape hb with ⟨j, u, rfl, e⟩ | ⟨y, u, rfl, e⟩
      · exact nomatch e
      · injection e with e1 _; rw [e1]
  byValue := fun k v h => by
    rcases keyIs_shape h with ⟨i, t, rfl, rfl⟩ | ⟨x, t, rfl, rfl⟩ <;> rfl
  pyHash := fun hv h => by
    rcases keyIs_shape hv with ⟨i, t, rfl, rfl⟩ | ⟨x, t, rfl, rfl⟩
    · exact wpAny_pyHash_int h
    · exact wpAny_pyHash_str h
  eqBool := fun hu hv h => by
    rcases keyIs_shape hu with ⟨i, t, rfl, rfl⟩ | ⟨x, t, rfl, rfl⟩
    · rcases keyIs_shape hv with ⟨j, u, rfl, rfl⟩ | ⟨y, u, rfl, rfl⟩
      · rw [key_ll] at h; exact wpAny_eqBool_int h
      · rw [key_lr] at h; exact SeqAt.EqAt.int_str i t y u _ _ _ _ h
    · rcases keyIs_shape hv with ⟨j, u, rfl, rfl⟩ | ⟨y, u, rfl, rfl⟩
      · rw [key_rl] at h; exact SeqAt.EqAt.str_int x t j u _ _ _ _ h
      · rw [key_rr] at h; exact wpAny_eqBool_str h
  «strs» := fun k x t v h => by
    rcases keyIs_shape h with ⟨i, u, rfl, e⟩ | ⟨y, u, rfl, e⟩
    · exact nomatch e
    · injection e with e1 _
      subst e1
      cases v <;> rfl

theorem mixKind_int (prog : Program) (w : World) (i : Int) (t : Tok) : (mixKind prog w).is (.inl i) (.int i t) = true := keyIs_int i t
theorem mixKind_str (prog : Program) (w : World) (x : Str) (t : Tok) : (mixKind prog w).is (.inr x) (.str x t) = true := keyIs_str x t
end L2

namespace L2
open PySem PySem.Spec PyProof.Rows

/-- a value, without the heap -/
inductive V where
  | non | bl (b : Bool) | int (i : Int) | str (x : Str) | byt (b : Array UInt8) | flt (b : UInt64) | ref (a : Addr) | ty (n : String)
  deriving DecidableEq

def RelV : V → Value → Prop
  | .non, u => u = Value.none
  | .bl b, u => u = Value.bool b
  | .int i, u => ∃ t, u = Value.int i t
  | .str x, u => ∃ t, u = Value.str x t
  | .byt b, u => ∃ t, u = Value.bytes b t
  | .flt b, u => ∃ t, u = Value.float b t
  | .ref a, u => u = Value.ref a
  | .ty n, u => u = Value.type n

abbrev Vals : List V → List Value → Prop := Paired RelV
theorem Vals.length {xs : List V} {us : List Value} (r : Vals xs us) : xs.length = us.length := Paired.length r
theorem Vals.get : ∀ {xs : List V} {us : List Value} {i : Nat} {x : V}, Vals xs us → xs[i]? = some x → ∃ u, us[i]? = some u ∧ RelV x u
  | _, _, _, _, .nil, e => by simp at e
  | _, _, 0, _, .cons r _, e => by simp at e; subst e; exact ⟨_, rfl, r⟩
  | _, _, i + 1, x, .cons _ t, e => by
    obtain ⟨u, h1, h2⟩ := Vals.get (i := i) (x := x) t (by simpa using e)
    exact ⟨u, by simpa using h1, h2⟩
theorem Vals.append : ∀ {xs ys : List V} {us ws : List Value}, Vals xs us → Vals ys ws → Vals (xs ++ ys) (us ++ ws)
  | _, _, _, _, .nil, s => s
  | _, _, _, _, .cons r t, s => .cons r (Vals.append t s)
theorem Vals.take : ∀ {xs : List V} {us : List Value} (n : Nat), Vals xs us → Vals (xs.take n) (us.take n)
  | _, _, 0, _ => .nil
  | _, _, _ + 1, .nil => .nil
  | _, _, n + 1, .cons r t => .cons r (Vals.take n t)
theorem Vals.drop : ∀ {xs : List V} {us : List Value} (n : Nat), Vals xs us → Vals (xs.drop n) (us.drop n)
  | _, _, 0, r => r
  | _, _, _ + 1, .nil => .nil
  | _, _, n + 1, .cons _ t => Vals.drop n t
def RelO : Option V → Option Value → Prop
  | some v, some u => RelV v u
  | none, none => True
  | _, _ => False
def KV {κ : Type} : List (κ × V) → List (κ × Value) → Prop := Paired fun (p : κ × V) (q : κ × Value) => p.1 = q.1 ∧ RelV p.2 q.2

/-- a key of a dict (00_mix): an int or a text -/
def kV : Key → V
  | .inl i => .int i
  | .inr x => .str x

/-- what stands at a tracked address -/
inductive HO where
  /-- a list -/
  | lst (xs : List V)
  /-- a tuple (never changes) -/
  | tup (xs : List V)
  /-- a dict whose keys are ints and texts; one whose keys are tuples of ints and texts (the empty one is both) -/
  | dK (kvs : List (Key × V)) | dT (kvs : List (List Key × V))
  /-- a set of ints: its members, its size -/
  | set (S : Int → Bool) (n : Nat)
  /-- an instance of the class at C, its dict at dx, its attributes -/
  | ins (C dx : Addr) (fs : List (Str × V))
  /-- the dict of the instance at x -/
  | own (x : Addr)
  /-- the dict of an exception -/
  | xd (fs : List (Str × V))
  /-- a bound method, f of x -/
  | met (f x : Addr)
  /-- a range object lo, lo + 1, .. below hi -/
  | rng (lo hi : Int)
  /-- a thing that is known to the object (the script; a dict while a loop walks it): read, never written while it is so -/
  | frz (o : Obj) (u : HO)
  /-- a code object's table -/
  | tbl (ps : Array Value)
  /-- any other thing, by what is true of its one object (a def of one's own: SetO a S n := HO.ext fun h => ..) -/
  | ext (φ : Heap → Prop)

abbrev Hp := Addr → Option HO
def upd (H : Hp) (a : Addr) (o : HO) : Hp := fun b => if b = a then some o else H b
theorem upd_same {H : Hp} {a : Addr} {o : HO} : upd H a o a = some o := by unfold upd; rw [if_pos rfl]
theorem upd_ne {H : Hp} {a b : Addr} {o : HO} (h : b ≠ a) : upd H a o b = H b := by unfold upd; rw [if_neg h]
theorem upd_upd {H : Hp} {a : Addr} {o u : HO} : upd (upd H a o) a u = upd H a u := by
  funext b; unfold upd; split <;> rfl
/-- two objects of different content stand apart -/
theorem ne_of {H : Hp} {a b : Addr} {o u : HO} (h : H a = some o) (h' : H b = some u) (d : o ≠ u) : a ≠ b := by
  intro e; subst e; rw [h] at h'; exact d (Option.some.inj h')
theorem ne_of_none {H : Hp} {a b : Addr} {o : HO} (h : H a = some o) (h' : H b = none) : a ≠ b := by
  intro e; subst e; rw [h] at h'; cases h'

section
variable (P : Program) (w : World)
def ObjOk (H : Hp) (h : Heap) (a : Addr) : HO → Prop
  | .lst xs => xs.length ≤ sizeLine ∧ ∃ (its : List Value) (n : Nat), Vals xs its ∧ h.get? a = some { cls := .type "list", data := .seq its.toArray n }
  | .tup xs => xs.length ≤ sizeLine ∧ ∃ its : List Value, Vals xs its ∧ IsTup h a its.toArray
  | .dK kvs => kvs.length ≤ sizeLine ∧ (a == sysModules) = false ∧ ∃ vs, KV kvs vs ∧ h.DictOf (mixKind P w) a vs
  | .dT kvs => kvs.length ≤ sizeLine ∧ (a == sysModules) = false ∧ ∃ xs : List (List Key × Addr × Value),
      Paired (fun (p : List Key × V) (q : List Key × Addr × Value) => p.1 = q.1 ∧ H q.2.1 = some (.tup (p.1.map kV)) ∧ RelV p.2 q.2.2) kvs xs ∧
      ∃ o es ep, h.get? a = some o ∧ o.ExactDict ∧ o.data = .dict es ep ∧ es.toList = xs.map (entryOfKey (tupleKind (mixKind P w))) ∧ (xs.map (·.1)).Nodup
  | .set S n => h.SetOf (intKind P w) a S n
  | .ins C dx fs => H dx = some (.own a) ∧ fs.length ≤ 1000 ∧ dx ≠ a ∧ h.get? a = some (PySem.W.instObj C dx) ∧
      ∃ mA, h.Ns1 dx mA ∧ (∀ f, RelO (fs.lookup f) (mA f)) ∧ PySem.Within mA (fs.map (·.1))
  | .own _ => ∃ o, h.get? a = some o
  | .xd fs => ∃ mA, h.Ns1 a mA ∧ ∀ f, RelO (fs.lookup f) (mA f)
  | .rng lo hi => ∃ t u v, h.get? a = some { cls := .type "range", data := .fields #[.int lo t, .int hi u, .int 1 v] }
  | .frz o u => h.get? a = some o ∧ ObjOk H h a u
  | .tbl ps => h.get? a = some { cls := .none, data := .fields ps }
  | .met f x => h.get? a = some (PySem.W.methodObj (.ref f) (.ref x))
  | .ext φ => φ h ∧ (∃ o, h.get? a = some o) ∧ ∀ h1 h2 : Heap, φ h1 → (∀ o, h1.get? a = some o → h2.get? a = some o) → φ h2
/-- the abstract heap is held -/
def HOk (H : Hp) (h : Heap) : Prop := ∀ a o, H a = some o → ObjOk P w H h a o
end

section
variable {P : Program} {w : World} {H H' : Hp} {h h' : Heap} {a : Addr} {o : HO}
theorem ObjOk.lt (x : ObjOk P w H h a o) : a < h.objs.size := by
  cases o with
  | lst xs => obtain ⟨_, _, _, _, e⟩ := x; exact Heap.lt_size e
  | tup xs => obtain ⟨_, _, _, p⟩ := x; exact p.lt
  | dK kvs => obtain ⟨_, _, _, _, o, _, _, e, _⟩ := x; exact Heap.lt_size e
  | dT kvs => obtain ⟨_, _, _, _, o, _, _, e, _⟩ := x; exact Heap.lt_size e
  | set S n => obtain ⟨o, _, _, _, e, _⟩ := x; exact Heap.lt_size e
  | ins C dx fs => obtain ⟨_, _, _, e, _⟩ := x; exact Heap.lt_size e
  | own y => obtain ⟨_, e⟩ := x; exact Heap.lt_size e
  | xd fs => obtain ⟨_, ⟨_, _, _, e, _⟩, _⟩ := x; exact Heap.lt_size e
  | rng lo hi => obtain ⟨_, _, _, e⟩ := x; exact Heap.lt_size e
  | frz ob u => obtain ⟨e, _⟩ := x; exact Heap.lt_size e
  | tbl ps => exact Heap.lt_size (show h.get? a = some _ from x)
  | met f y => exact Heap.lt_size (show h.get? a = some _ from x)
  | ext φ => obtain ⟨_, ⟨_, e⟩, _⟩ := x; exact Heap.lt_size e
theorem Paired.mapP {α β : Type} {F G : α → β → Prop} : ∀ {l₁ : List α} {l₂ : List β}, Paired F l₁ l₂ → (∀ a b, F a b → G a b) → Paired G l₁ l₂
  | _, _, .nil, _ => .nil
  | _, _, .cons r t, f => .cons (f _ _ r) (Paired.mapP t f)
/-- what an object's description leans on: its own object, its own dict, the tuples -/
theorem ObjOk.stay (x : ObjOk P w H h a o) (k : ∀ b u, (b = a ∨ H b = some (.own a)) → h.get? b = some u → h'.get? b = some u)
    (ho : ∀ b, H b = some (.own a) → H' b = some (.own a)) (ht : ∀ b xs, H b = some (.tup xs) → H' b = some (.tup xs)) : ObjOk P w H' h' a o := by
  induction o with
  | lst xs => obtain ⟨z, its, n, r, e⟩ := x; exact ⟨z, its, n, r, k _ _ (.inl rfl) e⟩
  | tup xs => obtain ⟨z, its, r, ob, e, c⟩ := x; exact ⟨z, its, r, ob, k _ _ (.inl rfl) e, c⟩
  | dK kvs => obtain ⟨z, y, vs, r, ob, es, ep, e, c⟩ := x; exact ⟨z, y, vs, r, ob, es, ep, k _ _ (.inl rfl) e, c⟩
  | dT kvs =>
    obtain ⟨z, y, xs, r, ob, es, ep, e, c⟩ := x
    exact ⟨z, y, xs, Paired.mapP r fun p q z => ⟨z.1, ht _ _ z.2.1, z.2.2⟩, ob, es, ep, k _ _ (.inl rfl) e, c⟩
  | set S n => obtain ⟨ob, es, ep, t, e, c⟩ := x; exact ⟨ob, es, ep, t, k _ _ (.inl rfl) e, c⟩
  | ins C dx fs =>
    obtain ⟨d, z, ne, e, mA, ⟨od, es, ep, e2, c⟩, r⟩ := x
    exact ⟨ho _ d, z, ne, k _ _ (.inl rfl) e, mA, ⟨od, es, ep, k _ _ (.inr d) e2, c⟩, r⟩
  | own y => obtain ⟨ob, e⟩ := x; exact ⟨ob, k _ _ (.inl rfl) e⟩
  | xd fs => obtain ⟨mA, ⟨od, es, ep, e, c⟩, r⟩ := x; exact ⟨mA, ⟨od, es, ep, k _ _ (.inl rfl) e, c⟩, r⟩
  | rng lo hi => obtain ⟨t, u, v, e⟩ := x; exact ⟨t, u, v, k _ _ (.inl rfl) e⟩
  | frz ob u ih => obtain ⟨e, q⟩ := x; exact ⟨k _ _ (.inl rfl) e, ih q⟩
  | tbl ps =>
    have e : h.get? a = some { cls := .none, data := .fields ps } := x
    show h'.get? a = some { cls := .none, data := .fields ps }
    exact k a _ (.inl rfl) e
  | met f y =>
    have e : h.get? a = some (PySem.W.methodObj (.ref f) (.ref y)) := x
    show h'.get? a = some (PySem.W.methodObj (.ref f) (.ref y))
    exact k a _ (.inl rfl) e
  | ext φ => obtain ⟨p, ⟨o, e⟩, st⟩ := x; exact ⟨st _ _ p fun o q => k _ _ (.inl rfl) q, ⟨o, k _ _ (.inl rfl) e⟩, st⟩
theorem HOk.lt (x : HOk P w H h) (e : H a = some o) : a < h.objs.size := (x a o e).lt
theorem HOk.fresh (x : HOk P w H h) (e : h.objs.size ≤ a) : H a = none := by
  cases q : H a with
  | none => rfl
  | some u => exact absurd (Nat.lt_of_lt_of_le (x.lt q) e) (Nat.lt_irrefl _)
/-- every object of the heap is kept -/
theorem HOk.kept (x : HOk P w H h) (k : ∀ b u, h.get? b = some u → h'.get? b = some u) : HOk P w H h' := fun a o e =>
  (x a o e).stay (fun b u _ q => k b u q) (fun _ q => q) fun _ _ q => q
/-- a new object is laid and tracked -/
theorem HOk.laid (x : HOk P w H h) (k : ∀ b u, h.get? b = some u → h'.get? b = some u) (hp : h.objs.size ≤ a) (new : ObjOk P w (upd H a o) h' a o) : HOk P w (upd H a o) h' := fun b u e => by
  have hn := x.fresh hp
  by_cases hb : b = a
  · subst hb; rw [upd_same] at e; cases e; exact new
  · rw [upd_ne hb] at e
    exact (x b u e).stay (fun c v _ q => k c v q) (fun c q => by rw [upd_ne (ne_of_none q hn)]; exact q) fun c xs q => by rw [upd_ne (ne_of_none q hn)]; exact q
end

/-- what may be read as u: it is u, or a known u -/
def Rd (H : Hp) (a : Addr) (u : HO) : Prop := H a = some u ∨ ∃ o, H a = some (.frz o u)
theorem Rd.ok {P : Program} {w : World} {H : Hp} {h : Heap} {a : Addr} {u : HO} (r : Rd H a u) (x : HOk P w H h) : ObjOk P w H h a u := by
  rcases r with r | ⟨o, r⟩
  · exact x a u r
  · obtain ⟨_, q⟩ := x a _ r
    exact q
/-- what may be written -/
def Mut : Option HO → Prop
  | some (.lst _) => True
  | some (.dK _) => True
  | some (.dT _) => True
  | some (.set _ _) => True
  | some (.ins _ _ _) => True
  | some (.ext _) => True
  | _ => False
section
variable {P : Program} {w : World} {H : Hp} {h h' : Heap} {x e : Addr} {o' : HO}
/-- the object at e is changed: x itself, or the dict of the instance x -/
theorem HOk.write (ok : HOk P w H h) (mu : Mut (H x)) (he : e = x ∨ H e = some (.own x)) (k : ∀ b u, b ≠ e → h.get? b = some u → h'.get? b = some u) (heo : ∃ u, h'.get? e = some u)
    (new : ObjOk P w (upd H x o') h' x o') : HOk P w (upd H x o') h' := fun b u q => by
  have nown : ∀ c y, H c = some (.own y) → c ≠ x := fun c y r z => by subst z; rw [r] at mu; exact mu
  have ntup : ∀ c xs, H c = some (.tup xs) → c ≠ x := fun c xs r z => by subst z; rw [r] at mu; exact mu
  by_cases hb : b = x
  · subst hb; rw [upd_same] at q; cases q; exact new
  · rw [upd_ne hb] at q
    by_cases hbe : b = e
    · have q' : H b = some (.own x) := by
        rcases he with z | z
        · exact absurd (hbe.trans z) hb
        · rw [hbe]; exact z
      rw [q] at q'; cases q'
      obtain ⟨v, hv⟩ := heo
      exact ⟨v, by rw [hbe]; exact hv⟩
    · refine (ok b u q).stay (fun c v hc r => k c v ?_ r) (fun c r => by rw [upd_ne (nown c b r)]; exact r) fun c xs r => by rw [upd_ne (ntup c xs r)]; exact r
      rcases hc with rfl | hc
      · exact hbe
      · rintro rfl
        rcases he with z | z
        · exact nown c b hc z
        · rw [hc] at z; cases z; exact hb rfl
end

/-! ### kept unless tracked; of the frames at fs (the callers') the slots may change (an exception that passes writes there); of the records at ex (iterators) nothing is said -/
structure Un (fs ex : List Addr) (H H' : Hp) (h h' : Heap) : Prop where
  keep : ∀ b o, h.get? b = some o → H b = none → b ∉ fs → b ∉ ex → h'.get? b = some o
  slot : ∀ b o, h.get? b = some o → H b = none → b ∈ fs → b ∉ ex → ∃ sl, h'.get? b = some { o with slots := sl }
  free : ∀ b o, h.get? b = some o → H b = none → b ∉ ex → H' b = none
  there : ∀ b o, h.get? b = some o → b ∉ ex → ∃ o', h'.get? b = some o'
  tups : ∀ b xs, H b = some (.tup xs) → H' b = some (.tup xs)
  frzs : ∀ b o u, H b = some (.frz o u) → H' b = some (.frz o u)
  tbls : ∀ b ps, H b = some (.tbl ps) → ∃ more, H' b = some (.tbl (ps ++ more))
section
variable {fs fs' ex ex' : List Addr} {H H1 H2 : Hp} {h h1 h2 h' : Heap} {a x e : Addr} {o : HO}
theorem Un.any (u : Un fs ex H H1 h h1) {b : Addr} {ob : Obj} (q : h.get? b = some ob) (n : H b = none) (hx : b ∉ ex) : ∃ sl, h1.get? b = some { ob with slots := sl } := by
  by_cases hb : b ∈ fs
  · exact u.slot b ob q n hb hx
  · exact ⟨ob.slots, u.keep b ob q n hb hx⟩
theorem Un.kept (k : ∀ b u, h.get? b = some u → h'.get? b = some u) : Un fs ex H H h h' :=
  ⟨fun b ob q _ _ _ => k b ob q, fun b ob q _ _ _ => ⟨ob.slots, k b ob q⟩, fun _ _ _ n _ => n, fun b ob q _ => ⟨ob, k b ob q⟩, fun _ _ q => q, fun _ _ _ q => q, fun _ ps q => ⟨#[], by rw [q]; simp⟩⟩
theorem Un.refl : Un fs ex H H h h := Un.kept fun _ _ q => q
theorem Un.laid (k : ∀ b u, h.get? b = some u → h'.get? b = some u) (hp : h.objs.size ≤ a) (hn : H a = none) : Un fs ex H (upd H a o) h h' where
  keep := fun b u q _ _ _ => k b u q
  slot := fun b u q _ _ _ => ⟨u.slots, k b u q⟩
  free := fun b u q n _ => by rw [upd_ne (Nat.ne_of_lt (Nat.lt_of_lt_of_le (Heap.lt_size q) hp))]; exact n
  there := fun b u q _ => ⟨u, k b u q⟩
  tups := fun b xs q => by rw [upd_ne (ne_of_none q hn)]; exact q
  frzs := fun b u xs q => by rw [upd_ne (ne_of_none q hn)]; exact q
  tbls := fun b ps q => ⟨#[], by rw [upd_ne (ne_of_none q hn), q]; simp⟩
theorem Un.write (mu : Mut (H x)) (he : e = x ∨ H e = some (.own x)) (k : ∀ b u, b ≠ e → h.get? b = some u → h'.get? b = some u) (heo : ∃ u, h'.get? e = some u) : Un fs ex H (upd H x o) h h' := by
  have hx : ∀ b, H b = none → b ≠ x := fun b n z => by subst z; rw [n] at mu; exact mu
  have hb : ∀ b, H b = none → b ≠ e := fun b n z => by
    subst z
    rcases he with r | r
    · exact hx b n r
    · rw [n] at r; cases r
  have hm : ∀ b u, H b = some u → ¬ Mut (some u) → b ≠ x := fun b u q nm z => by subst z; rw [q] at mu; exact nm mu
  refine ⟨fun b u q n _ _ => k b u (hb b n) q, fun b u q n _ _ => ⟨u.slots, k b u (hb b n) q⟩, fun b u q n _ => by rw [upd_ne (hx b n)]; exact n, fun b u q _ => ?_,
    fun b xs q => by rw [upd_ne (hm b _ q fun z => z)]; exact q, fun b u xs q => by rw [upd_ne (hm b _ q fun z => z)]; exact q, fun b ps q => ⟨#[], by rw [upd_ne (hm b _ q fun z => z), q]; simp⟩⟩
  by_cases hbe : b = e
  · subst hbe; exact heo
  · exact ⟨u, k b u hbe q⟩
end

/-! ### the heap without what is tracked -/
def trk (h : Heap) (H : Hp) : List Addr := (List.range h.objs.size).filter fun a => (H a).isSome
def hidT (h : Heap) (H : Hp) : Heap := PySem.W.hideAll h (trk h H)
theorem hidT_size (h : Heap) (H : Hp) : (hidT h H).objs.size = h.objs.size := PySem.W.hideAll_size _ _
theorem hidT_get {h : Heap} {H : Hp} {b : Addr} {o : Obj} (e : h.get? b = some o) (n : H b = none) : (hidT h H).get? b = some o :=
  PySem.W.hideAll_get _ e fun hm => by
    have q : (H b).isSome = true := (List.mem_filter.mp hm).2
    rw [n] at q; simp at q
theorem of_hidT {h : Heap} {H : Hp} {b : Addr} {o : Obj} (e : (hidT h H).get? b = some o) : h.get? b = some o ∧ H b = none := by
  have e' : h.get? b = some o := PySem.W.of_hideAll (trk h H) e
  refine ⟨e', ?_⟩
  cases q : H b with
  | none => rfl
  | some x =>
    have hm : b ∈ trk h H := List.mem_filter.mpr ⟨List.mem_range.mpr (Heap.lt_size e'), by simp [q]⟩
    have z : (hidT h H).get? b = none := PySem.W.hideAll_none (trk h H) hm
    rw [z] at e; cases e

/-! ### OpenK's ledger, filled with every new object but one -/
def allNews (g h : Heap) (L : Addr) : List (Addr × Obj) := (List.range h.objs.size).filterMap fun a => if a = L ∨ (g.get? a).isSome = true then none else (h.get? a).map fun o => (a, o)
def rest (g h : Heap) (L d : Addr) : List (Addr × Obj) := (allNews g h L).filter fun p => decide (p.1 ≠ d)
end L2

namespace L2
open PySem PySem.Spec PyProof.Rows

/-- the module's facts, over the base: the heap at the law's entry without what is tracked there -/
structure Mod (K : PySem.W.Frag) (mg : Str → Option Value) (base : Heap) : Prop where
  kin : K.In base
  glob : base.Ns mainGlobals mg
  blt : ∃ mb, base.Ns builtinsNs mb ∧ ∀ x : Str, x ≠ "__name__" → mb x = bootBuiltins x
  nolimit : base.NoLimit

/-- the context: a def's body (or a comprehension's block) running. base: fixed through the whole law; s₀, H₀: the entry; outer: the frames whose slots others may change (a def's callers); stack: all frames that run;
   ex: iterators that were made ahead of the entry and are walked here (a comprehension's); fn: the names whose cells were made at the entry (a def: all; a comprehension's block: its own); calm: not within an except suite; pn: pins that every state bears; xe: what is wanted of an exception that leaves the code -/
structure Cx where
  prog : Program
  w : World
  K : PySem.W.Frag
  mg : Str → Option Value
  base : Heap
  A : Around
  N : List Str
  s₀ : Shared
  H₀ : Hp
  env : Env
  outer : List Env
  stack : List Env
  ex : List Addr
  fn : Str → Bool
  calm : Bool
  pn : List (Addr × Obj)
  xe : Value → Shared → Prop
/-- the callers' frames -/
def frs (l : List Env) : List Addr := l.filterMap (·.frame)
abbrev Cx.fs (X : Cx) : List Addr := frs X.outer

def Vis (sc : Scope) (x : Str) : Prop := sc.names.lookup x = some .local ∨ sc.names.lookup x = some .cell ∨ sc.names.lookup x = some .free
def Loc (sc : Scope) (x : Str) : Prop := sc.names.lookup x = some .local ∨ sc.names.lookup x = some .cell
def Look (env : Env) (h : Heap) (m : Str → Option Value) (x : Str) (u : Value) : Prop :=
  (env.kindOf x = some .local ∧ m x = some u) ∨ ((env.kindOf x = some .cell ∨ env.kindOf x = some .free) ∧ ∃ c, env.cells.lookup x = some c ∧ h.IsCell c (some u))

structure Cx.Ok (X : Cx) : Prop where
  mod : Mod X.K X.mg X.base
  kind : X.env.scope.kind = .function
  glob : X.env.globals = mainGlobals
  blt : X.env.builtins = builtinsNs
  above : X.s₀.heap.objs.size ≤ X.env.locals
  inj : ∀ x y c, X.env.cells.lookup x = some c → X.env.cells.lookup y = some c → x = y
  has : ∀ x, (X.env.kindOf x = some .cell ∨ X.env.kindOf x = some .free) → ∃ c, X.env.cells.lookup x = some c
  cab : ∀ x c, X.fn x = true → X.env.cells.lookup x = some c → X.s₀.heap.objs.size ≤ c
  hd : X.calm = true → X.A.handled = none
  frames : X.A.frames = some X.stack
  stk : X.stack = X.outer ∨ (X.stack = X.env :: X.outer ∧ X.env.frame = some X.env.locals)
  exf : ∀ b ∈ X.ex, b ≠ X.env.locals ∧ ∀ x c, X.env.cells.lookup x = some c → c ≠ b
  bs : ∀ b o, X.base.get? b = some o → X.s₀.heap.get? b = some o ∧ X.H₀ b = none
  bsz : X.base.objs.size ≤ X.s₀.heap.objs.size
  noex : ∀ b o, X.base.get? b = some o → b ∉ X.ex
  exfs : ∀ b ∈ X.ex, b ∉ X.fs
  funs : X.s₀.heap.FunFrames X.base X.outer
  frf : ∀ b ∈ X.fs, X.H₀ b = none

structure Inv (X : Cx) (pins : List (Addr × Obj)) (σ : List (Option V)) (H : Hp) (s : Shared) : Prop where
  ok : X.Ok
  os : s.os = X.s₀.os
  bare : AllBare s.gens
  base : Un X.fs X.ex X.H₀ H X.s₀.heap s.heap
  loc : ∃ m, s.heap.Ns X.env.locals m ∧ ∀ (i : Nat) (x : Str) (v : V), X.N[i]? = some x → σ[i]? = some (some v) → Vis X.env.scope x → ∃ u, RelV v u ∧ Look X.env s.heap m x u
  cell : ∀ x c, X.env.cells.lookup x = some c → ∃ v, s.heap.IsCell c v
  free : H X.env.locals = none
  freeC : ∀ x c, X.env.cells.lookup x = some c → H c = none
  pin : ∀ p ∈ X.pn ++ pins, s.heap.get? p.1 = some p.2 ∧ H p.1 = none ∧ p.1 ≠ X.env.locals ∧ p.1 ∉ X.fs ∧ ∀ v, p.2.data ≠ .cell v
  hok : HOk X.prog X.w H s.heap
  len : σ.length = X.N.length

section
variable {X : Cx} {pins : List (Addr × Obj)} {σ : List (Option V)} {H H' : Hp} {s : Shared} {h' : Heap}

theorem Cx.Ok.nofr (ok : X.Ok) {b : Addr} {o : Obj} (e : X.base.get? b = some o) : b ∉ X.fs := fun hb => by
  have := (ok.funs.mem hb).1
  rw [e] at this; cases this
theorem Inv.bs (I : Inv X pins σ H s) : ∀ b o, X.base.get? b = some o → s.heap.get? b = some o ∧ H b = none := fun b o e =>
  ⟨I.base.keep b o (I.ok.bs b o e).1 (I.ok.bs b o e).2 (I.ok.nofr e) (I.ok.noex b o e), I.base.free b o (I.ok.bs b o e).1 (I.ok.bs b o e).2 (I.ok.noex b o e)⟩
theorem Inv.bk (I : Inv X pins σ H s) : ∀ b o, X.base.get? b = some o → s.heap.get? b = some o := fun b o e => (I.bs b o e).1
theorem Inv.mod (I : Inv X pins σ H s) : Mod X.K X.mg X.base := I.ok.mod
theorem Inv.kIn (I : Inv X pins σ H s) : X.K.In s.heap := I.ok.mod.kin.keeps I.bk
theorem Inv.lt (I : Inv X pins σ H s) : X.env.locals < s.heap.objs.size := let ⟨_, hn, _⟩ := I.loc; hn.lt
theorem Inv.sz (I : Inv X pins σ H s) : X.s₀.heap.objs.size ≤ s.heap.objs.size := Nat.le_trans I.ok.above (Nat.le_of_lt I.lt)
theorem Inv.nofs (I : Inv X pins σ H s) {a : Addr} (h : s.heap.objs.size ≤ a) : a ∉ X.fs := fun hb => by
  obtain ⟨_, o, ho, _⟩ := I.ok.funs.mem hb
  exact absurd (Nat.lt_of_lt_of_le (Heap.lt_size ho) (Nat.le_trans I.sz h)) (Nat.lt_irrefl _)
theorem Inv.cne (I : Inv X pins σ H s) : ∀ x c, X.env.cells.lookup x = some c → c ≠ X.env.locals := fun x c e z => by
  obtain ⟨v, o, ho, hd⟩ := I.cell x c e
  obtain ⟨m, ⟨o', es, ep, ho', hd', _⟩, _⟩ := I.loc
  rw [z, ho'] at ho; cases ho; rw [hd'] at hd; cases hd
theorem Inv.funs (I : Inv X pins σ H s) : s.heap.FunFrames X.base X.outer := by
  have all : ∀ (l : List Env), (∀ b ∈ frs l, b ∈ X.fs) → X.s₀.heap.FunFrames X.base l → s.heap.FunFrames X.base l := by
    intro l
    induction l with
    | nil => intro _ _; trivial
    | cons env r ih =>
      intro hs hl
      obtain ⟨hk, ⟨L, o, hf, hn, ho, hd⟩, hr⟩ := hl
      have hL : L ∈ X.fs := hs L (by unfold frs; rw [List.filterMap_cons, hf]; exact List.mem_cons_self)
      obtain ⟨sl, e⟩ := I.base.slot L o ho (I.ok.frf L hL) hL fun z => I.ok.exfs L z hL
      exact ⟨hk, ⟨L, _, hf, hn, e, hd⟩, ih (fun b hb => hs b (by unfold frs; rw [List.filterMap_cons, hf]; exact List.mem_cons_of_mem _ hb)) hr⟩
  exact all X.outer (fun _ hb => hb) I.ok.funs

/-- the frames that run, for a call -/
theorem Inv.stack (I : Inv X pins σ H s) : s.heap.FunFrames X.base X.stack := by
  rcases I.ok.stk with e | ⟨e, hf⟩
  · rw [e]; exact I.funs
  · rw [e]
    obtain ⟨m, hn, _⟩ := I.loc
    refine .cons (by rw [I.ok.kind]; decide) hf hn ?_ I.funs
    exact Heap.get?_none_of_le (Nat.le_trans I.ok.bsz I.ok.above)
theorem Inv.stkSub (I : Inv X pins σ H s) : ∀ b ∈ frs X.stack, b ∈ X.env.locals :: X.fs := fun b hb => by
  rcases I.ok.stk with e | ⟨e, hf⟩
  · rw [e] at hb; exact List.mem_cons_of_mem _ hb
  · rw [e] at hb
    unfold frs at hb
    rw [List.filterMap_cons, hf] at hb
    exact hb
theorem Inv.stkFree (I : Inv X pins σ H s) : ∀ b ∈ frs X.stack, H b = none := fun b hb => by
  rcases List.mem_cons.mp (I.stkSub b hb) with e | hb
  · rw [e]; exact I.free
  · obtain ⟨_, o, ho, _⟩ := I.ok.funs.mem hb
    exact I.base.free b o ho (I.ok.frf b hb) fun z => I.ok.exfs b z hb

/-- THE STEP: the untracked objects but the frame and the records at ch are kept (the callers' frames up to slots), the frame's map is kept, the new abstract heap is held -/
theorem Inv.step {g' : Array GenState} {t' : Nat} {d' : Drawn} {ch : List Addr} (I : Inv X pins σ H s)
    (hch : ∀ b ∈ ch, (b ∈ X.ex ∨ X.s₀.heap.objs.size ≤ b) ∧ b ≠ X.env.locals ∧ (∀ x c, X.env.cells.lookup x = some c → c ≠ b) ∧ ∀ p ∈ X.pn ++ pins, p.1 ≠ b)
    (keep : ∀ b o, b ≠ X.env.locals → b ∉ X.fs → b ∉ ch → s.heap.get? b = some o → H b = none → h'.get? b = some o)
    (slot : ∀ b o, b ≠ X.env.locals → b ∈ X.fs → b ∉ ch → s.heap.get? b = some o → H b = none → ∃ sl, h'.get? b = some { o with slots := sl }) (free : ∀ b o, b ∉ ch → s.heap.get? b = some o → H b = none → H' b = none)
    (there : ∀ b o, b ∉ ch → s.heap.get? b = some o → ∃ o', h'.get? b = some o')
    (tups : ∀ b xs, H b = some (.tup xs) → H' b = some (.tup xs)) (frzs : ∀ b o u, H b = some (.frz o u) → H' b = some (.frz o u)) (tbls : ∀ b ps, H b = some (.tbl ps) → ∃ more, H' b = some (.tbl (ps ++ more)))
    (ns : ∀ m, s.heap.Ns X.env.locals m → h'.Ns X.env.locals m) (hok : HOk X.prog X.w H' h') (hg : AllBare g') :
    Inv X pins σ H' { s with heap := h', gens := g', drawn := d', toks := t' } := by
  have neL : ∀ b o, X.s₀.heap.get? b = some o → b ≠ X.env.locals := fun b o e => Nat.ne_of_lt (Nat.lt_of_lt_of_le (Heap.lt_size e) I.ok.above)
  have neC : ∀ b o, X.s₀.heap.get? b = some o → b ∉ X.ex → b ∉ ch := fun b o e hx hb => by
    rcases (hch b hb).1 with z | z
    · exact hx z
    · exact absurd (Nat.lt_of_lt_of_le (Heap.lt_size e) z) (Nat.lt_irrefl _)
  have cellK : ∀ x c, X.env.cells.lookup x = some c → ∀ v, s.heap.IsCell c v → h'.IsCell c v := fun x c e v ⟨o, ho, hd⟩ => by
    have nch : c ∉ ch := fun z => (hch c z).2.2.1 x c e rfl
    by_cases hc : c ∈ X.fs
    · obtain ⟨sl, q⟩ := slot c o (I.cne x c e) hc nch ho (I.freeC x c e)
      exact ⟨_, q, hd⟩
    · exact ⟨o, keep c o (I.cne x c e) hc nch ho (I.freeC x c e), hd⟩
  refine ⟨I.ok, I.os, hg, ⟨fun b o e n hb hx => ?_, fun b o e n hb hx => ?_, fun b o e n hx => ?_, fun b o e hx => ?_, fun b xs e => tups b xs (I.base.tups b xs e), fun b o xs e => frzs b o xs (I.base.frzs b o xs e), fun b ps e => ?_⟩, ?_, fun x c e => ?_, ?_, fun x c e => ?_, fun p hp => ?_, hok, I.len⟩
  · exact keep b o (neL b o e) hb (neC b o e hx) (I.base.keep b o e n hb hx) (I.base.free b o e n hx)
  · obtain ⟨sl, e1⟩ := I.base.slot b o e n hb hx
    obtain ⟨sl', e2⟩ := slot b _ (neL b o e) hb (neC b o e hx) e1 (I.base.free b o e n hx)
    exact ⟨sl', e2⟩
  · obtain ⟨o', e1⟩ := I.base.there b o e hx
    exact free b o' (neC b o e hx) e1 (I.base.free b o e n hx)
  · obtain ⟨o', e1⟩ := I.base.there b o e hx
    exact there b o' (neC b o e hx) e1
  · obtain ⟨m1, e1⟩ := I.base.tbls b ps e
    obtain ⟨m2, e2⟩ := tbls b _ e1
    exact ⟨m1 ++ m2, by rw [e2, Array.append_assoc]⟩
  · obtain ⟨m, hn, hl⟩ := I.loc
    refine ⟨m, ns m hn, fun i x v e1 e2 e3 => ?_⟩
    obtain ⟨u, r, l⟩ := hl i x v e1 e2 e3
    refine ⟨u, r, ?_⟩
    rcases l with l | ⟨k, c, e, z⟩
    · exact .inl l
    · exact .inr ⟨k, c, e, cellK x c e _ z⟩
  · obtain ⟨v, z⟩ := I.cell x c e
    exact ⟨v, cellK x c e v z⟩
  · obtain ⟨m, ⟨o, _, _, ho, _⟩, _⟩ := I.loc
    exact free _ o (fun z => (hch _ z).2.1 rfl) ho I.free
  · obtain ⟨v, o, ho, hd⟩ := I.cell x c e
    exact free c o (fun z => (hch c z).2.2.1 x c e rfl) ho (I.freeC x c e)
  · obtain ⟨e, n, ne, nf, d⟩ := I.pin p hp
    have nch : p.1 ∉ ch := fun z => (hch p.1 z).2.2.2 p hp rfl
    exact ⟨keep p.1 p.2 ne nf nch e n, free p.1 p.2 nch e n, ne, nf, d⟩
/-- .. where the frame's own object is kept too -/
theorem Inv.un {t' : Nat} (I : Inv X pins σ H s) (u : Un X.fs [] H H' s.heap h') (hok : HOk X.prog X.w H' h') : Inv X pins σ H' { s with heap := h', toks := t' } := by
  obtain ⟨m, ⟨o, es, ep, ho, r⟩, _⟩ := id I.loc
  obtain ⟨sl, hL⟩ := u.any ho I.free (by simp)
  exact I.step (g' := s.gens) (d' := s.drawn) (ch := []) (fun _ z => nomatch z) (fun b o _ hb _ e n => u.keep b o e n hb (by simp)) (fun b o _ hb _ e n => u.slot b o e n hb (by simp)) (fun b o _ e n => u.free b o e n (by simp)) (fun b o _ e => u.there b o e (by simp)) u.tups u.frzs u.tbls (fun m' hm => by
    obtain ⟨o', es', ep', ho', r'⟩ := hm
    rw [ho] at ho'; cases ho'
    exact ⟨_, es', ep', hL, r'⟩) hok I.bare
/-- behind a call (or a comprehension's block): the slots of this frame may have changed too, the records at ch may have turned -/
theorem Inv.call {g' : Array GenState} {t' : Nat} {d' : Drawn} {ch : List Addr} (I : Inv X pins σ H s) (u : Un (frs X.stack) ch H H' s.heap h') (hok : HOk X.prog X.w H' h') (hg : AllBare g')
    (hch : ∀ b ∈ ch, (b ∈ X.ex ∨ X.s₀.heap.objs.size ≤ b) ∧ b ≠ X.env.locals ∧ (∀ x c, X.env.cells.lookup x = some c → c ≠ b) ∧ ∀ p ∈ X.pn ++ pins, p.1 ≠ b) :
    Inv X pins σ H' { s with heap := h', gens := g', drawn := d', toks := t' } := by
  obtain ⟨m, ⟨o, es, ep, ho, r⟩, _⟩ := id I.loc
  obtain ⟨sl, hL⟩ := u.any ho I.free fun z => (hch _ z).2.1 rfl
  exact I.step (ch := ch) hch (fun b o hL hb hc e n => u.keep b o e n (fun z => (List.mem_cons.mp (I.stkSub b z)).elim hL hb) hc) (fun b o _ _ hc e n => u.any e n hc) (fun b o hc e n => u.free b o e n hc) (fun b o hc e => u.there b o e hc) u.tups u.frzs u.tbls (fun m' hm => by
    obtain ⟨o', es', ep', ho', r'⟩ := hm
    rw [ho] at ho'; cases ho'
    exact ⟨_, es', ep', hL, r'⟩) hok hg
/-- an untracked record of ours (an iterator) has turned -/
theorem Inv.turned {t' : Nat} {it : Addr} (I : Inv X pins σ H s) (k : ∀ b o, b ≠ it → s.heap.get? b = some o → h'.get? b = some o) (hn : H it = none) (hL : it ≠ X.env.locals)
    (h1 : it ∈ X.ex ∨ X.s₀.heap.objs.size ≤ it) (h2 : ∀ x c, X.env.cells.lookup x = some c → c ≠ it) (h3 : ∀ p ∈ X.pn ++ pins, p.1 ≠ it) : Inv X pins σ H { s with heap := h', toks := t' } := by
  have nit : ∀ b u, H b = some u → b ≠ it := fun b u e z => by rw [z, hn] at e; cases e
  refine I.step (g' := s.gens) (d' := s.drawn) (ch := [it]) (fun b hb => ?_) (fun b o _ _ hc e _ => k b o (fun z => hc (by simp [z])) e) (fun b o _ _ hc e _ => ⟨o.slots, k b o (fun z => hc (by simp [z])) e⟩) (fun _ _ _ _ n => n)
    (fun b o hc e => ⟨o, k b o (fun z => hc (by simp [z])) e⟩) (fun _ _ e => e) (fun _ _ _ e => e) (fun b ps e => ⟨#[], by rw [e]; simp⟩) (fun m hm => ?_) (fun b u e => ?_) I.bare
  · have e : b = it := by simpa using hb
    subst e
    exact ⟨h1, hL, h2, h3⟩
  · obtain ⟨o, es, ep, ho, r⟩ := hm
    exact ⟨o, es, ep, k _ o (Ne.symm hL) ho, r⟩
  · refine (I.hok b u e).stay (fun c v hc q => k c v ?_ q) (fun _ q => q) fun _ _ q => q
    rcases hc with z | z
    · rw [z]; exact nit b u e
    · exact nit c _ z
theorem Inv.tok (I : Inv X pins σ H s) (t : Nat) : Inv X pins σ H { s with toks := t } := I.un (h' := s.heap) (t' := t) Un.refl I.hok
/-- all objects kept -/
theorem Inv.kept {t' : Nat} (I : Inv X pins σ H s) (k : ∀ b u, s.heap.get? b = some u → h'.get? b = some u) : Inv X pins σ H { s with heap := h', toks := t' } := I.un (Un.kept k) (I.hok.kept k)
/-- a new object laid and tracked -/
theorem Inv.laid {a : Addr} {o : HO} {t' : Nat} (I : Inv X pins σ H s) (k : ∀ b u, s.heap.get? b = some u → h'.get? b = some u) (hp : s.heap.objs.size ≤ a) (new : ObjOk X.prog X.w (upd H a o) h' a o) :
    Inv X pins σ (upd H a o) { s with heap := h', toks := t' } := I.un (Un.laid k hp (I.hok.fresh hp)) (I.hok.laid k hp new)
/-- an object written -/
theorem Inv.write {x e : Addr} {o : HO} {t' : Nat} (I : Inv X pins σ H s) (mu : Mut (H x)) (he : e = x ∨ H e = some (.own x)) (k : ∀ b u, b ≠ e → s.heap.get? b = some u → h'.get? b = some u) (heo : ∃ u, h'.get? e = some u)
    (new : ObjOk X.prog X.w (upd H x o) h' x o) : Inv X pins σ (upd H x o) { s with heap := h', toks := t' } := I.un (Un.write mu he k heo) (I.hok.write mu he k heo new)
theorem Inv.pins_of {pins' : List (Addr × Obj)} (I : Inv X pins σ H s) (h : ∀ p ∈ pins', s.heap.get? p.1 = some p.2 ∧ H p.1 = none ∧ p.1 ≠ X.env.locals ∧ p.1 ∉ X.fs ∧ ∀ v, p.2.data ≠ .cell v) : Inv X pins' σ H s :=
  ⟨I.ok, I.os, I.bare, I.base, I.loc, I.cell, I.free, I.freeC, fun p hp => (List.mem_append.mp hp).elim (fun z => I.pin p (List.mem_append_left _ z)) (h p), I.hok, I.len⟩

theorem nodup_ix {N : List Str} (hN : N.Nodup) {i j : Nat} {x : Str} (a : N[i]? = some x) (b : N[j]? = some x) : i = j := by
  obtain ⟨h1, e1⟩ := List.getElem?_eq_some_iff.mp a
  obtain ⟨h2, e2⟩ := List.getElem?_eq_some_iff.mp b
  exact (List.getElem_inj hN).mp (e1.trans e2.symm)

/-- a name is stored; what changed -/
theorem store_ok2 {M : Model} {A : Around} {E : Value → Shared → Prop} {i : Nat} {x : Str} {v : V} {u : Value} {Q : Unit → Shared → Prop} (I : Inv X pins σ H s) (hN : X.N.Nodup) (hi : X.N[i]? = some x) (hx : Loc X.env.scope x) (r : RelV v u)
    (h : ∀ s', Inv X pins (σ.set i (some v)) H s' → (∃ a, Heap.SameBut a s.heap s'.heap ∧ (a = X.env.locals ∨ X.env.cells.lookup x = some a)) → Q () s') (hf : X.fn x = true ∨ X.env.scope.names.lookup x = some .local := by first | exact .inl rfl | exact .inr rfl | assumption) : wpAny M A (storeName X.env x u) Q E s := by
  obtain ⟨m, hn, hl⟩ := id I.loc
  have hcls : (X.env.scope.kind == .class || (X.env.scope.kind == .module && X.env.locals != X.env.globals)) = false := by rw [I.ok.kind]; rfl
  have hiσ : i < σ.length := by rw [I.len]; exact (List.getElem?_eq_some_iff.mp hi).1
  have cne := I.cne
  have tracked : ∀ {a : Addr} {h' : Heap}, (∃ o, s.heap.get? a = some o ∧ H a = none) → Heap.SameBut a s.heap h' → HOk X.prog X.w H h' := fun {a h'} ha hs b ob e => by
    obtain ⟨_, _, hfree⟩ := ha
    refine (I.hok b ob e).stay (fun c w' hc q => (hs.2 c ?_).trans q) (fun _ q => q) fun _ _ q => q
    rintro rfl
    rcases hc with rfl | hc
    · rw [hfree] at e; cases e
    · rw [hfree] at hc; cases hc
  rcases hx with hk | hk
  · refine wpAny_storeName_local hk hn (fun h' hn' hs => ?_) hcls
    obtain ⟨oL, _, _, hoL, _⟩ := id hn
    refine h _ ⟨I.ok, I.os, I.bare, ⟨fun b o e n hb hx => ?_, fun b o e n hb hx => ?_, I.base.free, fun b o e hx => ?_, I.base.tups, I.base.frzs, I.base.tbls⟩, ⟨_, hn', fun j y v' e1 e2 e3 => ?_⟩, fun y c e => ?_, I.free, I.freeC, fun p hp => ?_, tracked ⟨oL, hoL, I.free⟩ hs, by simpa using I.len⟩ ⟨_, hs, .inl rfl⟩
    · exact (hs.2 b (Nat.ne_of_lt (Nat.lt_of_lt_of_le (Heap.lt_size e) I.ok.above))).trans (I.base.keep b o e n hb hx)
    · obtain ⟨sl, e1⟩ := I.base.slot b o e n hb hx
      exact ⟨sl, (hs.2 b (Nat.ne_of_lt (Nat.lt_of_lt_of_le (Heap.lt_size e) I.ok.above))).trans e1⟩
    · obtain ⟨o', e1⟩ := I.base.there b o e hx
      exact ⟨o', (hs.2 b (Nat.ne_of_lt (Nat.lt_of_lt_of_le (Heap.lt_size e) I.ok.above))).trans e1⟩
    · by_cases hj : j = i
      · subst hj
        rw [hi] at e1; cases e1
        rw [List.getElem?_set_self hiσ] at e2
        cases e2
        exact ⟨u, r, .inl ⟨hk, by simp⟩⟩
      · rw [List.getElem?_set_ne (Ne.symm hj)] at e2
        obtain ⟨u', r', q⟩ := hl j y v' e1 e2 e3
        refine ⟨u', r', ?_⟩
        rcases q with ⟨k, e⟩ | ⟨k, c, e, z⟩
        · refine .inl ⟨k, ?_⟩
          have : y ≠ x := fun e => hj (nodup_ix hN e1 (e ▸ hi))
          simp [this, e]
        · exact .inr ⟨k, c, e, z.sameBut hs (cne y c e)⟩
    · obtain ⟨w', z⟩ := I.cell y c e
      exact ⟨w', z.sameBut hs (cne y c e)⟩
    · obtain ⟨e, n, ne, nf, d⟩ := I.pin p hp
      exact ⟨(hs.2 p.1 ne).trans e, n, ne, nf, d⟩
  · have hfn : X.fn x = true := by
      rcases hf with z | z
      · exact z
      · rw [z] at hk; cases hk
    obtain ⟨c, hc⟩ := I.ok.has x (.inl hk)
    obtain ⟨w', z⟩ := I.cell x c hc
    refine wpAny_storeName_cell I.ok.kind hk hc z (fun h' hc' hs => ?_)
    obtain ⟨oc, hoc, hocd⟩ := id z
    refine h { s with heap := h' } ⟨I.ok, I.os, I.bare, ⟨fun b o e n hb hx => ?_, fun b o e n hb hx => ?_, I.base.free, fun b o e hx => ?_, I.base.tups, I.base.frzs, I.base.tbls⟩, ⟨m, hn.sameBut hs (Ne.symm (cne x c hc)), fun j y v' e1 e2 e3 => ?_⟩, fun y c' e => ?_, I.free, I.freeC, fun p hp => ?_, tracked ⟨oc, hoc, I.freeC x c hc⟩ hs, by simpa using I.len⟩ ⟨c, hs, .inr hc⟩
    · exact (hs.2 b (Nat.ne_of_lt (Nat.lt_of_lt_of_le (Heap.lt_size e) (I.ok.cab x c hfn hc)))).trans (I.base.keep b o e n hb hx)
    · obtain ⟨sl, e1⟩ := I.base.slot b o e n hb hx
      exact ⟨sl, (hs.2 b (Nat.ne_of_lt (Nat.lt_of_lt_of_le (Heap.lt_size e) (I.ok.cab x c hfn hc)))).trans e1⟩
    · obtain ⟨o', e1⟩ := I.base.there b o e hx
      exact ⟨o', (hs.2 b (Nat.ne_of_lt (Nat.lt_of_lt_of_le (Heap.lt_size e) (I.ok.cab x c hfn hc)))).trans e1⟩
    · by_cases hj : j = i
      · subst hj
        rw [hi] at e1; cases e1
        rw [List.getElem?_set_self hiσ] at e2
        cases e2
        exact ⟨u, r, .inr ⟨.inl hk, c, hc, hc'⟩⟩
      · rw [List.getElem?_set_ne (Ne.symm hj)] at e2
        obtain ⟨u', r', q⟩ := hl j y v' e1 e2 e3
        refine ⟨u', r', ?_⟩
        rcases q with q | ⟨k, c', e, z'⟩
        · exact .inl q
        · refine .inr ⟨k, c', e, z'.sameBut hs ?_⟩
          rintro rfl
          exact hj (nodup_ix hN e1 (I.ok.inj _ _ _ e hc ▸ hi))
    · by_cases hcc : c' = c
      · subst hcc; exact ⟨_, hc'⟩
      · obtain ⟨w2, z2⟩ := I.cell y c' e
        exact ⟨w2, z2.sameBut hs hcc⟩
    · obtain ⟨e, n, ne, nf, d⟩ := I.pin p hp
      refine ⟨(hs.2 p.1 ?_).trans e, n, ne, nf, d⟩
      intro q
      rw [q, hoc] at e
      have q' : oc = p.2 := Option.some.inj e
      exact d w' (by rw [← q']; exact hocd)
theorem store_ok {M : Model} {A : Around} {E : Value → Shared → Prop} {i : Nat} {x : Str} {v : V} {u : Value} {Q : Unit → Shared → Prop} (I : Inv X pins σ H s) (hN : X.N.Nodup) (hi : X.N[i]? = some x) (hx : Loc X.env.scope x) (r : RelV v u)
    (h : ∀ s', Inv X pins (σ.set i (some v)) H s' → Q () s') (hf : X.fn x = true ∨ X.env.scope.names.lookup x = some .local := by first | exact .inl rfl | exact .inr rfl | assumption) : wpAny M A (storeName X.env x u) Q E s :=
  store_ok2 I hN hi hx r (fun s' I' _ => h s' I') hf
/-- behind a call or a block, the state as it is -/
theorem Inv.call' {s' : Shared} {ch : List Addr} (I : Inv X pins σ H s) (ho : s'.os = s.os) (u : Un (frs X.stack) ch H H' s.heap s'.heap) (hok : HOk X.prog X.w H' s'.heap) (hg : AllBare s'.gens)
    (hch : ∀ b ∈ ch, (b ∈ X.ex ∨ X.s₀.heap.objs.size ≤ b) ∧ b ≠ X.env.locals ∧ (∀ x c, X.env.cells.lookup x = some c → c ≠ b) ∧ ∀ p ∈ X.pn ++ pins, p.1 ≠ b) : Inv X pins σ H' s' := by
  obtain ⟨h', g', d', t', o'⟩ := s'
  have e : o' = s.os := ho
  subst e
  exact I.call (g' := g') (t' := t') (d' := d') u hok hg hch
end

/-! ### the judgements -/
/-- an exception: its class, its own dict's address (where it has one), the abstract heap behind it -/
abbrev XK := Value → Option Addr → Hp → Prop
abbrev St := List (Option V)
abbrev VK := V → Hp → Prop
/-- an expression's reading; a test's; an argument list's -/
abbrev TE := St → Hp → VK → Prop
abbrev TT := St → Hp → (Bool → Hp → Prop) → Prop
abbrev TA := St → Hp → (List V → Hp → Prop) → Prop
/-- what is wanted behind a statement -/
structure Ends where
  nx : St → Hp → Prop
  rt : VK
  bk : St → Hp → Prop := fun _ _ => False
  ct : St → Hp → Prop := fun _ _ => False
abbrev TS := Ends → St → Hp → Prop

def EP (X : Cx) (pins : List (Addr × Obj)) (σ : St) (Q : VK) (u : Value) (s' : Shared) : Prop := ∃ v H', Inv X pins σ H' s' ∧ RelV v u ∧ Q v H'
def TP (X : Cx) (pins : List (Addr × Obj)) (σ : St) (Q : Bool → Hp → Prop) (b : Bool) (s' : Shared) : Prop := ∃ H', Inv X pins σ H' s' ∧ Q b H'
def AP (X : Cx) (pins : List (Addr × Obj)) (σ : St) (Q : List V → Hp → Prop) (us : List Value) (s' : Shared) : Prop := ∃ vs H', Inv X pins σ H' s' ∧ Vals vs us ∧ Q vs H'
def SP (X : Cx) (pins : List (Addr × Obj)) (D : Ends) (f : Flow) (s' : Shared) : Prop :=
  match f with
  | .next => ∃ σ' H', Inv X pins σ' H' s' ∧ D.nx σ' H'
  | .brk => ∃ σ' H', Inv X pins σ' H' s' ∧ D.bk σ' H'
  | .cont => ∃ σ' H', Inv X pins σ' H' s' ∧ D.ct σ' H'
  | .ret u => ∃ v σ' H', Inv X pins σ' H' s' ∧ RelV v u ∧ D.rt v H'

def PE (X : Cx) (e : Expr) (t : TE) : Prop :=
  ∀ (pins : List (Addr × Obj)) (s : Shared) (σ : St) (H : Hp) (Q : VK), Inv X pins σ H s → t σ H Q → wpAny (model X.prog X.w) X.A (eval e X.env) (EP X pins σ Q) X.xe s
def PT (X : Cx) (e : Expr) (t : TT) : Prop :=
  ∀ (pins : List (Addr × Obj)) (s : Shared) (σ : St) (H : Hp) (Q : Bool → Hp → Prop), Inv X pins σ H s → t σ H Q → wpAny (model X.prog X.w) X.A (isTrue e X.env (eval e X.env)) (TP X pins σ Q) X.xe s
/-- a test whatever its 'whole' is (and, or) -/
def PW (X : Cx) (e : Expr) (t : TT) : Prop :=
  ∀ (whole : Sem Value) (pins : List (Addr × Obj)) (s : Shared) (σ : St) (H : Hp) (Q : Bool → Hp → Prop), Inv X pins σ H s → t σ H Q → wpAny (model X.prog X.w) X.A (isTrue e X.env whole) (TP X pins σ Q) X.xe s
theorem PW.pt {X : Cx} {e : Expr} {t : TT} (h : PW X e t) : PT X e t := h _
/-- an argument list (no star), from the left -/
def PA (X : Cx) (es : List Expr) (t : TA) : Prop :=
  ∀ (pos : Pos) (pins : List (Addr × Obj)) (s : Shared) (σ : St) (H : Hp) (Q : List V → Hp → Prop), Inv X pins σ H s → t σ H Q → wpAny (model X.prog X.w) X.A (spliced (backTo pos (starEach es X.env))) (AP X pins σ Q) X.xe s
def PS (X : Cx) (st : Stmt) (t : TS) : Prop :=
  ∀ (pins : List (Addr × Obj)) (s : Shared) (σ : St) (H : Hp) (D : Ends), Inv X pins σ H s → t D σ H → wpAny (model X.prog X.w) X.A (exec st X.env) (SP X pins D) X.xe s
def PSs (X : Cx) (st : List Stmt) (t : TS) : Prop :=
  ∀ (pins : List (Addr × Obj)) (s : Shared) (σ : St) (H : Hp) (D : Ends), Inv X pins σ H s → t D σ H → wpAny (model X.prog X.w) X.A (execs st X.env) (SP X pins D) X.xe s
/-- weaken the end -/
theorem thn {α : Type} {t : Sem α} {Q Q' : α → Shared → Prop} {M : Model} {A : Around} {E : Value → Shared → Prop} {s : Shared} (h : wpAny M A t Q E s) (hQ : ∀ a s, Q a s → Q' a s) : wpAny M A t Q' E s := wpAny_mono h hQ fun _ _ x => x
end L2

namespace L2
open PySem PySem.Spec PyProof.Rows
section
variable {X : Cx}

/-! ### names and constants -/
def tVar (i : Nat) : TE := fun σ H Q => ∃ v, σ[i]? = some (some v) ∧ Q v H
def tC (v : V) : TE := fun _ H Q => Q v H
theorem pe_var {i : Nat} {x : Str} {pos : Pos} (hN : X.N[i]? = some x) (hv : Vis X.env.scope x) (hd : (x == ("__debug__" : Str)) = false := by decide) (hcd : (x == ("__classdict__" : Str)) = false := by decide) : PE X (.Name x pos) (tVar i) := by
  intro pins s σ H Q I h
  obtain ⟨v, e, h⟩ := h
  obtain ⟨m, hn, hl⟩ := I.loc
  obtain ⟨u, r, l⟩ := hl i x v hN e hv
  have fin : EP X pins σ Q u s := ⟨v, H, I, r, h⟩
  rcases l with ⟨hk, hm⟩ | ⟨hk, c, hc, hcell⟩
  · exact wpAny_Name (wpAny_loadName_local I.ok.kind hk hn hm fin) hd
  · rcases hk with hk | hk
    · exact wpAny_Name (wpAny_loadName_cell I.ok.kind hk hc hcell fin) hd
    · exact wpAny_Name (wpAny_loadName_free I.ok.kind hk hc hcell fin hcd) hd
theorem pe_int {i j pos} : PE X (.Constant (.int i) j pos) (tC (.int i)) := fun _ _ _ H _ I h => wpAny_Constant_int ⟨.int i, H, I.tok _, ⟨_, rfl⟩, h⟩
theorem pe_bl {b j pos} : PE X (.Constant (.bool b) j pos) (tC (.bl b)) := fun _ _ _ H _ I h => Constant_bool ⟨.bl b, H, I, rfl, h⟩
theorem pe_str {x j pos} : PE X (.Constant (.str x) j pos) (tC (.str x)) := fun _ _ _ H _ I h => Calls.Constant_str ⟨.str x, H, I.tok _, ⟨_, rfl⟩, h⟩

/-- a global name of the def -/
def Gl (X : Cx) (x : Str) : Prop := X.env.kindOf x = some .globalImplicit
theorem ld_glob {E : Value → Shared → Prop} {pins : List (Addr × Obj)} {s : Shared} {σ : St} {H : Hp} {x : Str} {u : Value} {pos : Pos} {Q : Value → Shared → Prop} (I : Inv X pins σ H s) (hg : Gl X x) (hm : X.mg x = some u) (h : Q u s)
    (hd : (x == ("__debug__" : Str)) = false := by decide) : wpAny (model X.prog X.w) X.A (eval (.Name x pos) X.env) Q E s :=
  Calls.Name_function_global I.ok.kind hg (Calls.loadGlobal_global (by rw [I.ok.glob]; exact I.mod.glob.keeps I.bk) hm h) hd
theorem ld_blt {E : Value → Shared → Prop} {pins : List (Addr × Obj)} {s : Shared} {σ : St} {H : Hp} {x : Str} {u : Value} {pos : Pos} {Q : Value → Shared → Prop} (I : Inv X pins σ H s) (hg : Gl X x) (hm : X.mg x = none) (hv : bootBuiltins x = some u) (h : Q u s)
    (hn : x ≠ "__name__" := by decide) (hd : (x == ("__debug__" : Str)) = false := by decide) : wpAny (model X.prog X.w) X.A (eval (.Name x pos) X.env) Q E s := by
  obtain ⟨mb, h1, h2⟩ := I.mod.blt
  exact Calls.Name_function_global I.ok.kind hg (Calls.loadGlobal_builtin (by rw [I.ok.glob]; exact I.mod.glob.keeps I.bk) hm (by rw [I.ok.blt]; exact h1.keeps I.bk) ((h2 x hn).trans hv) h) hd
/-- a module's constant, a class, a function, as a value -/
theorem pe_glob {x : Str} {v : V} {u : Value} {pos : Pos} (hg : Gl X x) (hm : X.mg x = some u) (r : RelV v u) (hd : (x == ("__debug__" : Str)) = false := by decide) : PE X (.Name x pos) (tC v) :=
  fun _ _ _ H _ I h => ld_glob I hg hm ⟨v, H, I, r, h⟩ hd
theorem pe_bltn {x : Str} {v : V} {u : Value} {pos : Pos} (hg : Gl X x) (hm : X.mg x = none) (hv : bootBuiltins x = some u) (r : RelV v u) (hn : x ≠ "__name__" := by decide) (hd : (x == ("__debug__" : Str)) = false := by decide) : PE X (.Name x pos) (tC v) :=
  fun _ _ _ H _ I h => ld_blt I hg hm hv ⟨v, H, I, r, h⟩ hn hd

/-! ### arithmetic -/
/-- two ints -/
def t2I (ta tb : TE) (k : Int → Int → Hp → Prop) : St → Hp → Prop := fun σ H => ta σ H fun x H1 => tb σ H1 fun y H2 => ∃ i j, x = .int i ∧ y = .int j ∧ k i j H2
def tAdd (ta tb : TE) : TE := fun σ H Q => t2I ta tb (fun i j H2 => Q (.int (i + j)) H2) σ H
def tSub (ta tb : TE) : TE := fun σ H Q => t2I ta tb (fun i j H2 => Q (.int (i - j)) H2) σ H
/-- the left factor below 2^64 -/
def tMul (ta tb : TE) : TE := fun σ H Q => t2I ta tb (fun i j H2 => (-(2 ^ 64) < i ∧ i < 2 ^ 64) ∧ Q (.int (i * j)) H2) σ H
variable {a b : Expr} {ta tb : TE} {pos : Pos}
/-! ### comparisons -/
def PC (X : Cx) (op : CmpOp) (a b : Expr) (t : TE) : Prop :=
  ∀ (pins : List (Addr × Obj)) (s : Shared) (σ : St) (H : Hp) (Q : VK), Inv X pins σ H s → t σ H Q →
    wpAny (model X.prog X.w) X.A (eval a X.env) (fun v s₁ => wpAny (model X.prog X.w) X.A (eval b X.env) (fun u s₂ => wpAny (model X.prog X.w) X.A (compareOp op v u) (EP X pins σ Q) X.xe s₂) X.xe s₁) X.xe s
def tCmp (p : Int → Int → Bool) (ta tb : TE) : TE := fun σ H Q => t2I ta tb (fun i j H2 => Q (.bl (p i j)) H2) σ H
abbrev tLt : TE → TE → TE := tCmp fun i j => decide (i < j)
abbrev tLe : TE → TE → TE := tCmp fun i j => decide (i ≤ j)
abbrev tGt : TE → TE → TE := tCmp fun i j => decide (j < i)
abbrev tGe : TE → TE → TE := tCmp fun i j => decide (j ≤ i)
abbrev tEqI : TE → TE → TE := tCmp fun i j => decide (i = j)
abbrev tNeI : TE → TE → TE := tCmp fun i j => !decide (i = j)
/-- is None -/
def tIsN (ta : TE) : TE := fun σ H Q => ta σ H fun x H1 => Q (.bl (decide (x = .non))) H1
def tNotN (ta : TE) : TE := fun σ H Q => ta σ H fun x H1 => Q (.bl (!decide (x = .non))) H1
/-- a comparison as a value, as a test -/
def tB (t : TE) : TT := fun σ H Q => t σ H fun x H1 => ∃ c, x = .bl c ∧ Q c H1
/-- an expression whose value is a bool, as a test -/
theorem pt_val {e : Expr} {t : TE} (h : PE X e t) (he : ∀ whole, isTrue e X.env whole = (do let v ← whole; standAt e.pos; holding [v] (truthy v)) := by intro _; rfl) : PT X e (tB t) := by
  intro pins s σ H Q I hw
  refine isTrue_plain (thn (h pins s σ H _ I hw) fun v s1 ⟨x, H1, I1, r1, q1⟩ => ?_) (he _)
  obtain ⟨d, rfl, q⟩ := q1
  cases r1
  exact wpAny_truthy_bool ⟨H1, I1, q⟩

/-! ### and, or, not -/
variable {tA tB' : TT} {rest : List Expr}
def tAnd (t u : TT) : TT := fun σ H Q => t σ H fun c H1 => if c = true then u σ H1 Q else Q false H1
def tOr (t u : TT) : TT := fun σ H Q => t σ H fun c H1 => if c = true then Q true H1 else u σ H1 Q
def tNot (t : TT) : TT := fun σ H Q => t σ H fun c H1 => Q (!c) H1
theorem pw_and1 (ha : PT X a tA) : PW X (.BoolOp .And [a] pos) tA := by
  intro wh pins s σ H Q I h
  refine isTrue_and (thn (ha pins s σ H Q I h) fun c s1 e => ?_)
  cases c with
  | true => exact isTrue_and_nil e
  | false => exact e
theorem pw_or1 (ha : PT X a tA) : PW X (.BoolOp .Or [a] pos) tA := by
  intro wh pins s σ H Q I h
  refine isTrue_or (thn (ha pins s σ H Q I h) fun c s1 e => ?_)
  cases c with
  | false => exact isTrue_or_nil e
  | true => exact e
theorem pw_and (ha : PT X a tA) (hb : PW X (.BoolOp .And (b :: rest) pos) tB') : PW X (.BoolOp .And (a :: b :: rest) pos) (tAnd tA tB') := by
  intro wh pins s σ H Q I h
  refine isTrue_and (thn (ha pins s σ H _ I h) fun c s1 ⟨H1, I1, q1⟩ => ?_)
  cases c with
  | true => exact hb wh pins s1 σ H1 Q I1 q1
  | false => exact ⟨H1, I1, q1⟩
theorem pw_or (ha : PT X a tA) (hb : PW X (.BoolOp .Or (b :: rest) pos) tB') : PW X (.BoolOp .Or (a :: b :: rest) pos) (tOr tA tB') := by
  intro wh pins s σ H Q I h
  refine isTrue_or (thn (ha pins s σ H _ I h) fun c s1 ⟨H1, I1, q1⟩ => ?_)
  cases c with
  | true => exact ⟨H1, I1, q1⟩
  | false => exact hb wh pins s1 σ H1 Q I1 q1
theorem pt_not (ha : PT X a tA) : PT X (.UnaryOp .Not a pos) (tNot tA) := by
  intro pins s σ H Q I h
  exact isTrue_not (ha pins s σ H (fun c H1 => Q (!c) H1) I h)
/-- .. as values (bools) -/
def tAndV (ta tb : TE) : TE := fun σ H Q => ta σ H fun x H1 => ∃ c, x = .bl c ∧ if c = true then tb σ H1 Q else Q (.bl false) H1
def tOrV (ta tb : TE) : TE := fun σ H Q => ta σ H fun x H1 => ∃ c, x = .bl c ∧ if c = true then Q (.bl true) H1 else tb σ H1 Q
def tNotV (ta : TE) : TE := fun σ H Q => ta σ H fun x H1 => ∃ c, x = .bl c ∧ Q (.bl (!c)) H1
theorem pe_one {op} {t : TE} (h : PE X a t) : PE X (.BoolOp op [a] pos) t := fun pins s σ H Q I hw => BoolOp_one (h pins s σ H Q I hw)
theorem pe_and (ha : PE X a ta) (hb : PE X (.BoolOp .And (b :: rest) pos) tb) : PE X (.BoolOp .And (a :: b :: rest) pos) (tAndV ta tb) := by
  intro pins s σ H Q I h
  refine BoolOp_and (thn (ha pins s σ H _ I h) fun v s1 ⟨x, H1, I1, r1, q1⟩ => ?_)
  obtain ⟨c, rfl, q1⟩ := q1
  cases r1
  refine wpAny_truthy_bool ?_
  cases c with
  | true => exact hb pins s1 σ H1 Q I1 q1
  | false => exact ⟨.bl false, H1, I1, rfl, q1⟩
theorem pe_not (ha : PE X a ta) : PE X (.UnaryOp .Not a pos) (tNotV ta) := by
  intro pins s σ H Q I h
  refine UnaryOp_ (thn (ha pins s σ H _ I h) fun v s1 ⟨x, H1, I1, r1, q1⟩ => ?_)
  obtain ⟨c, rfl, q1⟩ := q1
  cases r1
  exact not_of (wpAny_truthy_bool ⟨.bl (!c), H1, I1, rfl, q1⟩)
/-- a if t else b -/
def tIf (t : TT) (ta tb : TE) : TE := fun σ H Q => t σ H fun c H1 => if c = true then ta σ H1 Q else tb σ H1 Q
theorem pe_ifExp {c : Expr} (hc : PT X c tA) (ha : PE X a ta) (hb : PE X b tb) : PE X (.IfExp c a b pos) (tIf tA ta tb) := by
  intro pins s σ H Q I h
  refine wpAny_IfExp (thn (hc pins s σ H _ I h) fun d s1 ⟨H1, I1, q1⟩ => ?_)
  cases d with
  | true => exact ha pins s1 σ H1 Q I1 q1
  | false => exact hb pins s1 σ H1 Q I1 q1
end
end L2

namespace L2
open PySem PySem.Spec PyProof.Rows

/-! ### a list, a tuple that is read: tracked, frozen, or an object of the module -/
def SqL (K : PySem.W.Frag) (H : Hp) (a : Addr) (xs : List V) : Prop :=
  Rd H a (.lst xs) ∨
    ∃ (o : Obj) (its : Array Value) (n : Nat), K.lookup a = some o ∧ o.cls = .type "list" ∧ o.dict = none ∧ o.data = .seq its n ∧ its.size ≤ sizeLine ∧ Vals xs its.toList
def SqT (K : PySem.W.Frag) (H : Hp) (a : Addr) (xs : List V) : Prop :=
  Rd H a (.tup xs) ∨
    ∃ (o : Obj) (its : Array Value) (n : Nat), K.lookup a = some o ∧ o.cls = .type "tuple" ∧ o.data = .seq its n ∧ its.size ≤ sizeLine ∧ Vals xs its.toList
def absV : Value → Option V
  | .none => some .non
  | .bool b => some (.bl b)
  | .int i _ => some (.int i)
  | .str x _ => some (.str x)
  | .bytes b _ => some (.byt b)
  | .float b _ => some (.flt b)
  | .ref a => some (.ref a)
  | .type n => some (.ty n)
  | _ => none
theorem RelV.abs {x : V} {u : Value} (r : RelV x u) : absV u = some x := by
  cases x with
  | non => cases r; rfl
  | bl _ => cases r; rfl
  | int _ => obtain ⟨t, rfl⟩ := r; rfl
  | str _ => obtain ⟨t, rfl⟩ := r; rfl
  | byt _ => obtain ⟨t, rfl⟩ := r; rfl
  | flt _ => obtain ⟨t, rfl⟩ := r; rfl
  | ref _ => cases r; rfl
  | ty _ => cases r; rfl
theorem RelV.inj {x y : V} {u : Value} (r : RelV x u) (q : RelV y u) : x = y := Option.some.inj (r.abs.symm.trans q.abs)
theorem Vals.inj : ∀ {xs ys : List V} {us : List Value}, Vals xs us → Vals ys us → xs = ys
  | _, _, _, .nil, .nil => rfl
  | _, _, _, .cons r t, .cons r' t' => by rw [r.inj r', Vals.inj t t']
section
variable {X : Cx} {pins : List (Addr × Obj)} {σ : St} {H : Hp} {s : Shared} {a : Addr} {xs ys : List V}
theorem SqL.of {K : PySem.W.Frag} (h : H a = some (.lst xs)) : SqL K H a xs := .inl (.inl h)
theorem SqT.of {K : PySem.W.Frag} (h : H a = some (.tup xs)) : SqT K H a xs := .inl (.inl h)
theorem Inv.list (I : Inv X pins σ H s) (h : SqL X.K H a xs) : ∃ its : List Value, Vals xs its ∧ PlainL s.heap a its.toArray ∧ xs.length ≤ sizeLine := by
  rcases h with h | ⟨o, its, n, hk, hc, hd, hs, hz, r⟩
  · obtain ⟨z, its, n, r, e⟩ := h.ok I.hok
    exact ⟨its, r, ⟨_, n, e, rfl, rfl, rfl⟩, z⟩
  · refine ⟨its.toList, r, ⟨o, n, I.kIn a o hk, hc, hd, by simpa using hs⟩, ?_⟩
    have e := r.length
    simp only [Array.length_toList] at e
    omega
theorem Inv.tuple (I : Inv X pins σ H s) (h : SqT X.K H a xs) : ∃ its : List Value, Vals xs its ∧ IsTup s.heap a its.toArray ∧ xs.length ≤ sizeLine := by
  rcases h with h | ⟨o, its, n, hk, hc, hs, hz, r⟩
  · obtain ⟨z, its, r, p⟩ := h.ok I.hok
    exact ⟨its, r, p, z⟩
  · refine ⟨its.toList, r, ⟨o, I.kIn a o hk, hc, n, by simpa using hs⟩, ?_⟩
    have e := r.length
    simp only [Array.length_toList] at e
    omega
theorem Inv.list_inj (I : Inv X pins σ H s) (h : SqL X.K H a xs) (h' : SqL X.K H a ys) : xs = ys := by
  obtain ⟨its, r, ⟨o, n, e, _, _, d⟩, _⟩ := I.list h
  obtain ⟨its', r', ⟨o', n', e', _, _, d'⟩, _⟩ := I.list h'
  rw [e] at e'; cases e'
  rw [d] at d'
  injection d' with d1 _
  have : its = its' := by simpa using congrArg Array.toList d1
  subst this
  exact r.inj r'
theorem Inv.tuple_inj (I : Inv X pins σ H s) (h : SqT X.K H a xs) (h' : SqT X.K H a ys) : xs = ys := by
  obtain ⟨its, r, ⟨o, e, _, n, d⟩, _⟩ := I.tuple h
  obtain ⟨its', r', ⟨o', e', _, n', d'⟩, _⟩ := I.tuple h'
  rw [e] at e'; cases e'
  rw [d] at d'
  injection d' with d1 _
  have : its = its' := by simpa using congrArg Array.toList d1
  subst this
  exact r.inj r'
end

/-! ### another wish about exceptions -/
abbrev Cx.wish (X : Cx) (E : Value → Shared → Prop) : Cx := { X with xe := E }
/-- no exception leaves -/
abbrev Cx.nox (X : Cx) : Cx := X.wish fun _ _ => False
theorem Cx.Ok.wish {X : Cx} (ok : X.Ok) (E : Value → Shared → Prop) : (X.wish E).Ok :=
  ⟨ok.mod, ok.kind, ok.glob, ok.blt, ok.above, ok.inj, ok.has, ok.cab, ok.hd, ok.frames, ok.stk, ok.exf, ok.bs, ok.bsz, ok.noex, ok.exfs, ok.funs, ok.frf⟩
theorem Cx.Ok.unwish {X : Cx} {E : Value → Shared → Prop} (ok : (X.wish E).Ok) : X.Ok :=
  ⟨ok.mod, ok.kind, ok.glob, ok.blt, ok.above, ok.inj, ok.has, ok.cab, ok.hd, ok.frames, ok.stk, ok.exf, ok.bs, ok.bsz, ok.noex, ok.exfs, ok.funs, ok.frf⟩
section
variable {X : Cx} {pins : List (Addr × Obj)} {σ : St} {H : Hp} {s : Shared} {E : Value → Shared → Prop}
theorem Inv.wish (I : Inv X pins σ H s) (E : Value → Shared → Prop) : Inv (X.wish E) pins σ H s := ⟨I.ok.wish E, I.os, I.bare, I.base, I.loc, I.cell, I.free, I.freeC, I.pin, I.hok, I.len⟩
theorem Inv.unwish (I : Inv (X.wish E) pins σ H s) : Inv X pins σ H s := ⟨I.ok.unwish, I.os, I.bare, I.base, I.loc, I.cell, I.free, I.freeC, I.pin, I.hok, I.len⟩
theorem SP.unwish {D : Ends} {f : Flow} {s' : Shared} (h : SP (X.wish E) pins D f s') : SP X pins D f s' := by
  cases f with
  | next => obtain ⟨σ', H', I, q⟩ := h; exact ⟨σ', H', I.unwish, q⟩
  | brk => obtain ⟨σ', H', I, q⟩ := h; exact ⟨σ', H', I.unwish, q⟩
  | cont => obtain ⟨σ', H', I, q⟩ := h; exact ⟨σ', H', I.unwish, q⟩
  | ret u => obtain ⟨v, σ', H', I, r, q⟩ := h; exact ⟨v, σ', H', I.unwish, r, q⟩
theorem PSs.nox {st : List Stmt} {t : TS} (h : PSs X.nox st t) : PSs X st t := fun pins s σ H D I hw =>
  wpAny_mono (h pins s σ H D (I.wish _) hw) (fun _ _ q => q.unwish) fun _ _ z => False.elim z
end

/-! ### blocks and small statements -/
section
variable {X : Cx} {st : Stmt} {rest : List Stmt} {t u : TS} {e : Expr} {te : TE} {pos : Pos}
def tNext : TS := fun D σ H => D.nx σ H
def tSeq (t u : TS) : TS := fun D σ H => t { D with nx := u D } σ H
theorem pss_nil : PSs X [] tNext := fun _ _ σ H _ I h => wpAny_execs_nil ⟨σ, H, I, h⟩
theorem pss_cons (h1 : PS X st t) (h2 : PSs X rest u) : PSs X (st :: rest) (tSeq t u) := by
  intro pins s σ H D I h
  refine wpAny_execs_cons (thn (h1 pins s σ H { D with nx := u D } I h) fun f s1 q => ?_)
  cases f with
  | next =>
    obtain ⟨σ', H', I', q⟩ := q
    exact h2 pins s1 σ' H' D I' q
  | ret v => exact q
  | brk => exact q
  | cont => exact q
theorem pss_one (h1 : PS X st t) : PSs X [st] t := by
  intro pins s σ H D I h
  refine wpAny_execs_cons (thn (h1 pins s σ H D I h) fun f s1 q => ?_)
  cases f with
  | next => exact wpAny_execs_nil q
  | ret v => exact q
  | brk => exact q
  | cont => exact q
def tBreak : TS := fun D σ H => D.bk σ H
def tCont : TS := fun D σ H => D.ct σ H
/-- in a def's body nothing is shown -/
theorem Inv.quiet {pins : List (Addr × Obj)} {σ : St} {H : Hp} {s : Shared} (I : Inv X pins σ H s) : interactive X.env = false := by simp [interactive, I.ok.kind]
/-- an expression whose value is dropped -/
def tDrop (te : TE) : TS := fun D σ H => te σ H fun _ H1 => D.nx σ H1
theorem ps_expr (he : PE X e te) (hs : swapsWith e none pos.line X.env = pure false := by rfl) : PS X (.Expr e pos) (tDrop te) := by
  intro pins s σ H D I h
  exact wpAny_Expr_any (thn (he pins s σ H _ I h) fun v s1 ⟨x, H1, I1, r1, q1⟩ => ⟨σ, H1, I1, q1⟩) I.quiet hs
def tRet (te : TE) : TS := fun D σ H => te σ H D.rt
theorem ps_ret (he : PE X e te) : PS X (.Return (some e) pos) (tRet te) := by
  intro pins s σ H D I h
  exact wpAny_Return_some (thn (he pins s σ H _ I h) fun v s1 ⟨x, H1, I1, r1, q1⟩ => ⟨x, σ, H1, I1, r1, q1⟩)
def tRetN : TS := fun D _ H => D.rt .non H
def tIfS (c : TT) (t u : TS) : TS := fun D σ H => c σ H fun b H1 => if b = true then t D σ H1 else u D σ H1
theorem ps_if {c : Expr} {a b : List Stmt} {tc : TT} (hc : PT X c tc) (ha : PSs X a t) (hb : PSs X b u) : PS X (.If c a b pos) (tIfS tc t u) := by
  intro pins s σ H D I h
  refine wpAny_If (thn (hc pins s σ H _ I h) fun d s1 ⟨H1, I1, q1⟩ => ?_)
  cases d with
  | true => exact ha pins s1 σ H1 D I1 q1
  | false => exact hb pins s1 σ H1 D I1 q1
/-- code that the proof never comes to -/
def tNever : TS := fun _ _ _ => False
end

/-! ### targets -/
abbrev TG := V → St → Hp → (St → Hp → Prop) → Prop
abbrev TGs := List V → St → Hp → (St → Hp → Prop) → Prop
def PG (X : Cx) (target : Expr) (t : TG) : Prop :=
  ∀ (pins : List (Addr × Obj)) (s : Shared) (σ : St) (H : Hp) (v : V) (u : Value) (Q : St → Hp → Prop), Inv X pins σ H s → RelV v u → t v σ H Q →
    wpAny (model X.prog X.w) X.A (assign target X.env u) (fun _ s' => ∃ σ' H', Inv X pins σ' H' s' ∧ Q σ' H') X.xe s
/-- several targets, one after another -/
def PGs (X : Cx) (ts : List Expr) (t : TGs) : Prop :=
  ∀ (pins : List (Addr × Obj)) (s : Shared) (σ : St) (H : Hp) (vs : List V) (us : List Value) (Q : St → Hp → Prop), Inv X pins σ H s → Vals vs us → t vs σ H Q →
    wpAny (model X.prog X.w) X.A (assignInOrder ((assignEach ts X.env).map (·.2)) us) (fun _ s' => ∃ σ' H', Inv X pins σ' H' s' ∧ Q σ' H') X.xe s
/-- o[i] = v, by values -/
abbrev TSet := V → V → V → Hp → (Hp → Prop) → Prop
def PSet (X : Cx) (t : TSet) : Prop :=
  ∀ (pins : List (Addr × Obj)) (s : Shared) (σ : St) (H : Hp) (o i v : V) (ov iv u : Value) (Q : Hp → Prop), Inv X pins σ H s → RelV o ov → RelV i iv → RelV v u → t o i v H Q →
    wpAny (model X.prog X.w) X.A (setItem ov iv u) (fun _ s' => ∃ H', Inv X pins σ H' s' ∧ Q H') X.xe s
/-- a op= b, by values -/
abbrev TIp := V → V → Hp → VK → Prop
def PIp (X : Cx) (op : Operator) (t : TIp) : Prop :=
  ∀ (pins : List (Addr × Obj)) (s : Shared) (σ : St) (H : Hp) (x y : V) (v u : Value) (Q : VK), Inv X pins σ H s → RelV x v → RelV y u → t x y H Q →
    wpAny (model X.prog X.w) X.A (inplaceOp op v u) (EP X pins σ Q) X.xe s
section
variable {X : Cx} {pos : Pos}
def gName (i : Nat) : TG := fun v σ H Q => Q (σ.set i (some v)) H
theorem pg_name {i : Nat} {x : Str} (hN : X.N.Nodup) (hi : X.N[i]? = some x) (hx : Loc X.env.scope x) (hf : X.fn x = true ∨ X.env.scope.names.lookup x = some .local := by first | exact .inl rfl | exact .inr rfl | assumption) : PG X (.Name x pos) (gName i) := by
  intro pins s σ H v u Q I r h
  exact wpAny_assign_Name (store_ok I hN hi hx r (fun s' I' => ⟨_, H, I', h⟩) hf)
def gNil : TGs := fun vs σ H Q => vs = [] ∧ Q σ H
def gCons (t : TG) (u : TGs) : TGs := fun vs σ H Q => ∃ v r, vs = v :: r ∧ t v σ H fun σ' H' => u r σ' H' Q
theorem pgs_nil : PGs X [] gNil := by
  intro pins s σ H vs us Q I r h
  obtain ⟨e, h⟩ := h
  subst e
  cases r
  exact assignInOrder_nil ⟨σ, H, I, h⟩
theorem pgs_cons {e : Expr} {es : List Expr} {t : TG} {u : TGs} (h1 : PG X e t) (h2 : PGs X es u)
    (hs : (assignEach (e :: es) X.env).map (·.2) = assign e X.env :: (assignEach es X.env).map (·.2) := by rfl) : PGs X (e :: es) (gCons t u) := by
  intro pins s σ H vs us Q I r h
  obtain ⟨v, vr, e1, h⟩ := h
  subst e1
  cases r with
  | cons r rr =>
    rw [hs]
    refine assignInOrder_cons (thn (h1 pins s σ H _ _ _ I r h) fun _ s1 ⟨σ1, H1, I1, q1⟩ => ?_)
    exact h2 pins s1 σ1 H1 _ _ Q I1 rr q1
/-- (a, b, ..) = a tuple of that length -/
def gTup (K : PySem.W.Frag) (n : Nat) (t : TGs) : TG := fun v σ H Q => ∃ a xs, v = .ref a ∧ SqT K H a xs ∧ xs.length = n ∧ t xs σ H Q
theorem pg_tup {es : List Expr} {k : Nat} {t : TGs} {n : Nat} (hc : X.calm = true) (h : PGs X es t)
    (hn : (assignEach es X.env).length = n := by rfl) (hst : (assignEach es X.env).findIdx? (·.1) = none := by rfl) : PG X (.Tuple es k pos) (gTup X.K n t) := by
  intro pins s σ H v u Q I r hw
  obtain ⟨a, xs, e1, hq, hl, hw⟩ := hw
  subst e1
  cases r
  obtain ⟨its, rv, ht, hz⟩ := I.tuple hq
  refine assign_Tuple_tuple (I.ok.hd hc) ht (by simp [hn, ← hl, rv.length]) hst fun h' hx => ?_
  have I1 : Inv X pins σ H { s with heap := h' } := I.kept (t' := s.toks) fun b o e => hx b o (Nat.ne_of_lt (Heap.lt_size e)) e
  exact h pins _ σ H xs _ Q I1 (by simpa using rv) hw
/-- o[i] = .. -/
def gSub (to ti : TE) (t : TSet) : TG := fun v σ H Q => to σ H fun o H1 => ti σ H1 fun i H2 => t o i v H2 fun H3 => Q σ H3
/-- target = value -/
def tAsg (te : TE) (g : TG) : TS := fun D σ H => te σ H fun x H1 => g x σ H1 D.nx
theorem ps_asg {tg e : Expr} {te : TE} {g : TG} (he : PE X e te) (hg : PG X tg g) (hs : swapsWithSole [tg] e pos.line X.env = pure false := by rfl) (hw : swappedStores [tg] e X.env = pure none := by rfl)
    (h1 : (assignEach [tg] X.env).map (·.2) = [assign tg X.env] := by rfl) : PS X (.Assign [tg] e pos) (tAsg te g) := by
  intro pins s σ H D I h
  refine wpAny_Assign_stores (thn (he pins s σ H _ I h) fun v s1 ⟨x, H1, I1, r1, q1⟩ => ?_) hs hw
  rw [h1]
  exact thn (hg pins s1 σ H1 x v _ I1 r1 q1) fun _ s2 q => q
/-- name = value -/
theorem ps_set {i : Nat} {x : Str} {e : Expr} {te : TE} {pos' : Pos} (hN : X.N.Nodup) (hi : X.N[i]? = some x) (hx : Loc X.env.scope x) (he : PE X e te) (hs : swapsWith e (some (.Name x pos')) pos.line X.env = pure false := by rfl) (hf : X.fn x = true ∨ X.env.scope.names.lookup x = some .local := by first | exact .inl rfl | exact .inr rfl | assumption) :
    PS X (.Assign [.Name x pos'] e pos) (tAsg te (gName i)) := by
  intro pins s σ H D I h
  refine wpAny_Assign_Name (thn (he pins s σ H _ I h) fun v s1 ⟨y, H1, I1, r1, q1⟩ => ?_) hs
  exact store_ok I1 hN hi hx r1 (fun s2 I2 => ⟨_, H1, I2, q1⟩) hf
/-- a, b = x, y with plain local names: stored from the right; the pair itself is not tracked (the opening rows as in PyProof/Rows/TupAssign.lean:23) -/
def tPar (i j : Nat) (ta : TA) : TS := fun D σ H => ta σ H fun vs H1 => ∃ v w, vs = [v, w] ∧ D.nx ((σ.set i (some v)).set j (some w)) H1
theorem ps_par {i j : Nat} {x y : Str} {a b : Expr} {ta : TA} {px py pt : Pos} {kt k2 pt2} (hc : X.calm = true) (hN : X.N.Nodup) (hi : X.N[i]? = some x) (hj : X.N[j]? = some y) (hij : i ≠ j)
    (hx : X.env.scope.names.lookup x = some .local) (hy : X.env.scope.names.lookup y = some .local) (ha : PA X [a, b] ta)
    (hw : swappedStores [.Tuple [.Name x px, .Name y py] kt pt] (.Tuple [a, b] k2 pt2) X.env = pure (some [x, y]))
    (hs : swapsWithSole [.Tuple [.Name x px, .Name y py] kt pt] (.Tuple [a, b] k2 pt2) pos.line X.env = pure false := by rfl) :
    PS X (.Assign [.Tuple [.Name x px, .Name y py] kt pt] (.Tuple [a, b] k2 pt2) pos) (tPar i j ta) := by
  intro pins s σ H D I h
  rw [exec_Assign_arm]
  refine wpAny_bind (wpAny_standAt ?_)
  rw [hs]
  refine wpAny_bind (wpAny_pure ?_)
  rw [if_neg (by decide)]
  refine wpAny_bind (Tuple_ (thn (ha _ pins s σ H _ I h) fun us s1 ⟨vs, H1, I1, r1, q1⟩ => ?_))
  obtain ⟨v, w, e1, q1⟩ := q1
  subst e1
  obtain ⟨u1, u2, rfl, rv, rw'⟩ : ∃ u1 u2, us = [u1, u2] ∧ RelV v u1 ∧ RelV w u2 := by
    cases r1 with
    | cons p q =>
      cases q with
      | cons p' q' =>
        cases q'
        exact ⟨_, _, rfl, p, p'⟩
  refine wpAny_newObj_type ?_ (by show 2 ≤ sizeLine; decide)
  have I2 : Inv X pins σ H1 { s1 with heap := s1.heap.push { cls := .type "tuple", data := .seq [u1, u2].toArray } } := I1.kept (t' := s1.toks) fun b o e => Heap.get?_push_of_some _ e
  rw [hw]
  refine wpAny_bind (wpAny_pure ?_)
  show wpAny (model X.prog X.w) X.A (do rule "assign.swapped-stores"; let items ← unpackItems (.ref s1.heap.objs.size) 2 none; assignInOrder [fun v => bindName X.env y v, fun v => bindName X.env x v] items.reverse; pure Flow.next) _ _ _
  refine wpAny_bind (wpAny_rule (wpAny_bind (unpackItems_tuple (items := #[u1, u2]) (I.ok.hd hc) (IsTup.new s1.heap _) fun h' hx' => ?_)))
  have I3 := I2.kept (h' := h') (t' := s1.toks) fun b o e => hx' b o (Nat.ne_of_lt (Heap.lt_size e)) e
  show wpAny _ _ (assignInOrder [fun v => bindName X.env y v, fun v => bindName X.env x v] [u2, u1] >>= fun _ => pure Flow.next) _ _ _
  refine wpAny_bind (assignInOrder_cons (wpAny_bindName (store_ok I3 hN hj (.inl hy) rw' (fun s2 I4 => ?_) (.inr hy))))
  refine assignInOrder_cons (wpAny_bindName (store_ok I4 hN hi (.inl hx) rv (fun s3 I5 => assignInOrder_nil (wpAny_pure ?_)) (.inr hx)))
  rw [List.set_comm _ _ (Ne.symm hij)] at I5
  exact ⟨_, H1, I5, q1⟩
/-- name op= e -/
def tAug (i : Nat) (te : TE) (ti : TIp) : TS := fun D σ H => ∃ x, σ[i]? = some (some x) ∧ te σ H fun y H1 => ti x y H1 fun z H2 => D.nx (σ.set i (some z)) H2
/-- o[i] op= e -/
def tAugS (to ti te : TE) (tget : V → V → Hp → VK → Prop) (tip : TIp) (tset : TSet) : TS := fun D σ H => to σ H fun o H1 => ti σ H1 fun i H2 => tget o i H2 fun x H3 => te σ H3 fun y H4 => tip x y H4 fun z H5 => tset o i z H5 fun H6 => D.nx σ H6
/-- o[i], by values -/
def PGet (X : Cx) (t : V → V → Hp → VK → Prop) : Prop :=
  ∀ (pins : List (Addr × Obj)) (s : Shared) (σ : St) (H : Hp) (o i : V) (ov iv : Value) (Q : VK), Inv X pins σ H s → RelV o ov → RelV i iv → t o i H Q →
    wpAny (model X.prog X.w) X.A (getItem ov iv) (EP X pins σ Q) X.xe s
/-- ints -/
def ipI (f : Int → Int → Int) : TIp := fun x y H Q => ∃ i j, x = .int i ∧ y = .int j ∧ Q (.int (f i j)) H
end

/-! ### while -/
section
variable {X : Cx} {pos : Pos}
/-- the invariant W with its measure -/
def tWhile (c : TT) (tb : TS) : TS := fun D σ H => ∃ W : Nat → St → Hp → Prop, (∃ m, W m σ H) ∧ ∀ m σ H, W m σ H →
  c σ H fun b H1 => if b = true then ∃ N : St → Hp → Prop, (∀ σ' H', N σ' H' → ∃ m', m' < m ∧ W m' σ' H') ∧ tb { D with nx := N, ct := N, bk := D.nx } σ H1 else D.nx σ H1
theorem ps_while {c : Expr} {body : List Stmt} {tc : TT} {tb : TS} (hp : PassesOwn (model X.prog X.w) X.A X.env X.xe) (hc : PT X c tc) (hb : PSs X body tb) : PS X (.While c body [] pos) (tWhile tc tb) := by
  intro pins s σ H D I h
  obtain ⟨W, ⟨m0, w0⟩, turn⟩ := h
  refine wpAny_While (codeAny_whileLoop (fun n s' => ∃ σ' H', Inv X pins σ' H' s' ∧ W n σ' H') ?_ m0 ⟨σ, H, I, w0⟩)
  rintro n s1 ⟨σ1, H1, I1, w1⟩
  refine wpAny_passesOwn hp (thn (hc pins s1 σ1 H1 _ I1 (turn n σ1 H1 w1)) fun b s2 ⟨H2, I2, q2⟩ => ?_)
  cases b with
  | true =>
    obtain ⟨N, hN, q2⟩ := q2
    rw [if_pos rfl]
    refine wpAny_passesOwn hp (thn (hb pins s2 σ1 H2 _ I2 q2) fun f s3 q3 => ?_)
    cases f with
    | next =>
      obtain ⟨σ3, H3, I3, n3⟩ := q3
      obtain ⟨m', hm, w3⟩ := hN σ3 H3 n3
      exact ⟨m', hm, σ3, H3, I3, w3⟩
    | cont =>
      obtain ⟨σ3, H3, I3, n3⟩ := q3
      obtain ⟨m', hm, w3⟩ := hN σ3 H3 n3
      exact ⟨m', hm, σ3, H3, I3, w3⟩
    | brk => exact q3
    | ret v => exact q3
  | false =>
    rw [if_neg Bool.false_ne_true]
    exact wpAny_execs_nil ⟨σ1, H2, I2, q2⟩
end

/-! ### what a loop or a comprehension walks -/
/-- at turn i: it yields x (the heap may grow), or it stops -/
structure It where
  go : Nat → Hp → Prop
  yld : Nat → Hp → V → Hp → Prop
  stop : Nat → Hp → Prop
/-- the iterator's own objects may turn: they are not the frame's, not pinned, younger than the entry (or a comprehension's own) -/
def FpOk (X : Cx) (pins : List (Addr × Obj)) (H : Hp) (b : Addr) : Prop :=
  H b = none ∧ b ≠ X.env.locals ∧ b ∉ X.fs ∧ (b ∈ X.ex ∨ X.s₀.heap.objs.size ≤ b) ∧ (∀ x c, X.env.cells.lookup x = some c → c ≠ b) ∧ ∀ p ∈ X.pn ++ pins, p.1 ≠ b
theorem Inv.fpOk {X : Cx} {pins : List (Addr × Obj)} {σ : St} {H H' : Hp} {s : Shared} {b : Addr} (I : Inv X pins σ H s) (hb : s.heap.objs.size ≤ b) (hn : H' b = none) : FpOk X pins H' b := by
  refine ⟨hn, Nat.ne_of_gt (Nat.lt_of_lt_of_le I.lt hb), I.nofs hb, .inr (Nat.le_trans I.sz hb), fun x c e z => ?_, fun p hp z => ?_⟩
  · obtain ⟨v, q⟩ := I.cell x c e
    exact absurd (Nat.lt_of_lt_of_le q.lt (by rw [z]; exact hb)) (Nat.lt_irrefl _)
  · exact absurd (Nat.lt_of_lt_of_le (Heap.lt_size (I.pin p hp).1) (by rw [z]; exact hb)) (Nat.lt_irrefl _)
structure Turn (P : Program) (w : World) (K : PySem.W.Frag) (tg : Expr) (J : It) (fp : List Addr) (it : Addr) (tn : Nat → Heap → Prop) : Prop where
  mem : it ∈ fp
  obj : ∀ i h, tn i h → ∀ b ∈ fp, ∃ o, h.get? b = some o ∧ ∀ v, o.data ≠ .cell v
  keep : ∀ i h h', tn i h → (∀ b ∈ fp, ∀ o, h.get? b = some o → h'.get? b = some o) → tn i h'
  item : ∀ (X : Cx), X.prog = P → X.w = w → X.K = K → X.calm = true → ∀ (i : Nat) (pins : List (Addr × Obj)) (s : Shared) (σ : St) (H : Hp) (E : Value → Shared → Prop), Inv X pins σ H s → (∀ b ∈ fp, FpOk X pins H b) → tn i s.heap → J.go i H →
    wpAny (model P w) X.A (pyNext (.ref it)) (fun r s1 => ∃ u, r = some u ∧
      wpAny (model P w) X.A (letOwnedTupleGo tg (.ref it) u) (fun _ s2 => ∃ x H', Inv X pins σ H' s2 ∧ RelV x u ∧ J.yld i H x H' ∧ tn (i + 1) s2.heap ∧ ∀ b ∈ fp, H' b = none) E s1) E s
  done : ∀ (X : Cx), X.prog = P → X.w = w → X.K = K → X.calm = true → ∀ (i : Nat) (pins : List (Addr × Obj)) (s : Shared) (σ : St) (H : Hp) (E : Value → Shared → Prop), Inv X pins σ H s → (∀ b ∈ fp, FpOk X pins H b) → tn i s.heap → J.stop i H →
    wpAny (model P w) X.A (pyNext (.ref it)) (fun r s1 => r = none ∧ Inv X pins σ H s1) E s
  self : ∀ (A : Around) (i : Nat) (s : Shared) (Q : Value → Shared → Prop) (E : Value → Shared → Prop), tn i s.heap → Q (.ref it) s → wpAny (model P w) A (pyIter (.ref it)) Q E s
abbrev TI := St → Hp → (It → Hp → Prop) → Prop
/-- an iterator has come -/
def PIE (X : Cx) (pins : List (Addr × Obj)) (σ : St) (tg : Expr) (R : It → Hp → Prop) (itv : Value) (s2 : Shared) : Prop :=
  ∃ (it : Addr) (fp : List Addr) (tn : Nat → Heap → Prop) (J : It) (H' : Hp), itv = .ref it ∧ Inv X pins σ H' s2 ∧ Turn X.prog X.w X.K tg J fp it tn ∧ tn 0 s2.heap ∧ (∀ b ∈ fp, FpOk X pins H' b) ∧ R J H'
def PI (X : Cx) (tg iter : Expr) (wi : TI) : Prop :=
  ∀ (pins : List (Addr × Obj)) (s : Shared) (σ : St) (H : Hp) (R : It → Hp → Prop), Inv X pins σ H s → wi σ H R →
    wpAny (model X.prog X.w) X.A (eval iter X.env) (fun v s1 => wpAny (model X.prog X.w) X.A (pyIter v) (PIE X pins σ tg R) X.xe s1) X.xe s

/-- the step ahead of the store is nothing for an iterator that keeps no tuple -/
theorem go_of {M : Model} {A : Around} {E : Value → Shared → Prop} {s : Shared} {tg : Expr} {it : Addr} {u : Value} {o : Obj} {n : String} {vs : Array Value} {Q : Unit → Shared → Prop} (ho : s.heap.get? it = some o) (hc : o.cls = .type n) (hd : o.data = .fields vs)
    (hn : ["enumerate", "zip", "dict_itemiterator", "dict_reverseitemiterator", "odict_iterator", "itertools.zip_longest", "itertools.pairwise"].contains n = false) (hQ : Q () s) : wpAny M A (letOwnedTupleGo tg (.ref it) u) Q E s := by
  unfold letOwnedTupleGo
  cases tg <;> first
    | exact wpAny_pure hQ
    | (cases u <;> first
        | exact wpAny_pure hQ
        | (refine wpAny_bind (wpAny_load ho ?_)
           rw [hc, hd]
           show wpAny M A (if (["enumerate", "zip", "dict_itemiterator", "dict_reverseitemiterator", "odict_iterator", "itertools.zip_longest", "itertools.pairwise"].contains n && vs[0]? == some (rawInt _)) = true then _ else _) Q E s
           rw [if_neg (by intro h; rw [hn, Bool.false_and] at h; cases h)]
           exact wpAny_pure hQ))

/-- the list at a, as it stands at each turn (a loop may append to it) -/
def Itl (K : PySem.W.Frag) (a : Addr) : It :=
  ⟨fun i H => ∃ xs x, SqL K H a xs ∧ xs[i]? = some x, fun i H x H' => H' = H ∧ ∀ xs, SqL K H a xs → xs[i]? = some x, fun i H => ∃ xs, SqL K H a xs ∧ xs.length ≤ i⟩
def Itt (K : PySem.W.Frag) (a : Addr) : It :=
  ⟨fun i H => ∃ xs x, SqT K H a xs ∧ xs[i]? = some x, fun i H x H' => H' = H ∧ ∀ xs, SqT K H a xs → xs[i]? = some x, fun i H => ∃ xs, SqT K H a xs ∧ xs.length ≤ i⟩
/-- lo, lo + 1, .. (n of them) -/
def Itr (lo : Int) (n : Nat) : It := ⟨fun i _ => i < n, fun i H x H' => H' = H ∧ x = .int (lo + i), fun i _ => n ≤ i⟩
theorem turn_list {P : Program} {w : World} {K : PySem.W.Frag} {tg : Expr} (a it : Addr) : Turn P w K tg (Itl K a) [it] it (fun i h => h.IsListIter it a i) where
  mem := by simp
  obj := fun i h st b hb => by
    have e : b = it := by simpa using hb
    subst e
    obtain ⟨o, e, c, d⟩ := st
    exact ⟨o, e, fun v z => by rw [d] at z; cases z⟩
  keep := fun i h h' st k => st.at fun o e => k it (by simp) o e
  item := by
    intro X hP hw hK hc i pins s σ H E I hf st hg
    subst hP hw hK
    obtain ⟨xs, x, hq, hx⟩ := hg
    obtain ⟨its, rv, p, hz⟩ := I.list hq
    obtain ⟨u, hu, ru⟩ := rv.get hx
    obtain ⟨f0, f1, f2, f3, f4, f5⟩ := hf it (by simp)
    refine wpAny_pyNext_list_item st p.isList (x := u) (by simpa using hu) fun h' st' sb => ?_
    have I1 : Inv X pins σ H { s with heap := h' } := I.turned (t' := s.toks) (fun b o hb e => (sb.2 b hb).trans e) f0 f1 f3 f4 f5
    obtain ⟨o, e, c, d⟩ := id st'
    exact ⟨u, rfl, go_of (s := { s with heap := h' }) e c d (by decide) ⟨x, H, I1, ru, ⟨rfl, fun ys hy => by rw [I.list_inj hy hq]; exact hx⟩, st', fun b hb => (hf b hb).1⟩⟩
  done := by
    intro X hP hw hK hc i pins s σ H E I hf st hg
    subst hP hw hK
    obtain ⟨xs, hq, hx⟩ := hg
    obtain ⟨its, rv, p, hz⟩ := I.list hq
    obtain ⟨f0, f1, f2, f3, f4, f5⟩ := hf it (by simp)
    have hl := rv.length
    exact wpAny_pyNext_list_end (I.ok.hd hc) st p.isList (by simp; omega) fun h' eb => ⟨rfl, I.turned (t' := s.toks) (fun b o hb e => eb b o hb e) f0 f1 f3 f4 f5⟩
  self := fun _ _ _ _ _ st h => wpAny_pyIter_listiter st h
theorem turn_tuple {P : Program} {w : World} {K : PySem.W.Frag} {tg : Expr} (a it : Addr) : Turn P w K tg (Itt K a) [it] it (fun i h => h.IsTupleIter it a i) where
  mem := by simp
  obj := fun i h st b hb => by
    have e : b = it := by simpa using hb
    subst e
    obtain ⟨o, e, c, d⟩ := st
    exact ⟨o, e, fun v z => by rw [d] at z; cases z⟩
  keep := fun i h h' st k => st.at fun o e => k it (by simp) o e
  item := by
    intro X hP hw hK hc i pins s σ H E I hf st hg
    subst hP hw hK
    obtain ⟨xs, x, hq, hx⟩ := hg
    obtain ⟨its, rv, p, hz⟩ := I.tuple hq
    obtain ⟨u, hu, ru⟩ := rv.get hx
    obtain ⟨f0, f1, f2, f3, f4, f5⟩ := hf it (by simp)
    refine wpAny_pyNext_tuple_item st (show s.heap.IsTuple a its.toArray from p) (x := u) (by simpa using hu) fun h' st' sb => ?_
    have I1 : Inv X pins σ H { s with heap := h' } := I.turned (t' := s.toks) (fun b o hb e => (sb.2 b hb).trans e) f0 f1 f3 f4 f5
    obtain ⟨o, e, c, d⟩ := id st'
    exact ⟨u, rfl, go_of (s := { s with heap := h' }) e c d (by decide) ⟨x, H, I1, ru, ⟨rfl, fun ys hy => by rw [I.tuple_inj hy hq]; exact hx⟩, st', fun b hb => (hf b hb).1⟩⟩
  done := by
    intro X hP hw hK hc i pins s σ H E I hf st hg
    subst hP hw hK
    obtain ⟨xs, hq, hx⟩ := hg
    obtain ⟨its, rv, p, hz⟩ := I.tuple hq
    obtain ⟨f0, f1, f2, f3, f4, f5⟩ := hf it (by simp)
    have hl := rv.length
    exact wpAny_pyNext_tuple_end (I.ok.hd hc) st (show s.heap.IsTuple a its.toArray from p) (by simp; omega) fun h' eb => ⟨rfl, I.turned (t' := s.toks) (fun b o hb e => eb b o hb e) f0 f1 f3 f4 f5⟩
  self := fun _ _ _ _ _ st h => wpAny_pyIter_tupleiter st h
theorem turn_range {P : Program} {w : World} {K : PySem.W.Frag} {tg : Expr} (it : Addr) (lo : Int) (n : Nat) : Turn P w K tg (Itr lo n) [it] it (fun i h => IsRangeIter h it (lo + (i : Nat) * 1) ((n : Int) - (i : Nat)) 1) where
  mem := by simp
  obj := fun i h st b hb => by
    have e : b = it := by simpa using hb
    subst e
    exact ⟨_, st, fun v z => by
      have z' : Data.fields _ = Data.cell v := z
      cases z'⟩
  keep := fun i h h' st k => k it (by simp) _ st
  item := by
    intro X hP hw hK hc i pins s σ H E I hf st hg
    subst hP hw hK
    obtain ⟨f0, f1, f2, f3, f4, f5⟩ := hf it (by simp)
    have W := Walks.range (prog := X.prog) (w := X.w) (I.ok.hd hc) it lo 1 n
    refine W.item i s _ _ hg st fun v h' tk hv st' kk => ?_
    obtain ⟨t, rfl⟩ := hv
    have I1 : Inv X pins σ H { s with heap := h', toks := tk } := I.turned (fun b o hb e => kk b o (by simpa using hb) e) f0 f1 f3 f4 f5
    refine ⟨_, rfl, go_of (s := { s with heap := h', toks := tk }) (n := "range_iterator") st' rfl rfl (by decide) ⟨.int (lo + i), H, I1, ⟨t, ?_⟩, ⟨rfl, rfl⟩, st', fun b hb => (hf b hb).1⟩⟩
    rw [Int.mul_one]
  done := by
    intro X hP hw hK hc i pins s σ H E I hf st hg
    subst hP hw hK
    obtain ⟨f0, f1, f2, f3, f4, f5⟩ := hf it (by simp)
    exact wpAny_pyNext_range_end (I.ok.hd hc) st (by have : n ≤ i := hg; omega) fun h' eb => ⟨rfl, I.turned (t' := s.toks) (fun b o hb e => eb b o hb e) f0 f1 f3 f4 f5⟩
  self := fun _ _ _ _ _ st h => wpAny_pyIter_rangeiter st h
end L2

namespace L2
open PySem PySem.Spec PyProof.Rows
section
variable {X : Cx} {tg : Expr}
def iList (K : PySem.W.Frag) (tl : TE) : TI := fun σ H R => tl σ H fun x H1 => ∃ a, x = .ref a ∧ (∃ xs, SqL K H1 a xs) ∧ R (Itl K a) H1
def iTup (K : PySem.W.Frag) (tl : TE) : TI := fun σ H R => tl σ H fun x H1 => ∃ a, x = .ref a ∧ (∃ xs, SqT K H1 a xs) ∧ R (Itt K a) H1
theorem pi_list {l : Expr} {tl : TE} (hl : PE X l tl) : PI X tg l (iList X.K tl) := by
  intro pins s σ H R I h
  refine thn (hl pins s σ H _ I h) fun v s1 ⟨x, H1, I1, r1, q1⟩ => ?_
  obtain ⟨a, e, ⟨xs, hq⟩, q⟩ := q1
  subst e
  cases r1
  obtain ⟨its, rv, p, hz⟩ := I1.list hq
  refine wpAny_pyIter_list p.isList ?_
  refine ⟨s1.heap.objs.size, [s1.heap.objs.size], _, _, H1, rfl, I1.kept (t' := s1.toks) fun b o e => Heap.get?_push_of_some _ e, turn_list a _, ⟨_, Heap.get?_push_size _ rfl, rfl, rfl⟩, fun b hb => ?_, q⟩
  have e : b = s1.heap.objs.size := by simpa using hb
  subst e
  exact I1.fpOk (Nat.le_refl _) (I1.hok.fresh (Nat.le_refl _))
theorem pi_tup {l : Expr} {tl : TE} (hl : PE X l tl) : PI X tg l (iTup X.K tl) := by
  intro pins s σ H R I h
  refine thn (hl pins s σ H _ I h) fun v s1 ⟨x, H1, I1, r1, q1⟩ => ?_
  obtain ⟨a, e, ⟨xs, hq⟩, q⟩ := q1
  subst e
  cases r1
  obtain ⟨its, rv, p, hz⟩ := I1.tuple hq
  refine wpAny_pyIter_tuple (show s1.heap.IsTuple a its.toArray from p) ?_
  refine ⟨s1.heap.objs.size, [s1.heap.objs.size], _, _, H1, rfl, I1.kept (t' := s1.toks) fun b o e => Heap.get?_push_of_some _ e, turn_tuple a _, ⟨_, Heap.get?_push_size _ rfl, rfl, rfl⟩, fun b hb => ?_, q⟩
  have e : b = s1.heap.objs.size := by simpa using hb
  subst e
  exact I1.fpOk (Nat.le_refl _) (I1.hok.fresh (Nat.le_refl _))
/-- a range object just made, walked -/
theorem range_it {pins : List (Addr × Obj)} {σ : St} {H : Hp} {s : Shared} {R : It → Hp → Prop} {E : Value → Shared → Prop} {lo hi : Int} {t u v : Tok} {tk : Nat} (I : Inv X pins σ H s) (h1 : -(2 ^ 62) ≤ lo) (h2 : lo < 2 ^ 62) (h3 : -(2 ^ 62) ≤ hi) (h4 : hi < 2 ^ 62)
    (q : R (Itr lo (hi - lo).toNat) H) : wpAny (model X.prog X.w) X.A (pyIter (.ref s.heap.objs.size)) (PIE X pins σ tg R) E { s with heap := s.heap.push { cls := .type "range", data := .fields #[.int lo t, .int hi u, .int 1 v] }, toks := tk } := by
  refine wpAny_pyIter_range (IsRange.new ..) (small_one h1 h2 h3 h4) ?_
  have I1 : Inv X pins σ H { s with heap := s.heap.push { cls := .type "range", data := .fields #[.int lo t, .int hi u, .int 1 v] }, toks := tk } := I.kept fun b o e => Heap.get?_push_of_some _ e
  refine ⟨(s.heap.push { cls := .type "range", data := .fields #[.int lo t, .int hi u, .int 1 v] }).objs.size, [(s.heap.push { cls := .type "range", data := .fields #[.int lo t, .int hi u, .int 1 v] }).objs.size], _, _, H, rfl,
    I1.kept (t' := tk) fun b o e => Heap.get?_push_of_some _ e, turn_range _ lo (hi - lo).toNat, ?_, fun b hb => ?_, q⟩
  · have e1 : lo + ((0 : Nat) : Int) * 1 = lo := by simp
    have e2 : (((hi - lo).toNat : Nat) : Int) - ((0 : Nat) : Int) = Builtin.Range.rangeSize lo hi 1 := by rw [rangeSize_one]; split <;> omega
    show IsRangeIter _ _ (lo + ((0 : Nat) : Int) * 1) ((((hi - lo).toNat : Nat) : Int) - ((0 : Nat) : Int)) 1
    rw [e1, e2]
    exact Heap.get?_push_size _ rfl
  · have e : b = (s.heap.push { cls := .type "range", data := .fields #[.int lo t, .int hi u, .int 1 v] }).objs.size := by simpa using hb
    subst e
    exact I1.fpOk (Nat.le_refl _) (I1.hok.fresh (Nat.le_refl _))
def iRng1 (ta : TA) : TI := fun σ H R => ta σ H fun vs H1 => ∃ j : Int, vs = [.int j] ∧ -(2 ^ 62) ≤ j ∧ j < 2 ^ 62 ∧ R (Itr 0 j.toNat) H1
def iRng2 (ta : TA) : TI := fun σ H R => ta σ H fun vs H1 => ∃ i j : Int, vs = [.int i, .int j] ∧ (-(2 ^ 62) ≤ i ∧ i < 2 ^ 62 ∧ -(2 ^ 62) ≤ j ∧ j < 2 ^ 62) ∧ R (Itr i (j - i).toNat) H1
theorem pi_range1 {a : Expr} {ta : TA} {p pos : Pos} (hg : Gl X "range") (hm : X.mg "range" = none) (ha : PA X [a] ta) (hs : starEach [a] X.env = [(false, eval a X.env)] := by rfl) : PI X tg (.Call (.Name "range" p) [a] [] pos) (iRng1 ta) := by
  intro pins s σ H R I h
  refine Call_ (ld_blt I hg hm boot_range (PyProof.Rows.callWith_type1 (thn (ha pos pins s σ H _ I h) fun us s1 ⟨vs, H1, I1, r1, q1⟩ => ?_) hs rfl))
  obtain ⟨j, e, q1, q2, q⟩ := q1
  subst e
  cases r1 with
  | cons r rr =>
    cases rr
    obtain ⟨t, rfl⟩ := r
    exact call_range_1 (range_it I1 (by omega) (by omega) q1 q2 (by simpa using q))
/-! ### for -/
/-- W: the invariant by the turn and a measure; N: what the body is to reach -/
def tFor (wi : TI) (g : TG) (tb : TS) : TS := fun D σ H => wi σ H fun J H1 => ∃ W : Nat → Nat → St → Hp → Prop, (∃ m, W 0 m σ H1) ∧ ∀ i m σ H, W i m σ H →
  (J.stop i H ∧ D.nx σ H) ∨ (J.go i H ∧ ∃ N : St → Hp → Prop, (∀ σ' H', N σ' H' → ∃ m', m' < m ∧ W (i + 1) m' σ' H') ∧ ∀ x H', J.yld i H x H' → g x σ H' fun σ2 H2 => tb { D with nx := N, ct := N, bk := D.nx } σ2 H2)
/-- the records at fp as they stand -/
def pinsAt (fp : List Addr) (h : Heap) : List (Addr × Obj) := fp.filterMap fun b => (h.get? b).map fun o => (b, o)
theorem mem_pinsAt {fp : List Addr} {h : Heap} {b : Addr} {o : Obj} (hb : b ∈ fp) (e : h.get? b = some o) : (b, o) ∈ pinsAt fp h := List.mem_filterMap.mpr ⟨b, hb, by rw [e]; rfl⟩
theorem of_pinsAt {fp : List Addr} {h : Heap} {p : Addr × Obj} (hp : p ∈ pinsAt fp h) : p.1 ∈ fp ∧ h.get? p.1 = some p.2 := by
  obtain ⟨b, hb, e⟩ := List.mem_filterMap.mp hp
  cases q : h.get? b with
  | none => rw [q] at e; cases e
  | some o =>
    rw [q] at e
    have e' : (b, o) = p := Option.some.inj e
    subst e'
    exact ⟨hb, q⟩
theorem Inv.pinned {pins : List (Addr × Obj)} {σ : St} {H : Hp} {s : Shared} {fp : List Addr} (I : Inv X pins σ H s) (hf : ∀ b ∈ fp, FpOk X pins H b) (ho : ∀ b ∈ fp, ∃ o, s.heap.get? b = some o ∧ ∀ v, o.data ≠ .cell v) : Inv X (pins ++ pinsAt fp s.heap) σ H s :=
  I.pins_of fun p hp => (List.mem_append.mp hp).elim (fun z => I.pin p (List.mem_append_right _ z)) fun z => by
    obtain ⟨hb, e⟩ := of_pinsAt z
    obtain ⟨f0, f1, f2, _⟩ := hf p.1 hb
    obtain ⟨o, e', d⟩ := ho p.1 hb
    rw [e] at e'; cases e'
    exact ⟨e, f0, f1, f2, d⟩
theorem Inv.unpinned {pins pl : List (Addr × Obj)} {σ : St} {H : Hp} {s : Shared} (I : Inv X (pins ++ pl) σ H s) : Inv X pins σ H s := I.pins_of fun p hp => I.pin p (List.mem_append_right _ (List.mem_append_left _ hp))
theorem ps_for {iter : Expr} {body : List Stmt} {wi : TI} {g : TG} {tb : TS} {pos : Pos} (hp : PassesOwn (model X.prog X.w) X.A X.env X.xe) (hc : X.calm = true) (hi : PI X tg iter wi) (hg : PG X tg g) (hb : PSs X body tb)
    (hs : ∀ x, foldedSetIterable iter X.env x = pure x := by intro _; rfl) : PS X (.For tg iter body [] pos) (tFor wi g tb) := by
  intro pins s σ H D I h
  refine wpAny_For (thn (hi pins s σ H _ I h) fun v s1 h1 => thn h1 fun itv s2 h2 => ?_) hs
  obtain ⟨it, fp, tn, J, H2, e, I2, T, st2, f2, W, ⟨m0, w0⟩, turn⟩ := h2
  subst e
  -- what stays true of the iterator's objects through the loop
  have stat : ∀ {H' : Hp}, (∀ b ∈ fp, H' b = none) → ∀ b ∈ fp, FpOk X pins H' b := fun hn b hb => ⟨hn b hb, (f2 b hb).2⟩
  refine codeAny_forLoop_any (fun n s' => ∃ i σ' H', Inv X pins σ' H' s' ∧ tn i s'.heap ∧ (∀ b ∈ fp, H' b = none) ∧ W i n σ' H') ?_ m0 ⟨0, σ, H2, I2, st2, fun b hb => (f2 b hb).1, w0⟩
  rintro n s3 ⟨i, σ3, H3, I3, st3, fr3, w3⟩
  rcases turn i n σ3 H3 w3 with ⟨stop, qn⟩ | ⟨go, N, hN, step⟩
  · refine wpAny_passesOwn hp (thn (T.done X rfl rfl rfl hc i pins s3 σ3 H3 X.xe I3 (stat fr3) st3 stop) fun r s4 ⟨hr, I4⟩ => ?_)
    subst hr
    exact wpAny_execs_nil ⟨σ3, H3, I4, qn⟩
  · refine wpAny_passesOwn hp (thn (T.item X rfl rfl rfl hc i pins s3 σ3 H3 X.xe I3 (stat fr3) st3 go) fun r s4 ⟨u, hr, h4⟩ => ?_)
    subst hr
    refine wpAny_passesOwn hp (thn h4 fun _ s5 ⟨x, H5, I5, r5, y5, st5, fr5⟩ => ?_)
    have I5' := I5.pinned (stat fr5) (T.obj _ _ st5)
    refine wpAny_passesOwn hp (thn (hg _ s5 σ3 H5 x u _ I5' r5 (step x H5 y5)) fun _ s6 ⟨σ6, H6, I6, q6⟩ => ?_)
    refine wpAny_passesOwn hp (thn (hb _ s6 σ6 H6 _ I6 q6) fun f s7 q7 => ?_)
    have again : ∀ {σ7 : St} {H7 : Hp}, Inv X (pins ++ pinsAt fp s5.heap) σ7 H7 s7 → N σ7 H7 → ∃ m, m < n ∧ ∃ i σ' H', Inv X pins σ' H' s7 ∧ tn i s7.heap ∧ (∀ b ∈ fp, H' b = none) ∧ W i m σ' H' := fun {σ7 H7} I7 n7 => by
      obtain ⟨m', hm, w7⟩ := hN σ7 H7 n7
      refine ⟨m', hm, i + 1, σ7, H7, I7.unpinned, T.keep _ _ _ st5 fun b hb o e => (I7.pin (b, o) (List.mem_append_right _ (List.mem_append_right _ (mem_pinsAt hb e)))).1, fun b hb => ?_, w7⟩
      obtain ⟨o, e, d⟩ := T.obj _ _ st5 b hb
      exact (I7.pin (b, o) (List.mem_append_right _ (List.mem_append_right _ (mem_pinsAt hb e)))).2.1
    cases f with
    | next => obtain ⟨σ7, H7, I7, n7⟩ := q7; exact again I7 n7
    | cont => obtain ⟨σ7, H7, I7, n7⟩ := q7; exact again I7 n7
    | brk => obtain ⟨σ7, H7, I7, q7⟩ := q7; exact ⟨σ7, H7, I7.unpinned, q7⟩
    | ret v => obtain ⟨x7, σ7, H7, I7, r7, q7⟩ := q7; exact ⟨x7, σ7, H7, I7.unpinned, r7, q7⟩
end

/-! ### the forms one uses -/
/-- over a list that the body leaves as it is -/
theorem for_list {K : PySem.W.Frag} {a : Addr} {xs : List V} {g : TG} {tb : TS} {D : Ends} {σ : St} {H : Hp} (Pv : Nat → St → Hp → Prop) (h0 : Pv 0 σ H) (hl : ∀ i σ H, i ≤ xs.length → Pv i σ H → SqL K H a xs)
    (hs : ∀ i x σ H, xs[i]? = some x → Pv i σ H → g x σ H fun σ2 H2 => tb { D with nx := Pv (i + 1), ct := Pv (i + 1), bk := D.nx } σ2 H2) (hd : ∀ σ H, Pv xs.length σ H → D.nx σ H) :
    ∃ W : Nat → Nat → St → Hp → Prop, (∃ m, W 0 m σ H) ∧ ∀ i m σ H, W i m σ H →
      ((Itl K a).stop i H ∧ D.nx σ H) ∨ ((Itl K a).go i H ∧ ∃ N : St → Hp → Prop, (∀ σ' H', N σ' H' → ∃ m', m' < m ∧ W (i + 1) m' σ' H') ∧ ∀ x H', (Itl K a).yld i H x H' → g x σ H' fun σ2 H2 => tb { D with nx := N, ct := N, bk := D.nx } σ2 H2) := by
  refine ⟨fun i m σ H => m = xs.length - i ∧ i ≤ xs.length ∧ Pv i σ H, ⟨xs.length, by simp, Nat.zero_le _, h0⟩, ?_⟩
  rintro i m σ H ⟨rfl, hi, p⟩
  have q := hl i σ H hi p
  by_cases hlt : i < xs.length
  · refine .inr ⟨⟨xs, xs[i], q, by simp [hlt]⟩, Pv (i + 1), fun σ' H' p' => ⟨xs.length - (i + 1), by omega, rfl, hlt, p'⟩, fun x H' y => ?_⟩
    obtain ⟨e, y⟩ := y
    subst e
    exact hs i x σ _ (y xs q) p
  · have e : i = xs.length := by omega
    subst e
    exact .inl ⟨⟨xs, q, Nat.le_refl _⟩, hd σ H p⟩
theorem for_range {lo : Int} {n : Nat} {g : TG} {tb : TS} {D : Ends} {σ : St} {H : Hp} (Pv : Nat → St → Hp → Prop) (h0 : Pv 0 σ H)
    (hs : ∀ i σ H, i < n → Pv i σ H → g (.int (lo + i)) σ H fun σ2 H2 => tb { D with nx := Pv (i + 1), ct := Pv (i + 1), bk := D.nx } σ2 H2) (hd : ∀ σ H, Pv n σ H → D.nx σ H) :
    ∃ W : Nat → Nat → St → Hp → Prop, (∃ m, W 0 m σ H) ∧ ∀ i m σ H, W i m σ H →
      ((Itr lo n).stop i H ∧ D.nx σ H) ∨ ((Itr lo n).go i H ∧ ∃ N : St → Hp → Prop, (∀ σ' H', N σ' H' → ∃ m', m' < m ∧ W (i + 1) m' σ' H') ∧ ∀ x H', (Itr lo n).yld i H x H' → g x σ H' fun σ2 H2 => tb { D with nx := N, ct := N, bk := D.nx } σ2 H2) := by
  refine ⟨fun i m σ H => m = n - i ∧ i ≤ n ∧ Pv i σ H, ⟨n, by simp, Nat.zero_le _, h0⟩, ?_⟩
  rintro i m σ H ⟨rfl, hi, p⟩
  by_cases hlt : i < n
  · refine .inr ⟨hlt, Pv (i + 1), fun σ' H' p' => ⟨n - (i + 1), by omega, rfl, hlt, p'⟩, fun x H' y => ?_⟩
    obtain ⟨e, y⟩ := y
    subst e y
    exact hs i σ _ hlt p
  · have e : i = n := by omega
    subst e
    exact .inl ⟨Nat.le_refl _, hd σ H p⟩
end L2

namespace L2
open PySem PySem.Spec PyProof.Rows

abbrev R2 := V → V → Hp → VK → Prop
/-- a two-place operation on values: f is binaryOp op, inplaceOp op or compareOp op -/
def OpR (X : Cx) (f : Value → Value → Sem Value) (r : R2) : Prop :=
  ∀ (pins : List (Addr × Obj)) (s : Shared) (σ : St) (H : Hp) (x y : V) (v u : Value) (Q : VK), Inv X pins σ H s → RelV x v → RelV y u → r x y H Q →
    wpAny (model X.prog X.w) X.A (f v u) (EP X pins σ Q) X.xe s
/-- a one-place operation -/
def UnR (X : Cx) (f : Value → Sem Value) (r : V → Hp → VK → Prop) : Prop :=
  ∀ (pins : List (Addr × Obj)) (s : Shared) (σ : St) (H : Hp) (x : V) (v : Value) (Q : VK), Inv X pins σ H s → RelV x v → r x H Q →
    wpAny (model X.prog X.w) X.A (f v) (EP X pins σ Q) X.xe s
/-- a call of a value that is known (a builtin, a type) with values -/
def CallR (X : Cx) (f : Value) (r : List V → Hp → VK → Prop) : Prop :=
  ∀ (pins : List (Addr × Obj)) (s : Shared) (σ : St) (H : Hp) (xs : List V) (us : List Value) (Q : VK), Inv X pins σ H s → Vals xs us → r xs H Q →
    wpAny (model X.prog X.w) X.A (call f us) (EP X pins σ Q) X.xe s
/-- a value's truth -/
def TruR (X : Cx) (r : V → Hp → (Bool → Hp → Prop) → Prop) : Prop :=
  ∀ (pins : List (Addr × Obj)) (s : Shared) (σ : St) (H : Hp) (x : V) (v : Value) (Q : Bool → Hp → Prop), Inv X pins σ H s → RelV x v → r x H Q →
    wpAny (model X.prog X.w) X.A (truthy v) (TP X pins σ Q) X.xe s

def tOp (r : R2) (ta tb : TE) : TE := fun σ H Q => ta σ H fun x H1 => tb σ H1 fun y H2 => r x y H2 Q
def tUn (r : V → Hp → VK → Prop) (ta : TE) : TE := fun σ H Q => ta σ H fun x H1 => r x H1 Q
/-- ints in, under C, and a value out -/
def rI (C : Int → Int → Prop) (g : Int → Int → V) : R2 := fun x y H Q => ∃ i j, x = .int i ∧ y = .int j ∧ C i j ∧ Q (g i j) H
def rI0 (g : Int → Int → V) : R2 := fun x y H Q => ∃ i j, x = .int i ∧ y = .int j ∧ Q (g i j) H
def rU (g : Int → V) : V → Hp → VK → Prop := fun x H Q => ∃ i, x = .int i ∧ Q (g i) H

section
variable {X : Cx} {a b c : Expr} {ta tb tc : TE} {pos : Pos}

theorem binT (ha : PE X a ta) (hb : PE X b tb) {pins : List (Addr × Obj)} {s : Shared} {σ : St} {H : Hp} {R : V → V → Hp → Prop} (I : Inv X pins σ H s)
    (h : ta σ H fun x H1 => tb σ H1 fun y H2 => R x y H2) {Q : Value → Shared → Prop} {f : Value → Value → Sem Value}
    (hf : ∀ v u s2 x y H2, Inv X pins σ H2 s2 → RelV x v → RelV y u → R x y H2 → wpAny (model X.prog X.w) X.A (f v u) Q X.xe s2) :
    wpAny (model X.prog X.w) X.A (eval a X.env) (fun v s₁ => wpAny (model X.prog X.w) X.A (eval b X.env) (fun u s₂ => wpAny (model X.prog X.w) X.A (f v u) Q X.xe s₂) X.xe s₁) X.xe s := by
  refine thn (ha pins s σ H _ I h) fun v s1 ⟨x, H1, I1, r1, q1⟩ => ?_
  refine thn (hb pins s1 σ H1 _ I1 q1) fun u s2 ⟨y, H2, I2, r2, q2⟩ => ?_
  exact hf v u s2 x y H2 I2 r1 r2 q2

theorem pe_op {op : Operator} {r : R2} (ho : OpR X (binaryOp op) r) (ha : PE X a ta) (hb : PE X b tb) : PE X (.BinOp a op b pos) (tOp r ta tb) := by
  intro pins s σ H Q I h
  exact wpAny_BinOp (binT ha hb I h fun v u s2 x y H2 I2 rx ry q => ho pins s2 σ H2 x y v u Q I2 rx ry q)
theorem pe_un {op : UnaryOp} {r : V → Hp → VK → Prop} (ho : UnR X (unaryOp op) r) (ha : PE X a ta) : PE X (.UnaryOp op a pos) (tUn r ta) := by
  intro pins s σ H Q I h
  exact UnaryOp_ (thn (ha pins s σ H _ I h) fun v s1 ⟨x, H1, I1, r1, q1⟩ => ho pins s1 σ H1 x v Q I1 r1 q1)
/-! ### ints -/
theorem opI {f : Value → Value → Sem Value} {C : Int → Int → Prop} {g : Int → Int → Int}
    (rule : ∀ (i j : Int) (t u : Tok) (s : Shared) (Q : Value → Shared → Prop) (E : Value → Shared → Prop), C i j → Q (.int (g i j) s.toks) { s with toks := s.toks + 1 } → wpAny (model X.prog X.w) X.A (f (.int i t) (.int j u)) Q E s) :
    OpR X f (rI C fun i j => .int (g i j)) := by
  intro pins s σ H x y v u Q I rx ry h
  obtain ⟨i, j, rfl, rfl, hc, q⟩ := h
  obtain ⟨t, rfl⟩ := rx
  obtain ⟨t', rfl⟩ := ry
  exact rule i j t t' s _ _ hc ⟨.int (g i j), H, I.tok _, ⟨_, rfl⟩, q⟩
theorem opI0 {f : Value → Value → Sem Value} {g : Int → Int → Int}
    (rule : ∀ (i j : Int) (t u : Tok) (s : Shared) (Q : Value → Shared → Prop) (E : Value → Shared → Prop), Q (.int (g i j) s.toks) { s with toks := s.toks + 1 } → wpAny (model X.prog X.w) X.A (f (.int i t) (.int j u)) Q E s) :
    OpR X f (rI0 fun i j => .int (g i j)) := by
  intro pins s σ H x y v u Q I rx ry h
  obtain ⟨i, j, rfl, rfl, q⟩ := h
  obtain ⟨t, rfl⟩ := rx
  obtain ⟨t', rfl⟩ := ry
  exact rule i j t t' s _ _ ⟨.int (g i j), H, I.tok _, ⟨_, rfl⟩, q⟩
theorem opB0 {f : Value → Value → Sem Value} {g : Int → Int → Bool}
    (rule : ∀ (i j : Int) (t u : Tok) (s : Shared) (Q : Value → Shared → Prop) (E : Value → Shared → Prop), Q (.bool (g i j)) s → wpAny (model X.prog X.w) X.A (f (.int i t) (.int j u)) Q E s) :
    OpR X f (rI0 fun i j => .bl (g i j)) := by
  intro pins s σ H x y v u Q I rx ry h
  obtain ⟨i, j, rfl, rfl, q⟩ := h
  obtain ⟨t, rfl⟩ := rx
  obtain ⟨t', rfl⟩ := ry
  exact rule i j t t' s _ _ ⟨.bl (g i j), H, I, rfl, q⟩

def CDiv (i j : Int) : Prop := 0 < j ∧ j < 1073741824
def CDivN (i j : Int) : Prop := j ≠ 0 ∧ j.natAbs < 1073741824
def CPow (i j : Int) : Prop := 0 ≤ j ∧ j ≤ 1000000 ∧ i.natAbs < 2 ^ 64
def CMul (i j : Int) : Prop := (-(2 ^ 64) < i ∧ i < 2 ^ 64) ∨ (-(2 ^ 64) < j ∧ j < 2 ^ 64)
theorem CMul.ok {i j : Int} (h : CMul i j) : IntMulOk i j := by
  rcases h with ⟨h1, h2⟩ | ⟨h1, h2⟩
  · exact .of_left (intBits_le_64 h1 h2)
  · exact .of_right (intBits_le_64 h1 h2)
theorem two_pow_nn (k : Nat) : (0 : Int) ≤ 2 ^ k := by
  rw [two_pow_cast]
  exact Int.natCast_nonneg _

theorem op_add : OpR X (binaryOp .Add) (rI0 fun i j => .int (i + j)) := opI0 fun _ _ _ _ _ _ _ q => add_int q
theorem op_sub : OpR X (binaryOp .Sub) (rI0 fun i j => .int (i - j)) := opI0 fun _ _ _ _ _ _ _ q => sub_int q
theorem op_mul : OpR X (binaryOp .Mult) (rI CMul fun i j => .int (i * j)) := opI fun _ _ _ _ _ _ _ hc q => mul_int q hc.ok
/-- % by a positive divisor of any size -/
theorem op_mod : OpR X (binaryOp .Mod) (rI (fun _ j => 0 < j) fun i j => .int (i % j)) := opI fun i j _ _ _ _ _ hc q => by
  have h1 : (0 : Int) < j := hc
  exact mod_int' (by omega) (by rw [Int.fmod_eq_emod_of_nonneg i (by omega)]; exact q)
theorem op_pow : OpR X (binaryOp .Pow) (rI CPow fun i j => .int (i ^ j.toNat)) := opI fun _ _ _ _ _ _ _ hc q => pow_int_small hc.1 hc.2.1 hc.2.2 q
theorem op_shl : OpR X (binaryOp .LShift) (rI CPow fun i j => .int (i * 2 ^ j.toNat)) := opI fun _ _ _ _ _ _ _ hc q => lshift_int_small hc.1 hc.2.1 hc.2.2 q
theorem op_shr : OpR X (binaryOp .RShift) (rI (fun _ j => 0 ≤ j) fun i j => .int (i / 2 ^ j.toNat)) := opI fun i j _ _ _ _ _ hc q =>
  rshift_int hc (by rw [Int.fdiv_eq_ediv_of_nonneg i (two_pow_nn _)]; exact q)
theorem op_and : OpR X (binaryOp .BitAnd) (rI0 fun i j => .int (Builtin.bitAnd i j)) := opI0 fun _ _ _ _ _ _ _ q => and_int q
theorem op_or : OpR X (binaryOp .BitOr) (rI0 fun i j => .int (Builtin.bitOr i j)) := opI0 fun _ _ _ _ _ _ _ q => or_int q
theorem op_xor : OpR X (binaryOp .BitXor) (rI0 fun i j => .int (Builtin.bitXor i j)) := opI0 fun _ _ _ _ _ _ _ q => xor_int q

theorem unI {f : Value → Sem Value} {g : Int → Int}
    (rule : ∀ (i : Int) (t : Tok) (s : Shared) (Q : Value → Shared → Prop) (E : Value → Shared → Prop), Q (.int (g i) s.toks) { s with toks := s.toks + 1 } → wpAny (model X.prog X.w) X.A (f (.int i t)) Q E s) :
    UnR X f (rU fun i => .int (g i)) := by
  intro pins s σ H x v Q I rx h
  obtain ⟨i, rfl, q⟩ := h
  obtain ⟨t, rfl⟩ := rx
  exact rule i t s _ _ ⟨.int (g i), H, I.tok _, ⟨_, rfl⟩, q⟩
theorem un_neg : UnR X (unaryOp .USub) (rU fun i => .int (-i)) := unI fun _ _ _ _ _ q => neg_int q
/-! ### bools among ints: n += (a < b) -/
end

/-! ### comparisons -/
/-- the scalars that == tells apart as data does -/
def scal : V → V → Bool
  | .non, .non => true | .non, .int _ => true | .int _, .non => true | .non, .bl _ => true | .bl _, .non => true | .non, .str _ => true | .str _, .non => true
  | .int _, .int _ => true | .bl _, .bl _ => true | .str _, .str _ => true | .byt _, .byt _ => true
  | .int _, .str _ => true | .str _, .int _ => true | .bl _, .str _ => true | .str _, .bl _ => true
  | _, _ => false
def rEq : R2 := fun x y H Q => scal x y = true ∧ Q (.bl (decide (x = y))) H
def rNe : R2 := fun x y H Q => scal x y = true ∧ Q (.bl (!decide (x = y))) H

theorem dec_int {i j : Int} : decide (V.int i = V.int j) = (i == j) := by
  rw [Bool.eq_iff_iff]
  simp
theorem dec_bl {i j : Bool} : decide (V.bl i = V.bl j) = (i == j) := by
  rw [Bool.eq_iff_iff]
  simp
theorem dec_str {i j : Str} : decide (V.str i = V.str j) = (i == j) := by
  rw [Bool.eq_iff_iff]
  simp
theorem dec_byt {i j : Array UInt8} : decide (V.byt i = V.byt j) = (i.toList == j.toList) := by
  rw [Bool.eq_iff_iff]
  cases i
  cases j
  simp

section
variable {X : Cx} {a b c : Expr} {ta tb tc : TE} {pos : Pos}
theorem fin_bl {pins : List (Addr × Obj)} {σ : St} {H : Hp} {s : Shared} {Q : VK} {k k' : Bool} (I : Inv X pins σ H s) (q : Q (.bl k) H) (e : k = k') : EP X pins σ Q (.bool k') s := by
  subst e
  exact ⟨.bl k, H, I, rfl, q⟩
theorem op_eq : OpR X (compareOp .Eq) rEq := by
  intro pins s σ H x y v u Q I rx ry h
  obtain ⟨hs, q⟩ := h
  cases x with
  | non =>
    cases rx
    cases y with
    | non => cases ry; exact PySem.EqNone.eq_none_none (fin_bl I q (by simp))
    | bl j => cases ry; exact PySem.EqNone.eq_none_bool (fin_bl I q (by simp))
    | int j => obtain ⟨t', rfl⟩ := ry; exact PySem.EqNone.eq_none_int (fin_bl I q (by simp))
    | str j => obtain ⟨t', rfl⟩ := ry; exact PySem.EqNone.eq_none_str (fin_bl I q (by simp))
    | _ => exact absurd (show false = true from hs) Bool.false_ne_true
  | bl i =>
    cases rx
    cases y with
    | non => cases ry; exact PySem.EqNone.eq_bool_none (fin_bl I q (by simp))
    | bl j => cases ry; exact eq_bool (fin_bl I q dec_bl)
    | str j => obtain ⟨t', rfl⟩ := ry; exact PySem.EqMixed.eq_bool_str (fin_bl I q (by simp))
    | _ => exact absurd (show false = true from hs) Bool.false_ne_true
  | int i =>
    obtain ⟨t, rfl⟩ := rx
    cases y with
    | non => cases ry; exact PySem.EqNone.eq_int_none (fin_bl I q (by simp))
    | int j => obtain ⟨t', rfl⟩ := ry; exact eq_int (fin_bl I q dec_int)
    | str j => obtain ⟨t', rfl⟩ := ry; exact PySem.EqMixed.eq_int_str (fin_bl I q (by simp))
    | _ => exact absurd (show false = true from hs) Bool.false_ne_true
  | str i =>
    obtain ⟨t, rfl⟩ := rx
    cases y with
    | non => cases ry; exact PySem.EqNone.eq_str_none (fin_bl I q (by simp))
    | bl j => cases ry; exact PySem.EqMixed.eq_str_bool (fin_bl I q (by simp))
    | int j => obtain ⟨t', rfl⟩ := ry; exact PySem.EqMixed.eq_str_int (fin_bl I q (by simp))
    | str j => obtain ⟨t', rfl⟩ := ry; exact eq_str (fin_bl I q dec_str)
    | _ => exact absurd (show false = true from hs) Bool.false_ne_true
  | byt i =>
    obtain ⟨t, rfl⟩ := rx
    cases y with
    | byt j => obtain ⟨t', rfl⟩ := ry; exact PySem.W.eq_bytes (fin_bl I q dec_byt)
    | _ => exact absurd (show false = true from hs) Bool.false_ne_true
  | _ => cases y <;> exact absurd (show false = true from hs) Bool.false_ne_true
theorem op_ne : OpR X (compareOp .NotEq) rNe := by
  intro pins s σ H x y v u Q I rx ry h
  obtain ⟨hs, q⟩ := h
  cases x with
  | non =>
    cases rx
    cases y with
    | non => cases ry; exact PySem.EqNone.ne_none_none (fin_bl I q (by simp))
    | bl j => cases ry; exact PySem.EqNone.ne_none_bool (fin_bl I q (by simp))
    | int j => obtain ⟨t', rfl⟩ := ry; exact PySem.EqNone.ne_none_int (fin_bl I q (by simp))
    | str j => obtain ⟨t', rfl⟩ := ry; exact PySem.EqNone.ne_none_str (fin_bl I q (by simp))
    | _ => exact absurd (show false = true from hs) Bool.false_ne_true
  | bl i =>
    cases rx
    cases y with
    | non => cases ry; exact PySem.EqNone.ne_bool_none (fin_bl I q (by simp))
    | bl j => cases ry; exact ne_bool (fin_bl I q (congrArg not dec_bl))
    | str j => obtain ⟨t', rfl⟩ := ry; exact PySem.EqMixed.ne_bool_str (fin_bl I q (by simp))
    | _ => exact absurd (show false = true from hs) Bool.false_ne_true
  | int i =>
    obtain ⟨t, rfl⟩ := rx
    cases y with
    | non => cases ry; exact PySem.EqNone.ne_int_none (fin_bl I q (by simp))
    | int j => obtain ⟨t', rfl⟩ := ry; exact ne_int (fin_bl I q (congrArg not dec_int))
    | str j => obtain ⟨t', rfl⟩ := ry; exact PySem.EqMixed.ne_int_str (fin_bl I q (by simp))
    | _ => exact absurd (show false = true from hs) Bool.false_ne_true
  | str i =>
    obtain ⟨t, rfl⟩ := rx
    cases y with
    | non => cases ry; exact PySem.EqNone.ne_str_none (fin_bl I q (by simp))
    | bl j => cases ry; exact PySem.EqMixed.ne_str_bool (fin_bl I q (by simp))
    | int j => obtain ⟨t', rfl⟩ := ry; exact PySem.EqMixed.ne_str_int (fin_bl I q (by simp))
    | str j => obtain ⟨t', rfl⟩ := ry; exact ne_str (fin_bl I q (congrArg not dec_str))
    | _ => exact absurd (show false = true from hs) Bool.false_ne_true
  | byt i =>
    obtain ⟨t, rfl⟩ := rx
    cases y with
    | byt j => obtain ⟨t', rfl⟩ := ry; exact PySem.W.ne_bytes (fin_bl I q (congrArg not dec_byt))
    | _ => exact absurd (show false = true from hs) Bool.false_ne_true
  | _ => cases y <;> exact absurd (show false = true from hs) Bool.false_ne_true

theorem op_lt : OpR X (compareOp .Lt) (rI0 fun i j => .bl (decide (i < j))) := opB0 fun _ _ _ _ _ _ _ q => lt_int q
theorem op_gt : OpR X (compareOp .Gt) (rI0 fun i j => .bl (decide (j < i))) := opB0 fun _ _ _ _ _ _ _ q => gt_int q
theorem op_ge : OpR X (compareOp .GtE) (rI0 fun i j => .bl (decide (j ≤ i))) := opB0 fun _ _ _ _ _ _ _ q => ge_int q
/-- is, is not of two objects that are tracked lists or instances -/
def isObj : HO → Bool
  | .lst _ => true
  | .ins _ _ _ => true
  | _ => false
theorem nomark (b : Expr) {op : CmpOp} (h : op ≠ .In := by decide) (h2 : op ≠ .NotIn := by decide) : behindInMarks op b = false := by
  have e1 : (op == CmpOp.In) = false := by cases op <;> first | rfl | exact absurd rfl h
  have e2 : (op == CmpOp.NotIn) = false := by cases op <;> first | rfl | exact absurd rfl h2
  cases b <;> simp [behindInMarks, e1, e2]
/-- a comparison as a value; hm: nomark b, or (for in, not in) by with_unfolding_all rfl -/
theorem pe_cmpR {op : CmpOp} {r : R2} (ho : OpR X (compareOp op) r) (ha : PE X a ta) (hb : PE X b tb) (hm : behindInMarks op b = false) : PE X (.Compare a [op] [b] pos) (tOp r ta tb) := by
  intro pins s σ H Q I h
  exact wpAny_Compare1 (binT ha hb I h fun v u s2 x y H2 I2 rx ry q => ho pins s2 σ H2 x y v u Q I2 rx ry q) hm
/-- a reading of a value as a test -/
def tTest (t : TE) : TT := fun σ H Q => t σ H fun x H' => ∃ k, x = .bl k ∧ Q k H'
theorem pt_cmpR {op : CmpOp} {r : R2} (ho : OpR X (compareOp op) r) (ha : PE X a ta) (hb : PE X b tb) (hm : behindInMarks op b = false) : PT X (.Compare a [op] [b] pos) (tTest (tOp r ta tb)) := by
  intro pins s σ H Q I h
  refine wpAny_isTrue_Compare1 (thn (ha pins s σ H _ I h) fun v s1 ⟨x, H1, I1, r1, q1⟩ => thn (hb pins s1 σ H1 _ I1 q1) fun u s2 ⟨y, H2, I2, r2, q2⟩ =>
    thn (ho pins s2 σ H2 x y v u _ I2 r1 r2 q2) fun c s3 ⟨z, H3, I3, r3, k, e, q3⟩ => ?_) hm
  subst e
  cases r3
  exact wpAny_truthy_bool ⟨H3, I3, q3⟩
/-- a op1 b op2 c -/
def tChain (r r' : R2) (ta tb tc : TE) : TE := fun σ H Q => ta σ H fun x H1 => tb σ H1 fun y H2 => r x y H2 fun z H3 => ∃ k, z = .bl k ∧
  (if k = true then tc σ H3 fun w' H4 => r' y w' H4 Q else Q (.bl false) H3)
/-! ### truth -/
/-- a value's truth by the abstract heap -/
def TruV (K : PySem.W.Frag) (x : V) (H : Hp) (k : Bool) : Prop :=
  match x with
  | .non => k = false
  | .bl b => k = b
  | .int i => k = (i != 0)
  | .str y => y.length ≤ sizeLine ∧ k = ((y.length : Int) != 0)
  | .byt y => y.size ≤ sizeLine ∧ k = ((y.size : Int) != 0)
  | .ref p => (∃ xs, SqL K H p xs ∧ k = !xs.isEmpty) ∨ (∃ xs, SqT K H p xs ∧ k = !xs.isEmpty) ∨ ∃ kvs, H p = some (.dK kvs) ∧ k = !kvs.isEmpty
  | _ => False
theorem line63 : (sizeLine : Nat) < 2 ^ 63 := by rw [sizeLine_eq]; decide
/-! ### strs and bytes -/
def PlainIxT (b : Expr) : Prop := ∀ o i, subscripted b false o i = operate [o, i] (getItem o i)
/-! ### scalar builtins, by CallR -/
theorem vals1 {x : V} {us : List Value} (r : Vals [x] us) : ∃ u, us = [u] ∧ RelV x u := by
  cases r with
  | cons r1 r2 => cases r2; exact ⟨_, rfl, r1⟩
/-- len of a str, a bytes, a list, a tuple -/
def LenV (K : PySem.W.Frag) (x : V) (H : Hp) (n : Nat) : Prop :=
  match x with
  | .str y => y.length ≤ sizeLine ∧ n = y.length
  | .byt y => y.size ≤ sizeLine ∧ n = y.size
  | .ref p => (∃ xs, SqL K H p xs ∧ n = xs.length) ∨ ∃ xs, SqT K H p xs ∧ n = xs.length
  | _ => False
end
end L2

namespace L2
open PySem PySem.Spec PyProof.Rows

/-! ### an instance, its attributes a map -/
structure ObjM (h : Heap) (x dx C : Addr) (mA : Str → Option Value) : Prop where
  obj : h.get? x = some (PySem.W.instObj C dx)
  ns : h.Ns1 dx mA
  ne : dx ≠ x

theorem lookIn_ns {h : Heap} {dx : Addr} {mA : Str → Option Value} (n : h.Ns1 dx mA) : ∃ od, h.get? dx = some od ∧ ∀ name, PySem.W.lookIn name od = some (mA name) := by
  obtain ⟨o, es, ep, ho, hd, hk, _, hm⟩ := n
  refine ⟨o, ho, fun name => ?_⟩
  have e := hm name
  unfold nsFind findBy at e
  rw [← Array.find?_toList] at e
  unfold PySem.W.lookIn
  rw [hd]
  dsimp only
  split
  · rename_i y q
    rw [q] at e
    exact congrArg some e
  · rename_i q
    rw [q] at e
    have a : es.toList.any (·.refKey) = false := by
      rw [List.any_eq_false]
      intro y hy
      obtain ⟨z, t, hkey⟩ := hk y (Array.mem_toList_iff.mp hy)
      simp [DictEntry.refKey, hkey]
    have a' : ¬ es.toList.any (·.refKey) = true := by rw [a]; exact Bool.false_ne_true
    rw [if_neg a']
    exact congrArg some e

theorem ObjM.look {h : Heap} {x dx C : Addr} {mA : Str → Option Value} (I : ObjM h x dx C mA) : ∃ od, PySem.W.InstAt h x (PySem.W.instObj C dx) C (some od) ∧ ∀ name, PySem.W.lookIn name od = some (mA name) :=
  let ⟨od, ho, hl⟩ := lookIn_ns I.ns
  ⟨od, ⟨I.obj, rfl, rfl, ho⟩, hl⟩

section
variable {prog : Program} {w : World} {A : Around} {E : Value → Shared → Prop} {s : Shared} {K : PySem.W.Frag} {x dx C f : Addr} {mA : Str → Option Value} {name : Str} {v : Value}

theorem get_map {expr : Bool} {Q : Value → Shared → Prop} (X : K.In s.heap) (I : ObjM s.heap x dx C mA) (hg : PySem.W.plainGet K C name = true) (hh : PySem.W.hasDictIn K C = true)
    (ha : PySem.W.findIn K (.ref C) name = some none) (hv : mA name = some v) (hv' : PySem.W.handedIn v = true) (h : Q v { s with toks := s.toks + 1 }) :
    wpAny (model prog w) A (getAttr (.ref x) name expr) Q E s := by
  obtain ⟨od, J, hl⟩ := I.look
  exact PySem.W.get_value X J (PySem.W.plainGet_of hg).1 (PySem.W.findObj_own hh ha rfl (by rw [hl, hv])) hv' h

theorem get_meth {pl : Sem Bool} {Q : Value × List Value → Shared → Prop} (X : K.In s.heap) (I : ObjM s.heap x dx C mA) (hg : PySem.W.plainGet K C name = true)
    (hf : PySem.W.findIn K (.ref C) name = some (some (.ref f))) (ht : PySem.W.isFn K (.ref f) = true) (hv : mA name = none) (h : Q (.ref f, [.ref x]) s) :
    wpAny (model prog w) A (getMethod (.ref x) name pl) Q E s := by
  obtain ⟨od, J, hl⟩ := I.look
  exact PySem.W.method_fn X J (PySem.W.plainGet_of hg).1 (PySem.W.plainGet_of hg).2 hf (beq_iff_eq.mp ht) (by show (PySem.W.lookIn name od).map (·.isSome) = some false; rw [hl, hv]; rfl) h

theorem set_map {ns : List Str} {Q : Unit → Shared → Prop} (X : K.In s.heap) (I : ObjM s.heap x dx C mA)
    (hs : PySem.W.findIn K (.ref C) "__setattr__" = some (some (.builtin "object.__setattr__"))) (hp : PySem.W.plainOver K C = true) (ht : PySem.W.takerIn K C name = some none) (hh : PySem.W.hasDictIn K C = true)
    (hw : PySem.Within mA ns) (hsz : ns.length ≤ sizeLine)
    (h : ∀ h', ObjM h' x dx C (fun y => if y = name then some v else mA y) → Heap.SameBut dx s.heap h' → Q () { s with heap := h', toks := s.toks + 2 }) :
    wpAny (model prog w) A (setAttr (.ref x) name v) Q E s := by
  obtain ⟨od, J, hl⟩ := I.look
  refine PySem.W.set_plain X J hs (PySem.W.osa_open (s := { s with toks := s.toks + 1 }) (r := none) X J hp ht fun b => ?_)
  obtain ⟨cd, hc, hd'⟩ := PySem.W.any_some hh
  have hx : s.heap.get? x = some ⟨.ref C, some dx, .plain, #[]⟩ := I.obj
  refine wpAny_bind (wpAny_pure (wpAny_bind (wpAny_bind (wpAny_loadPart hx (wpAny_bind (PySem.W.Looks.here (s := { s with toks := s.toks + 1 }) (PySem.W.looks_clsIn X hc) ?_))))))
  rw [hd']
  refine wpAny_pure (a := some dx) (wpAny_bind (wpAny_pure (wpAny_bind ?_)))
  refine wpAny_nsSet1 (s := { s with toks := s.toks + 1 }) I.ns fun h' hn2 hs2 => ?_
  obtain ⟨oD, esD, epD, hoD, hdD, hcD⟩ := hn2.count (PySem.Within.cons name v hw)
  refine wpAny_bind (wpAny_lookBehind hoD (by rw [hdD]; exact pastItsLine_dict (Nat.le_trans hcD (by rw [List.length_cons]; omega))) ?_)
  exact wpAny_pure (h _ ⟨(hs2.2 _ (Ne.symm I.ne)).trans I.obj, hn2, I.ne⟩ hs2)

/-- C(..): the dict at the heap's end, the instance behind it; then its __init__ -/
theorem make_map {R : Result → Shared → Prop} {vs : List Value} {kw : List (Str × Value)} (X : K.In s.heap) (hm : PySem.W.makesIn K C = true)
    (hi : PySem.W.findIn K (.ref C) "__init__" = some (some (.ref f))) (hf : PySem.W.typeIn K (.ref f) = some (.type "function"))
    (h : codeAny (model prog w) (A.under (.builtin "type.__call__" ⟨.ref C :: vs, kw⟩)) (.call (.ref f) ⟨.ref (s.heap.objs.size + 1) :: vs, kw⟩) (PySem.W.InitBack (s.heap.objs.size + 1) R)
      { s with heap := (s.heap.push PySem.W.emptyDict).push (PySem.W.instObj C s.heap.objs.size) }) :
    codeAny (model prog w) A (.call (.ref C) ⟨vs, kw⟩) R s := by
  obtain ⟨hh, g, d, t, os⟩ := s
  exact PySem.W.make_core (PySem.W.makes_of X hm) (PySem.W.looks_findIn X hi) (fun self => PySem.W.bind_fn X self hf) (.inl rfl) h
end

/-! ### the attributes as a list of pairs -/
def putF (f : Str) (v : V) : List (Str × V) → List (Str × V)
  | [] => [(f, v)]
  | (g, x) :: r => if g = f then (g, v) :: r else (g, x) :: putF f v r
theorem lookup_putF (f g : Str) (v : V) : ∀ fs : List (Str × V), (putF f v fs).lookup g = if g = f then some v else fs.lookup g
  | [] => by
    show List.lookup g [(f, v)] = _
    by_cases h : g = f
    · have hb : (g == f) = true := beq_iff_eq.mpr h
      simp only [List.lookup, hb, if_pos h]
    · have hb : (g == f) = false := beq_eq_false_iff_ne.mpr h
      simp only [List.lookup, hb, if_neg h]
  | (k, x) :: r => by
    have ih := lookup_putF f g v r
    rw [show putF f v ((k, x) :: r) = (if k = f then (k, v) :: r else (k, x) :: putF f v r) from rfl]
    by_cases hk : k = f
    · rw [if_pos hk]
      by_cases h : g = k
      · have hb : (g == k) = true := beq_iff_eq.mpr h
        simp only [List.lookup, hb, if_pos (h.trans hk)]
      · have hb : (g == k) = false := beq_eq_false_iff_ne.mpr h
        simp only [List.lookup, hb, if_neg (fun e : g = f => h (e.trans hk.symm))]
    · rw [if_neg hk]
      by_cases h : g = k
      · have hb : (g == k) = true := beq_iff_eq.mpr h
        simp only [List.lookup, hb, if_neg (fun e : g = f => hk (h.symm.trans e))]
      · have hb : (g == k) = false := beq_eq_false_iff_ne.mpr h
        simp only [List.lookup, hb]
        exact ih
theorem keys_putF (f : Str) (v : V) : ∀ fs : List (Str × V), f ∈ (putF f v fs).map (·.1) ∧ ∀ g, g ∈ fs.map (·.1) → g ∈ (putF f v fs).map (·.1)
  | [] => ⟨by simp [putF], fun g h => by simp at h⟩
  | (k, x) :: r => by
    obtain ⟨i1, i2⟩ := keys_putF f v r
    rw [show putF f v ((k, x) :: r) = (if k = f then (k, v) :: r else (k, x) :: putF f v r) from rfl]
    by_cases hk : k = f
    · rw [if_pos hk]
      subst hk
      exact ⟨by simp, fun g h => by simpa using h⟩
    · rw [if_neg hk]
      refine ⟨?_, fun g h => ?_⟩
      · rw [List.map_cons]
        exact List.mem_cons_of_mem _ i1
      · rw [List.map_cons] at h ⊢
        rcases List.mem_cons.mp h with e | e
        · exact List.mem_cons.mpr (.inl e)
        · exact List.mem_cons_of_mem _ (i2 g e)
theorem length_putF (f : Str) (v : V) : ∀ fs : List (Str × V), (putF f v fs).length ≤ fs.length + 1
  | [] => by simp [putF]
  | (k, x) :: r => by
    have ih := length_putF f v r
    rw [show putF f v ((k, x) :: r) = (if k = f then (k, v) :: r else (k, x) :: putF f v r) from rfl]
    by_cases hk : k = f
    · rw [if_pos hk, List.length_cons, List.length_cons]; omega
    · rw [if_neg hk, List.length_cons, List.length_cons]; omega

theorem RelO.some_of {v : V} {o : Option Value} (r : RelO (some v) o) : ∃ u, o = some u ∧ RelV v u := by
  cases o with
  | none => exact (show False from r).elim
  | some u => exact ⟨u, rfl, r⟩
theorem RelO.none_of {o : Option Value} (r : RelO none o) : o = none := by
  cases o with
  | none => rfl
  | some u => exact (show False from r).elim
theorem handed_of {v : V} {u : Value} (r : RelV v u) : PySem.W.handedIn u = true := by
  cases v with
  | non => cases (show u = Value.none from r); rfl
  | bl b => cases (show u = Value.bool b from r); rfl
  | int i => obtain ⟨t, e⟩ := (show ∃ t, u = Value.int i t from r); cases e; rfl
  | str x => obtain ⟨t, e⟩ := (show ∃ t, u = Value.str x t from r); cases e; rfl
  | byt b => obtain ⟨t, e⟩ := (show ∃ t, u = Value.bytes b t from r); cases e; rfl
  | flt b => obtain ⟨t, e⟩ := (show ∃ t, u = Value.float b t from r); cases e; rfl
  | ref a => cases (show u = Value.ref a from r); rfl
  | ty n => cases (show u = Value.type n from r); rfl

section
variable {P : Program} {w : World} {H H' : Hp} {h h' : Heap} {a C dx : Addr} {fs fs' : List (Str × V)}
theorem ins_get (hok : HOk P w H h) (e : H a = some (.ins C dx fs)) : ∃ mA, ObjM h a dx C mA ∧ (∀ f, RelO (fs.lookup f) (mA f)) ∧ PySem.Within mA (fs.map (·.1)) ∧ fs.length ≤ 1000 ∧ H dx = some (.own a) := by
  obtain ⟨d, z, ne, ob, mA, n, r, q⟩ := (show ObjOk P w H h a (.ins C dx fs) from hok a _ e)
  exact ⟨mA, ⟨ob, n, ne⟩, r, q, z, d⟩
end

/-! ### what of the text a class must have -/
structure Cls (K : PySem.W.Frag) (C : Addr) : Prop where
  pg : PySem.W.plainGet K C Str.empty = true
  hd : PySem.W.hasDictIn K C = true
  po : PySem.W.plainOver K C = true
  sa : PySem.W.findIn K (.ref C) "__setattr__" = some (some (.builtin "object.__setattr__"))
theorem Cls.get {K : PySem.W.Frag} {C : Addr} (c : Cls K C) (f : Str) : PySem.W.plainGet K C f = true := c.pg
/-- no class of it has the name -/
def NoAttr (K : PySem.W.Frag) (C : Addr) (f : Str) : Prop := PySem.W.findIn K (.ref C) f = some none
theorem NoAttr.taker {K : PySem.W.Frag} {C : Addr} {f : Str} (n : NoAttr K C f) : PySem.W.takerIn K C f = some none := by
  unfold PySem.W.takerIn
  rw [show PySem.W.findIn K (.ref C) f = some none from n]
  rfl
/-- a constant of the class -/
structure Con (K : PySem.W.Frag) (C : Addr) (f : Str) (v : V) (u : Value) : Prop where
  at_ : PySem.W.findIn K (.ref C) f = some (some u)
  rel : RelV v u
  get : PySem.W.specialIn K u "__get__" = some none
  cp : PySem.W.copiedNames.contains f = false
/-- a method: a plain def of the class or of one above it -/
structure Meth (K : PySem.W.Frag) (C : Addr) (m : Str) (f : Addr) : Prop where
  at_ : PySem.W.findIn K (.ref C) m = some (some (.ref f))
  fn : PySem.W.isFn K (.ref f) = true
  kp : PySem.W.keepIn K (.ref f) = true

section
variable {X : Cx} {pins : List (Addr × Obj)} {σ : St} {H : Hp} {s : Shared} {a C dx : Addr} {fs : List (Str × V)} {f : Str} {v : V} {A : Around} {E : Value → Shared → Prop}

theorem getattr_ok {b : Bool} {Q : Value → Shared → Prop} (I : Inv X pins σ H s) (e : H a = some (.ins C dx fs)) (c : Cls X.K C) (n : NoAttr X.K C f) (l : fs.lookup f = some v)
    (h : ∀ u s', Inv X pins σ H s' → RelV v u → Q u s') : wpAny (model X.prog X.w) A (getAttr (.ref a) f b) Q E s := by
  obtain ⟨mA, O, r, _, _, _⟩ := ins_get I.hok e
  obtain ⟨u, hu, ru⟩ := RelO.some_of (v := v) (o := mA f) (by rw [← l]; exact r f)
  exact get_map I.kIn O (c.get f) c.hd n hu (handed_of ru) (h u _ (I.tok _) ru)

theorem getmeth_ok {m : Str} {g : Addr} {pl : Sem Bool} {Q : Value × List Value → Shared → Prop} (I : Inv X pins σ H s) (e : H a = some (.ins C dx fs)) (c : Cls X.K C) (k : Meth X.K C m g) (l : fs.lookup m = none)
    (h : Q (.ref g, [.ref a]) s) : wpAny (model X.prog X.w) A (getMethod (.ref a) m pl) Q E s := by
  obtain ⟨mA, O, r, _, _, _⟩ := ins_get I.hok e
  have hn : mA m = none := RelO.none_of (by rw [← l]; exact r m)
  exact get_meth I.kIn O (c.get m) k.at_ k.fn hn h

theorem setattr_ok {y : V} {u : Value} {Q : Unit → Shared → Prop} (I : Inv X pins σ H s) (e : H a = some (.ins C dx fs)) (c : Cls X.K C) (n : NoAttr X.K C f) (hl : fs.length < 1000) (ry : RelV y u)
    (h : ∀ s', Inv X pins σ (upd H a (.ins C dx (putF f y fs))) s' → Q () s') : wpAny (model X.prog X.w) A (setAttr (.ref a) f u) Q E s := by
  obtain ⟨mA, O, r, wi, _, ho⟩ := ins_get I.hok e
  have hz : (fs.map (·.1)).length ≤ sizeLine := by rw [List.length_map, sizeLine_eq]; omega
  refine set_map I.kIn O c.sa c.po n.taker c.hd wi hz fun h' O' sb => h _ ?_
  have hd : ∃ o, h'.get? dx = some o := let ⟨o, _, _, e', _⟩ := O'.ns; ⟨o, e'⟩
  refine I.write (x := a) (e := dx) (by rw [e]; exact True.intro) (.inr ho) (fun b q hb z => (sb.2 b hb).trans z) hd ?_
  refine ⟨by rw [upd_ne O.ne]; exact ho, ?_, O.ne, O'.obj, _, O'.ns, fun g => ?_, fun g hg => ?_⟩
  · have := length_putF f y fs; omega
  · show RelO ((putF f y fs).lookup g) (if g = f then some u else mA g)
    rw [lookup_putF]
    by_cases q : g = f
    · rw [if_pos q, if_pos q]; exact ry
    · rw [if_neg q, if_neg q]; exact r g
  · by_cases q : g = f
    · rw [q]; exact (keys_putF f y fs).1
    · refine (keys_putF f y fs).2 g (wi g fun z => hg ?_)
      show (if g = f then some u else mA g) = none
      rw [if_neg q]; exact z

/-- a new instance, tracked, without attributes -/
theorem Inv.made (I : Inv X pins σ H s) : Inv X pins σ (upd (upd H s.heap.objs.size (.own (s.heap.objs.size + 1))) (s.heap.objs.size + 1) (.ins C s.heap.objs.size []))
    { s with heap := (s.heap.push PySem.W.emptyDict).push (PySem.W.instObj C s.heap.objs.size) } := by
  have e1 : (s.heap.push PySem.W.emptyDict).get? s.heap.objs.size = some PySem.W.emptyDict := Heap.get?_push_size s.heap rfl
  have e2 : ((s.heap.push PySem.W.emptyDict).push (PySem.W.instObj C s.heap.objs.size)).get? (s.heap.objs.size + 1) = some (PySem.W.instObj C s.heap.objs.size) := by
    have := Heap.get?_push_size (s.heap.push PySem.W.emptyDict) (o := PySem.W.instObj C s.heap.objs.size) rfl
    rwa [Heap.size_push] at this
  have e3 : (s.heap.push PySem.W.emptyDict).Ns s.heap.objs.size (fun _ => none) := ⟨PySem.W.emptyDict, #[], _, e1, rfl, (fun e he => absurd he (by simp)), fun _ => rfl⟩
  have I1 := I.laid (a := s.heap.objs.size) (o := .own (s.heap.objs.size + 1)) (h' := s.heap.push PySem.W.emptyDict) (t' := s.toks) (fun b u q => Heap.get?_push_of_some _ q) (Nat.le_refl _) ⟨_, e1⟩
  refine I1.laid (a := s.heap.objs.size + 1) (o := .ins C s.heap.objs.size []) (t' := s.toks) (fun b u q => Heap.get?_push_of_some _ q) (Nat.le_of_eq (Heap.size_push _ _)) ?_
  have ne : s.heap.objs.size ≠ s.heap.objs.size + 1 := Nat.ne_of_lt (Nat.lt_succ_self _)
  refine ⟨by rw [upd_ne ne, upd_same], Nat.zero_le _, ne, e2, fun _ => none, (Heap.Ns1.of_empty e3).at fun o q => Heap.get?_push_of_some _ q, fun _ => True.intro, fun y hy => absurd rfl hy⟩

/-- e.f where nothing but the object is asked: through attributeBase (super) and the last hold -/
theorem attr_of {prog : Program} {w : World} {env : Env} {e : Expr} {f : Str} {pos : Pos} {s : Shared} {Q : Value → Shared → Prop} (hb : attributeBase e f env (eval e env) = eval e env)
    (h : wpAny (model prog w) A (eval e env) (fun o s₁ => wpAny (model prog w) A (getAttr o f true) Q E s₁) E s) : wpAny (model prog w) A (eval (.Attribute e f pos) env) Q E s :=
  Attribute_any_ h (by rw [arm_eval_Attribute, hb])
end

/-! ### readings and rules -/
/-- e.f, an attribute of the instance -/
def tFld (K : PySem.W.Frag) (ta : TE) (f : Str) : TE := fun σ H Q => ta σ H fun x H1 => ∃ a C dx fs v, x = .ref a ∧ H1 a = some (.ins C dx fs) ∧ Cls K C ∧ NoAttr K C f ∧ fs.lookup f = some v ∧ Q v H1
/-- e.f, a constant of the class -/
def tCon (K : PySem.W.Frag) (ta : TE) (f : Str) : TE := fun σ H Q => ta σ H fun x H1 => ∃ a C dx fs v u, x = .ref a ∧ H1 a = some (.ins C dx fs) ∧ Cls K C ∧ Con K C f v u ∧ fs.lookup f = none ∧ Q v H1
/-- e.f = value -/
def sFld (K : PySem.W.Frag) (ta tv : TE) (f : Str) : TS := fun D σ H => tv σ H fun y H1 => ta σ H1 fun x H2 => ∃ a C dx fs, x = .ref a ∧ H2 a = some (.ins C dx fs) ∧ Cls K C ∧ NoAttr K C f ∧ fs.length < 1000 ∧
  D.nx σ (upd H2 a (.ins C dx (putF f y fs)))
/-- an augmented operator on two values -/
def InOp (X : Cx) (op : Operator) (rd : V → V → Hp → VK → Prop) : Prop :=
  ∀ (pins : List (Addr × Obj)) (s : Shared) (σ : St) (H : Hp) (x y : V) (u v : Value) (Q : VK), Inv X pins σ H s → RelV x u → RelV y v → rd x y H Q → wpAny (model X.prog X.w) X.A (inplaceOp op u v) (EP X pins σ Q) X.xe s
/-- e.f op= value -/
def sFldAug (K : PySem.W.Frag) (ta tv : TE) (rd : V → V → Hp → VK → Prop) (f : Str) : TS := fun D σ H => ta σ H fun x H1 => ∃ a C dx fs v, x = .ref a ∧ H1 a = some (.ins C dx fs) ∧ Cls K C ∧ NoAttr K C f ∧ fs.lookup f = some v ∧
  tv σ H1 fun y H2 => rd v y H2 fun z H3 => ∃ dx' fs', H3 a = some (.ins C dx' fs') ∧ fs'.length < 1000 ∧ D.nx σ (upd H3 a (.ins C dx' (putF f z fs')))

section
variable {X : Cx} {o e value : Expr} {f : Str} {pos pos' tpos : Pos} {ta tv : TE}
theorem pe_fld (he : PE X e ta) (hb : attributeBase e f X.env (eval e X.env) = eval e X.env) : PE X (.Attribute e f pos) (tFld X.K ta f) := by
  intro pins s σ H Q I h
  refine attr_of hb (thn (he pins s σ H _ I h) fun u s1 ⟨x, H1, I1, rx, a, C, dx, fs, v, ex, ea, c, n, l, q⟩ => ?_)
  subst ex
  obtain rfl : u = Value.ref a := rx
  exact getattr_ok I1 ea c n l fun u' s2 I2 ru => ⟨v, H1, I2, ru, q⟩
theorem ps_fld (ha : PE X o ta) (hv : PE X value tv) (hs : swapsWith value (some (.Attribute o f pos')) pos.line X.env = pure false) : PS X (.Assign [.Attribute o f pos'] value pos) (sFld X.K ta tv f) := by
  intro pins s σ H D I h
  refine plainObj_wpAny_Assign_Attribute (thn (hv pins s σ H _ I h) fun u s1 ⟨y, H1, I1, ry, q⟩ => thn (ha pins s1 σ H1 _ I1 q) fun ov s2 ⟨x, H2, I2, rx, a, C, dx, fs, ex, ea, c, n, l, q2⟩ => ?_) hs
  subst ex
  obtain rfl : ov = Value.ref a := rx
  exact setattr_ok I2 ea c n l ry fun s3 I3 => ⟨σ, _, I3, q2⟩
def rAdd : V → V → Hp → VK → Prop := fun x y H Q => ∃ i j, x = .int i ∧ y = .int j ∧ Q (.int (i + j)) H
def rSub : V → V → Hp → VK → Prop := fun x y H Q => ∃ i j, x = .int i ∧ y = .int j ∧ Q (.int (i - j)) H
end

/-! ### isinstance -/
section
variable {X : Cx} {pins : List (Addr × Obj)} {σ : St} {H : Hp} {s : Shared} {A : Around} {E : Value → Shared → Prop} {Q : Value → Shared → Prop} {c : Value} {b : Bool}
/-- the type of a value, as the fragment's deciders take it; for an instance its class -/
inductive TyOf (K : PySem.W.Frag) (H : Hp) : V → Value → Prop where
  | non : TyOf K H .non (.type "NoneType")
  | bl (x : Bool) : TyOf K H (.bl x) (.type "bool")
  | int (i : Int) : TyOf K H (.int i) (.type "int")
  | str (x : Str) : TyOf K H (.str x) (.type "str")
  | flt (x : UInt64) : TyOf K H (.flt x) (.type "float")
  | lst {a : Addr} {xs : List V} (e : H a = some (.lst xs)) : TyOf K H (.ref a) (.type "list")
  | frz {a : Addr} {o : Obj} {xs : List V} (e : H a = some (.frz o (.lst xs))) : TyOf K H (.ref a) (.type "list")
  | tup {a : Addr} {xs : List V} (e : H a = some (.tup xs)) : TyOf K H (.ref a) (.type "tuple")
  | dK {a : Addr} {kvs : List (Key × V)} (e : H a = some (.dK kvs)) : TyOf K H (.ref a) (.type "dict")
  | dT {a : Addr} {kvs : List (List Key × V)} (e : H a = some (.dT kvs)) : TyOf K H (.ref a) (.type "dict")
  | ins {a C dx : Addr} {fs : List (Str × V)} (e : H a = some (.ins C dx fs)) (cl : Cls K C) (ha : PySem.W.findIn K (.ref C) "__class__" = some (some (.builtin "object.__class__")))
      (hn : PySem.W.specialIn K (.builtin "object.__class__") "__get__" = some (some (.builtin "getset_descriptor.__get__"))) (htk : PySem.W.takesIn K (.builtin "object.__class__") = some true)
      (hm : PySem.W.mroIn K C (.type "object") = some true) : TyOf K H (.ref a) (.ref C)
/-- isinstance(x, c) for one class c, a built-in or an own one: kitOne's answer -/
theorem isinst_ok {x : V} {u t : Value} (I : Inv X pins σ H s) (rx : RelV x u) (ty : TyOf X.K H x t) (e : PySem.W.kitOne X.K t c = some b) (h : ∀ tk, Q (.bool b) { s with toks := tk }) :
    wpAny (model X.prog X.w) A (call (.builtin "isinstance") [u, c]) Q E s := by
  cases ty with
  | non => cases (show u = Value.none from rx); exact PySem.W.kia_one PySem.W.kitx_none I.kIn True.intro e (fun z => nomatch z) h
  | bl y => cases (show u = Value.bool y from rx); exact PySem.W.kia_one PySem.W.kitx_bool I.kIn True.intro e (fun z => nomatch z) h
  | int i => obtain ⟨t, q⟩ := (show ∃ t, u = Value.int i t from rx); cases q; exact PySem.W.kia_one PySem.W.kitx_int I.kIn True.intro e (fun z => nomatch z) h
  | str y => obtain ⟨t, q⟩ := (show ∃ t, u = Value.str y t from rx); cases q; exact PySem.W.kia_one PySem.W.kitx_str I.kIn True.intro e (fun z => nomatch z) h
  | flt y => obtain ⟨t, q⟩ := (show ∃ t, u = Value.float y t from rx); cases q; exact PySem.W.kia_one PySem.W.kitx_float I.kIn True.intro e (fun z => nomatch z) h
  | @lst a xs ea =>
    cases (show u = Value.ref a from rx)
    obtain ⟨_, _, n, _, h1⟩ := (show ObjOk X.prog X.w H s.heap a (.lst xs) from I.hok a _ ea)
    exact PySem.W.kia_one PySem.W.kitx_list I.kIn ⟨_, h1, rfl⟩ e (fun z => nomatch z) h
  | @frz a ob xs ea =>
    cases (show u = Value.ref a from rx)
    obtain ⟨_, _, _, n, _, h1⟩ := (show ObjOk X.prog X.w H s.heap a (.frz ob (.lst xs)) from I.hok a _ ea)
    exact PySem.W.kia_one PySem.W.kitx_list I.kIn ⟨_, h1, rfl⟩ e (fun z => nomatch z) h
  | @tup a xs ea =>
    cases (show u = Value.ref a from rx)
    obtain ⟨_, _, _, p⟩ := (show ObjOk X.prog X.w H s.heap a (.tup xs) from I.hok a _ ea)
    obtain ⟨o, h1, h2, _⟩ := p
    exact PySem.W.kia_one PySem.W.kitx_tuple I.kIn ⟨o, h1, h2⟩ e (fun z => nomatch z) h
  | @dK a kvs ea =>
    cases (show u = Value.ref a from rx)
    obtain ⟨_, _, vs, _, p⟩ := (show ObjOk X.prog X.w H s.heap a (.dK kvs) from I.hok a _ ea)
    obtain ⟨o, es, ep, h1, h2, _⟩ := p
    exact PySem.W.kia_one PySem.W.kitx_dict I.kIn ⟨o, h1, h2.1⟩ e (fun z => nomatch z) h
  | @dT a kvs ea =>
    cases (show u = Value.ref a from rx)
    obtain ⟨_, _, xs, _, o, es, ep, h1, h2, _⟩ := (show ObjOk X.prog X.w H s.heap a (.dT kvs) from I.hok a _ ea)
    exact PySem.W.kia_one PySem.W.kitx_dict I.kIn ⟨o, h1, h2.1⟩ e (fun z => nomatch z) h
  | @ins a C dx fs ea cl ha hn htk hm =>
    cases (show u = Value.ref a from rx)
    obtain ⟨mA, O, _⟩ := ins_get I.hok ea
    obtain ⟨od, J, _⟩ := O.look
    exact PySem.W.kia_one (PySem.W.kitx_own (cl.get _) cl.hd ha hn htk hm) I.kIn J e (fun z => nomatch z) h
end
end L2

namespace L2
open PySem PySem.Spec PyProof.Rows

/-! ### room -/
structure Room (k : Nat) (A : Around) : Prop where
  hd : A.handled = none
  dp : A.depth + 3 * k + 5 < recursionLimit
  un : A.units + 16 * k + 200 < cLine
theorem Room.mono {j k : Nat} {A : Around} (r : Room k A) (h : j ≤ k) : Room j A := ⟨r.hd, by have := r.dp; omega, by have := r.un; omega⟩
theorem Room.deeper {k : Nat} {A : Around} (r : Room (k + 1) A) (env : Env) : Room k (A.deeper env) :=
  ⟨r.hd, by have := r.dp; show A.depth + 1 + 3 * k + 5 < _; omega, by have := r.un; show A.units + 3 + 16 * k + 200 < _; omega⟩
theorem make_depth {A : Around} {C : Addr} {us : List Value} {kw : List (Str × Value)} : (A.under (.builtin "type.__call__" ⟨.ref C :: us, kw⟩)).depth = A.depth + 1 := by
  first | rfl | simp [Around.under, Code.weight, Code.isCreation, Code.isGuard, Code.isCaller, Code.frames, Code.isFrame, guardIds]
theorem make_units {A : Around} {C : Addr} {us : List Value} {kw : List (Str × Value)} : (A.under (.builtin "type.__call__" ⟨.ref C :: us, kw⟩)).units = A.units + 1 := by
  first | rfl | simp [Around.under, Code.cUnits, Code.frames, Code.isFrame]
theorem Room.make {k : Nat} {A : Around} (r : Room (k + 1) A) (C : Addr) (us : List Value) (kw : List (Str × Value)) : Room k (A.under (.builtin "type.__call__" ⟨.ref C :: us, kw⟩)) :=
  ⟨r.hd, by have := r.dp; rw [make_depth]; omega, by have := r.un; rw [make_units]; omega⟩
theorem Room.depth {k : Nat} {A : Around} (r : Room k A) : A.depth < recursionLimit := by have := r.dp; omega
theorem Room.units {k : Nat} {A : Around} (r : Room k A) : A.units + 64 < cLine := by have := r.un; omega
/-! ### argument lists and displays -/
def tNil : TA := fun _ H Q => Q [] H
def tCons (ta : TE) (tr : TA) : TA := fun σ H Q => ta σ H fun x H1 => tr σ H1 fun xs H2 => Q (x :: xs) H2
section
variable {X : Cx} {e : Expr} {es : List Expr} {te : TE} {t : TA} {pos : Pos}
theorem pa_nil : PA X [] tNil := fun _ _ _ _ H Q I h => Calls.spliced_nil ⟨[], H, I, .nil, h⟩
theorem pa_cons (ha : PE X e te) (hr : PA X es t) (hs : starEach (e :: es) X.env = (false, eval e X.env) :: starEach es X.env := by rfl) : PA X (e :: es) (tCons te t) := by
  intro pos pins s σ H Q I h
  rw [hs]
  show wpAny _ _ (spliced ((false, eval e X.env) :: backTo pos (starEach es X.env))) _ _ s
  refine Calls.spliced_cons (thn (ha pins s σ H _ I h) fun u s1 ⟨x, H1, I1, r1, q1⟩ => ?_)
  exact thn (hr pos pins s1 σ H1 _ I1 q1) fun us s2 ⟨xs, H2, I2, r2, q2⟩ => ⟨x :: xs, H2, I2, .cons r1 r2, q2⟩

/-- a tuple, a list of written items -/
def tTup (t : TA) : TE := fun σ H Q => t σ H fun xs H1 => xs.length ≤ sizeLine ∧ ∀ p, H1 p = none → Q (.ref p) (upd H1 p (.tup xs))
def tLst (t : TA) : TE := fun σ H Q => t σ H fun xs H1 => xs.length ≤ sizeLine ∧ ∀ p, H1 p = none → Q (.ref p) (upd H1 p (.lst xs))
theorem pe_tup {x1} (h : PA X es t) : PE X (.Tuple es x1 pos) (tTup t) := by
  intro pins s σ H Q I hq
  refine wpAny_Tuple_spliced (thn (h pos pins s σ H _ I hq) fun us s1 ⟨xs, H1, I1, r, z, q⟩ => ⟨by rw [← r.length]; exact z, ?_⟩)
  have hf : H1 s1.heap.objs.size = none := I1.hok.fresh (Nat.le_refl _)
  refine ⟨.ref s1.heap.objs.size, upd H1 s1.heap.objs.size (.tup xs), I1.laid (t' := s1.toks) (fun b u e => Heap.get?_push_of_some _ e) (Nat.le_refl _) ?_, rfl, q _ hf⟩
  exact ⟨z, us, r, ⟨_, Heap.get?_push_size _ rfl, rfl, _, rfl⟩⟩
theorem pe_lst (h : PA X es t) : PE X (.List es pos) (tLst t) := by
  intro pins s σ H Q I hq
  refine wpAny_List_spliced (thn (h pos pins s σ H _ I hq) fun us s1 ⟨xs, H1, I1, r, z, q⟩ => ⟨by rw [← r.length]; exact z, ?_⟩)
  have hf : H1 s1.heap.objs.size = none := I1.hok.fresh (Nat.le_refl _)
  refine ⟨.ref s1.heap.objs.size, upd H1 s1.heap.objs.size (.lst xs), I1.laid (t' := s1.toks) (fun b u e => Heap.get?_push_of_some _ e) (Nat.le_refl _) ?_, rfl, q _ hf⟩
  exact ⟨z, us, 0, r, Heap.get?_push_size _ rfl⟩
end

/-! ### what a def promises -/
/-- a def's promise: the bound arguments in the parameters' order, the heap, the wanted end, the wanted exception -/
abbrev Sp := List V → Hp → VK → XK → Prop
/-- how an exception lies behind a call (file 08 gives it): the callers' frames, abstract heap and state ahead of the call, the wish, the exception, the state -/
abbrev CXT := List Env → Hp → Shared → XK → Value → Shared → Prop

/-- the state at a call -/
structure Env0 (P : Program) (w : World) (K : PySem.W.Frag) (mg : Str → Option Value) (base : Heap) (A : Around) (outer : List Env) (s : Shared) (H : Hp) : Prop where
  frames : A.frames = some outer
  mod : Mod K mg base
  bs : ∀ b o, base.get? b = some o → s.heap.get? b = some o ∧ H b = none
  bsz : base.objs.size ≤ s.heap.objs.size
  funs : s.heap.FunFrames base outer
  frf : ∀ b ∈ frs outer, H b = none
  hok : HOk P w H s.heap
  bare : AllBare s.gens
/-- a call's end -/
def CE (outer : List Env) (P : Program) (w : World) (H : Hp) (s : Shared) (Q : VK) (u : Value) (s' : Shared) : Prop :=
  ∃ v H', s'.os = s.os ∧ AllBare s'.gens ∧ Un (frs outer) [] H H' s.heap s'.heap ∧ HOk P w H' s'.heap ∧ RelV v u ∧ Q v H'
def CR (CX : CXT) (outer : List Env) (P : Program) (w : World) (H : Hp) (s : Shared) (Q : VK) (E : XK) (r : Result) (s' : Shared) : Prop :=
  match r with
  | .ok (.ret u) => CE outer P w H s Q u s'
  | .ok _ => False
  | .error e => CX outer H s E e s'
structure FnOk (P : Program) (w : World) (K : PySem.W.Frag) (mg : Str → Option Value) (base : Heap) (CX : CXT) (k : Nat) (f : Addr) (fd : FuncData) (ps : List Str) (sp : Sp) : Prop where
  len : ∀ vs H Q E, sp vs H Q E → vs.length = ps.length
  run : ∀ (A : Around) (outer : List Env) (s : Shared) (H : Hp) (args : Args) (us : List Value) (vs : List V) (Q : VK) (E : XK), Room k A → Env0 P w K mg base A outer s H → BindsTo s fd args (ps.zip us) → Vals vs us → sp vs H Q E →
    codeAny (model P w) A (.call (.ref f) args) (CR CX outer P w H s Q E) s
theorem FnOk.mono {P : Program} {w : World} {K : PySem.W.Frag} {mg : Str → Option Value} {base : Heap} {CX : CXT} {j k : Nat} {f : Addr} {fd : FuncData} {ps : List Str} {sp : Sp} (F : FnOk P w K mg base CX j f fd ps sp) (h : j ≤ k) :
    FnOk P w K mg base CX k f fd ps sp := ⟨F.len, fun A outer s H args us vs Q E hr => F.run A outer s H args us vs Q E (hr.mono h)⟩
theorem Env0.make {P : Program} {w : World} {K : PySem.W.Frag} {mg : Str → Option Value} {base : Heap} {A : Around} {outer : List Env} {s : Shared} {H : Hp} (e : Env0 P w K mg base A outer s H) (C : Addr) (us : List Value) (kw : List (Str × Value)) :
    Env0 P w K mg base (A.under (.builtin "type.__call__" ⟨.ref C :: us, kw⟩)) outer s H := ⟨by first | exact e.frames | (simpa [Around.under, Code.envs, Code.isFrame, pushEnvs] using e.frames), e.mod, e.bs, e.bsz, e.funs, e.frf, e.hok, e.bare⟩
section
variable {X : Cx} {pins : List (Addr × Obj)} {σ : St} {H : Hp} {s s' : Shared}
/-- from a body: what a callee wants -/
theorem Inv.env0 (I : Inv X pins σ H s) : Env0 X.prog X.w X.K X.mg X.base X.A X.stack s H :=
  ⟨I.ok.frames, I.ok.mod, I.bs, Nat.le_trans I.ok.bsz I.sz, I.stack, I.stkFree, I.hok, I.bare⟩
/-- behind a call -/
theorem Inv.after {Q : VK} {u : Value} (I : Inv X pins σ H s) (h : CE X.stack X.prog X.w H s Q u s') : EP X pins σ Q u s' := by
  obtain ⟨v, H', os, bare, un, hok, r, q⟩ := h
  obtain ⟨hh, g, d, t, os'⟩ := s'
  obtain rfl : os' = s.os := os
  exact ⟨v, H', I.call (h' := hh) (g' := g) (d' := d) (t' := t) (ch := []) un hok bare (fun b z => absurd z (by simp)), r, q⟩
end

/-! ### calls -/
/-- f(..): the written arguments, then the defaults dvs; E: what is wanted of an exception -/
def tCall (sp : Sp) (dvs : List V) (E : XK) (t : TA) : TE := fun σ H Q => t σ H fun vs H1 => sp (vs ++ dvs) H1 Q E
/-- o.m(..) of an instance of the class at C -/
def tMeth (C : Addr) (m : Str) (sp : Sp) (dvs : List V) (E : XK) (ta : TE) (t : TA) : TE := fun σ H Q => ta σ H fun x H1 => ∃ a dx fs, x = .ref a ∧ H1 a = some (.ins C dx fs) ∧ fs.lookup m = none ∧
  t σ H1 fun vs H2 => sp (x :: (vs ++ dvs)) H2 Q E
/-- C(..): a new instance and its dict, then __init__ -/
def tMake (C : Addr) (sp : Sp) (dvs : List V) (E : XK) (t : TA) : TE := fun σ H Q => t σ H fun vs H1 => ∀ x dx, H1 x = none → H1 dx = none → dx ≠ x →
  sp (.ref x :: (vs ++ dvs)) (upd (upd H1 dx (.own x)) x (.ins C dx [])) (fun v H2 => v = .non ∧ Q (.ref x) H2) E

/-- how the parameters are bound: us the positional arguments, kw the keywords' values by name, ds the defaults that fill up -/
def Binds (K : PySem.W.Frag) (fd : FuncData) (ps : List Str) (ds : List Value) : Prop :=
  ∀ (s : Shared) (us : List Value), K.In s.heap → (us ++ ds).length = ps.length → BindsTo s fd ⟨us, []⟩ (ps.zip (us ++ ds))
/-- every parameter is given -/
theorem Binds.all {K : PySem.W.Frag} {fd : FuncData} {ps : List Str} (h : ∀ us : List Value, us.length = ps.length → bindArgs fd ⟨us, []⟩ = pure (ps.zip us)) : Binds K fd ps [] := fun s us _ hl => by
  rw [List.append_nil] at hl ⊢
  exact .of_eq (h us hl)

/-- an exception of a callee reaches what this body wants of exceptions -/
def Passes (CX : CXT) (X : Cx) (E : XK) : Prop := ∀ (pins : List (Addr × Obj)) (σ : St) (H : Hp) (s : Shared) (e : Value) (s' : Shared), Inv X pins σ H s → CX X.stack H s E e s' → X.xe e s'

section
variable {X : Cx} {CX : CXT} {k : Nat} {f C : Addr} {fd : FuncData} {ps : List Str} {sp : Sp} {dvs : List V} {ds : List Value} {E : XK} {x m : Str} {p pos apos : Pos} {e o : Expr} {es : List Expr} {ta : TE} {t : TA}

/-- the callee runs -/
theorem run_fn {pins : List (Addr × Obj)} {σ : St} {H : Hp} {s : Shared} {Q : VK} {us : List Value} {vs : List V} (F : FnOk X.prog X.w X.K X.mg X.base CX k f fd ps sp) (hr : Room k X.A) (hb : Binds X.K fd ps ds) (hd : Vals dvs ds) (hx : Passes CX X E)
    (I : Inv X pins σ H s) (r : Vals vs us) (h : sp (vs ++ dvs) H Q E) : wpAny (model X.prog X.w) X.A (call (.ref f) us) (EP X pins σ Q) X.xe s := by
  have r2 : Vals (vs ++ dvs) (us ++ ds) := r.append hd
  have hl : (us ++ ds).length = ps.length := by rw [← r2.length]; exact F.len _ _ _ _ h
  refine wpAny_call (codeAny_mono (F.run X.A X.stack s H ⟨us, []⟩ (us ++ ds) (vs ++ dvs) Q E hr I.env0 (hb s us I.kIn hl) r2 h) fun r s' hq => ?_)
  cases r with
  | error e => exact hx pins σ H s e s' I hq
  | ok fl =>
    cases fl with
    | ret u => exact I.after hq
    | next => exact False.elim hq
    | brk => exact False.elim hq
    | cont => exact False.elim hq

theorem pe_call (F : FnOk X.prog X.w X.K X.mg X.base CX k f fd ps sp) (hr : Room k X.A) (hg : Gl X x) (hm : X.mg x = some (.ref f)) (hk : PySem.W.keepIn X.K (.ref f) = true) (hb : Binds X.K fd ps ds) (hd : Vals dvs ds) (hx : Passes CX X E)
    (ha : PA X (e :: es) t) (hdb : (x == ("__debug__" : Str)) = false := by decide) (he : starEach (e :: es) X.env = (false, eval e X.env) :: starEach es X.env := by rfl) (hpl : (backTo pos (starEach es X.env)).any (·.1) = false := by rfl) :
    PE X (.Call (.Name x p) (e :: es) [] pos) (tCall sp dvs E t) := by
  intro pins s σ H Q I h
  refine wpAny_Call_Name_kw (ld_glob I hg hm ?_ hdb)
  refine PySem.W.callWith_K (h₀ := X.base) I.ok.mod.kin hk (thn (ha pos pins s σ H _ I h) fun us s1 ⟨vs, H1, I1, r, q⟩ => ⟨I1.kIn, ?_⟩) he hpl
  exact run_fn F hr hb hd hx I1 r q
/-- what a class must have to be made -/
structure Mk (K : PySem.W.Frag) (C f : Addr) : Prop where
  makes : PySem.W.makesIn K C = true
  init : PySem.W.findIn K (.ref C) "__init__" = some (some (.ref f))
  fn : PySem.W.isFn K (.ref f) = true
  kp : PySem.W.keepIn K (.ref C) = true

theorem run_make {pins : List (Addr × Obj)} {σ : St} {H : Hp} {s : Shared} {Q : VK} {us : List Value} {vs : List V} (M : Mk X.K C f) (F : FnOk X.prog X.w X.K X.mg X.base CX k f fd ps sp) (hr : Room (k + 1) X.A) (hb : Binds X.K fd ps ds) (hd : Vals dvs ds)
    (hx : Passes CX X E) (I : Inv X pins σ H s) (r : Vals vs us)
    (h : ∀ x dx, H x = none → H dx = none → dx ≠ x → sp (.ref x :: (vs ++ dvs)) (upd (upd H dx (.own x)) x (.ins C dx [])) (fun v H2 => v = .non ∧ Q (.ref x) H2) E) :
    wpAny (model X.prog X.w) X.A (call (.ref C) us) (EP X pins σ Q) X.xe s := by
  have hq := h (s.heap.objs.size + 1) s.heap.objs.size (I.hok.fresh (Nat.le_succ _)) (I.hok.fresh (Nat.le_refl _)) (Nat.ne_of_lt (Nat.lt_succ_self _))
  have I2 := Inv.made (C := C) I
  have r2 : Vals (V.ref (s.heap.objs.size + 1) :: (vs ++ dvs)) (Value.ref (s.heap.objs.size + 1) :: (us ++ ds)) := .cons rfl (r.append hd)
  have hl : (Value.ref (s.heap.objs.size + 1) :: us ++ ds).length = ps.length := by
    have e := r2.length
    rw [F.len _ _ _ _ hq] at e
    exact e.symm
  refine wpAny_call (make_map (f := f) I.kIn M.makes M.init (beq_iff_eq.mp M.fn) (codeAny_mono (F.run _ X.stack _ _ ⟨Value.ref (s.heap.objs.size + 1) :: us, []⟩ (Value.ref (s.heap.objs.size + 1) :: (us ++ ds)) _ _ E (hr.make C us [])
    (I2.env0.make C us []) (hb _ (Value.ref (s.heap.objs.size + 1) :: us) I2.kIn hl) r2 hq) fun r s' hq' => ?_))
  cases r with
  | error e => exact hx pins σ _ _ e s' I2 hq'
  | ok fl =>
    cases fl with
    | ret u =>
      obtain ⟨v, H', I3, rv, ev, q3⟩ := I2.after hq'
      subst ev
      exact ⟨rv, ⟨V.ref (s.heap.objs.size + 1), H', I3, rfl, q3⟩⟩
    | next => exact False.elim hq'
    | brk => exact False.elim hq'
    | cont => exact False.elim hq'
theorem pe_make (M : Mk X.K C f) (F : FnOk X.prog X.w X.K X.mg X.base CX k f fd ps sp) (hr : Room (k + 1) X.A) (hg : Gl X x) (hm : X.mg x = some (.ref C)) (hb : Binds X.K fd ps ds) (hd : Vals dvs ds) (hx : Passes CX X E)
    (ha : PA X (e :: es) t) (hdb : (x == ("__debug__" : Str)) = false := by decide) (he : starEach (e :: es) X.env = (false, eval e X.env) :: starEach es X.env := by rfl) (hpl : (backTo pos (starEach es X.env)).any (·.1) = false := by rfl) :
    PE X (.Call (.Name x p) (e :: es) [] pos) (tMake C sp dvs E t) := by
  intro pins s σ H Q I h
  refine wpAny_Call_Name_kw (ld_glob I hg hm ?_ hdb)
  refine PySem.W.callWith_K (h₀ := X.base) I.ok.mod.kin M.kp (thn (ha pos pins s σ H _ I h) fun us s1 ⟨vs, H1, I1, r, q⟩ => ⟨I1.kIn, ?_⟩) he hpl
  exact run_make M F hr hb hd hx I1 r q
end

/-! ### keywords -/
/-- the values of the keywords, from the left -/
def PK (X : Cx) (kws : List Keyword) (t : TA) : Prop :=
  ∀ (pos : Pos) (pins : List (Addr × Obj)) (s : Shared) (σ : St) (H : Hp) (Q : List V → Hp → Prop), Inv X pins σ H s → t σ H Q → wpAny (model X.prog X.w) X.A (evalAll ((backToKw pos (keywordEach kws X.env)).map (·.2))) (AP X pins σ Q) X.xe s
section
variable {X : Cx} {CX : CXT} {k : Nat} {f C : Addr} {fd : FuncData} {ps ks : List Str} {sp : Sp} {E : XK} {x m : Str} {p pos apos kpos : Pos} {e o : Expr} {es : List Expr} {kws : List Keyword} {te ta : TE} {t tk : TA} {nm : Option Str}
/-- how a call with keywords binds: g puts the positional values us and the keywords' values ws (names ks) in the parameters' order, defaults among them -/
structure KBinds (K : PySem.W.Frag) (fd : FuncData) (ps ks : List Str) (g : List Value → List Value → List Value) (gV : List V → List V → List V) : Prop where
  to : ∀ (s : Shared) (us ws : List Value), K.In s.heap → (g us ws).length = ps.length → BindsTo s fd ⟨us, ks.zip ws⟩ (ps.zip (g us ws))
  rel : ∀ {vs : List V} {us : List Value} {zs : List V} {ws : List Value}, Vals vs us → Vals zs ws → Vals (gV vs zs) (g us ws)
def tCallK (sp : Sp) (gV : List V → List V → List V) (E : XK) (t tk : TA) : TE := fun σ H Q => t σ H fun vs H1 => tk σ H1 fun zs H2 => sp (gV vs zs) H2 Q E
variable {g : List Value → List Value → List Value} {gV : List V → List V → List V}
end

/-! ### a def's body keeps its promise -/
/-- names: the parameters first -/
structure FnScope (N P : List Str) (sc : Scope) : Prop where
  kind : sc.kind = .function
  co : sc.isCoroutine = false
  gen : sc.isGenerator = false
  nd : N.Nodup
  pre : N.take P.length = P
  par : ∀ x ∈ P, sc.names.lookup x = some .local ∨ sc.names.lookup x = some .cell
  nofree : ∀ y ∈ sc.names, y.2 ≠ .free

theorem bindL_out {kindOf : Str → Option NameKind} {x : Str} : ∀ {binds : List (Str × Value)} {m : Str → Option Value}, (∀ v, (x, v) ∉ binds) → bindL kindOf binds m x = m x
  | [], _, _ => rfl
  | (n, v) :: r, m, h => by
    unfold bindL
    rw [bindL_out fun w hw => h w (List.mem_cons_of_mem _ hw)]
    split
    · have : x ≠ n := by rintro rfl; exact h v List.mem_cons_self
      simp [this]
    · rfl
theorem bindC_out {kindOf : Str → Option NameKind} {x : Str} : ∀ {binds : List (Str × Value)} {m : Str → Option Value}, (∀ v, (x, v) ∉ binds) → bindC kindOf binds m x = m x
  | [], _, _ => rfl
  | (n, v) :: r, m, h => by
    unfold bindC
    rw [bindC_out fun w hw => h w (List.mem_cons_of_mem _ hw)]
    split
    · rfl
    · have : x ≠ n := by rintro rfl; exact h v List.mem_cons_self
      simp [this]
theorem bindL_get {kindOf : Str → Option NameKind} {x : Str} {v : Value} : ∀ {P : List Str} {vs : List Value} {i : Nat} {m : Str → Option Value}, P.Nodup → P[i]? = some x → vs[i]? = some v → kindOf x = some .local →
    bindL kindOf (P.zip vs) m x = some v
  | [], _, _, _, _, h, _, _ => by simp at h
  | _ :: _, [], _, _, _, _, h, _ => by simp at h
  | p :: P, w :: vs, 0, m, nd, h1, h2, hk => by
    simp at h1 h2; subst h1; subst h2
    show bindL kindOf ((p, w) :: P.zip vs) m p = _
    unfold bindL
    rw [bindL_out fun v hv => (List.nodup_cons.mp nd).1 (List.of_mem_zip hv).1, if_pos hk]
    simp
  | p :: P, w :: vs, i + 1, m, nd, h1, h2, hk => by
    show bindL kindOf ((p, w) :: P.zip vs) m x = _
    unfold bindL
    exact bindL_get (i := i) (List.nodup_cons.mp nd).2 (by simpa using h1) (by simpa using h2) hk
theorem bindC_get {kindOf : Str → Option NameKind} {x : Str} {v : Value} : ∀ {P : List Str} {vs : List Value} {i : Nat} {m : Str → Option Value}, P.Nodup → P[i]? = some x → vs[i]? = some v → kindOf x ≠ some .local →
    bindC kindOf (P.zip vs) m x = some v
  | [], _, _, _, _, h, _, _ => by simp at h
  | _ :: _, [], _, _, _, _, h, _ => by simp at h
  | p :: P, w :: vs, 0, m, nd, h1, h2, hk => by
    simp at h1 h2; subst h1; subst h2
    show bindC kindOf ((p, w) :: P.zip vs) m p = _
    unfold bindC
    rw [bindC_out fun v hv => (List.nodup_cons.mp nd).1 (List.of_mem_zip hv).1, if_neg hk]
    simp
  | p :: P, w :: vs, i + 1, m, nd, h1, h2, hk => by
    show bindC kindOf ((p, w) :: P.zip vs) m x = _
    unfold bindC
    exact bindC_get (i := i) (List.nodup_cons.mp nd).2 (by simpa using h1) (by simpa using h2) hk

/-- the names' values at the entry -/
def start (N : List Str) (vs : List V) : St := vs.map some ++ List.replicate (N.length - vs.length) none

/-- the context of a def's body, at its entry; an exception leaves the frame, then lies as CX says -/
def cxOf (CX : CXT) (P : Program) (w : World) (K : PySem.W.Frag) (mg : Str → Option Value) (base : Heap) (N : List Str) (qual : Str) (scope : Scope) (f : Addr) (cd : Value) (A : Around) (outer : List Env) (s : Shared) (H : Hp) (E : XK) : Cx where
  prog := P
  w := w
  K := K
  mg := mg
  base := base
  A := A.deeper (envOfC qual scope s.heap.objs.size f cd)
  N := N
  s₀ := s
  H₀ := H
  env := envOfC qual scope s.heap.objs.size f cd
  outer := outer
  stack := envOfC qual scope s.heap.objs.size f cd :: outer
  ex := []
  calm := true
  fn := fun _ => true
  pn := []
  xe := fun e s' => wpAny (model P w) (A.deeper (envOfC qual scope s.heap.objs.size f cd)) (leaving (envOfC qual scope s.heap.objs.size f cd) e) (fun _ s'' => CX outer H s E e s'') (fun e' s'' => CX outer H s E e' s'') s'

theorem cell_has {sc : Scope} {n : Nat} {x : Str} (h : sc.names.lookup x = some .cell) : ∃ c, (cellsFrom n sc.names []).lookup x = some c := by
  have q := PySem.W.cellsFrom_some sc.names n [] (.inl h)
  exact Option.isSome_iff_exists.mp q

theorem inv_start {CX : CXT} {P : Program} {w : World} {K : PySem.W.Frag} {mg : Str → Option Value} {base : Heap} {N ps : List Str} {qual : Str} {scope : Scope} {f : Addr} {cd : Value} {A : Around} {outer : List Env} {s s1 : Shared} {H : Hp} {E : XK} {us : List Value} {vs : List V}
    (S : FnScope N ps scope) (hd : A.handled = none) (e0 : Env0 P w K mg base A outer s H) (hl : vs.length = ps.length) (r : Vals vs us)
    (x : InCallC s s.heap.objs.size (bindL (envOfC qual scope s.heap.objs.size f cd).kindOf (ps.zip us) fun _ => none) (cellsFrom (s.heap.objs.size + 1) scope.names []) (bindC (envOfC qual scope s.heap.objs.size f cd).kindOf (ps.zip us) fun _ => none) s1) :
    Inv (cxOf CX P w K mg base N qual scope f cd A outer s H E) [] (start N vs) H s1 := by
  have hpl : ps.length ≤ N.length := by have := congrArg List.length S.pre; rw [List.length_take] at this; omega
  obtain ⟨h1, tk, rfl, hk⟩ := x.done
  have noA : ∀ b : Addr, b ∉ (cxOf CX P w K mg base N qual scope f cd A outer s H E).ex := fun b z => absurd (show b ∈ ([] : List Addr) from z) (by simp)
  refine ⟨⟨e0.mod, S.kind, rfl, rfl, Nat.le_refl _, fun y z c h1 h2 => ?_, fun y hy => ?_, fun y c _ h => ?_, fun _ => hd, Around.frames_deeper e0.frames, .inr ⟨rfl, rfl⟩, fun b z => absurd z (noA b), e0.bs, e0.bsz, fun b _ _ => noA b, fun b z => absurd z (noA b), e0.funs, e0.frf⟩,
    rfl, e0.bare, Un.kept hk, ⟨_, x.toInCall.ns, fun i y v h1 h2 h3 => ?_⟩, fun y c h => ⟨_, x.cell y c h⟩, e0.hok.fresh (Nat.le_refl _), fun y c h => ?_, fun p hp => absurd (show p ∈ ([] : List (Addr × Obj)) from hp) (by simp), e0.hok.kept hk, ?_⟩
  · exact name_of_addr x.apart (PySem.mem_of_lookup h1) (PySem.mem_of_lookup h2)
  · have hy : scope.names.lookup y = some .cell ∨ scope.names.lookup y = some .free := hy
    rcases hy with hy | hy
    · exact cell_has hy
    · exact absurd rfl (S.nofree _ (PySem.mem_of_lookup hy))
  · exact Nat.le_of_lt (x.above y c (PySem.mem_of_lookup h))
  · have hi : i < vs.length := by
      unfold start at h2
      by_cases hi : i < vs.length
      · exact hi
      · rw [List.getElem?_append_right (by simpa using hi)] at h2
        rw [List.getElem?_replicate] at h2
        split at h2 <;> cases h2
    have ha : vs[i]? = some v := by
      unfold start at h2
      rw [List.getElem?_append_left (by simpa using hi), List.getElem?_map] at h2
      cases e : vs[i]? with
      | none => rw [e] at h2; cases h2
      | some a => rw [e] at h2; cases h2; rfl
    obtain ⟨u, hu, rv⟩ := r.get ha
    have hp : ps[i]? = some y := by
      rw [← S.pre, List.getElem?_take_of_lt (by omega)]; exact h1
    have ndP : ps.Nodup := by rw [← S.pre]; exact S.nd.sublist (List.take_sublist _ _)
    refine ⟨u, rv, ?_⟩
    rcases S.par y (List.mem_of_getElem? hp) with k | k
    · exact .inl ⟨k, bindL_get ndP hp hu k⟩
    · obtain ⟨c, e⟩ := cell_has (n := s.heap.objs.size + 1) k
      refine .inr ⟨.inl k, c, e, ?_⟩
      have q := x.cell y c e
      rw [bindC_get ndP hp hu (by show scope.names.lookup y ≠ _; rw [k]; decide)] at q
      exact q
  · exact e0.hok.fresh (Nat.le_of_lt (x.above y c (PySem.mem_of_lookup h)))
  · unfold start
    show _ = N.length
    rw [List.length_append, List.length_map, List.length_replicate]
    omega

/-- THE RULE: a def (or a method) of the text, by its body. The body's reading t is chosen for each entry; it is run at the parameters' values -/
theorem fn_of {CX : CXT} {P : Program} {w : World} {K : PySem.W.Frag} {mg : Str → Option Value} {base : Heap} {k : Nat} {f : Addr} {name qual : Str} {params : Arguments} {body : List Stmt} {scope : Scope} {dV kV doc pm cdv ct oc : Value} {an od : Option Addr}
    {osl : Array (Option Value)} {N ps : List Str} {sp : Sp} (lk : K.lookup f = some ⟨oc, od, .func (PySem.W.fnOf name qual params body scope dV kV doc pm an cdv ct), osl⟩) (hcd : PySem.W.codeIn K cdv qual = true) (S : FnScope N ps scope)
    (len : ∀ vs H Q E, sp vs H Q E → vs.length = ps.length)
    (hbody : ∀ (A : Around) (outer : List Env) (s : Shared) (H : Hp) (vs : List V) (Q : VK) (E : XK), Room k (A.deeper (envOfC qual scope s.heap.objs.size f cdv)) → sp vs H Q E →
      ∃ t, PSs (cxOf CX P w K mg base N qual scope f cdv A outer s H E) body t ∧ t { nx := fun _ H' => Q .non H', rt := Q } (start N vs) H) :
    FnOk P w K mg base CX (k + 1) f (PySem.W.fnOf name qual params body scope dV kV doc pm an cdv ct) ps sp := by
  refine ⟨len, fun A outer s H args us vs Q E hr e0 hb r hsp => ?_⟩
  have hl := len _ _ _ _ hsp
  have KX : K.In s.heap := e0.mod.kin.keeps fun b o e => (e0.bs b o e).1
  have lim : s.heap.NoLimit := e0.mod.nolimit.keeps fun b o e => (e0.bs b o e).1
  have hkind : ∀ y ∈ ps.zip us, scope.names.lookup y.1 = some .local ∨ (scope.names.lookup y.1 = some .cell ∧ ((cellsFrom (s.heap.objs.size + 1) scope.names []).lookup y.1).isSome = true) := fun ⟨n, v⟩ hy => by
    rcases S.par n (List.of_mem_zip hy).1 with q | q
    · exact .inl q
    · exact .inr ⟨q, PySem.W.cellsFrom_some _ _ _ (.inl q)⟩
  refine codeAny_call_function hr.depth (KX _ _ lk) rfl S.co S.gen rfl (PySem.W.codeRec_of KX hcd) (hb _ _ _ _ ?_)
  refine wpAny_newFunctionEnv_cells S.kind hkind fun env he s1 x => ?_
  subst he
  refine ⟨lim.keeps x.toInCall.keep, codeAny_func ?_⟩
  obtain ⟨t, ht, hq⟩ := hbody A outer s H vs Q E (hr.deeper _) hsp
  have I : Inv (cxOf CX P w K mg base N qual scope f cdv A outer s H E) [] (start N vs) H s1 := inv_start S hr.hd e0 hl r x
  refine wpAny_mono (ht [] s1 (start N vs) H _ I hq) (fun fl s' hs => ?_) fun e s' hs => hs
  have fin : ∀ {σ' : St} {H' : Hp} {v : V} {u : Value}, Inv (cxOf CX P w K mg base N qual scope f cdv A outer s H E) [] σ' H' s' → RelV v u → Q v H' → CE outer P w H s Q u s' :=
    fun {σ' H' v u} J rv q => ⟨v, H', J.os, J.bare, J.base, J.hok, rv, q⟩
  cases fl with
  | ret u =>
    obtain ⟨v, σ', H', J, rv, q⟩ := hs
    exact fin J rv q
  | next =>
    obtain ⟨σ', H', J, q⟩ := hs
    exact fin (v := V.non) (u := Value.none) J rfl q
  | brk =>
    obtain ⟨_, _, _, q⟩ := hs
    exact False.elim q
  | cont =>
    obtain ⟨_, _, _, q⟩ := hs
    exact False.elim q
end L2

namespace L2
open PySem PySem.Spec PyProof.Rows
section
variable {X : Cx} {x : Str} {p pos : Pos} {e : Expr} {es : List Expr} {t : TA} {id T : String} {r : List V → Hp → VK → Prop}

def tCB (r : List V → Hp → VK → Prop) (t : TA) : TE := fun σ H Q => t σ H fun vs H1 => r vs H1 Q
/-- f(e, ..), f a built-in function -/
theorem pe_callB (hc : CallR X (.builtin id) r) (hg : Gl X x) (hm : X.mg x = none) (hv : bootBuiltins x = some (.builtin id)) (ha : PA X (e :: es) t) (hn : x ≠ "__name__" := by decide) (hdb : (x == ("__debug__" : Str)) = false := by decide)
    (he : starEach (e :: es) X.env = (false, eval e X.env) :: starEach es X.env := by rfl) (hpl : (backTo pos (starEach es X.env)).any (·.1) = false := by rfl) : PE X (.Call (.Name x p) (e :: es) [] pos) (tCB r t) := by
  intro pins s σ H Q I h
  refine wpAny_Call_Name_kw (ld_blt I hg hm hv ?_ hn hdb)
  exact PyProof.Rows.callWith_builtin1 (thn (ha pos pins s σ H _ I h) fun us s1 ⟨vs, H1, I1, r1, q1⟩ => hc pins s1 σ H1 vs us Q I1 r1 q1) he hpl
/-- T(e, ..), T a built-in type -/
theorem pe_callTy (hc : CallR X (.type T) r) (hg : Gl X x) (hm : X.mg x = none) (hv : bootBuiltins x = some (.type T)) (ha : PA X (e :: es) t) (hn : x ≠ "__name__" := by decide) (hdb : (x == ("__debug__" : Str)) = false := by decide)
    (he : starEach (e :: es) X.env = (false, eval e X.env) :: starEach es X.env := by rfl) (hpl : (backTo pos (starEach es X.env)).any (·.1) = false := by rfl) : PE X (.Call (.Name x p) (e :: es) [] pos) (tCB r t) := by
  intro pins s σ H Q I h
  refine wpAny_Call_Name_kw (ld_blt I hg hm hv ?_ hn hdb)
  exact PyProof.Rows.callWith_type1 (thn (ha pos pins s σ H _ I h) fun us s1 ⟨vs, H1, I1, r1, q1⟩ => hc pins s1 σ H1 vs us Q I1 r1 q1) he hpl
end
end L2

namespace HT
open PySem PyProof.Rows

/-- t < u of tuples of ints -/
def lexLt : List Int → List Int → Bool
  | [], [] => false
  | [], _ :: _ => true
  | _ :: _, [] => false
  | x :: xs, y :: ys => if x = y then lexLt xs ys else decide (x < y)
section
open PySem.SeqAt
open PySem.AutoSeq1 (wpAny_loadPart')
open PySem.MeetsSeq PySem.MeetsSeq2 PySem.MeetsSeq3

end

section
variable {prog : Program} {w : World} {A : Around} {E : Value → Shared → Prop} {s : Shared}

/-- t + u, t not empty -/
theorem cat_tup {t b : Addr} {vs ws : List Value} {Q : Value → Shared → Prop} (ht : IsTup s.heap t vs.toArray) (hb : IsTup s.heap b ws.toArray) (hv : vs ≠ [])
    (h1 : ws = [] → Q (.ref t) s) (h2 : ws ≠ [] → Q (.ref s.heap.objs.size) { s with heap := s.heap.push { cls := .type "tuple", data := .seq (vs ++ ws).toArray } })
    (hsz : vs.length + ws.length ≤ sizeLine) : wpAny (model prog w) A (binaryOp .Add (.ref t) (.ref b)) Q E s := by
  obtain ⟨⟨cls, dd, data, sl⟩, ho, hc, n, hd⟩ := id ht
  obtain ⟨⟨cls2, dd2, data2, sl2⟩, ho2, hc2, n2, hd2⟩ := id hb
  simp only at hc hd hc2 hd2
  subst hc hd hc2 hd2
  have e : vs.toArray ++ ws.toArray = (vs ++ ws).toArray := by simp
  by_cases hw : ws = []
  · exact concat_meets ⟨_, ho, rfl⟩ ⟨_, ho2, rfl⟩ noFill_tuple_add seq_tuple_add PySem.F.slot_tuple_add PySem.F.entry_tuple_add (PySem.F.args_tuple_add_2 _ _)
      (tuple_addW1 t b vs.toArray ws.toArray n n2 dd dd2 sl sl2 (by simpa using hv) (by simp [hw])) ⟨ho, ho2, h1 hw⟩
  · refine concat_meets ⟨_, ho, rfl⟩ ⟨_, ho2, rfl⟩ noFill_tuple_add seq_tuple_add PySem.F.slot_tuple_add PySem.F.entry_tuple_add (PySem.F.args_tuple_add_2 _ _)
      (tuple_addW2 t b vs.toArray ws.toArray n n2 dd dd2 sl sl2 (by simpa using hv) (by simpa using hw) (by rw [List.size_toArray, List.size_toArray]; exact hsz)) ⟨ho, ho2, ?_⟩
    rw [e]
    exact h2 hw

/-! ### t[a:b], not the whole -/
/-- a slice's bound as a place among n (d where it is left out) -/
def sIx (n d : Nat) : Option Int → Nat
  | none => d
  | some v => if v < 0 then (v + (n : Int)).toNat else min v.toNat n
theorem sIx_none (n d : Nat) : sIx n d none = d := rfl
theorem sIx_nat (n d k : Nat) : sIx n d (some (k : Int)) = min k n := by
  show (if (k : Int) < 0 then ((k : Int) + (n : Int)).toNat else min (k : Int).toNat n) = min k n
  rw [if_neg (by omega), Int.toNat_natCast]
theorem sIx_le (n d : Nat) (hd : d ≤ n) (o : Option Int) : sIx n d o ≤ n := by
  cases o with
  | none => exact hd
  | some v =>
    show (if v < 0 then (v + (n : Int)).toNat else min v.toNat n) ≤ n
    by_cases hv : v < 0
    · rw [if_pos hv]; omega
    · rw [if_neg hv]; exact Nat.min_le_right _ _
theorem clip_eq (v : Int) (n d : Nat) : (if v < 0 then max (v + (n : Int)) 0 else min v (n : Int)) = ((sIx n d (some v) : Nat) : Int) := by
  show (if v < 0 then max (v + (n : Int)) 0 else min v (n : Int)) = (((if v < 0 then (v + (n : Int)).toNat else min v.toNat n) : Nat) : Int)
  by_cases hv : v < 0
  · simp only [if_pos hv]; omega
  · simp only [if_neg hv]; omega
theorem adjust_gen (lo hi : Option Int) (n : Nat) : Builtin.Slice.sliceAdjust lo hi 1 (n : Int) = (((sIx n 0 lo : Nat) : Int), ((sIx n n hi : Nat) : Int)) := by
  have h1 : ¬ ((1 : Int) < 0) := by omega
  unfold Builtin.Slice.sliceAdjust
  simp only [h1, if_false]
  refine Prod.ext ?_ ?_
  · cases lo with
    | none => rfl
    | some v => exact clip_eq v n 0
  · cases hi with
    | none => rfl
    | some v => exact clip_eq v n n
theorem places_gen (i j : Nat) : Builtin.Slice.slicePlaces (i : Int) (j : Int) 1 = j - i := by
  unfold Builtin.Slice.slicePlaces
  have h1 : (1 : Int) > 0 := by omega
  simp only [h1, if_true, Int.ediv_one]
  split <;> omega
theorem slicePart_ {v : Value} {o : Option Int} {Q : Option Int → Shared → Prop} (p : IsPart v o) (h : Q o s) : wpAny (model prog w) A (Builtin.Slice.slicePartIndex v) Q E s := by
  cases p with
  | none => exact slicePart_none h
  | int i t => exact slicePart_int h
theorem sliceApplied_gen {sl : Addr} {vl vu : Value} {lo hi : Option Int} {n : Nat} {Q : Int × Int × Nat → Shared → Prop} (hs : s.heap.IsSliceOf sl vl vu .none) (pl : IsPart vl lo) (pu : IsPart vu hi)
    (h : Q (((sIx n 0 lo : Nat) : Int), 1, sIx n n hi - sIx n 0 lo) s) : wpAny (model prog w) A (Builtin.Slice.sliceApplied (.ref sl) (pure (n : Int))) Q E s := by
  obtain ⟨os, hos, hcs, hds⟩ := id hs
  unfold Builtin.Slice.sliceApplied Builtin.Slice.sliceFields
  refine wpAny_bind (wpAny_bind (wpAny_field hos hds (x := vl) rfl (wpAny_bind (wpAny_field hos hds (x := vu) rfl (wpAny_bind (wpAny_field hos hds (x := .none) rfl (wpAny_pure ?_)))))))
  refine wpAny_bind (slicePart_none ?_)
  show wpAny _ _ (if ((1 : Int) == 0) = true then _ else _) _ _ s
  rw [if_neg (by decide)]
  refine wpAny_bind (slicePart_ pl (wpAny_bind (slicePart_ pu (wpAny_bind (wpAny_pure ?_)))))
  show wpAny _ _ (match Builtin.Slice.sliceAdjust lo hi 1 (n : Int) with | (lo, hi) => pure (lo, (1 : Int), Builtin.Slice.slicePlaces lo hi 1)) _ _ s
  rw [adjust_gen lo hi n]
  show wpAny _ _ (pure (((sIx n 0 lo : Nat) : Int), (1 : Int), Builtin.Slice.slicePlaces ((sIx n 0 lo : Nat) : Int) ((sIx n n hi : Nat) : Int) 1)) _ _ s
  rw [places_gen]
  exact wpAny_pure h
theorem pick_gen (xs : Array Value) (i k : Nat) : ((List.range k).filterMap fun (m : Nat) => xs[((i : Int) + (m : Int) * 1).toNat]?).toArray = ((xs.toList.drop i).take k).toArray := by
  have e : (fun (m : Nat) => xs[((i : Int) + (m : Int) * 1).toNat]?) = fun m => xs[i + m]? := by
    funext m
    have : ((i : Int) + (m : Int) * 1).toNat = i + m := by omega
    rw [this]
  rw [e]
  have := pick_run xs i k
  rw [List.filterMap_map] at this
  have e2 : ((fun x => xs[x]?) ∘ fun x => i + x) = fun m => xs[i + m]? := rfl
  rw [e2] at this
  rw [this]

theorem getItem_tuple_cut {t sl : Addr} {items : Array Value} {vl vu : Value} {lo hi : Option Int} {Q : Value → Shared → Prop} (ht : IsTup s.heap t items) (hs : s.heap.IsSliceOf sl vl vu .none) (pl : IsPart vl lo) (pu : IsPart vu hi)
    (hw : ¬ (sIx items.size 0 lo = 0 ∧ sIx items.size items.size hi = items.size))
    (h : Q (.ref s.heap.objs.size) { s with heap := s.heap.push { cls := .type "tuple", data := .seq ((items.toList.drop (sIx items.size 0 lo)).take (sIx items.size items.size hi - sIx items.size 0 lo)).toArray } })
    (hsz : items.size ≤ sizeLine) : wpAny (model prog w) A (getItem (.ref t) (.ref sl)) Q E s := by
  have htake : sizeOk (.seq ((items.toList.drop (sIx items.size 0 lo)).take (sIx items.size items.size hi - sIx items.size 0 lo)).toArray) := by
    show ((items.toList.drop (sIx items.size 0 lo)).take (sIx items.size items.size hi - sIx items.size 0 lo)).toArray.size ≤ sizeLine
    rw [List.size_toArray, List.length_take, List.length_drop, Array.length_toList]
    omega
  have hj : sIx items.size items.size hi ≤ items.size := sIx_le _ _ (Nat.le_refl _) hi
  obtain ⟨os, hos, hcs, hds⟩ := id hs
  have hTs : s.TypeIs (.ref sl) "slice" := ⟨os, hos, hcs⟩
  unfold getItem
  try with_reducible refine wpAny_holding ?_
  first | refine wpAny_bind (wpAny_pure ?_) | skip
  refine wpAny_bind (wpAny_sequenceKey ht.typeIs (by decide) ?_)
  refine wpAny_bind (wpAny_callSpecial?_slot (name := Str.ofString "__getitem__") ht.typeIs PyProof.Rows.slot_tuple_getitem
    (wpAny_call_entry PyProof.Rows.slot_tuple_getitem ht.typeIs entry_tuple_getitem ?_ (args_tuple_getitem _ _)))
  show wpAny _ _ (Builtin.Tuple.tupleItemsOf (.ref t) >>= _) _ _ s
  refine wpAny_bind (tupleItemsOf_ ht ?_)
  refine wpAny_bind (wpAny_typeOf hTs ?_)
  rw [if_pos (by decide)]
  refine wpAny_bind (sliceApplied_gen hs pl pu ?_)
  have hno : ¬ ((((sIx items.size 0 lo : Nat) : Int) == 0 && (1 : Int) == 1 && (sIx items.size items.size hi - sIx items.size 0 lo) == items.size) = true) := by
    intro q
    rw [Bool.and_eq_true, Bool.and_eq_true] at q
    have q1 : ((sIx items.size 0 lo : Nat) : Int) = 0 := eq_of_beq q.1.1
    have q2 : sIx items.size items.size hi - sIx items.size 0 lo = items.size := eq_of_beq q.2
    exact hw ⟨by omega, by omega⟩
  show wpAny _ _ (if (((sIx items.size 0 lo : Nat) : Int) == 0 && (1 : Int) == 1 && (sIx items.size items.size hi - sIx items.size 0 lo) == items.size) = true then _ else _) _ _ s
  rw [if_neg hno, pick_gen]
  first
    | exact wpAny_bind (m := Builtin.Tuple.tupleExact _) (wpAny_newObj_type (wpAny_pure ⟨_, rfl, wpAny_pure h⟩) htake)
    | exact wpAny_bind (m := Builtin.Tuple.tupleExact _) (wpAny_newObj_type (wpAny_bind (wpAny_pure (wpAny_pure ⟨_, rfl, wpAny_pure h⟩))) htake)
    | exact wpAny_bind (wpAny_bind (m := Builtin.Tuple.tupleExact _) (wpAny_newObj_type (wpAny_pure (wpAny_pure ⟨_, rfl, wpAny_pure h⟩)) htake))
    | exact wpAny_bind (wpAny_bind (m := Builtin.Tuple.tupleExact _) (wpAny_newObj_type (wpAny_pure ⟨_, rfl, wpAny_pure h⟩) htake))
end
end HT

namespace L2
open PySem PySem.Spec PyProof.Rows

/-! ### the parts of a slice -/
abbrev TO := St → Hp → (Option Int → Hp → Prop) → Prop
/-- a slice's part (left out, or an int) -/
def PO (X : Cx) (e : Option Expr) (t : TO) : Prop :=
  ∀ (pins : List (Addr × Obj)) (s : Shared) (σ : St) (H : Hp) (Q : Option Int → Hp → Prop), Inv X pins σ H s → t σ H Q →
    wpAny (model X.prog X.w) X.A (evalPart e X.env) (fun u s' => ∃ o H', Inv X pins σ H' s' ∧ IsPart u o ∧ Q o H') X.xe s
def tNoPart : TO := fun _ H Q => Q none H
def tPart (t : TE) : TO := fun σ H Q => t σ H fun x H1 => ∃ i, x = .int i ∧ Q (some i) H1

section
variable {X : Cx} {e : Expr} {te : TE} {lo hi : Option Expr} {tl th : TO} {pos p2 : Pos}

theorem po_none : PO X none tNoPart := by
  intro pins s σ H Q I h
  rw [evalPart_none]
  exact wpAny_pure ⟨none, H, I, .none, h⟩
theorem po_some (h : PE X e te) : PO X (some e) (tPart te) := by
  intro pins s σ H Q I hw
  rw [evalPart_some]
  refine thn (h pins s σ H _ I hw) fun u s1 ⟨x, H1, I1, r1, q1⟩ => ?_
  obtain ⟨i, rfl, q⟩ := q1
  obtain ⟨t, rfl⟩ := r1
  exact ⟨some i, H1, I1, .int i t, q⟩

/-- what a slice of a value is, by values: the slice object stands at sl -/
def SlR (X : Cx) (r : V → Option Int → Option Int → Hp → VK → Prop) : Prop :=
  ∀ (pins : List (Addr × Obj)) (s : Shared) (σ : St) (H : Hp) (x : V) (v vl vu : Value) (lo hi : Option Int) (sl : Addr) (Q : VK), Inv X pins σ H s → RelV x v → s.heap.IsSliceOf sl vl vu .none → IsPart vl lo → IsPart vu hi → r x lo hi H Q →
    ∃ T id, typeLookup (.type T) "__getitem__" = pure (some (.builtin id)) ∧ s.TypeIs v T ∧ wpAny (model X.prog X.w) X.A (getItem v (.ref sl)) (EP X pins σ Q) X.xe s
def tSl (r : V → Option Int → Option Int → Hp → VK → Prop) (te : TE) (tl th : TO) : TE := fun σ H Q => te σ H fun x H1 => tl σ H1 fun l H2 => th σ H2 fun u H3 => r x l u H3 Q
/-- a[lo:hi], any a -/
theorem pe_slice {r : V → Option Int → Option Int → Hp → VK → Prop} (hr : SlR X r) (he : PE X e te) (hl : PO X lo tl) (hu : PO X hi th) : PE X (.Subscript e (.Slice lo hi none p2) pos) (tSl r te tl th) := by
  intro pins s σ H Q I h
  refine Subscript_ (thn (he pins s σ H _ I h) fun v s1 ⟨x, H1, I1, r1, q1⟩ => ?_)
  refine wpAny_Slice (thn (hl pins s1 σ H1 _ I1 q1) fun vl s2 ⟨l, H2, I2, pl, q2⟩ => thn (hu pins s2 σ H2 _ I2 q2) fun vu s3 ⟨u, H3, I3, pu, q3⟩ => ?_)
  rw [evalPart_none]
  refine wpAny_pure ?_
  have I4 : Inv X pins σ H3 { s3 with heap := s3.heap.push { cls := .type "slice", data := .fields #[vl, vu, .none] } } := I3.kept (t' := s3.toks) fun b ob q => Heap.get?_push_of_some _ q
  obtain ⟨T, id, hT, ht, hg⟩ := hr pins { s3 with heap := s3.heap.push { cls := .type "slice", data := .fields #[vl, vu, .none] } } σ H3 x v vl vu l u s3.heap.objs.size Q I4 r1 (Heap.IsSliceOf.new ..) pl pu q3
  show wpAny (model X.prog X.w) X.A (subscriptTail e (.Slice lo hi none p2) v (.ref s3.heap.objs.size)) (EP X pins σ Q) X.xe { s3 with heap := s3.heap.push { cls := .type "slice", data := .fields #[vl, vu, .none] } }
  exact tail_any (ops := [.ref s3.heap.objs.size, v]) ht hT hg (by with_unfolding_all rfl)

/-- the items of xs[lo:hi] -/
def cutV (xs : List V) (lo hi : Option Int) : List V := (xs.drop (HT.sIx xs.length 0 lo)).take (HT.sIx xs.length xs.length hi - HT.sIx xs.length 0 lo)
theorem cutV_length (xs : List V) (lo hi : Option Int) : (cutV xs lo hi).length ≤ xs.length := by
  unfold cutV
  rw [List.length_take, List.length_drop]
  omega
/-- t[lo:hi], not the whole of it (the whole would be t itself) -/
def rSlT (K : PySem.W.Frag) : V → Option Int → Option Int → Hp → VK → Prop := fun x lo hi H Q => ∃ a xs, x = .ref a ∧ SqT K H a xs ∧
  ¬ (HT.sIx xs.length 0 lo = 0 ∧ HT.sIx xs.length xs.length hi = xs.length) ∧ ∀ p, H p = none → Q (.ref p) (upd H p (.tup (cutV xs lo hi)))
theorem sl_tup : SlR X (rSlT X.K) := by
  intro pins s σ H x v vl vu lo hi sl Q I rx hs pl pu h
  obtain ⟨a, xs, rfl, hx, hw, q⟩ := h
  cases rx
  obtain ⟨its, r, ht, hz⟩ := I.tuple hx
  have hlen : its.toArray.size = xs.length := by rw [List.size_toArray]; exact r.length.symm
  refine ⟨"tuple", _, PyProof.Rows.slot_tuple_getitem.lookup, ht.typeIs, ?_⟩
  refine HT.getItem_tuple_cut ht hs pl pu (by rw [hlen]; exact hw) ?_ (by rw [hlen]; exact hz)
  rw [hlen]
  refine ⟨.ref s.heap.objs.size, _, I.laid (t' := s.toks) (o := .tup (cutV xs lo hi)) (fun b ob q => Heap.get?_push_of_some _ q) (Nat.le_refl _) ?_, rfl, q _ (I.hok.fresh (Nat.le_refl _))⟩
  exact ⟨Nat.le_trans (cutV_length xs lo hi) hz, _, (r.drop (HT.sIx xs.length 0 lo)).take (HT.sIx xs.length xs.length hi - HT.sIx xs.length 0 lo), IsTup.new _ _⟩

/-! ### t < u, t + u -/
def rLtT (K : PySem.W.Frag) : R2 := fun x y H Q => ∃ a b ns ms, x = .ref a ∧ y = .ref b ∧ SqT K H a (ns.map V.int) ∧ SqT K H b (ms.map V.int) ∧ Q (.bl (HT.lexLt ns ms)) H
/-- t + u, t not empty: u empty gives t itself -/
def rCatT (K : PySem.W.Frag) : R2 := fun x y H Q => ∃ a b xs ys, x = .ref a ∧ y = .ref b ∧ SqT K H a xs ∧ SqT K H b ys ∧ xs ≠ [] ∧ xs.length + ys.length ≤ sizeLine ∧
  (ys = [] → Q (.ref a) H) ∧ (ys ≠ [] → ∀ p, H p = none → Q (.ref p) (upd H p (.tup (xs ++ ys))))
theorem Vals.nil_iff {xs : List V} {us : List Value} (r : Vals xs us) : us = [] ↔ xs = [] := by
  cases r with
  | nil => simp
  | cons _ _ => simp
theorem op_catT : OpR X (binaryOp .Add) (rCatT X.K) := by
  intro pins s σ H x y v u Q I rx ry h
  obtain ⟨a, b, xs, ys, rfl, rfl, ha, hb, hx, hz, q1, q2⟩ := h
  cases rx
  cases ry
  obtain ⟨its, r1, p1, _⟩ := I.tuple ha
  obtain ⟨its2, r2, p2, _⟩ := I.tuple hb
  refine HT.cat_tup p1 p2 (fun z => hx (r1.nil_iff.mp z)) (fun z => ⟨.ref a, H, I, rfl, q1 (r2.nil_iff.mp z)⟩) (fun z => ?_) (by rw [← r1.length, ← r2.length]; exact hz)
  refine ⟨.ref s.heap.objs.size, _, I.laid (t' := s.toks) (o := .tup (xs ++ ys)) (fun b ob q => Heap.get?_push_of_some _ q) (Nat.le_refl _) ?_, rfl, q2 (fun w => z (r2.nil_iff.mpr w)) _ (I.hok.fresh (Nat.le_refl _))⟩
  exact ⟨by rw [List.length_append]; exact hz, _, r1.append r2, IsTup.new _ _⟩
end
end L2

namespace L2
open PySem PySem.Spec PyProof.Rows

/-! ### places -/
/-- the place that an index of any sign means -/
def ixN (n : Nat) (i : Int) : Option Nat := if 0 ≤ i then (if i < n then some i.toNat else none) else if -(n : Int) ≤ i then some (i + n).toNat else none
def atI {α : Type} (xs : List α) (i : Int) : Option α := (ixN xs.length i).bind fun j => xs[j]?
theorem ixN_seq {n : Nat} {i : Int} {j : Nat} (h : ixN n i = some j) : seqIndex? i n = some j ∧ j < n ∧ -(n : Int) ≤ i ∧ i < n := by
  unfold ixN at h
  by_cases h0 : 0 ≤ i
  · rw [if_pos h0] at h
    by_cases h1 : i < n
    · rw [if_pos h1] at h
      have e : i.toNat = j := Option.some.inj h
      exact ⟨by rw [seqIndex_of h0 h1, e], by omega, by omega, h1⟩
    · rw [if_neg h1] at h; cases h
  · rw [if_neg h0] at h
    by_cases h1 : -(n : Int) ≤ i
    · rw [if_pos h1] at h
      have e : (i + n).toNat = j := Option.some.inj h
      exact ⟨by rw [seqIndex_neg (by omega) h1, e], by omega, h1, by omega⟩
    · rw [if_neg h1] at h; cases h
theorem atI_get {α : Type} {xs : List α} {i : Int} {v : α} (h : atI xs i = some v) : ∃ j, seqIndex? i xs.length = some j ∧ xs[j]? = some v ∧ j < xs.length ∧ -(xs.length : Int) ≤ i ∧ i < xs.length := by
  unfold atI at h
  cases e : ixN xs.length i with
  | none => rw [e] at h; cases h
  | some j =>
    rw [e] at h
    obtain ⟨h1, h2, h3, h4⟩ := ixN_seq e
    exact ⟨j, h1, h, h2, h3, h4⟩
theorem atI_nat {α : Type} {xs : List α} {j : Nat} {v : α} (h : xs[j]? = some v) : atI xs (j : Int) = some v := by
  have hj : j < xs.length := (List.getElem?_eq_some_iff.mp h).1
  have e : ixN xs.length (j : Int) = some j := by
    unfold ixN
    rw [if_pos (by omega), if_pos (by omega)]; simp
  unfold atI; rw [e]; exact h
/-! ### what may be subscripted -/
/-- what stands as an index of a plain subscript -/
def PlainIx (b : Expr) : Prop := ∀ o i, subscripted b false o i = operate [o, i] (getItem o i)
/-- a subscript by values -/
def IxR (X : Cx) (r : R2) : Prop :=
  ∀ (value slice : Expr) (pins : List (Addr × Obj)) (s : Shared) (σ : St) (H : Hp) (x y : V) (v u : Value) (Q : VK), Inv X pins σ H s → RelV x v → RelV y u → r x y H Q →
    subscripted slice false v u = operate [v, u] (getItem v u) → wpAny (model X.prog X.w) X.A (subscriptTail value slice v u) (EP X pins σ Q) X.xe s
/-- a call of a builtin's method by values: the receiver, the arguments -/
def MtR (X : Cx) (id : String) (r : V → List V → Hp → VK → Prop) : Prop :=
  ∀ (pins : List (Addr × Obj)) (s : Shared) (σ : St) (H : Hp) (x : V) (xs : List V) (v : Value) (us : List Value) (Q : VK), Inv X pins σ H s → RelV x v → Vals xs us → r x xs H Q →
    wpAny (model X.prog X.w) X.A (call (.builtin id) (v :: us)) (EP X pins σ Q) X.xe s
section
variable {X : Cx} {a b : Expr} {ta tb : TE} {pos : Pos}
/-- a[b] -/
theorem pe_ix {r : R2} (hr : IxR X r) (ha : PE X a ta) (hb : PE X b tb) (hs : PlainIx b) : PE X (.Subscript a b pos) (tOp r ta tb) := by
  intro pins s σ H Q I h
  exact Subscript_ (binT ha hb I h fun v u s2 x y H2 I2 rx ry q => hr a b pins s2 σ H2 x y v u Q I2 rx ry q (hs _ _))

def rIxL (K : PySem.W.Frag) : R2 := fun x y H Q => ∃ p xs i v, x = .ref p ∧ y = .int i ∧ SqL K H p xs ∧ atI xs i = some v ∧ Q v H
def rIxT (K : PySem.W.Frag) : R2 := fun x y H Q => ∃ p xs i v, x = .ref p ∧ y = .int i ∧ SqT K H p xs ∧ atI xs i = some v ∧ Q v H
def rIxS : R2 := fun x y H Q => ∃ z i c, x = .str z ∧ y = .int i ∧ z.length ≤ sizeLine ∧ atI z.cps.toList i = some c ∧ Q (.str ⟨#[c]⟩) H
theorem ix_list : IxR X (rIxL X.K) := by
  intro value slice pins s σ H x y v u Q I rx ry h hs
  obtain ⟨p, xs, i, z, rfl, rfl, hq, he, q⟩ := h
  cases rx
  obtain ⟨t, rfl⟩ := ry
  obtain ⟨its, r, pl, hz⟩ := I.list hq
  obtain ⟨j, h1, h2, h3, h4, h5⟩ := atI_get he
  obtain ⟨w, ew, rw'⟩ := r.get h2
  have hl := r.length
  have hn := line63
  have fin : EP X pins σ Q w s := ⟨z, H, I, rw', q⟩
  by_cases h0 : 0 ≤ i
  · have hj : i.toNat = j := by
      rw [seqIndex_of h0 h5] at h1
      exact Option.some.inj h1
    exact item_listR pl.isList h0 (by omega) (by rw [hj]; simpa using ew) fin hs
  · have hj : (i + (its.toArray.size : Int)).toNat = j := by
      rw [seqIndex_neg (by omega) h4] at h1
      rw [List.size_toArray, ← hl]
      exact Option.some.inj h1
    exact subscriptTail_builtinR (x := w) pl.isList.typeIs slot_list_getitem.lookup
      (wpAny_getItem_list_neg (Q := fun r s' => r = w ∧ EP X pins σ Q r s') pl.isList (by omega) (by rw [List.size_toArray] <;> omega) (by omega) (by rw [hj]; simpa using ew) ⟨rfl, fin⟩) hs
theorem ix_tup : IxR X (rIxT X.K) := by
  intro value slice pins s σ H x y v u Q I rx ry h hs
  obtain ⟨p, xs, i, z, rfl, rfl, hq, he, q⟩ := h
  cases rx
  obtain ⟨t, rfl⟩ := ry
  obtain ⟨its, r, pl, hz⟩ := I.tuple hq
  obtain ⟨j, h1, h2, h3, h4, h5⟩ := atI_get he
  obtain ⟨w, ew, rw'⟩ := r.get h2
  have hl := r.length
  have hn := line63
  have fin : EP X pins σ Q w s := ⟨z, H, I, rw', q⟩
  exact subscriptTail_builtinR (x := w) pl.typeIs slot_tuple_getitem.lookup
    (getItem_tuple (j := j) (Q := fun r s' => r = w ∧ EP X pins σ Q r s') pl (by omega) (by omega) (by rw [List.size_toArray, ← hl]; exact h1) (by simpa using ew) ⟨rfl, fin⟩) hs
/-- list, tuple or str -/
def rIx (K : PySem.W.Frag) : R2 := fun x y H Q => rIxL K x y H Q ∨ rIxT K x y H Q ∨ rIxS x y H Q
/-! ### xs[i] = v, any sign -/
def rSetL : V → V → V → Hp → (Hp → Prop) → Prop := fun o i v H Q => ∃ p xs k j, o = .ref p ∧ i = .int k ∧ H p = some (.lst xs) ∧ ixN xs.length k = some j ∧ Q (upd H p (.lst (xs.set j v)))
/-! ### slices -/
theorem slice_bounds (lo hi : Option Int) (n : Nat) : (sliceBounds lo hi none n).1 = ((HT.sIx n 0 lo : Nat) : Int) ∧ (sliceBounds lo hi none n).2.1 = ((HT.sIx n n hi : Nat) : Int) ∧ (sliceBounds lo hi none n).2.2 = 1 := by
  refine ⟨?_, ?_, rfl⟩
  · cases lo with
    | none => simp [sliceBounds, HT.sIx]
    | some i =>
      simp only [sliceBounds, HT.sIx, Option.getD_none, show (1 : Int) > 0 by decide, if_true]
      by_cases h : i < 0
      · simp only [h, if_true] <;> omega
      · simp only [h, if_false] <;> omega
  · cases hi with
    | none => simp [sliceBounds, HT.sIx]
    | some i =>
      simp only [sliceBounds, HT.sIx, Option.getD_none, show (1 : Int) > 0 by decide, if_true]
      by_cases h : i < 0
      · simp only [h, if_true] <;> omega
      · simp only [h, if_false] <;> omega
theorem slicePick_cut (its : List Value) (lo hi : Option Int) : slicePick its.toArray lo hi none = ((its.drop (HT.sIx its.length 0 lo)).take (HT.sIx its.length its.length hi - HT.sIx its.length 0 lo)).toArray := by
  obtain ⟨h1, h2, h3⟩ := slice_bounds lo hi its.toArray.size
  unfold slicePick
  rw [h1, h2, h3]
  simp only [sliceRange_one, pick_run, List.size_toArray] <;> rfl
/-- xs[lo:hi] of a list: a new list -/
def rSlL (K : PySem.W.Frag) : V → Option Int → Option Int → Hp → VK → Prop := fun x lo hi H Q => ∃ a xs, x = .ref a ∧ SqL K H a xs ∧ ∀ p, H p = none → Q (.ref p) (upd H p (.lst (cutV xs lo hi)))
theorem sl_list : SlR X (rSlL X.K) := by
  intro pins s σ H x v vl vu lo hi sl Q I rx hs pl pu h
  obtain ⟨a, xs, rfl, hx, q⟩ := h
  cases rx
  obtain ⟨its, r, ht, hz⟩ := I.list hx
  have hlen := r.length
  refine ⟨"list", _, slot_list_getitem.lookup, ht.isList.typeIs, ?_⟩
  refine wpAny_getItem_list_slice ht.isList hs pl pu .none (by simp) ?_ (by rw [List.size_toArray] <;> omega)
  rw [slicePick_cut, ← hlen]
  refine ⟨.ref s.heap.objs.size, _, I.laid (t' := s.toks) (o := .lst (cutV xs lo hi)) (fun b ob q => Heap.get?_push_of_some _ q) (Nat.le_refl _) ?_, rfl, q _ (I.hok.fresh (Nat.le_refl _))⟩
  exact ⟨Nat.le_trans (cutV_length xs lo hi) hz, _, 0, (r.drop (HT.sIx xs.length 0 lo)).take (HT.sIx xs.length xs.length hi - HT.sIx xs.length 0 lo), Heap.get?_push_size _ rfl⟩

/-! ### in, not in: flat items -/
def flatV : V → Bool
  | .non => true
  | .bl _ => true
  | .int _ => true
  | .str _ => true
  | _ => false
/-- == of flat values -/
def eqV : V → V → Bool
  | .non, .non => true
  | .bl a, .bl b => a == b
  | .bl a, .int b => (if a then 1 else 0) == b
  | .int a, .bl b => a == (if b then 1 else 0)
  | .int a, .int b => a == b
  | .str a, .str b => a == b
  | _, _ => false
theorem eqAt_V {A : Around} {s : Shared} {y x : V} {u v : Value} (ry : RelV y u) (rx : RelV x v) (fy : flatV y = true) (fx : flatV x = true) : SeqAt.EqAt A s u v (eqV y x) := by
  cases y with
  | non =>
    cases ry
    cases x with
    | non => cases rx; exact SeqAt.EqAt.same _
    | bl b => cases rx; exact SeqAt.EqAt.none_bool b
    | int b => obtain ⟨t, rfl⟩ := rx; exact SeqAt.EqAt.none_int b t
    | str b => obtain ⟨t, rfl⟩ := rx; exact SeqAt.EqAt.none_str b t
    | _ => exact absurd (show false = true from fx) Bool.false_ne_true
  | bl a =>
    cases ry
    cases x with
    | non => cases rx; exact SeqAt.EqAt.bool_none a
    | bl b => cases rx; exact SeqAt.EqAt.bool_bool a b
    | int b => obtain ⟨t, rfl⟩ := rx; exact SeqAt.EqAt.bool_int a b t
    | str b => obtain ⟨t, rfl⟩ := rx; exact SeqAt.EqAt.bool_str a b t
    | _ => exact absurd (show false = true from fx) Bool.false_ne_true
  | int a =>
    obtain ⟨t', rfl⟩ := ry
    cases x with
    | non => cases rx; exact SeqAt.EqAt.int_none a t'
    | bl b => cases rx; exact SeqAt.EqAt.int_bool a t' b
    | int b => obtain ⟨t, rfl⟩ := rx; exact SeqAt.EqAt.int_int a t' b t
    | str b => obtain ⟨t, rfl⟩ := rx; exact SeqAt.EqAt.int_str a t' b t
    | _ => exact absurd (show false = true from fx) Bool.false_ne_true
  | str a =>
    obtain ⟨t', rfl⟩ := ry
    cases x with
    | non => cases rx; exact SeqAt.EqAt.str_none a t'
    | bl b => cases rx; exact SeqAt.EqAt.str_bool a t' b
    | int b => obtain ⟨t, rfl⟩ := rx; exact SeqAt.EqAt.str_int a t' b t
    | str b => obtain ⟨t, rfl⟩ := rx; exact SeqAt.EqAt.str_str a t' b t
    | _ => exact absurd (show false = true from fx) Bool.false_ne_true
  | _ => exact absurd (show false = true from fy) Bool.false_ne_true
/-- the items' answers, read off the values (a value's own answer does not lean on its token) -/
def eqU (x : V) (u : Value) : Bool := match u with
  | .none => eqV .non x
  | .bool b => eqV (.bl b) x
  | .int i _ => eqV (.int i) x
  | .str z _ => eqV (.str z) x
  | _ => false
theorem eqU_of {x y : V} {u : Value} (r : RelV y u) (f : flatV y = true) : eqU x u = eqV y x := by
  cases y with
  | non => cases r; rfl
  | bl b => cases r; rfl
  | int i => obtain ⟨t, rfl⟩ := r; rfl
  | str z => obtain ⟨t, rfl⟩ := r; rfl
  | _ => exact absurd (show false = true from f) Bool.false_ne_true
theorem any_eqU {x : V} : ∀ {xs : List V} {us : List Value}, Vals xs us → xs.all flatV = true → us.any (eqU x) = xs.any fun y => eqV y x
  | _, _, .nil, _ => rfl
  | y :: xs, u :: us, .cons r t, f => by
    rw [List.all_cons, Bool.and_eq_true] at f
    rw [List.any_cons, List.any_cons, eqU_of r f.1, any_eqU t f.2]
theorem mem_eqAt {A : Around} {s : Shared} {x : V} {v : Value} (rx : RelV x v) (fx : flatV x = true) : ∀ {xs : List V} {us : List Value}, Vals xs us → xs.all flatV = true → ∀ u ∈ us, SeqAt.EqAt A s u v (eqU x u)
  | _, _, .nil, _ => fun u hu => by cases hu
  | y :: xs, u :: us, .cons r t, f => fun u' hu => by
    rw [List.all_cons, Bool.and_eq_true] at f
    rcases List.mem_cons.mp hu with rfl | hu
    · rw [eqU_of r f.1]; exact eqAt_V r rx f.1 fx
    · exact mem_eqAt rx fx t f.2 u' hu
def inV (x : V) (xs : List V) : Bool := xs.any fun y => eqV y x
/-- x in a list or tuple of flat items -/
def rIn (K : PySem.W.Frag) (neg : Bool) : R2 := fun x y H Q => ∃ p xs, y = .ref p ∧ (SqL K H p xs ∨ SqT K H p xs) ∧ flatV x = true ∧ xs.all flatV = true ∧ Q (.bl (if neg then !inV x xs else inV x xs)) H
theorem op_notIn_seq : OpR X (compareOp .NotIn) (rIn X.K true) := by
  intro pins s σ H x y v u Q I rx ry h
  obtain ⟨p, xs, rfl, hq, fx, fs, q⟩ := h
  cases ry
  rcases hq with hq | hq
  · obtain ⟨its, r, pl, hz⟩ := I.list hq
    refine SeqAt.notIn_listAt (eqU x) pl.isList (fun w hw => mem_eqAt rx fx r fs w (by simpa using hw)) ⟨.bl _, H, I, rfl, ?_⟩
    rw [show its.toArray.any (eqU x) = its.any (eqU x) by simp, any_eqU r fs]
    exact q
  · obtain ⟨its, r, pl, hz⟩ := I.tuple hq
    refine SeqAt.notIn_tupleAt (eqU x) pl (fun w hw => mem_eqAt rx fx r fs w (by simpa using hw)) ⟨.bl _, H, I, rfl, ?_⟩
    rw [show its.toArray.any (eqU x) = its.any (eqU x) by simp, any_eqU r fs]
    exact q
/-! ### len, list(x), tuple(x) of any list or tuple that is read -/
theorem call_len_seq : CallR X (.builtin "len") (fun xs H Q => ∃ p ys, xs = [.ref p] ∧ (SqL X.K H p ys ∨ SqT X.K H p ys) ∧ Q (.int ys.length) H) := by
  intro pins s σ H xs us Q I r h
  obtain ⟨p, ys, rfl, hq, q⟩ := h
  obtain ⟨u, rfl, rx⟩ := vals1 r
  cases rx
  have hn := line63
  rcases hq with hq | hq
  · obtain ⟨its, r', pl, hz⟩ := I.list hq
    have hlen := r'.length
    exact Calls.call_len_list pl.isList (by simp only [List.size_toArray] <;> omega) ⟨.int ys.length, H, I.tok _, ⟨s.toks + 1, by rw [List.size_toArray, hlen]⟩, q⟩
  · obtain ⟨its, r', pl, hz⟩ := I.tuple hq
    have hlen := r'.length
    exact len_tuple pl (by simp only [List.size_toArray] <;> omega) ⟨.int ys.length, H, I.tok _, ⟨s.toks + 1, by rw [List.size_toArray, hlen]⟩, q⟩
theorem call_len_str : CallR X (.builtin "len") (fun xs H Q => ∃ z, xs = [.str z] ∧ z.length ≤ sizeLine ∧ Q (.int z.length) H) := by
  intro pins s σ H xs us Q I r h
  obtain ⟨z, rfl, hz, q⟩ := h
  obtain ⟨u, rfl, t, rfl⟩ := vals1 r
  have hn := line63
  exact len_str (by omega) ⟨.int z.length, H, I.tok _, ⟨_, rfl⟩, q⟩
theorem CallR.or {f : Value} {r r' : List V → Hp → VK → Prop} (h : CallR X f r) (h' : CallR X f r') : CallR X f (fun xs H Q => r xs H Q ∨ r' xs H Q) := by
  intro pins s σ H xs us Q I rs q
  rcases q with q | q
  · exact h pins s σ H xs us Q I rs q
  · exact h' pins s σ H xs us Q I rs q
theorem call_list_of : CallR X (.type "list") (fun xs H Q => ∃ p ys, xs = [.ref p] ∧ (SqL X.K H p ys ∨ SqT X.K H p ys) ∧ ∀ l, H l = none → Q (.ref l) (upd H l (.lst ys))) := by
  intro pins s σ H xs us Q I r h
  obtain ⟨p, ys, rfl, hq, q⟩ := h
  obtain ⟨u, rfl, rx⟩ := vals1 r
  cases rx
  have fin : ∀ (its : List Value), Vals ys its → ys.length ≤ sizeLine → ∀ (h' : Heap) (c' : Nat), (∀ b o', s.heap.get? b = some o' → h'.get? b = some o') →
      h'.get? s.heap.objs.size = some { cls := .type "list", dict := none, data := .seq its.toArray c', slots := #[] } → EP X pins σ Q (.ref s.heap.objs.size) { s with heap := h' } := fun its r' hz h' c' kp e =>
    ⟨.ref s.heap.objs.size, _, I.laid (t' := s.toks) kp (Nat.le_refl _) (show ObjOk X.prog X.w _ h' _ (.lst ys) from ⟨hz, its, c', r', e⟩), rfl, q _ (I.hok.fresh (Nat.le_refl _))⟩
  rcases hq with hq | hq
  · obtain ⟨its, r', pl, hz⟩ := I.list hq
    have hlen := r'.length
    obtain ⟨o, ho, hc, n, hd⟩ := pl.isList
    exact call_list_seq p (.inl rfl) ho hc hd (fun h' c' kp e => fin its r' hz h' c' kp e) (by simp only [List.size_toArray] <;> omega)
  · obtain ⟨its, r', pl, hz⟩ := I.tuple hq
    have hlen := r'.length
    obtain ⟨o, ho, hc, n, hd⟩ := pl
    exact call_list_seq p (.inr rfl) ho hc hd (fun h' c' kp e => fin its r' hz h' c' kp e) (by simp only [List.size_toArray] <;> omega)
/-! ### the call of a builtin's method: o.m(..) -/
/-- the value is of that builtin type -/
def tyV (K : PySem.W.Frag) (T : String) (x : V) (H : Hp) : Prop := match x with
  | .str _ => T = "str"
  | .int _ => T = "int"
  | .ref p => (T = "list" ∧ ∃ xs, SqL K H p xs) ∨ (T = "tuple" ∧ ∃ o, K.lookup p = some o ∧ o.cls = .type "tuple" ∧ o.dict = none) ∨
      (T = "dict" ∧ ((∃ kvs, H p = some (.dK kvs)) ∨ ∃ kvs, H p = some (.dT kvs))) ∨ (T = "set" ∧ ∃ S n, H p = some (.set S n))
  | _ => False
def tBM0 (K : PySem.W.Frag) (T : String) (r : V → List V → Hp → VK → Prop) (to : TE) : TE := fun σ H Q => to σ H fun x H1 => tyV K T x H1 ∧ r x [] H1 Q
def tBM (K : PySem.W.Frag) (T : String) (r : V → List V → Hp → VK → Prop) (to : TE) (t : TA) : TE := fun σ H Q => to σ H fun x H1 => tyV K T x H1 ∧ t σ H1 fun xs H2 => r x xs H2 Q
variable {o e : Expr} {es : List Expr} {to : TE} {t : TA} {name : Str} {apos cpos : Pos} {T id : String} {r : V → List V → Hp → VK → Prop}
/- xs.append(e), list.index on a module's tuple .. are MtR facts of 06m -/
end
end L2

namespace L2
open PySem PySem.Spec PyProof.Rows

def MtM (X : Cx) (id : String) (r : V → List V → Hp → VK → Prop) : Prop :=
  ∀ (pins : List (Addr × Obj)) (s : Shared) (σ : St) (H : Hp) (x : V) (xs : List V) (v : Value) (us : List Value) (Q : VK), Inv X pins σ H s → RelV x v → Vals xs us → r x xs H Q →
    wpAny (model X.prog X.w) X.A (call (.builtin id) (v :: us)) (EP X pins σ Q) X.xe s

/-! ### lists of values -/
theorem Vals.one : ∀ {x : V} {us : List Value}, Vals [x] us → ∃ u, us = [u] ∧ RelV x u
  | _, _, .cons r .nil => ⟨_, rfl, r⟩
theorem Vals.two : ∀ {x y : V} {us : List Value}, Vals [x, y] us → ∃ u v, us = [u, v] ∧ RelV x u ∧ RelV y v
  | _, _, _, .cons r (.cons q .nil) => ⟨_, _, rfl, r, q⟩
section
variable {X : Cx} {pins : List (Addr × Obj)} {σ : St} {H : Hp} {s : Shared} {l b : Addr} {xs ys zs : List V}

/-! ### the two steps: a tracked list is rewritten, a new list is laid -/
theorem Inv.lnew {its : List Value} {t' : Nat} (I : Inv X pins σ H s) (hv : Vals ys its) (hz : ys.length ≤ sizeLine) :
    Inv X pins σ (upd H s.heap.objs.size (.lst ys)) { s with heap := s.heap.push { cls := .type "list", data := .seq its.toArray }, toks := t' } :=
  I.laid (fun _ _ q => Heap.get?_push_of_some _ q) (Nat.le_refl _) ⟨hz, its, 0, hv, Heap.get?_push_size _ rfl⟩
theorem Inv.fresh (I : Inv X pins σ H s) : H s.heap.objs.size = none := I.hok.fresh (Nat.le_refl _)
theorem Inv.lstM (I : Inv X pins σ H s) (hH : H l = some (.lst xs)) : xs.length ≤ sizeLine ∧ ∃ (its : List Value) (n : Nat), Vals xs its ∧ xs.length = its.length ∧ s.heap.get? l = some { cls := .type "list", data := .seq its.toArray n } := by
  obtain ⟨z, its, n, r, e⟩ := I.hok l _ hH
  exact ⟨z, its, n, r, r.length, e⟩

theorem notLongL {n : Nat} (h : n ≤ sizeLine) : Builtin.List.listTooLong n = false := by
  unfold Builtin.List.listTooLong
  exact decide_eq_false (by omega)
end

section
variable {X : Cx}

/-! ### methods -/
def rAppend : V → List V → Hp → VK → Prop := fun x vs H Q => ∃ l xs y, x = .ref l ∧ vs = [y] ∧ H l = some (.lst xs) ∧ xs.length < sizeLine ∧ Q .non (upd H l (.lst (xs ++ [y])))
def rExtend : V → List V → Hp → VK → Prop := fun x vs H Q => ∃ l b xs zs, x = .ref l ∧ vs = [.ref b] ∧ H l = some (.lst xs) ∧ H b = some (.lst zs) ∧ xs.length + zs.length ≤ sizeLine ∧ Q .non (upd H l (.lst (xs ++ zs)))
def rPop : V → List V → Hp → VK → Prop := fun x vs H Q => ∃ l xs y, x = .ref l ∧ vs = [] ∧ H l = some (.lst xs) ∧ xs[xs.length - 1]? = some y ∧ Q y (upd H l (.lst xs.dropLast))
def rPopAt : V → List V → Hp → VK → Prop := fun x vs H Q => ∃ l xs i k y, x = .ref l ∧ vs = [.int i] ∧ H l = some (.lst xs) ∧ -(2 ^ 63) ≤ i ∧ i < 2 ^ 63 ∧ seqIndex? i xs.length = some k ∧ xs[k]? = some y ∧ Q y (upd H l (.lst (xs.eraseIdx k)))
def rReverse : V → List V → Hp → VK → Prop := fun x vs H Q => ∃ l xs, x = .ref l ∧ vs = [] ∧ H l = some (.lst xs) ∧ Q .non (upd H l (.lst xs.reverse))
def rClear : V → List V → Hp → VK → Prop := fun x vs H Q => ∃ l xs, x = .ref l ∧ vs = [] ∧ H l = some (.lst xs) ∧ Q .non (upd H l (.lst []))
/-! ### list + list, list += list, list * int -/
def rCat : R2 := fun x y H Q => ∃ l b xs zs, x = .ref l ∧ y = .ref b ∧ H l = some (.lst xs) ∧ H b = some (.lst zs) ∧ xs.length + zs.length ≤ sizeLine ∧ ∀ p, H p = none → Q (.ref p) (upd H p (.lst (xs ++ zs)))
theorem op_cat : OpR X (binaryOp .Add) rCat := by
  intro pins s σ H x y v u Q I rx ry h
  obtain ⟨l, b, xs, zs, rfl, rfl, hH, hB, hz, q⟩ := h
  cases rx
  cases ry
  obtain ⟨z, its, n, r, hl, e⟩ := I.lstM hH
  obtain ⟨z2, its2, n2, r2, hl2, e2⟩ := I.lstM hB
  refine PySem.P.add_list e e2 ?_ (by rw [List.size_toArray, List.size_toArray]; omega)
  have ea : its.toArray ++ its2.toArray = (its ++ its2).toArray := by simp
  rw [ea]
  exact ⟨.ref _, _, I.lnew (t' := s.toks) (r.append r2) (by rw [List.length_append]; omega), rfl, q _ I.fresh⟩
/-- a list times an int (a negative one is nothing) -/
def rRep : R2 := fun x y H Q => ∃ l k xs, x = .ref l ∧ y = .int k ∧ H l = some (.lst xs) ∧ -(2 ^ 63) ≤ k ∧ k < 2 ^ 63 ∧ xs.length * k.toNat ≤ sizeLine ∧
  ∀ p, H p = none → Q (.ref p) (upd H p (.lst (List.replicate k.toNat xs).flatten))
/-! ### del xs[i] -/
end

/-! ### xs[a:b] = ys -/
section
variable {prog : Program} {w : World} {A : Around} {E : Value → Shared → Prop} {s : Shared}
theorem bounds_run {a c n : Nat} (hac : a ≤ c) (hc : c ≤ n) : sliceBounds (some (a : Int)) (some (c : Int)) none n = ((a : Int), (c : Int), 1) := by
  simp only [sliceBounds, Option.getD_none]
  have h1 : ¬ ((a : Int) < 0) := by omega
  have h2 : ¬ ((c : Int) < 0) := by omega
  simp only [h1, h2, if_false, show (1 : Int) > 0 by decide, if_true]
  congr 1
  · omega
  · congr 1; omega
set_option maxRecDepth 100000 in
/-- list.__setitem__ with a slice of step one and another list -/
theorem setItem_slice {l b sl : Addr} {items new : Array Value} {n n2 : Nat} {vl vu : Value} {a c : Nat} {Q : Unit → Shared → Prop}
    (e : s.heap.get? l = some { cls := .type "list", data := .seq items n }) (e2 : s.heap.get? b = some { cls := .type "list", data := .seq new n2 }) (hne : l ≠ b)
    (hs : s.heap.IsSliceOf sl vl vu .none) (pl : IsPart vl (some (a : Int))) (pu : IsPart vu (some (c : Int))) (hac : a ≤ c) (hc : c ≤ items.size)
    (hsz : items.size + new.size ≤ sizeLine) (h : Q () { s with heap := s.heap.update l (Obj.mapSeq fun xs => xs.extract 0 a ++ new ++ xs.extract c xs.size) }) :
    wpAny (model prog w) A (setItem (.ref l) (.ref sl) (.ref b)) Q E s := by
  have hl : s.heap.IsList l items := PySem.IsL.isList e
  have hb : s.heap.IsList b new := PySem.IsL.isList e2
  obtain ⟨os, hos, hcs, hds⟩ := id hs
  have hTs : s.TypeIs (.ref sl) "slice" := ⟨os, hos, hcs⟩
  have hstep : ¬ ((rawPart none == rawInt 0) = true) := Bool.false_ne_true
  have hsame : Builtin.List.listSameRef (.ref l) (.ref b) = false := by
    unfold Builtin.List.listSameRef
    exact beq_eq_false_iff_ne.mpr hne
  have hmax : (max (a : Int) (c : Int)).toNat = c := by omega
  have hz' : ((fun xs : Array Value => xs.extract 0 a ++ new ++ xs.extract c xs.size) items).size ≤ sizeLine + 1 := by
    simp only [Array.size_append, Array.size_extract]
    omega
  unfold setItem
  try with_reducible refine wpAny_holding ?_
  first | refine wpAny_bind (wpAny_pure ?_) | skip
  refine wpAny_bind (wpAny_sequenceKey hl.typeIs (by decide) ?_)
  refine wpAny_bind (wpAny_callSpecial?_slot (name := Str.ofString "__setitem__") hl.typeIs slot_list_setitem
    (wpAny_call_entry slot_list_setitem hl.typeIs entry_list_setitem ?_ (args_list_setitem _ _ _)))
  show wpAny _ _ (Builtin.List.listSubscript? (.ref sl) >>= _) _ _ s
  refine wpAny_bind ?_
  unfold Builtin.List.listSubscript?
  refine wpAny_bind (wpAny_specialOf hTs slice_no_index ?_)
  simp only [Option.isNone_none, if_true]
  refine wpAny_pure ?_
  show wpAny _ _ (typeOf (.ref sl) >>= _) _ _ s
  refine wpAny_bind (wpAny_typeOf hTs ?_)
  first
    | rw [if_neg (by decide)]
    | refine PySem.W.KFB.if_not (by decide) ?_
  rw [listSliceParts_eq]
  refine wpAny_bind (wpAny_bind (wpAny_field hos hds (x := .none) rfl (wpAny_bind (wpAny_listPart .none ?_))))
  rw [if_neg hstep]
  refine wpAny_bind (wpAny_field hos hds (x := vl) rfl (wpAny_bind (wpAny_listPart pl ?_)))
  refine wpAny_bind (wpAny_field hos hds (x := vu) rfl (wpAny_bind (wpAny_listPart pu (wpAny_pure ?_))))
  first
    | simp only [hsame, Bool.false_eq_true, if_false]
    | refine PySem.W.KFB.if_not hsame ?_
    | (dsimp only
       rw [if_neg (by rw [hsame]; exact Bool.false_ne_true)])
  refine wpAny_bind (m := Builtin.List.listAllItems (.ref b) "must assign iterable to extended slice") ?_
  unfold Builtin.List.listAllItems
  refine wpAny_bind (wpAny_typeOf hb.typeIs ?_)
  first
    | refine PySem.W.KFB.if_so (by decide) ?_
    | rw [if_pos (by decide)]
    | simp only [beq_self_eq_true, Bool.true_or, if_true]
  unfold Builtin.List.listItems
  refine wpAny_bind (wpAny_seqItems e2 rfl (wpAny_pure ?_))
  refine wpAny_bind (wpAny_bind (wpAny_seqItems e rfl (wpAny_pure ?_)))
  refine wpAny_bind (wpAny_of_eq ((sliceIndices_raw (some (a : Int)) (some (c : Int)) none items.size (by simp)).trans (congrArg (pure : Int × Int × Int → Sem (Int × Int × Int)) (bounds_run hac hc))) ?_)
  show wpAny _ _ (if ((1 : Int) == 1) = true then _ else _) _ _ s
  rw [if_pos (by decide)]
  refine wpAny_bind (wpAny_rule ?_)
  first
    | simp only [notLongL hsz, Bool.false_eq_true, if_false]
    | refine PySem.W.KFB.if_not (notLongL hsz) ?_
  first | refine wpAny_bind (wpAny_pure ?_) | skip
  show wpAny _ _ (updateSeq l (fun xs => xs.extract 0 ((a : Int)).toNat ++ new ++ xs.extract (max (a : Int) (c : Int)).toNat xs.size) >>= _) _ _ s
  rw [hmax, Int.toNat_natCast]
  refine wpAny_bind (wpAny_updateSeq (hz := Nat.le_trans (Nat.le_add_right _ _) hsz) (_hz' := hz') e rfl ?_)
  refine wpAny_bind (wpAny_letGo ?_)
  first
    | exact wpAny_bind (wpAny_pure (wpAny_pure ⟨.none, rfl, wpAny_pure h⟩))
    | exact wpAny_pure ⟨.none, rfl, wpAny_pure h⟩
end

section
variable {X : Cx}
end
end L2

namespace Att
open PySem PySem.W PySem.Calls PyProof.Rows

/-! ### the script -/
theorem ints_of_wellAll {P : Params} {h : Heap} : ∀ (ns : List Int) (vs : List Value), WellAll P h vs (ns.map WData.int) → IntsAre vs ns := by
  intro ns
  induction ns with
  | nil =>
    intro vs w
    rw [List.map_nil] at w
    cases w
    exact .nil
  | cons n ns ih =>
    intro vs w
    rw [List.map_cons] at w
    cases w with
    | cons a b =>
      cases a
      exact .cons _ _ (ih _ b)

theorem script_of {l : OpenLaw} {n : Nat} (hn : l.most = some n) {P : Params} {h : Heap} {args : List WData} {vals : List Value}
    (hpre : l.row.toRowW.claim.pre args = true) (hwl : WellAll P h vals args) :
    ∃ a vs ns, vals = [Value.ref a] ∧ args = [WData.list (ns.map WData.int)] ∧ h.get? a = some { cls := .type "list", data := .seq vs.toArray } ∧ IntsAre vs ns ∧ ns.length ≤ n := by
  have hsh : WShape.hasAll [] args [.list .int] = true := (pre_splitW hpre).1
  have hc : l.pre.holds [] { args := args } = true := (pre_splitW hpre).2
  obtain ⟨d, r, rfl, h1, h2⟩ := hasAllW_cons hsh
  obtain rfl := hasAllW_nil h2
  obtain ⟨xs, rfl, h3⟩ := hasW_list h1
  obtain ⟨ns, rfl⟩ := items_int h3
  have hlen : ns.length ≤ n := by
    unfold OpenLaw.pre at hc
    have h4 : (WTm.not (.lt (.lit (.int (n : Int))) (.len (.arg 0)))).holds [] { args := [.list (ns.map .int)] } = true := by
      have h4 := (holds_andW hc).1
      rw [hn] at h4
      exact h4
    have h5 := condW_of h4 (w_not (w_lt w_lit (w_len_list (w_arg rfl))))
    rw [List.length_map] at h5
    refine Nat.le_of_not_lt fun q => ?_
    have q' : (n : Int) < ((ns.length : Nat) : Int) := by omega
    first
      | (rw [decide_eq_true q'] at h5; exact absurd h5 (by decide))
      | (simp at h5; omega)
  cases hwl with
  | cons w1 w2 =>
    cases w2
    cases w1 with
    | list ho hall => exact ⟨_, _, ns, rfl, rfl, ho, ints_of_wellAll ns _ hall, hlen⟩

theorem post_true (l : OpenLaw) (args : List WData) : l.row.toRowW.claim.post args (.bool true) args = true :=
  postW_of (r := l.row.toRowW) (X := (true == true))
    (show WShape.has [] (.bool true) .bool = true by first | rfl | decide | simp [WShape.has, WShape.arms, WShape.armsAll])
    (show (WTm.eq .res (.lit (.bool true))).value [] { args := args, res := some (.bool true), after := args } = some (.bool (true == true)) from w_eq_bool (w_res rfl) w_lit) rfl

/-! ### the attachment: holds_open's last premise (the goal 'hc' behind k_head) from a wpAny of the law's body -/
/-- the same from a codeAny of the CALL (for a layer whose function contracts speak of calls) -/
theorem attach_call {l : OpenLaw} {n : Nat} {q : Program} {loose : List Str} {XP : (Str → Option Value) → Heap → Prop} {YP : World → Heap → Prop} {d : DefRec}
    (hn : l.most = some n) (hdf : d.params.defaults = [])
    (call : ∀ (w : World) (s₀ s₁ : Shared) (mg mb : Str → Option Value) (fa : Addr) (o : Obj) (pm cd doc : Value) (a : Addr) (vs : List Value) (ns : List Int),
      Ground q loose [] XP w s₀ mg mb s₁.heap → YP w s₁.heap →
      s₁.heap.get? fa = some o → o.data = .func (docDef d.name d.params d.body d.scope pm cd doc) → s₁.heap.CodeRec cd d.name → mg d.name = some (.ref fa) →
      s₁.heap.get? a = some { cls := .type "list", data := .seq vs.toArray } → IntsAre vs ns → ns.length ≤ n → s₁.gens = #[] →
      codeAny (model l.prog w) callerA (.call (.ref fa) ⟨[.ref a], []⟩) (fun r s' => r = .ok (.ret (.bool true)) ∧ OldK s₁.heap s'.heap ∧ s'.os = s₁.os ∧ AllBare s'.gens) s₁) :
    WalkO q loose XP YP l.row.toRowW d [] (fun f vs => PySem.call f vs) := by
  intro w s₀ s₁ mg mb G Y fa o pm cd doc dV kV ho hd hcd hD hmg hg args vals as hpre hlay hrd hwl hlo
  obtain rfl : dV = .none := Dflts.none hD hdf
  obtain rfl : kV = .none := Dflts.noKw hD
  obtain ⟨a, vs, ns, rfl, rfl, hobj, hints, hlen⟩ := script_of hn hpre hwl
  refine enter_call (codeAny_mono (call w s₀ s₁ mg mb fa o pm cd doc a vs ns G Y ho (fd_plain hd) hcd hmg hobj hints hlen hg) fun r s' hq => ?_)
  obtain ⟨rfl, h2, h3, h4⟩ := hq
  exact ⟨.inl ⟨.bool true, .bool true, [], rfl, fun _ => rfl, .bool true, post_true l _, fun _ => ⟨List.Pairwise.nil, fun _ hm => (nomatch hm)⟩⟩, h2, h3, h4⟩

/-! ### rules over ANY heap (no ledger) from facts about the written part K: the library's own take a ledger (News) for what they write -/
section
variable {prog : Program} {w : World} {A : Around} {E : Value → Shared → Prop} {s : Shared} {K : Frag}

/-! the whole heap as the ledger: makes every rule that writes through a ledger a rule over any heap -/
def noObjs (h : Heap) : Heap := { h with objs := #[] }
def ledger (h : Heap) (L d : Addr) : List (Addr × Obj) := (List.range h.objs.size).filterMap fun a => if a = L ∨ a = d then none else (h.get? a).map fun o => (a, o)
end
end Att

namespace L2
open PySem PySem.Spec PyProof.Rows

theorem vals_ints : ∀ {vs : List Value} {ns : List Int}, IntsAre vs ns → Vals (ns.map V.int) vs
  | _, _, .nil => .nil
  | _, _, .cons n t h => .cons ⟨t, rfl⟩ (vals_ints h)

/-- nothing is tracked but the script, known to the object (or it is an object of the module) -/
def Only (H : Hp) : Prop := ∀ b, H b = none ∨ ∃ o xs, H b = some (.frz o (.lst xs))

end L2

namespace L2
open PySem PySem.Spec PyProof.Rows

abbrev KOf {K : PySem.W.Frag} {h : Heap} (_ : K.In h) : PySem.W.Frag := K

end L2

/- THE LAST THEOREM (shape; LID, My.* are yours):
   My.Adr: a structure of the addresses that your layer names (classes, functions); My.Txt K t: a structure (Prop) of the equations over K;
   My.txt_mk : {K} {implicit addresses ..} (e1 : nsIn K mainGlobals "law" = some (some (.ref f))) (e2 : K.lookup f = some ⟨oc, od, .func (fnOf "law" "law" params body scope dV kV doc pm an cdv ct), sl⟩) (e3 : codeIn K cdv "law" = true) .. : ∃ t, My.Txt K t

set_option maxRecDepth 100000 in
set_option maxHeartbeats 0 in
theorem PySem.Challenge.cw_LID_holds : PySem.Challenge.rw_LID.Holds := by
  w_on; o_law; k_head; (case hw => w_witness2)
  k_fill
  refine L2.walk_of (l := PySem.Challenge.rw_LID) (n := 63) (k := 40) (x := "script") (CX := fun w => ..) (sp := fun _ => My.sp_law) rfl (by decide) rfl ⟨rfl, by decide, by decide⟩ (fun w h Y => PySem.W.kIn_of Y) ?F ?S ?C
  case F =>
    intro w mg fa h KX G hmg
    have T : ∃ t, My.Txt (L2.KOf KX) t := by
      dsimp only [L2.KOf]                          -- K must stand as «<heap const> w.params» for k_is
      refine' My.txt_mk ?e1 ?e2 ?e3 ..
      (case e1 => PySem.W.k_is)                    -- in the order: a name -> its address -> its object -> its parts
      (case e2 => PySem.W.k_is)
      ..
    obtain ⟨t, T⟩ := T
    have e0 := hmg.symm.trans (PySem.W.mg_of KX G T.law)
    cases e0                                       -- fa is the law's own address
    exact ⟨_, fun s u => .of_eq rfl, fun base kb nb => My.law_fn T kb nb⟩     -- if «.of_eq rfl» comes too early: refine' ⟨_, ?b, fun base kb nb => My.law_fn T kb nb⟩; exact fun s u => .of_eq rfl
  case S => exact fun w H a ns hl hO hS => ..
  case C => exact ..
(the tactic k_is has no namespace: write k_is) -/

/-! SHORT WORDS over the layer: a def of the text, its body, what a loop and a test want. -/
namespace L2
open PySem PySem.Spec PyProof.Rows

/-! ### the text by places -/
/-- the j-th statement of a class's body -/
def inClass (s : Stmt) (j : Nat) : Stmt := match s with
  | .ClassDef _ _ _ body _ _ _ _ _ _ _ => body.getD j (.Pass ⟨0, 0, 0, 0⟩)
  | _ => .Pass ⟨0, 0, 0, 0⟩
def defArgs (s : Stmt) : Arguments := match s with
  | .FunctionDef _ a _ _ _ _ _ _ _ _ => a
  | _ => { posonlyargs := [], args := [], vararg := none, kwonlyargs := [], kw_defaults := [], kwarg := none, defaults := [] }
def defBody (s : Stmt) : List Stmt := match s with
  | .FunctionDef _ _ b _ _ _ _ _ _ _ => b
  | _ => []
def defScope (s : Stmt) : Scope := match s with
  | .FunctionDef _ _ _ _ _ _ sc _ _ _ => sc
  | _ => { kind := .function, names := [], isGenerator := false, isCoroutine := false }

/-! ### no exception leaves a def -/
abbrev CX0 : CXT := fun _ _ _ _ _ _ => False
abbrev E0 : XK := fun _ _ _ => False
theorem pass0 {X : Cx} : Passes CX0 X E0 := fun _ _ _ _ _ _ _ h => h.elim

/-! ### a def (or method) of the text as it stands behind the top -/
structure Fun (K : PySem.W.Frag) (x qual : Str) (st : Stmt) (f : Addr) (fd : FuncData) : Prop where
  ex : ∃ (oc : Value) (od : Option Addr) (kV doc pm : Value) (an : Option Addr) (cdv ct : Value) (osl : Array (Option Value)),
    fd = PySem.W.fnOf x qual (defArgs st) (defBody st) (defScope st) .none kV doc pm an cdv ct ∧ K.lookup f = some ⟨oc, od, .func fd, osl⟩ ∧ PySem.W.codeIn K cdv qual = true
  kp : PySem.W.keepIn K (.ref f) = true
section
variable {P : Program} {w : World} {K : PySem.W.Frag} {mg : Str → Option Value} {base : Heap}
/-- THE RULE for a def: its body as a term of rules, and the reading of that term -/
theorem Fun.ok {x qual : Str} {st : Stmt} {f : Addr} {fd : FuncData} {N ps : List Str} {k : Nat} {sp : Sp} (F : Fun K x qual st f fd) (S : FnScope N ps (defScope st)) (len : ∀ vs H Q E, sp vs H Q E → vs.length = ps.length)
    (hbody : ∀ (cdv : Value) (A : Around) (outer : List Env) (s : Shared) (H : Hp) (vs : List V) (Q : VK) (E : XK), Room k (A.deeper (envOfC qual (defScope st) s.heap.objs.size f cdv)) → sp vs H Q E →
      ∃ t, PSs (cxOf CX0 P w K mg base N qual (defScope st) f cdv A outer s H E).nox (defBody st) t ∧ t { nx := fun _ H' => Q .non H', rt := Q } (start N vs) H) : FnOk P w K mg base CX0 (k + 1) f fd ps sp := by
  obtain ⟨oc, od, kV, doc, pm, an, cdv, ct, osl, rfl, lk, hcd⟩ := F.ex
  refine fn_of lk hcd S len fun A outer s H vs Q E hr hsp => ?_
  obtain ⟨t, h, q⟩ := hbody cdv A outer s H vs Q E hr hsp
  exact ⟨t, h.nox, q⟩
/-- how its arguments bind (no defaults): h is «fun _ _ _ _ _ _ us hl => match us, hl with | [_, _], _ => rfl», one _ a parameter -/
theorem Fun.binds {x qual : Str} {st : Stmt} {f : Addr} {fd : FuncData} {ps : List Str} (F : Fun K x qual st f fd)
    (h : ∀ (kV doc pm : Value) (an : Option Addr) (cdv ct : Value) (us : List Value), us.length = ps.length → bindArgs (PySem.W.fnOf x qual (defArgs st) (defBody st) (defScope st) .none kV doc pm an cdv ct) ⟨us, []⟩ = pure (ps.zip us)) : Binds K fd ps [] := by
  obtain ⟨oc, od, kV, doc, pm, an, cdv, ct, osl, rfl, lk, hcd⟩ := F.ex
  exact .all (h kV doc pm an cdv ct)
theorem fun_mk {x qual : Str} {st : Stmt} {f : Addr} {oc : Value} {od an : Option Addr} {osl : Array (Option Value)} {kV doc pm cdv ct : Value} (l : K.lookup f = some ⟨oc, od, .func (PySem.W.fnOf x qual (defArgs st) (defBody st) (defScope st) .none kV doc pm an cdv ct), osl⟩)
    (c : PySem.W.codeIn K cdv qual = true) (k : PySem.W.keepIn K (.ref f) = true) : Fun K x qual st f (PySem.W.fnOf x qual (defArgs st) (defBody st) (defScope st) .none kV doc pm an cdv ct) := ⟨⟨oc, od, kV, doc, pm, an, cdv, ct, osl, rfl, l, c⟩, k⟩
end
theorem hu_of {A : Around} {k : Nat} (hr : Room k A) : A.units + 1 < cLine := Nat.lt_of_le_of_lt (Nat.add_le_add_left (by decide : 1 ≤ 64) _) hr.units
theorem small1000 {n : Nat} (h : n ≤ 1000) : n < sizeLine := Nat.lt_of_le_of_lt h (by decide)

/-! ### expressions in short: the name that stands in the i-th slot -/
section
variable {X : Cx}
theorem pv (i : Nat) {x : Str} {pos : Pos} (hN : X.N[i]? = some x := by rfl) (hv : Vis X.env.scope x := by first | exact Or.inl rfl | exact Or.inr (Or.inl rfl) | exact Or.inr (Or.inr rfl)) (hd : (x == ("__debug__" : Str)) = false := by decide)
    (hcd : (x == ("__classdict__" : Str)) = false := by decide) : PE X (.Name x pos) (tVar i) := pe_var hN hv hd hcd
end

/-! ### tests -/
theorem iteF {A B : Prop} (h : B) : if false = true then A else B := by
  rw [if_neg Bool.false_ne_true]
  exact h
theorem iteT {A B : Prop} (h : A) : if true = true then A else B := by
  rw [if_pos rfl]
  exact h
/-! ### heaps -/
/-- all that was tracked is as it was -/
def Same (H H' : Hp) : Prop := ∀ b o, H b = some o → H' b = some o
theorem Same.refl (H : Hp) : Same H H := fun _ _ h => h
theorem Same.trans {H H1 H2 : Hp} (a : Same H H1) (b : Same H1 H2) : Same H H2 := fun c o h => b c o (a c o h)
theorem Same.seq {K : PySem.W.Frag} {H H' : Hp} {a : Addr} {xs : List V} (e : Same H H') (h : SqL K H a xs) : SqL K H' a xs := by
  rcases h with (h | ⟨o, h⟩) | h
  · exact .inl (.inl (e _ _ h))
  · exact .inl (.inr ⟨o, e _ _ h⟩)
  · exact .inr h

end L2

set_option Elab.async false
set_option linter.all false
set_option maxRecDepth 100000
namespace L2
open PySem PySem.Spec PyProof.Rows

/-! ### lists of pairs as tables -/
section
variable {κ : Type} [DecidableEq κ]
def valV (kvs : List (κ × V)) (k : κ) : Option V := (kvs.find? fun kv => decide (kv.1 = k)).map (·.2)
/-- in its place, or at the end -/
def putK (kvs : List (κ × V)) (k : κ) (v : V) : List (κ × V) :=
  if (kvs.any fun kv => decide (kv.1 = k)) = true then kvs.map (fun kv => if kv.1 = k then (kv.1, v) else kv) else kvs ++ [(k, v)]
def dropK (kvs : List (κ × V)) (k : κ) : List (κ × V) := kvs.filter fun kv => decide (kv.1 ≠ k)

theorem valV_pos {p : κ × V} {r : List (κ × V)} {k : κ} (e : p.1 = k) : valV (p :: r) k = some p.2 := by simp [valV, List.find?_cons, e]
theorem valV_neg {p : κ × V} {r : List (κ × V)} {k : κ} (e : ¬ p.1 = k) : valV (p :: r) k = valV r k := by simp [valV, List.find?_cons, e]
theorem valV_any (k : κ) : ∀ kvs : List (κ × V), (kvs.any fun kv => decide (kv.1 = k)) = (valV kvs k).isSome
  | [] => rfl
  | p :: r => by
    rw [List.any_cons]
    by_cases e : p.1 = k
    · simp only [valV_pos e, decide_eq_true e, Bool.true_or, Option.isSome_some]
    · rw [valV_neg e, decide_eq_false e, Bool.false_or]; exact valV_any k r
theorem length_putK (kvs : List (κ × V)) (k : κ) (v : V) : (putK kvs k v).length ≤ kvs.length + 1 := by
  unfold putK
  split
  · rw [List.length_map]; omega
  · rw [List.length_append, List.length_cons, List.length_nil]; omega
theorem RelO.isSome_eq {o : Option V} {u : Option Value} (r : RelO o u) : o.isSome = u.isSome := by
  cases o with
  | none => cases u with
    | none => rfl
    | some _ => exact (show False from r).elim
  | some _ => cases u with
    | none => exact (show False from r).elim
    | some _ => rfl
theorem RelO.getD {o : Option V} {u : Option Value} {d : V} {d' : Value} (r : RelO o u) (rd : RelV d d') : RelV (o.getD d) (u.getD d') := by
  cases o with
  | none => cases u with
    | none => exact rd
    | some _ => exact (show False from r).elim
  | some _ => cases u with
    | none => exact (show False from r).elim
    | some _ => exact r

/-- raw tables of the same keys -/
theorem KV.val {kvs : List (κ × V)} {vs : List (κ × Value)} (r : KV kvs vs) (k : κ) : RelO (valV kvs k) (valueAt vs k) := by
  unfold KV at r
  induction r with
  | nil => exact True.intro
  | @cons p q ps qs h t ih =>
    obtain ⟨h1, h2⟩ := h
    by_cases e : p.1 = k
    · have e' : q.1 = k := h1.symm.trans e
      have b : valueAt (q :: qs) k = some q.2 := by simp [valueAt, List.find?_cons, e']
      rw [valV_pos e, b]; exact h2
    · have e' : ¬ q.1 = k := fun z => e (h1.trans z)
      have b : valueAt (q :: qs) k = valueAt qs k := by simp [valueAt, List.find?_cons, e']
      rw [valV_neg e, b]; exact ih
theorem KV.any {kvs : List (κ × V)} {vs : List (κ × Value)} (r : KV kvs vs) (k : κ) : (kvs.any fun kv => decide (kv.1 = k)) = vs.any fun kv => decide (kv.1 = k) := by
  unfold KV at r
  induction r with
  | nil => rfl
  | cons h t ih => rw [List.any_cons, List.any_cons, ih, h.1]
theorem KV.repl {kvs : List (κ × V)} {vs : List (κ × Value)} (r : KV kvs vs) (k : κ) {y : V} {u : Value} (ry : RelV y u) :
    KV (kvs.map fun kv => if kv.1 = k then (kv.1, y) else kv) (vs.map fun kv => if kv.1 = k then (kv.1, u) else kv) := by
  unfold KV at r ⊢
  induction r with
  | nil => exact .nil
  | @cons p q ps qs h t ih =>
    rw [List.map_cons, List.map_cons]
    refine .cons ?_ ih
    obtain ⟨h1, h2⟩ := h
    by_cases e : p.1 = k
    · rw [if_pos e, if_pos (h1.symm.trans e)]; exact ⟨h1, ry⟩
    · rw [if_neg e, if_neg (fun z => e (h1.trans z))]; exact ⟨h1, h2⟩
theorem KV.put {kvs : List (κ × V)} {vs : List (κ × Value)} (r : KV kvs vs) (k : κ) {y : V} {u : Value} (ry : RelV y u) : KV (putK kvs k y) (stored vs k u) := by
  unfold putK stored
  rw [r.any k]
  by_cases e : (vs.any fun kv => decide (kv.1 = k)) = true
  · rw [if_pos e, if_pos e]; exact r.repl k ry
  · rw [if_neg e, if_neg e]; exact Paired.snoc r ⟨rfl, ry⟩
theorem KV.keys {kvs : List (κ × V)} {vs : List (κ × Value)} (r : KV kvs vs) : kvs.map (·.1) = vs.map (·.1) := by
  unfold KV at r
  induction r with
  | nil => rfl
  | cons h t ih => rw [List.map_cons, List.map_cons, ih, h.1]
theorem KV.length {kvs : List (κ × V)} {vs : List (κ × Value)} (r : KV kvs vs) : kvs.length = vs.length := Paired.length r
end


/-! ### a tracked dict, its keys ints and texts or tuples of these -/
theorem kV_is {P : Program} {w : World} {k : Key} {u : Value} (r : RelV (kV k) u) : (mixKind P w).is k u = true := by
  cases k with
  | inl i => obtain ⟨t, e⟩ := (show ∃ t, u = Value.int i t from r); subst e; exact mixKind_int P w i t
  | inr x => obtain ⟨t, e⟩ := (show ∃ t, u = Value.str x t from r); subst e; exact mixKind_str P w x t
theorem items_are {P : Program} {w : World} : ∀ {ks : List Key} {us : List Value}, Vals (ks.map kV) us → ItemsAre (mixKind P w) ks us
  | [], _, r => by rw [List.map_nil] at r; cases r; exact .nil
  | k :: ks, _, r => by
    rw [List.map_cons] at r
    cases r with
    | cons h t => exact .cons (kV_is h) (items_are t)

/-- raw entries of a dict with tuple keys -/
abbrev KT (H : Hp) : List (List Key × V) → List (List Key × Addr × Value) → Prop := Paired fun p q => p.1 = q.1 ∧ H q.2.1 = some (.tup (p.1.map kV)) ∧ RelV p.2 q.2.2
theorem KT.val {H : Hp} {kvs : List (List Key × V)} {xs : List (List Key × Addr × Value)} (r : KT H kvs xs) (k : List Key) : RelO (valV kvs k) ((atKey xs k).map (·.2)) := by
  induction r with
  | nil => exact True.intro
  | @cons p q ps qs h t ih =>
    obtain ⟨h1, _, h2⟩ := h
    by_cases e : p.1 = k
    · have e' : q.1 = k := h1.symm.trans e
      have b : atKey (q :: qs) k = some q.2 := by simp [atKey, List.find?_cons, e']
      rw [valV_pos e, b]; exact h2
    · have e' : ¬ q.1 = k := fun z => e (h1.trans z)
      have b : atKey (q :: qs) k = atKey qs k := by simp [atKey, List.find?_cons, e']
      rw [valV_neg e, b]; exact ih
theorem KT.repl {H : Hp} {kvs : List (List Key × V)} {xs : List (List Key × Addr × Value)} (r : KT H kvs xs) (k : List Key) {y : V} {u : Value} (ry : RelV y u) :
    KT H (kvs.map fun kv => if kv.1 = k then (kv.1, y) else kv) (xs.map (putAt k u)) := by
  induction r with
  | nil => exact .nil
  | @cons p q ps qs h t ih =>
    rw [List.map_cons, List.map_cons]
    refine .cons ?_ ih
    obtain ⟨h1, h2, h3⟩ := h
    unfold putAt
    by_cases e : p.1 = k
    · rw [if_pos e, if_pos (h1.symm.trans e)]; exact ⟨h1, h2, ry⟩
    · rw [if_neg e, if_neg (fun z => e (h1.trans z))]; exact ⟨h1, h2, h3⟩
theorem KT.put {H : Hp} {kvs : List (List Key × V)} {xs : List (List Key × Addr × Value)} (r : KT H kvs xs) (k : List Key) {b : Addr} {y : V} {u : Value} (hb : H b = some (.tup (k.map kV))) (ry : RelV y u) :
    KT H (putK kvs k y) (storedH xs k b u) := by
  have e : (kvs.any fun kv => decide (kv.1 = k)) = (atKey xs k).isSome := by
    rw [valV_any, (r.val k).isSome_eq, Option.isSome_map]
  unfold putK storedH
  rw [e]
  by_cases q : (atKey xs k).isSome = true
  · rw [if_pos q, if_pos q]; exact r.repl k ry
  · rw [if_neg q, if_neg q]; exact Paired.snoc r ⟨rfl, hb, ry⟩
theorem KT.keeps {H H' : Hp} {kvs : List (List Key × V)} {xs : List (List Key × Addr × Value)} (r : KT H kvs xs) (ht : ∀ b ys, H b = some (.tup ys) → H' b = some (.tup ys)) : KT H' kvs xs :=
  Paired.mapP r fun _ _ z => ⟨z.1, ht _ _ z.2.1, z.2.2⟩

section
variable {P : Program} {w : World} {H : Hp} {h : Heap} {a : Addr}
theorem rd_of {u : HO} (ok : HOk P w H h) (e : Rd H a u) : ObjOk P w H h a u := e.ok ok
theorem dk_rd {kvs : List (Key × V)} (ok : HOk P w H h) (e : Rd H a (.dK kvs)) : kvs.length ≤ sizeLine ∧ (a == sysModules) = false ∧ ∃ vs, KV kvs vs ∧ h.DictOf (mixKind P w) a vs :=
  show ObjOk P w H h a (.dK kvs) from rd_of ok e
theorem dk_of {kvs : List (Key × V)} (ok : HOk P w H h) (e : H a = some (.dK kvs)) : kvs.length ≤ sizeLine ∧ (a == sysModules) = false ∧ ∃ vs, KV kvs vs ∧ h.DictOf (mixKind P w) a vs := dk_rd ok (.inl e)
/-- a tracked tuple of ints and texts is a key -/
theorem key_of {ks : List Key} (ok : HOk P w H h) (e : H a = some (.tup (ks.map kV))) : (tupleKind (mixKind P w)).is h ks a := by
  obtain ⟨_, its, r, o, h1, h2, n, h3⟩ := (show ObjOk P w H h a (.tup (ks.map kV)) from ok a _ e)
  exact ⟨o, its.toArray, n, h1, h2, h3, by simpa using items_are r⟩
theorem dt_rd {kvs : List (List Key × V)} (ok : HOk P w H h) (e : Rd H a (.dT kvs)) : kvs.length ≤ sizeLine ∧ (a == sysModules) = false ∧
    ∃ xs, KT H kvs xs ∧ h.DictOfH (tupleKind (mixKind P w)) a xs := by
  obtain ⟨z, y, xs, r, o, es, ep, h1, h2, h3, h4, h5⟩ := (show ObjOk P w H h a (.dT kvs) from rd_of ok e)
  refine ⟨z, y, xs, r, o, es, ep, h1, h2, h3, h4, fun x hx => ?_, h5⟩
  have all : ∀ {l : List (List Key × V)} {m : List (List Key × Addr × Value)}, KT H l m → ∀ x ∈ m, (tupleKind (mixKind P w)).is h x.1 x.2.1 := by
    intro l m q
    induction q with
    | nil => intro x hx; exact nomatch hx
    | @cons p q ps qs hq t ih =>
      intro x hx
      rcases List.mem_cons.mp hx with e | hx
      · subst e
        exact key_of ok (by rw [← hq.1]; exact hq.2.1)
      · exact ih x hx
  exact all r x hx
theorem dt_of {kvs : List (List Key × V)} (ok : HOk P w H h) (e : H a = some (.dT kvs)) : kvs.length ≤ sizeLine ∧ (a == sysModules) = false ∧
    ∃ xs, KT H kvs xs ∧ h.DictOfH (tupleKind (mixKind P w)) a xs := dt_rd ok (.inl e)
end

/-- what the dict at a holds at the key y -/
def DGet (H : Hp) (a : Addr) (y : V) (r : Option V) : Prop :=
  (∃ kvs k, Rd H a (.dK kvs) ∧ y = kV k ∧ r = valV kvs k) ∨ ∃ kvs k b, Rd H a (.dT kvs) ∧ y = .ref b ∧ H b = some (.tup (k.map kV)) ∧ r = valV kvs k
/-- the heap behind a[y] = v -/
def DPut (H : Hp) (a : Addr) (y v : V) (H' : Hp) : Prop :=
  (∃ kvs k, H a = some (.dK kvs) ∧ y = kV k ∧ kvs.length < sizeLine ∧ H' = upd H a (.dK (putK kvs k v))) ∨
  ∃ kvs k b, H a = some (.dT kvs) ∧ y = .ref b ∧ H b = some (.tup (k.map kV)) ∧ kvs.length < sizeLine ∧ H' = upd H a (.dT (putK kvs k v))
section
variable {X : Cx} {pins : List (Addr × Obj)} {σ : St} {H : Hp} {s : Shared} {a : Addr} {y v : V} {u r : Value} {o : Option V} {A : Around} {E : Value → Shared → Prop}

theorem Inv.big (I : Inv X pins σ H s) : sysModules < s.heap.objs.size := by
  have h : mainGlobals < s.heap.objs.size := (I.mod.glob.keeps I.bk).lt
  exact Nat.lt_trans (by decide) h

theorem d_notIn {Q : Value → Shared → Prop} (hu : A.units + 1 < cLine) (I : Inv X pins σ H s) (g : DGet H a y o) (ry : RelV y u) (h : ∀ s', Inv X pins σ H s' → Q (.bool (!o.isSome)) s') :
    wpAny (model X.prog X.w) A (compareOp .NotIn u (.ref a)) Q E s := by
  rcases g with ⟨kvs, k, e, ey, l⟩ | ⟨kvs, k, b, e, ey, eb, l⟩
  · subst ey
    obtain ⟨z, hd, vs, rel, dd⟩ := dk_rd I.hok e
    refine wpAny_notIn_of (kV_is ry) hd dd.mapOf ?_
    rw [← (rel.val k).isSome_eq, ← l]
    exact h _ (I.tok _)
  · subst ey
    cases (show u = Value.ref b from ry)
    obtain ⟨z, hd, xs, rel, dd⟩ := dt_rd I.hok e
    refine wpAny_notIn_heap (tupleKind_room_in1 hu) (key_of I.hok eb) hd dd ?_
    have q := (rel.val k).isSome_eq
    rw [Option.isSome_map] at q
    rw [← q, ← l]
    exact h _ (I.tok _)
/-- a dict's object is replaced -/
theorem d_write {h' : Heap} {t' : Nat} {ob : HO} (I : Inv X pins σ H s) (mu : Mut (H a)) (hs : Heap.SameBut a s.heap h') (he : ∃ q, h'.get? a = some q) (new : ObjOk X.prog X.w (upd H a ob) h' a ob) :
    Inv X pins σ (upd H a ob) { s with heap := h', toks := t' } :=
  I.write (x := a) (e := a) mu (.inl rfl) (fun b q hb z => (hs.2 b hb).trans z) he new
theorem dk_new {P : Program} {w : World} {H' : Hp} {h' : Heap} {kvs : List (Key × V)} {vs : List (Key × Value)} (z : kvs.length ≤ sizeLine) (hd : (a == sysModules) = false) (rel : KV kvs vs) (dd : h'.DictOf (mixKind P w) a vs) :
    ObjOk P w H' h' a (.dK kvs) := ⟨z, hd, vs, rel, dd⟩
/-- d[y] = v -/
theorem d_setItem {H' : Hp} {Q : Unit → Shared → Prop} (hu : A.units + 1 < cLine) (I : Inv X pins σ H s) (g : DPut H a y v H') (ry : RelV y u) (rv : RelV v r) (h : ∀ s', Inv X pins σ H' s' → Q () s') :
    wpAny (model X.prog X.w) A (setItem (.ref a) u r) Q E s := by
  rcases g with ⟨kvs, k, e, ey, l, eH⟩ | ⟨kvs, k, b, e, ey, eb, l, eH⟩
  · subst ey eH
    obtain ⟨z, hd, vs, rel, dd⟩ := dk_of I.hok e
    have hz : vs.length ≤ sizeLine := by rw [← rel.length]; exact z
    have hl : (putK kvs k v).length ≤ sizeLine := by have := length_putK kvs k v; omega
    refine wpAny_setItem_pairs (hsz := hz) (kV_is ry) dd fun h' dd' hs => h _ ?_
    have he : ∃ q, h'.get? a = some q := let ⟨q, _, _, hq, _⟩ := dd'; ⟨q, hq⟩
    exact d_write I (by rw [e]; exact True.intro) hs he (dk_new hl hd (rel.put k rv) dd')
  · subst ey eH
    cases (show u = Value.ref b from ry)
    obtain ⟨z, hd, xs, rel, dd⟩ := dt_of I.hok e
    have hz : xs.length ≤ sizeLine := by rw [← Paired.length rel]; exact z
    have hl : (putK kvs k v).length ≤ sizeLine := by have := length_putK kvs k v; omega
    refine wpAny_setItem_heap (hsz := hz) (tupleKind_room_in1 hu) (key_of I.hok eb) dd fun h' dd' hs => h _ ?_
    obtain ⟨q, es, ep, hq, h2, h3, h4, _, h5⟩ := dd'
    refine d_write I (by rw [e]; exact True.intro) hs ⟨q, hq⟩ ⟨hl, hd, _, (rel.put k eb rv).keeps fun c ys ec => ?_, q, es, ep, hq, h2, h3, h4, h5⟩
    rw [upd_ne (ne_of ec e (fun z => nomatch z))]
    exact ec
end

section
variable {X : Cx} {pins : List (Addr × Obj)} {σ : St} {H : Hp} {s : Shared} {a : Addr} {kvs : List (Key × V)} {k : Key} {u : Value} {A : Around} {E : Value → Shared → Prop}
end


/-! ### readings and rules -/
/-- the element of a subscription, not a slice -/
def NoSl (i : Expr) : Prop := ∀ ov iv, subscripted i false ov iv = operate [ov, iv] (getItem ov iv)
/-- d[y] -/
def tDGet (td ty : TE) : TE := fun σ H Q => td σ H fun x H1 => ty σ H1 fun y H2 => ∃ a v, x = .ref a ∧ DGet H2 a y (some v) ∧ Q v H2
/-- y in d, y not in d -/
def tDIn (ty td : TE) : TE := fun σ H Q => ty σ H fun y H1 => td σ H1 fun x H2 => ∃ a o, x = .ref a ∧ DGet H2 a y o ∧ Q (.bl o.isSome) H2
def tDNotIn (ty td : TE) : TE := fun σ H Q => ty σ H fun y H1 => td σ H1 fun x H2 => ∃ a o, x = .ref a ∧ DGet H2 a y o ∧ Q (.bl (!o.isSome)) H2
/-- d[y] = v -/
def sDPut (td ty tv : TE) : TS := fun D σ H => tv σ H fun v H1 => td σ H1 fun x H2 => ty σ H2 fun y H3 => ∃ a H4, x = .ref a ∧ DPut H3 a y v H4 ∧ D.nx σ H4
/-- d[y] op= v -/
def sDAug (td ty tv : TE) (rd : V → V → Hp → VK → Prop) : TS := fun D σ H => td σ H fun x H1 => ty σ H1 fun y H2 => ∃ a v, x = .ref a ∧ DGet H2 a y (some v) ∧
  tv σ H2 fun y2 H3 => rd v y2 H3 fun z H4 => ∃ H5, DPut H4 a y z H5 ∧ D.nx σ H5
/-- del d[y] -/
def sDDel (td ty : TE) : TS := fun D σ H => td σ H fun x H1 => ty σ H1 fun y H2 => ∃ a kvs k, x = .ref a ∧ H2 a = some (.dK kvs) ∧ y = kV k ∧ (valV kvs k).isSome = true ∧ D.nx σ (upd H2 a (.dK (dropK kvs k)))

section
variable {X : Cx} {o i e value : Expr} {pos pos' tpos : Pos} {td ty tv : TE}
theorem ps_dput (hu : X.A.units + 1 < cLine) (ho : PE X o td) (hi : PE X i ty) (hv : PE X value tv) (hs : swapsWith value (some (.Subscript o i pos')) pos.line X.env = pure false) :
    PS X (.Assign [.Subscript o i pos'] value pos) (sDPut td ty tv) := by
  intro pins s σ H D I h
  refine wpAny_Assign_Subscript (thn (hv pins s σ H _ I h) fun r s1 ⟨v, H1, I1, rv, q1⟩ => thn (ho pins s1 σ H1 _ I1 q1) fun u s2 ⟨x, H2, I2, rx, q2⟩ => thn (hi pins s2 σ H2 _ I2 q2) fun iv s3 ⟨y, H3, I3, ry, a, H4, ex, g, q3⟩ => ?_) hs
  subst ex
  obtain rfl : u = Value.ref a := rx
  exact d_setItem hu I3 g ry rv fun s4 I4 => ⟨σ, H4, I4, q3⟩
end


/-! ### displays -/
theorem dk_empty {P : Program} {w : World} {H : Hp} (h : Heap) (hb : sysModules < h.objs.size) : ObjOk P w H (h.push { cls := .type "dict", data := .dict #[] }) h.objs.size (.dK []) :=
  ⟨Nat.zero_le _, beq_eq_false_iff_ne.mpr (Ne.symm (Nat.ne_of_lt hb)), [], .nil, Heap.DictOf.new h⟩
/-- {}, to be a dict of the kind that is wanted -/
def tDNewK : TE := fun _ H Q => ∀ p, H p = none → Q (.ref p) (upd H p (.dK []))
def tDNewT : TE := fun _ H Q => ∀ p, H p = none → Q (.ref p) (upd H p (.dT []))
section
variable {X : Cx} {pos : Pos}
end

/-- the pairs of a display, from the left -/
def tPairs : List (TE × TE) → St → Hp → (List (V × V) → Hp → Prop) → Prop
  | [], _, H, Q => Q [] H
  | (tk, tv) :: r, σ, H, Q => tk σ H fun x H1 => tv σ H1 fun y H2 => tPairs r σ H2 fun ps H3 => Q ((x, y) :: ps) H3
abbrev VV : List (V × V) → List (Value × Value) → Prop := Paired fun p q => RelV p.1 q.1 ∧ RelV p.2 q.2
def PPs (X : Cx) (pos : Pos) (keys : List (Option Expr)) (values : List Expr) (trs : List (TE × TE)) : Prop :=
  ∀ (pins : List (Addr × Obj)) (s : Shared) (σ : St) (H : Hp) (Q : List (V × V) → Hp → Prop), Inv X pins σ H s → tPairs trs σ H Q →
    wpAny (model X.prog X.w) X.A (evalPairs (pairTrees keys values X.env pos)) (fun vs s' => ∃ ps H', Inv X pins σ H' s' ∧ VV ps vs ∧ Q ps H') X.xe s
theorem pps_nil {X : Cx} {pos : Pos} : PPs X pos [] [] [] := fun pins s σ H Q I h => pairTrees_nil_walk ⟨[], H, I, .nil, h⟩
theorem pps_cons {X : Cx} {pos : Pos} {k v : Expr} {ks : List (Option Expr)} {vs : List Expr} {tk tv : TE} {trs : List (TE × TE)} (hk : PE X k tk) (hv : PE X v tv) (hr : PPs X pos ks vs trs) :
    PPs X pos (some k :: ks) (v :: vs) ((tk, tv) :: trs) := fun pins s σ H Q I h =>
  pairTrees_cons_walk (thn (hk pins s σ H _ I h) fun u s1 ⟨x, H1, I1, rx, q1⟩ => thn (hv pins s1 σ H1 _ I1 q1) fun w2 s2 ⟨y, H2, I2, ry, q2⟩ =>
    thn (hr pins s2 σ H2 _ I2 q2) fun ws s3 ⟨ps, H3, I3, rel, q3⟩ => ⟨(x, y) :: ps, H3, I3, .cons ⟨rx, ry⟩ rel, q3⟩)

def mergeK (kvs more : List (Key × V)) : List (Key × V) := more.foldl (fun acc kv => putK acc kv.1 kv.2) kvs
theorem KV.merge : ∀ {more : List (Key × V)} {rs : List (Key × Value)} {kvs : List (Key × V)} {vs : List (Key × Value)}, KV more rs → KV kvs vs → KV (mergeK kvs more) (merged vs rs) := by
  intro more rs kvs vs r
  unfold KV at r
  induction r generalizing kvs vs with
  | nil => intro q; exact q
  | @cons p q ps qs h t ih =>
    intro r0
    have e : KV (putK kvs p.1 p.2) (stored vs q.1 q.2) := by
      have := r0.put p.1 h.2
      rw [← h.1]; exact this
    exact ih e
theorem length_mergeK : ∀ (more kvs : List (Key × V)), (mergeK kvs more).length ≤ kvs.length + more.length
  | [], kvs => by show kvs.length ≤ kvs.length + 0; omega
  | p :: r, kvs => by
    have h1 := length_mergeK r (putK kvs p.1 p.2)
    have h2 := length_putK kvs p.1 p.2
    show (mergeK (putK kvs p.1 p.2) r).length ≤ _
    rw [List.length_cons]; omega
theorem carries_of {P : Program} {w : World} : ∀ {kvs : List (Key × V)} {ws : List (Value × Value)}, VV (kvs.map fun kv => (kV kv.1, kv.2)) ws → ∃ rs, Carries (mixKind P w) ws rs ∧ KV kvs rs
  | [], _, r => by rw [List.map_nil] at r; cases r; exact ⟨[], True.intro, .nil⟩
  | p :: kvs, _, r => by
    rw [List.map_cons] at r
    cases r with
    | @cons a b as bs h t =>
      obtain ⟨rs, c, q⟩ := carries_of (P := P) (w := w) t
      obtain ⟨b1, b2⟩ := b
      exact ⟨(p.1, b2) :: rs, ⟨kV_is h.1, rfl, c⟩, .cons ⟨rfl, h.2⟩ q⟩
/-- {k: v, ..} with keys ints and texts; the new dict stands empty while the pairs are made -/
def tDisp (trs : List (TE × TE)) : TE := fun σ H Q => ∀ p, H p = none → tPairs trs σ (upd H p (.dK [])) fun ps H2 => H2 p = some (.dK []) ∧ ∃ kvs : List (Key × V), ps = kvs.map (fun kv => (kV kv.1, kv.2)) ∧ kvs.length ≤ 15 ∧ Q (.ref p) (upd H2 p (.dK (mergeK [] kvs)))
theorem pe_disp {X : Cx} {pos : Pos} {keys : List (Option Expr)} {values : List Expr} {trs : List (TE × TE)} (h : PPs X pos keys values trs) (hall : keys.all (·.isSome) = true) (hl : keys.length = values.length) (h0 : keys ≠ [])
    (h15 : keys.length ≤ 15) : PE X (.Dict keys values pos) (tDisp trs) := by
  intro pins s σ H Q I q
  have hn := I.hok.fresh (Nat.le_refl s.heap.objs.size)
  have I1 := I.laid (a := s.heap.objs.size) (o := .dK []) (h' := s.heap.push { cls := .type "dict", data := .dict #[] }) (t' := s.toks) (fun _ _ q => Heap.get?_push_of_some _ q) (Nat.le_refl _) (dk_empty s.heap I.big)
  refine wpAny_Dict_walk (knd := mixKind X.prog X.w) hall hl h0 h15 (thn (h pins _ σ _ _ I1 (q _ hn)) fun ws s2 ⟨ps, H2, I2, rel, e, kvs, ep, lk, q2⟩ => ?_)
  subst ep
  obtain ⟨rs, c, rk⟩ := carries_of (P := X.prog) (w := X.w) rel
  obtain ⟨z, hd, vs0, r0, dd⟩ := dk_of I2.hok e
  cases r0
  refine ⟨rs, c, dd, fun h' dd' hs => ⟨.ref s.heap.objs.size, _, ?_, rfl, q2⟩⟩
  have hz : (mergeK [] kvs).length ≤ sizeLine := by
    have h1 := length_mergeK kvs []
    rw [List.length_nil] at h1
    rw [sizeLine_eq]; omega
  have he : ∃ q, h'.get? s.heap.objs.size = some q := let ⟨q, _, _, hq, _⟩ := dd'; ⟨q, hq⟩
  exact d_write I2 (by rw [e]; exact True.intro) hs he (dk_new hz hd (rk.merge .nil) dd')


/-! ### methods -/
/-- a method call o.m(e) of a built-in, with one argument: what must be seen of the text -/
structure M1 (X : Cx) (o : Expr) (m : Str) (apos : Pos) (e : Expr) (cpos : Pos) : Prop where
  base : attributeBase o m X.env (eval o X.env) = eval o X.env
  few : ((backTo cpos (starEach [e] X.env)).all (fun x => !x.1) && (backToKw cpos (keywordEach [] X.env)).all (fun x => x.1.isSome)
    && decide (([e] : List Expr).length + ([] : List Keyword).length + (if ([] : List Keyword).isEmpty then 0 else 1) < 30)) = true
  line : (apos.endLine == cpos.line) = true
  trees : backTo cpos (starEach [e] X.env) = [(false, eval e X.env)]
structure M2 (X : Cx) (o : Expr) (m : Str) (apos : Pos) (e f : Expr) (cpos : Pos) : Prop where
  base : attributeBase o m X.env (eval o X.env) = eval o X.env
  few : ((backTo cpos (starEach [e, f] X.env)).all (fun x => !x.1) && (backToKw cpos (keywordEach [] X.env)).all (fun x => x.1.isSome)
    && decide (([e, f] : List Expr).length + ([] : List Keyword).length + (if ([] : List Keyword).isEmpty then 0 else 1) < 30)) = true
  line : (apos.endLine == cpos.line) = true
  trees : backTo cpos (starEach [e, f] X.env) = [(false, eval e X.env), (false, eval f X.env)]

/-- a is a dict, whatever its keys -/
def IsD (H : Hp) (a : Addr) : Prop := (∃ kvs, Rd H a (.dK kvs)) ∨ ∃ kvs, Rd H a (.dT kvs)
theorem isD_at {X : Cx} {pins : List (Addr × Obj)} {σ : St} {H : Hp} {s : Shared} {a : Addr} (I : Inv X pins σ H s) (d : IsD H a) :
    s.TypeIs (.ref a) "dict" ∧ (∀ b, Value.ref a = .ref b → ∃ ob, s.heap.get? b = some ob ∧ ob.dict = none) ∧ (a == sysModules) = false := by
  rcases d with ⟨kvs, e⟩ | ⟨kvs, e⟩
  · obtain ⟨_, hd, vs, _, dd⟩ := dk_rd I.hok e
    refine ⟨dd.typeIs, fun b q => ?_, hd⟩
    cases q
    obtain ⟨ob, _, _, h1, h2, _⟩ := dd
    exact ⟨ob, h1, h2.2.1⟩
  · obtain ⟨_, hd, xs, _, dd⟩ := dt_rd I.hok e
    refine ⟨dd.typeIs, fun b q => ?_, hd⟩
    cases q
    obtain ⟨ob, _, _, h1, h2, _⟩ := dd
    exact ⟨ob, h1, h2.2.1⟩

section
variable {X : Cx} {pins : List (Addr × Obj)} {σ : St} {H : Hp} {s : Shared} {a : Addr} {y d : V} {u r : Value} {o : Option V} {A : Around} {E : Value → Shared → Prop}
/-- d.get(y, x) -/
theorem d_get2 {Q : Value → Shared → Prop} (hu : A.units + 1 < cLine) (I : Inv X pins σ H s) (g : DGet H a y o) (ry : RelV y u) (rd : RelV d r) (h : ∀ w' s', Inv X pins σ H s' → RelV (o.getD d) w' → Q w' s') :
    wpAny (model X.prog X.w) A (call (.builtin "dict.get") [.ref a, u, r]) Q E s := by
  rcases g with ⟨kvs, k, e, ey, l⟩ | ⟨kvs, k, b, e, ey, eb, l⟩
  · subst ey
    obtain ⟨z, hd, vs, rel, dd⟩ := dk_rd I.hok e
    refine call_meetsIn PySem.F.slot_dict_get dd.typeIs PySem.F.entry_dict_get (PySem.F.args_dict_get_3 _ _ _) (meets_dict_get_default (mixKind X.prog X.w) a (kV_is ry) hd r) ⟨_, dd.mapOf, h _ _ (I.tok _) ?_⟩
    rw [l]
    exact (rel.val k).getD rd
  · subst ey
    cases (show u = Value.ref b from ry)
    obtain ⟨z, hd, xs, rel, dd⟩ := dt_rd I.hok e
    refine call_meetsIn PySem.F.slot_dict_get dd.typeIs PySem.F.entry_dict_get (PySem.F.args_dict_get_3 _ _ _) (meetsH_dict_get_default (tupleKind (mixKind X.prog X.w)) a b hd r) ⟨tupleKind_room_in1 hu, k, xs, key_of I.hok eb, dd, h _ _ (I.tok _) ?_⟩
    rw [l]
    exact (rel.val k).getD rd
end

def tDGet1 (td ty : TE) : TE := fun σ H Q => td σ H fun x H1 => ∃ a, x = .ref a ∧ IsD H1 a ∧ ty σ H1 fun y H2 => ∃ o, DGet H2 a y o ∧ Q (o.getD .non) H2
def tDGet2 (td ty tx : TE) : TE := fun σ H Q => td σ H fun x H1 => ∃ a, x = .ref a ∧ IsD H1 a ∧ ty σ H1 fun y H2 => tx σ H2 fun z H3 => ∃ o, DGet H3 a y o ∧ Q (o.getD z) H3
/-- d.pop(k): there; d.pop(k, x): there or not -/
def tDPop1 (td ty : TE) : TE := fun σ H Q => td σ H fun x H1 => ∃ a, x = .ref a ∧ IsD H1 a ∧ ty σ H1 fun y H2 => ∃ kvs k v, H2 a = some (.dK kvs) ∧ y = kV k ∧ valV kvs k = some v ∧ Q v (upd H2 a (.dK (dropK kvs k)))
def tDPop2 (td ty tx : TE) : TE := fun σ H Q => td σ H fun x H1 => ∃ a, x = .ref a ∧ IsD H1 a ∧ ty σ H1 fun y H2 => tx σ H2 fun z H3 => ∃ kvs k, H3 a = some (.dK kvs) ∧ y = kV k ∧
  (∀ v, valV kvs k = some v → Q v (upd H3 a (.dK (dropK kvs k)))) ∧ (valV kvs k = none → Q z H3)
section
variable {X : Cx} {o e f : Expr} {apos cpos : Pos} {td ty tx : TE}
theorem pe_dget2 (hu : X.A.units + 1 < cLine) (ho : PE X o td) (he : PE X e ty) (hf : PE X f tx) (m : M2 X o "get" apos e f cpos) : PE X (.Call (.Attribute o "get" apos) [e, f] [] cpos) (tDGet2 td ty tx) := by
  intro pins s σ H Q I h
  refine wpAny_Call_method m.base m.few m.line PySem.F.plainAttrs_dict PySem.F.slot_dict_get PySem.F.type_dict_get (thn (ho pins s σ H _ I h) fun u s1 ⟨x, H1, I1, rx, a, ex, d, q1⟩ => ?_)
  subst ex
  obtain rfl : u = Value.ref a := rx
  obtain ⟨t1, t2, _⟩ := isD_at I1 d
  refine ⟨t1, t2, ?_⟩
  rw [m.trees]
  refine Calls.callWith_builtin rfl (Calls.evalArgs_plain (Calls.spliced_cons (thn (he pins s1 σ H1 _ I1 q1) fun iv s2 ⟨y, H2, I2, ry, q2⟩ =>
    Calls.spliced_cons (thn (hf pins s2 σ H2 _ I2 q2) fun fv s3 ⟨z, H3, I3, rz, ov, g, q3⟩ => Calls.spliced_nil ?_))))
  exact d_get2 hu I3 g ry rz fun w' s4 I4 rw' => ⟨_, H3, I4, rw', q3⟩
end

/-! ### dict(d): a copy -/
section
variable {X : Cx} {pins : List (Addr × Obj)} {σ : St} {H : Hp} {s : Shared} {a : Addr} {kvs : List (Key × V)} {A : Around} {E : Value → Shared → Prop}
theorem d_copyOf {Q : Value → Shared → Prop} (I : Inv X pins σ H s) (e : Rd H a (.dK kvs)) (h : ∀ p s', H p = none → Inv X pins σ (upd H p (.dK kvs)) s' → Q (.ref p) s') : wpAny (model X.prog X.w) A (call (.type "dict") [.ref a]) Q E s := by
  obtain ⟨z, hd, vs, rel, dd⟩ := dk_rd I.hok e
  refine kt_call_dict hd dd (by rw [← rel.length]; exact z) fun h' dd' hs => ?_
  refine h _ _ (I.hok.fresh (Nat.le_refl _)) (I.laid (a := s.heap.objs.size) (o := .dK kvs) (t' := s.toks) (fun b q hq => ?_) (Nat.le_refl _) (dk_new z (beq_eq_false_iff_ne.mpr (Ne.symm (Nat.ne_of_lt I.big))) rel dd'))
  exact (hs.2 b (Nat.ne_of_lt (Heap.lt_size hq))).trans (Heap.get?_push_of_some _ hq)
end


section
variable {X : Cx} {pins : List (Addr × Obj)} {σ : St} {H : Hp} {s : Shared} {a : Addr} {y : V} {u : Value} {A : Around} {E : Value → Shared → Prop}
end
end L2
namespace L2
open PySem PySem.Spec PyProof.Rows
section
variable {X : Cx}
end
/-! ### a dict's pairs: keys that differ -/
section
variable {κ : Type} [DecidableEq κ]
end
end L2

set_option Elab.async false
set_option linter.all false
set_option maxRecDepth 100000
namespace L2
open PySem PySem.Spec PyProof.Rows
/-! Own words over the layer, part A: calls by name, constants of the module, wide division, == of data. -/
/-- a def of the text that is called by its name -/
structure Cal (P : Program) (w : World) (K : PySem.W.Frag) (mg : Str → Option Value) (base : Heap) (CX : CXT) (k : Nat) (x : Str) (ps : List Str) (sp : Sp) : Prop where
  ex : ∃ f fd, FnOk P w K mg base CX k f fd ps sp ∧ Binds K fd ps [] ∧ PySem.W.keepIn K (.ref f) = true ∧ mg x = some (.ref f)
/-- a constant of the module -/
def GC (mg : Str → Option Value) (x : Str) (v : V) : Prop := ∃ u, mg x = some u ∧ RelV v u
section
variable {X : Cx} {CX : CXT} {j k : Nat} {ps : List Str} {sp : Sp} {E : XK} {x : Str} {v : V} {p pos : Pos} {e : Expr} {es : List Expr} {t : TA}
theorem pe_fn (c : Cal X.prog X.w X.K X.mg X.base CX k x ps sp) (hr : Room j X.A) (hx : Passes CX X E) (ha : PA X (e :: es) t) (hk : k ≤ j := by decide) (hg : Gl X x := by rfl) (hdb : (x == ("__debug__" : Str)) = false := by decide)
    (he : starEach (e :: es) X.env = (false, eval e X.env) :: starEach es X.env := by rfl) (hpl : (backTo pos (starEach es X.env)).any (·.1) = false := by rfl) :
    PE X (.Call (.Name x p) (e :: es) [] pos) (tCall sp [] E t) := by
  obtain ⟨f, fd, F, b, kp, m⟩ := c.ex
  exact pe_call F (hr.mono hk) hg m kp b .nil hx ha hdb he hpl
theorem pe_gc (h : GC X.mg x v) (hg : Gl X x := by rfl) (hd : (x == ("__debug__" : Str)) = false := by decide) : PE X (.Name x pos) (tC v) := by
  obtain ⟨u, m, r⟩ := h
  exact pe_glob hg m r hd
def CDivW (i j : Int) : Prop := 0 < j ∧ j < 2 ^ 200
theorem op_fdivW : OpR X (binaryOp .FloorDiv) (rI CDivW fun i j => .int (i / j)) := opI fun i j _ _ _ _ _ hc q => by
  have h1 : (0 : Int) < j := hc.1
  have h2 : j < 2 ^ 200 := hc.2
  have h3 : j.natAbs < 2 ^ 200 := by omega
  have h4 : j.natAbs.log2 < 200 := (Nat.log2_lt (by omega)).mpr h3
  exact floordiv_int (by omega) (by rw [Int.fdiv_eq_ediv_of_nonneg i (by omega)]; exact q) (.inl (PyProof.noPylong_of_log2 (by omega)))
end

/-! ### data: deep values -/
mutual
inductive DV (K : PySem.W.Frag) (H : Hp) : V → PyData → Prop
  | non : DV K H .non .none
  | bl (b : Bool) : DV K H (.bl b) (.bool b)
  | int (i : Int) : DV K H (.int i) (.int i)
  | str (x : Str) : DV K H (.str x) (.str x)
  | tup {a xs ds} : SqT K H a xs → DVs K H xs ds → DV K H (.ref a) (.tuple ds)
  | lst {a xs ds} : SqL K H a xs → DVs K H xs ds → DV K H (.ref a) (.list ds)
inductive DVs (K : PySem.W.Frag) (H : Hp) : List V → List PyData → Prop
  | nil : DVs K H [] []
  | cons {x xs d ds} : DV K H x d → DVs K H xs ds → DVs K H (x :: xs) (d :: ds)
end
section
variable {X : Cx} {pins : List (Addr × Obj)} {σ : St} {H : Hp} {s : Shared}
mutual
theorem DV.reads (I : Inv X pins σ H s) : ∀ {x : V} {d : PyData} {u : Value}, DV X.K H x d → RelV x u → ∃ as, Reads s.heap u d as
  | _, _, _, .non, r => by cases r; exact ⟨_, Reads.none⟩
  | _, _, _, .bl b, r => by cases r; exact ⟨_, Reads.bool b⟩
  | _, _, _, .int i, r => by obtain ⟨t, rfl⟩ := r; exact ⟨_, Reads.int i t⟩
  | _, _, _, .str x, r => by obtain ⟨t, rfl⟩ := r; exact ⟨_, Reads.str x t⟩
  | _, _, _, .tup h hs, r => by
    cases r
    obtain ⟨its, rs, ⟨o, ho, hc, n, hd⟩, _⟩ := I.tuple h
    obtain ⟨as, q⟩ := DVs.reads I hs rs
    exact ⟨_, reads_tuple_at ho hc hd (by simpa using q)⟩
  | _, _, _, .lst h hs, r => by
    cases r
    obtain ⟨its, rs, ⟨o, n, ho, hc, _, hd⟩, _⟩ := I.list h
    obtain ⟨as, q⟩ := DVs.reads I hs rs
    exact ⟨_, reads_list_at ho hc hd (by simpa using q)⟩
theorem DVs.reads (I : Inv X pins σ H s) : ∀ {xs : List V} {ds : List PyData} {us : List Value}, DVs X.K H xs ds → Vals xs us → ∃ as, ReadsAll s.heap us ds as
  | _, _, _, .nil, .nil => ⟨_, ReadsAll.nil⟩
  | _, _, _, .cons h hs, .cons r rs => by
    obtain ⟨as, q⟩ := DV.reads I h r
    obtain ⟨bs, p⟩ := DVs.reads I hs rs
    exact ⟨_, ReadsAll.cons q p⟩
end
def rEqD (K : PySem.W.Frag) : R2 := fun x y H Q => ∃ d e, DV K H x d ∧ DV K H y e ∧ SeqAt.shaped d = true ∧ SeqAt.shaped e = true ∧ Q (.bl (PyData.eqv d e)) H
def rNeD (K : PySem.W.Frag) : R2 := fun x y H Q => ∃ d e, DV K H x d ∧ DV K H y e ∧ SeqAt.shaped d = true ∧ SeqAt.shaped e = true ∧ Q (.bl (!PyData.eqv d e)) H
theorem op_eqD (hu : X.A.units + 64 < cLine) : OpR X (compareOp .Eq) (rEqD X.K) := by
  intro pins s σ H x y v u Q I rx ry h
  obtain ⟨d, e, hd, he, sd, se, q⟩ := h
  obtain ⟨as, ra⟩ := hd.reads I rx
  obtain ⟨bs, rb⟩ := he.reads I ry
  exact eq_dataH ra rb sd se hu ⟨.bl _, H, I, rfl, q⟩
theorem op_neD (hu : X.A.units + 64 < cLine) : OpR X (compareOp .NotEq) (rNeD X.K) := by
  intro pins s σ H x y v u Q I rx ry h
  obtain ⟨d, e, hd, he, sd, se, q⟩ := h
  obtain ⟨as, ra⟩ := hd.reads I rx
  obtain ⟨bs, rb⟩ := he.reads I ry
  exact ne_dataH ra rb sd se hu ⟨.bl _, H, I, rfl, q⟩
end
theorem Same.tup {K : PySem.W.Frag} {H H' : Hp} {a : Addr} {xs : List V} (e : Same H H') (h : SqT K H a xs) : SqT K H' a xs := by
  rcases h with (h | ⟨o, h⟩) | h
  · exact .inl (.inl (e _ _ h))
  · exact .inl (.inr ⟨o, e _ _ h⟩)
  · exact .inr h
theorem same_new {H : Hp} {p : Addr} (h : H p = none) (o : HO) : Same H (upd H p o) := fun b u q => by rw [upd_ne (ne_of_none q h)]; exact q
end L2

set_option Elab.async false
set_option linter.all false
set_option maxRecDepth 100000
namespace L2
open PySem PySem.Spec PyProof.Rows
theorem boot_bool : bootBuiltins "bool" = some (.type "bool") := by decide +kernel
theorem boot_int : bootBuiltins "int" = some (.type "int") := by decide +kernel
theorem boot_str : bootBuiltins "str" = some (.type "str") := by decide +kernel
theorem boot_list : bootBuiltins "list" = some (.type "list") := by decide +kernel
theorem boot_tuple : bootBuiltins "tuple" = some (.type "tuple") := by decide +kernel
theorem boot_dict : bootBuiltins "dict" = some (.type "dict") := by decide +kernel
section
variable {X : Cx}
/-- isinstance of a class that is known -/
def rIsi (K : PySem.W.Frag) (c : V) (cv : Value) : List V → Hp → VK → Prop := fun xs H Q => ∃ x t b, xs = [x, c] ∧ TyOf K H x t ∧ PySem.W.kitOne K t cv = some b ∧ Q (.bl b) H
theorem call_isi {c : V} {cv : Value} (hc : ∀ u, RelV c u → u = cv) : CallR X (.builtin "isinstance") (rIsi X.K c cv) := by
  intro pins s σ H xs us Q I r h
  obtain ⟨x, t, b, rfl, ty, e, q⟩ := h
  obtain ⟨u, w, rfl, ru, rw'⟩ := Vals.two r
  cases hc w rw'
  exact isinst_ok I ru ty e fun tk => ⟨.bl b, H, I.tok tk, rfl, q⟩
theorem pe_isB {x : Str} {T : String} {p p2 pos : Pos} {e : Expr} {te : TE} (hg : Gl X "isinstance") (hm : X.mg "isinstance" = none) (he : PE X e te) (hmT : X.mg x = none) (hT : bootBuiltins x = some (.type T)) (hgT : Gl X x := by rfl) (hn : x ≠ "__name__" := by decide) (hd : (x == ("__debug__" : Str)) = false := by decide)
    (h1 : starEach [e, .Name x p2] X.env = (false, eval e X.env) :: starEach [.Name x p2] X.env := by rfl) (h2 : (backTo pos (starEach [.Name x p2] X.env)).any (·.1) = false := by rfl) :
    PE X (.Call (.Name "isinstance" p) [e, .Name x p2] [] pos) (tCB (rIsi X.K (.ty T) (.type T)) (tCons te (tCons (tC (.ty T)) tNil))) :=
  pe_callB (call_isi fun u hu => hu) hg hm boot_isinstance (pa_cons he (pa_cons (pe_bltn hgT hmT hT rfl hn hd) pa_nil) h1) (by decide) (by decide) h1 h2
end
end L2

/-! Own mathematics: bits of numbers. -/
namespace Tw
theorem pop_dec {n : Nat} (h : ¬ n = 0) : n / 2 < n := Nat.div_lt_self (Nat.pos_of_ne_zero h) (by decide)
def pop (n : Nat) : Nat := if h : n = 0 then 0 else n % 2 + pop (n / 2)
termination_by n
decreasing_by exact pop_dec h
theorem pop_zero : pop 0 = 0 := by rw [pop]; rfl
theorem pop_step (n : Nat) : pop n = n % 2 + pop (n / 2) := by
  by_cases h : n = 0
  · subst h; rw [pop_zero]
  · rw [pop, dif_neg h]
theorem and_mod2 (a b : Nat) : (a &&& b) % 2 = (a % 2) * (b % 2) := by
  have h := Nat.and_two_pow_sub_one_eq_mod
  have ha : a % 2 = a &&& 1 := (Nat.and_one_is_mod a).symm
  rw [← Nat.and_one_is_mod, ← Nat.and_one_is_mod, ← Nat.and_one_is_mod]
  have e : (a &&& b) &&& 1 = (a &&& 1) &&& (b &&& 1) := by
    apply Nat.eq_of_testBit_eq
    intro i
    simp only [Nat.testBit_and]
    cases a.testBit i <;> cases b.testBit i <;> cases (1 : Nat).testBit i <;> rfl
  rw [e, Nat.and_one_is_mod a, Nat.and_one_is_mod b]
  rcases Nat.mod_two_eq_zero_or_one a with h | h <;> rcases Nat.mod_two_eq_zero_or_one b with h' | h' <;> rw [h, h'] <;> rfl
theorem and_div2 (a b : Nat) : (a &&& b) / 2 = (a / 2) &&& (b / 2) := by
  apply Nat.eq_of_testBit_eq
  intro i
  rw [Nat.testBit_and, Nat.testBit_div_two, Nat.testBit_div_two, Nat.testBit_div_two, Nat.testBit_and]
theorem pop_pred : ∀ n : Nat, 0 < n → pop (n &&& (n - 1)) + 1 = pop n := by
  intro n
  induction n using Nat.strongRecOn with
  | ind n ih =>
    intro h
    rw [pop_step (n &&& (n - 1)), pop_step n, and_mod2, and_div2]
    rcases Nat.mod_two_eq_zero_or_one n with e | e
    · have h2 : 0 < n / 2 := by omega
      have e2 : (n - 1) / 2 = n / 2 - 1 := by omega
      have := ih (n / 2) (by omega) h2
      rw [e2, e]
      omega
    · have e2 : (n - 1) / 2 = n / 2 := by omega
      have e3 : (n - 1) % 2 = 0 := by omega
      have e4 : n / 2 &&& n / 2 = n / 2 := Nat.and_self _
      rw [e2, e3, e, e4]
      omega
theorem and_pred_lt {n : Nat} (h : 0 < n) : n &&& (n - 1) < n := by
  have := Nat.and_le_right (n := n) (m := n - 1)
  omega
/-- how many of the first k places p holds at -/
def cnt (p : Nat → Bool) : Nat → Nat
  | 0 => 0
  | k + 1 => cnt p k + (p k).toNat
theorem cnt_succ' (p : Nat → Bool) : ∀ k, cnt p (k + 1) = (p 0).toNat + cnt (fun i => p (i + 1)) k
  | 0 => by simp [cnt]
  | k + 1 => by
    have := cnt_succ' p k
    rw [cnt, this, cnt]
    omega
theorem cnt_congr {p q : Nat → Bool} : ∀ {k : Nat}, (∀ i, i < k → p i = q i) → cnt p k = cnt q k
  | 0, _ => rfl
  | k + 1, h => by rw [cnt, cnt, cnt_congr fun i hi => h i (by omega), h k (by omega)]
theorem pop_cnt : ∀ (k n : Nat), n < 2 ^ k → pop n = cnt n.testBit k
  | 0, n, h => by
    have : n = 0 := by simpa using h
    subst this
    exact pop_zero
  | k + 1, n, h => by
    rw [pop_step, cnt_succ']
    have h2 : n / 2 < 2 ^ k := by rw [Nat.pow_succ] at h; omega
    rw [pop_cnt k (n / 2) h2]
    have e0 : n % 2 = (n.testBit 0).toNat := by
      rw [Nat.testBit_zero]
      rcases Nat.mod_two_eq_zero_or_one n with e | e <;> rw [e] <;> rfl
    rw [e0]
    congr 1
    exact cnt_congr fun i _ => by rw [Nat.testBit_div_two]
def bI (b : Bool) : Int := if b then 1 else 0
theorem xor_lt {a b k : Nat} (h1 : a < 2 ^ k) (h2 : b < 2 ^ k) : a ^^^ b < 2 ^ k := Nat.xor_lt_two_pow h1 h2
theorem or_div2 (a b : Nat) : (a ||| b) / 2 = (a / 2) ||| (b / 2) := by
  apply Nat.eq_of_testBit_eq
  intro i
  rw [Nat.testBit_or, Nat.testBit_div_two, Nat.testBit_div_two, Nat.testBit_div_two, Nat.testBit_or]
theorem xor_div2 (a b : Nat) : (a ^^^ b) / 2 = (a / 2) ^^^ (b / 2) := by
  apply Nat.eq_of_testBit_eq
  intro i
  rw [Nat.testBit_xor, Nat.testBit_div_two, Nat.testBit_div_two, Nat.testBit_div_two, Nat.testBit_xor]
theorem mod2_b (a : Nat) : a % 2 = (a.testBit 0).toNat := by
  rw [Nat.testBit_zero]
  rcases Nat.mod_two_eq_zero_or_one a with e | e <;> rw [e] <;> rfl
theorem or_mod2 (a b : Nat) : (a ||| b) % 2 + (a &&& b) % 2 = a % 2 + b % 2 := by
  rw [mod2_b, mod2_b (a &&& b), mod2_b a, mod2_b b, Nat.testBit_or, Nat.testBit_and]
  cases a.testBit 0 <;> cases b.testBit 0 <;> rfl
theorem xor_mod2 (a b : Nat) : (a ^^^ b) % 2 + (a &&& b) % 2 = (a ||| b) % 2 := by
  rw [mod2_b, mod2_b (a &&& b), mod2_b (a ||| b), Nat.testBit_or, Nat.testBit_and, Nat.testBit_xor]
  cases a.testBit 0 <;> cases b.testBit 0 <;> rfl
theorem or_add_and : ∀ a b : Nat, (a ||| b) + (a &&& b) = a + b := by
  intro a
  induction a using Nat.strongRecOn with
  | ind a ih =>
    intro b
    by_cases ha : a = 0
    · subst ha; simp
    · have q := ih (a / 2) (by omega) (b / 2)
      have h1 := or_div2 a b
      have h2 := and_div2 a b
      have h3 := or_mod2 a b
      rw [← h1, ← h2] at q
      omega
theorem xor_add_and : ∀ a b : Nat, (a ^^^ b) + (a &&& b) = a ||| b := by
  intro a
  induction a using Nat.strongRecOn with
  | ind a ih =>
    intro b
    by_cases ha : a = 0
    · subst ha; simp
    · have q := ih (a / 2) (by omega) (b / 2)
      have h1 := or_div2 a b
      have h2 := and_div2 a b
      have h4 := xor_div2 a b
      have h3 := xor_mod2 a b
      rw [← h1, ← h2, ← h4] at q
      omega
theorem pow2_cast (n : Nat) : ((2 : Int) ^ n) = ((2 ^ n : Nat) : Int) := by push_cast; rfl
theorem emod_nat (y : Int) {n : Nat} (h : 0 < n) : ∃ k : Nat, y % (n : Int) = (k : Int) ∧ k < n := by
  have h1 := Int.emod_nonneg y (show ((n : Int)) ≠ 0 by omega)
  have h2 := Int.emod_lt_of_pos y (show (0 : Int) < (n : Int) by omega)
  exact ⟨(y % n).toNat, by omega, by omega⟩
end Tw

set_option Elab.async false
set_option linter.all false
set_option maxRecDepth 100000
namespace L2
open PySem PySem.Spec PyProof.Rows
/-! What readings are simplified by. -/
theorem scal_ii (a b : Int) : scal (.int a) (.int b) = true := rfl
theorem scal_ss (a b : Str) : scal (.str a) (.str b) = true := rfl
theorem bitAnd_nat (a b : Nat) : Builtin.bitAnd (a : Int) (b : Int) = ((a &&& b : Nat) : Int) := by
  rw [bitAnd_pp (by omega) (by omega)]; simp
theorem bitOr_nat (a b : Nat) : Builtin.bitOr (a : Int) (b : Int) = ((a ||| b : Nat) : Int) := by
  have h : Builtin.bitOr (a : Int) (b : Int) = a + b - ((a &&& b : Nat) : Int) := by rw [bitOr_and, bitAnd_nat]
  have e := Tw.or_add_and a b
  omega
theorem bitXor_nat (a b : Nat) : Builtin.bitXor (a : Int) (b : Int) = ((a ^^^ b : Nat) : Int) := by
  have h : Builtin.bitXor (a : Int) (b : Int) = ((a ||| b : Nat) : Int) - ((a &&& b : Nat) : Int) := by
    show Builtin.bitOr _ _ - Builtin.bitAnd _ _ = _
    rw [bitOr_nat, bitAnd_nat]
  have e := Tw.xor_add_and a b
  omega
theorem bitAnd_bit (x i : Nat) : Builtin.bitAnd ((x : Int) / 2 ^ i) 1 = Tw.bI (x.testBit i) := by
  have e : ((x : Int) / 2 ^ i) = ((x / 2 ^ i : Nat) : Int) := by push_cast; rfl
  have e1 : (1 : Int) = ((1 : Nat) : Int) := rfl
  rw [e, e1, bitAnd_nat, Nat.and_one_is_mod]
  rw [Nat.testBit_eq_decide_div_mod_eq]
  unfold Tw.bI
  rcases Nat.mod_two_eq_zero_or_one (x / 2 ^ i) with h | h <;> rw [h] <;> rfl
theorem bitAnd_pred {n : Nat} (h : 0 < n) : Builtin.bitAnd (n : Int) ((n : Int) - 1) = ((n &&& (n - 1) : Nat) : Int) := by
  have e : ((n : Int) - 1) = ((n - 1 : Nat) : Int) := by omega
  rw [e, bitAnd_nat]
theorem SqT.upd {K : PySem.W.Frag} {H : Hp} {p a : Addr} {o : HO} {xs : List V} (h : H p = none) (s : SqT K H a xs) : SqT K (upd H p o) a xs := (same_new h o).tup s
theorem Same.updR {H H1 : Hp} {p : Addr} {o : HO} (s : Same H H1) (h : H1 p = none) : Same H (upd H1 p o) := s.trans (same_new h o)
section
variable {K : PySem.W.Frag} {H : Hp} {Q : VK} {a b : Addr} {i j : Int} {x y : Str} {p q : Bool}
theorem rEq_i : rEq (.int i) (.int j) H Q = Q (.bl (decide (i = j))) H := by
  unfold rEq
  rw [scal_ii]
  simp only [V.int.injEq, true_and]
theorem rNe_i : rNe (.int i) (.int j) H Q = Q (.bl (!decide (i = j))) H := by
  unfold rNe
  rw [scal_ii]
  simp only [V.int.injEq, true_and]
theorem rEq_s : rEq (.str x) (.str y) H Q = Q (.bl (decide (x = y))) H := by
  unfold rEq
  rw [scal_ss]
  simp only [V.str.injEq, true_and]
end
theorem cxOf_K {CX : CXT} {P : Program} {w : World} {K : PySem.W.Frag} {mg : Str → Option Value} {base : Heap} {N : List Str} {qual : Str} {scope : Scope} {f : Addr} {cd : Value} {A : Around} {outer : List Env} {s : Shared} {H : Hp} {E : XK} : (cxOf CX P w K mg base N qual scope f cd A outer s H E).K = K := rfl
theorem cpow_n {i : Int} {n : Nat} (h : n ≤ 1000) (h2 : i.natAbs < 2 ^ 64 := by decide) : CPow i (n : Int) := ⟨by omega, by omega, h2⟩
theorem shaped_ints (is : List Int) : SeqAt.shaped (.tuple (is.map PyData.int)) = true := by
  simp [SeqAt.shaped, PyData.canLay0, PyData.depth, PySem.W.ke_canLayAll0, PySem.W.ke_depthAll]
theorem dvs_ints {K : PySem.W.Frag} {H : Hp} : ∀ is : List Int, DVs K H (is.map V.int) (is.map PyData.int)
  | [] => .nil
  | _ :: r => .cons (.int _) (dvs_ints r)
theorem eqv_ints : ∀ is js : List Int, PyData.eqvAll (is.map PyData.int) (js.map PyData.int) = decide (is = js)
  | [], [] => by simp [PyData.eqvAll]
  | [], _ :: _ => by simp [PyData.eqvAll]
  | _ :: _, [] => by simp [PyData.eqvAll]
  | a :: r, b :: t => by
    simp only [List.map_cons, PyData.eqvAll, PyData.eqv, eqv_ints r t]
    by_cases h : a = b <;> by_cases h' : r = t <;> simp [h, h']
theorem rEqD_ints {K : PySem.W.Frag} {H : Hp} {Q : VK} {a b : Addr} {is js : List Int} (ha : SqT K H a (is.map V.int)) (hb : SqT K H b (js.map V.int)) (q : Q (.bl (decide (is = js))) H) : rEqD K (.ref a) (.ref b) H Q :=
  ⟨_, _, .tup ha (dvs_ints is), .tup hb (dvs_ints js), shaped_ints is, shaped_ints js, by rw [PyData.eqv, eqv_ints]; exact q⟩
theorem rNeD_ints {K : PySem.W.Frag} {H : Hp} {Q : VK} {a b : Addr} {is js : List Int} (ha : SqT K H a (is.map V.int)) (hb : SqT K H b (js.map V.int)) (q : Q (.bl (!decide (is = js))) H) : rNeD K (.ref a) (.ref b) H Q :=
  ⟨_, _, .tup ha (dvs_ints is), .tup hb (dvs_ints js), shaped_ints is, shaped_ints js, by rw [PyData.eqv, eqv_ints]; exact q⟩
section
variable {K : PySem.W.Frag} {H : Hp} {Q : VK} {a b : Addr} {i1 i2 i3 j1 j2 j3 : Int}
theorem rEqD_2 (ha : SqT K H a [.int i1, .int i2]) (hb : SqT K H b [.int j1, .int j2]) (q : Q (.bl (decide ([i1, i2] = [j1, j2]))) H) : rEqD K (.ref a) (.ref b) H Q := rEqD_ints (is := [i1, i2]) (js := [j1, j2]) ha hb q
theorem rNeD_2 (ha : SqT K H a [.int i1, .int i2]) (hb : SqT K H b [.int j1, .int j2]) (q : Q (.bl (!decide ([i1, i2] = [j1, j2]))) H) : rNeD K (.ref a) (.ref b) H Q := rNeD_ints (is := [i1, i2]) (js := [j1, j2]) ha hb q
end
end L2

set_option Elab.async false
set_option linter.all false
set_option maxRecDepth 100000
namespace L2
open PySem PySem.Spec PyProof.Rows
/-! One step of a reading, at its head. -/
section
variable {K : PySem.W.Frag} {H : Hp} {Q : VK} {R : Bool → Hp → Prop} {D : Ends} {σ : St} {t u : TS} {te ta tb : TE} {tt tu : TT} {tA : TA} {g : TG} {gs : TGs} {v w : V} {a b : Addr} {i j : Int} {p q : Bool} {x y : Str} {n m k : Nat}
theorem st_seq (h : t { D with nx := u D } σ H) : tSeq t u D σ H := h
theorem st_next (h : D.nx σ H) : tNext D σ H := h
theorem st_asg (h : te σ H fun x H1 => g x σ H1 D.nx) : tAsg te g D σ H := h
theorem st_ret (h : te σ H D.rt) : tRet te D σ H := h
theorem st_drop (h : te σ H fun _ H1 => D.nx σ H1) : tDrop te D σ H := h
theorem st_if (h : tt σ H fun b H1 => if b = true then t D σ H1 else u D σ H1) : tIfS tt t u D σ H := h
theorem st_gname {P : St → Hp → Prop} (h : P (σ.set n (some v)) H) : gName n v σ H P := h
theorem st_gtup {P : St → Hp → Prop} {xs : List V} (s : SqT K H a xs) (l : xs.length = n) (h : gs xs σ H P) : gTup K n gs (.ref a) σ H P := ⟨a, xs, rfl, s, l, h⟩
theorem st_gcons {P : St → Hp → Prop} {r : List V} (h : g v σ H fun σ' H' => gs r σ' H' P) : gCons g gs (v :: r) σ H P := ⟨v, r, rfl, h⟩
theorem st_gnil {P : St → Hp → Prop} (h : P σ H) : gNil [] σ H P := ⟨rfl, h⟩
theorem st_c (h : Q v H) : tC v σ H Q := h
theorem st_var (e : σ[n]? = some (some v)) (h : Q v H) : tVar n σ H Q := ⟨v, e, h⟩
theorem st_op {r : R2} (h : ta σ H fun x H1 => tb σ H1 fun y H2 => r x y H2 Q) : tOp r ta tb σ H Q := h
theorem st_un {r : V → Hp → VK → Prop} (h : ta σ H fun x H1 => r x H1 Q) : tUn r ta σ H Q := h
theorem st_test (h : te σ H fun x H' => ∃ k, x = .bl k ∧ R k H') : tTest te σ H R := h
theorem st_tB (h : te σ H fun x H' => ∃ k, x = .bl k ∧ R k H') : tB te σ H R := h
theorem st_bl {P : Bool → Prop} (h : P p) : ∃ k, V.bl p = V.bl k ∧ P k := ⟨p, rfl, h⟩
theorem st_and (h : tt σ H fun c H1 => if c = true then tu σ H1 R else R false H1) : tAnd tt tu σ H R := h
theorem st_or (h : tt σ H fun c H1 => if c = true then R true H1 else tu σ H1 R) : tOr tt tu σ H R := h
theorem st_not (h : tt σ H fun c H1 => R (!c) H1) : tNot tt σ H R := h
theorem st_andV (h : ta σ H fun x H1 => ∃ c, x = .bl c ∧ if c = true then tb σ H1 Q else Q (.bl false) H1) : tAndV ta tb σ H Q := h
theorem st_notV (h : ta σ H fun x H1 => ∃ c, x = .bl c ∧ Q (.bl (!c)) H1) : tNotV ta σ H Q := h
theorem st_ifE (h : tt σ H fun c H1 => if c = true then ta σ H1 Q else tb σ H1 Q) : tIf tt ta tb σ H Q := h
theorem st_call {sp : Sp} {dvs : List V} {E : XK} (h : tA σ H fun vs H1 => sp (vs ++ dvs) H1 Q E) : tCall sp dvs E tA σ H Q := h
theorem st_cb {r : List V → Hp → VK → Prop} (h : tA σ H fun vs H1 => r vs H1 Q) : tCB r tA σ H Q := h
theorem st_cons {P : List V → Hp → Prop} (h : te σ H fun x H1 => tA σ H1 fun xs H2 => P (x :: xs) H2) : tCons te tA σ H P := h
theorem st_nil {P : List V → Hp → Prop} (h : P [] H) : tNil σ H P := h
theorem st_tup (h : tA σ H fun xs H1 => xs.length ≤ sizeLine ∧ ∀ p, H1 p = none → Q (.ref p) (upd H1 p (.tup xs))) : tTup tA σ H Q := h
theorem st_lst (h : tA σ H fun xs H1 => xs.length ≤ sizeLine ∧ ∀ p, H1 p = none → Q (.ref p) (upd H1 p (.lst xs))) : tLst tA σ H Q := h
theorem st_size {A : Prop} {xs : List V} (h : Nat.ble xs.length 1000 = true) (q : A) : xs.length ≤ sizeLine ∧ A := ⟨Nat.le_of_lt (small1000 (Nat.le_of_ble_eq_true h)), q⟩
theorem st_part {P : Option Int → Hp → Prop} (h : te σ H fun x H1 => ∃ i, x = .int i ∧ P (some i) H1) : tPart te σ H P := h
theorem st_int {P : Int → Prop} (h : P i) : ∃ k, V.int i = V.int k ∧ P k := ⟨i, rfl, h⟩
theorem st_nopart {P : Option Int → Hp → Prop} (h : P none H) : tNoPart σ H P := h
theorem st_sl {r : V → Option Int → Option Int → Hp → VK → Prop} {tl th : TO} (h : te σ H fun x H1 => tl σ H1 fun l H2 => th σ H2 fun u H3 => r x l u H3 Q) : tSl r te tl th σ H Q := h
theorem st_slL {xs : List V} {lo hi : Option Int} (s : SqL K H a xs) (h : ∀ p, H p = none → Q (.ref p) (upd H p (.lst (cutV xs lo hi)))) : rSlL K (.ref a) lo hi H Q := ⟨a, xs, rfl, s, h⟩
theorem st_i0 {g : Int → Int → V} (h : Q (g i j) H) : rI0 g (.int i) (.int j) H Q := ⟨i, j, rfl, rfl, h⟩
theorem st_i {C : Int → Int → Prop} {g : Int → Int → V} (c : C i j) (h : Q (g i j) H) : rI C g (.int i) (.int j) H Q := ⟨i, j, rfl, rfl, c, h⟩
theorem st_u {g : Int → V} (h : Q (g i) H) : rU g (.int i) H Q := ⟨i, rfl, h⟩
theorem st_eqi (h : Q (.bl (decide (i = j))) H) : rEq (.int i) (.int j) H Q := by rw [rEq_i]; exact h
theorem st_nei (h : Q (.bl (!decide (i = j))) H) : rNe (.int i) (.int j) H Q := by rw [rNe_i]; exact h
theorem st_eqs (h : Q (.bl (decide (x = y))) H) : rEq (.str x) (.str y) H Q := by rw [rEq_s]; exact h
theorem st_ixT {xs : List V} (s : SqT K H a xs) (e : atI xs i = some v) (h : Q v H) : rIxT K (.ref a) (.int i) H Q := ⟨a, xs, i, v, rfl, rfl, s, e, h⟩
theorem st_ixL {xs : List V} (s : SqL K H a xs) (e : atI xs i = some v) (h : Q v H) : rIxL K (.ref a) (.int i) H Q := ⟨a, xs, i, v, rfl, rfl, s, e, h⟩
/-- bits of naturals -/
theorem st_andN (h : Q (.int ((n &&& m : Nat) : Int)) H) : rI0 (fun i j => .int (Builtin.bitAnd i j)) (.int (n : Int)) (.int (m : Int)) H Q := st_i0 (by rw [bitAnd_nat]; exact h)
theorem st_orN (h : Q (.int ((n ||| m : Nat) : Int)) H) : rI0 (fun i j => .int (Builtin.bitOr i j)) (.int (n : Int)) (.int (m : Int)) H Q := st_i0 (by rw [bitOr_nat]; exact h)
theorem st_xorN (h : Q (.int ((n ^^^ m : Nat) : Int)) H) : rI0 (fun i j => .int (Builtin.bitXor i j)) (.int (n : Int)) (.int (m : Int)) H Q := st_i0 (by rw [bitXor_nat]; exact h)
theorem st_bit (h : Q (.int (Tw.bI (n.testBit k))) H) : rI0 (fun i j => .int (Builtin.bitAnd i j)) (.int ((n : Int) / 2 ^ k)) (.int 1) H Q := st_i0 (by rw [bitAnd_bit]; exact h)
theorem st_shrN (h : Q (.int (i / 2 ^ k)) H) : rI (fun _ j => 0 ≤ j) (fun i j => .int (i / 2 ^ j.toNat)) (.int i) (.int (k : Int)) H Q := st_i (by omega) (by rw [Int.toNat_natCast]; exact h)
theorem st_shl1 (c : k ≤ 1000) (h : Q (.int ((2 ^ k : Nat) : Int)) H) : rI CPow (fun i j => .int (i * 2 ^ j.toNat)) (.int 1) (.int (k : Int)) H Q := st_i (cpow_n c) (by rw [Int.toNat_natCast, Int.one_mul, Tw.pow2_cast]; exact h)
theorem st_modN (c : 0 < n) (h : ∀ k : Nat, i % (n : Int) = (k : Int) → k < n → Q (.int (k : Int)) H) : rI (fun _ j => 0 < j) (fun i j => .int (i % j)) (.int i) (.int (n : Int)) H Q := st_i (by omega) (by
  obtain ⟨k, e, l⟩ := Tw.emod_nat i c
  rw [e]; exact h k e l)
theorem st_isi {c : V} {cv t : Value} (ty : TyOf K H v t) (e : PySem.W.kitOne K t cv = some p) (h : Q (.bl p) H) : rIsi K c cv [v, c] H Q := ⟨v, t, p, rfl, ty, e, h⟩
end
theorem iteD {c : Prop} [Decidable c] {A B : Prop} (h1 : c → A) (h2 : ¬ c → B) : if decide c = true then A else B := by
  by_cases h : c
  · rw [decide_eq_true h]; exact iteT (h1 h)
  · rw [decide_eq_false h]; exact iteF (h2 h)
theorem iteN {c : Prop} [Decidable c] {A B : Prop} (h1 : ¬ c → A) (h2 : c → B) : if (!decide c) = true then A else B := by
  by_cases h : c
  · rw [decide_eq_true h]; exact iteF (h2 h)
  · rw [decide_eq_false h]; exact iteT (h1 h)
theorem pow_pos2 (n : Nat) : 0 < 2 ^ n := Nat.pow_pos (by decide)
theorem for_range0 {n : Nat} {g : TG} {tb : TS} {D : Ends} {σ : St} {H : Hp} (Pv : Nat → St → Hp → Prop) (h0 : Pv 0 σ H)
    (hs : ∀ i σ H, i < n → Pv i σ H → g (.int (i : Int)) σ H fun σ2 H2 => tb { D with nx := Pv (i + 1), ct := Pv (i + 1), bk := D.nx } σ2 H2) (hd : ∀ σ H, Pv n σ H → D.nx σ H) :
    ∃ W : Nat → Nat → St → Hp → Prop, (∃ m, W 0 m σ H) ∧ ∀ i m σ H, W i m σ H →
      ((Itr 0 n).stop i H ∧ D.nx σ H) ∨ ((Itr 0 n).go i H ∧ ∃ N : St → Hp → Prop, (∀ σ' H', N σ' H' → ∃ m', m' < m ∧ W (i + 1) m' σ' H') ∧ ∀ x H', (Itr 0 n).yld i H x H' → g x σ H' fun σ2 H2 => tb { D with nx := N, ct := N, bk := D.nx } σ2 H2) :=
  for_range Pv h0 (fun i σ H hi hp => by rw [Int.zero_add]; exact hs i σ H hi hp) hd
/-- for k in range(n), n told by the argument list's reading -/
theorem st_for_range {ta : TE} {n : Nat} {g : TG} {tb : TS} {D : Ends} {σ : St} {H : Hp} (hn : n ≤ 1000000) (e : ∀ P : V → Hp → Prop, P (.int (n : Int)) H → ta σ H P) (Pv : Nat → St → Hp → Prop) (h0 : Pv 0 σ H)
    (hs : ∀ i σ H, i < n → Pv i σ H → g (.int (i : Int)) σ H fun σ2 H2 => tb { D with nx := Pv (i + 1), ct := Pv (i + 1), bk := D.nx } σ2 H2) (hd : ∀ σ H, Pv n σ H → D.nx σ H) : tFor (iRng1 (tCons ta tNil)) g tb D σ H :=
  e _ ⟨(n : Int), rfl, by omega, by omega, for_range0 Pv h0 hs hd⟩
theorem at_i {cs : List Int} {i : Nat} (h : i < cs.length) : ∃ c, atI (cs.map V.int) (i : Int) = some (.int c) :=
  ⟨cs[i], atI_nat (by rw [List.getElem?_map, List.getElem?_eq_getElem h]; rfl)⟩
theorem one_mod (c : Int) (d : Int) (hd : 0 < d) (hd2 : d ≤ 1000) : ∃ n : Nat, 1 + c % d = (n : Int) ∧ 0 < n ∧ (n : Int) ≤ d := by
  have h1 := Int.emod_nonneg c (show d ≠ 0 by omega)
  have h2 := Int.emod_lt_of_pos c hd
  exact ⟨(1 + c % d).toNat, by omega, by omega, by omega⟩
theorem iteNT {A B : Prop} (h : B) : if (!true) = true then A else B := iteF h
theorem iteNF {A B : Prop} (h : A) : if (!false) = true then A else B := iteT h
end L2

set_option Elab.async false
set_option linter.all false
set_option maxRecDepth 100000
namespace L2
open PySem PySem.Spec PyProof.Rows
/-! A list comprehension of one clause: its block as a context of its own. -/
/-- the cells that a comprehension's block takes along -/
def clGo (env : Env) : List (Str × NameKind) → List (Str × Addr) → List (Str × Addr)
  | [], acc => acc
  | (n, k) :: r, acc => if (k == NameKind.free) = true then clGo env r ((n, (env.cells.lookup n).getD 0) :: acc) else clGo env r acc
theorem clGo_eq (env : Env) : ∀ (names : List (Str × NameKind)) (acc : List (Str × Addr)), (∀ p ∈ names, p.2 = .free → ∃ c, env.cells.lookup p.1 = some c) →
    (forIn names acc fun x r => match x with
      | (name, kind) => if (kind == NameKind.free) = true then (do let a ← cellOf env name; pure (ForInStep.yield ((name, a) :: r)) : Sem _) else pure (ForInStep.yield r)) = (pure (clGo env names acc) : Sem _)
  | [], _, _ => rfl
  | (n, k) :: r, acc, h => by
    rw [List.forIn_cons]
    by_cases hk : k = NameKind.free
    · subst hk
      obtain ⟨c, hc⟩ := h (n, .free) List.mem_cons_self rfl
      have e : cellOf env n = pure c := by unfold cellOf; rw [hc]
      simp only [beq_self_eq_true, if_true, e, pure_bind, clGo, hc, Option.getD_some]
      exact clGo_eq env r _ fun p hp => h p (List.mem_cons_of_mem _ hp)
    · have hb : (k == NameKind.free) = false := by simpa using hk
      simp only [hb, Bool.false_eq_true, if_false, pure_bind, clGo]
      exact clGo_eq env r _ fun p hp => h p (List.mem_cons_of_mem _ hp)
theorem closure_is {scope : Scope} {env : Env} (h : ∀ p ∈ scope.names, p.2 = .free → ∃ c, env.cells.lookup p.1 = some c) : closureFor scope env = pure (clGo env scope.names []) := by
  unfold closureFor
  have e := clGo_eq env scope.names [] h
  dsimp only
  rw [e]
  rfl
theorem clGo_lookup (env : Env) {y : Str} : ∀ (names : List (Str × NameKind)) (acc : List (Str × Addr)), (∀ p ∈ names, p.2 = .free → ∃ c, env.cells.lookup p.1 = some c) →
    ∀ c, (clGo env names acc).lookup y = some c → acc.lookup y = some c ∨ (env.cells.lookup y = some c)
  | [], _, _, _, e => .inl e
  | (n, k) :: r, acc, h, c, e => by
    rw [clGo] at e
    by_cases hk : (k == NameKind.free) = true
    · rw [if_pos hk] at e
      have hk' : k = NameKind.free := by simpa using hk
      obtain ⟨c', hc'⟩ := h (n, k) List.mem_cons_self hk'
      rcases clGo_lookup env r _ (fun p hp => h p (List.mem_cons_of_mem _ hp)) c e with q | q
      · rw [List.lookup_cons] at q
        cases hb : y == n with
        | true =>
          rw [hb] at q
          have hb' : y = n := eq_of_beq hb
          subst hb'
          have hc'' : env.cells.lookup y = some c' := hc'
          rw [hc'', Option.getD_some] at q
          rw [hc'']
          exact .inr q
        | false => rw [hb] at q; exact .inl q
      · exact .inr q
    · rw [if_neg hk] at e
      exact clGo_lookup env r _ (fun p hp => h p (List.mem_cons_of_mem _ hp)) c e
theorem clGo_has (env : Env) {y : Str} : ∀ (names : List (Str × NameKind)) (acc : List (Str × Addr)), (y, NameKind.free) ∈ names ∨ (∃ c, acc.lookup y = some c) → ∃ c, (clGo env names acc).lookup y = some c
  | [], _, h => h.elim (fun z => nomatch z) id
  | (n, k) :: r, acc, h => by
    rw [clGo]
    have up : ∀ v : Addr, (∃ c, acc.lookup y = some c) → ∃ c, ((n, v) :: acc).lookup y = some c := fun v ⟨c, e⟩ => by
      rw [List.lookup_cons]
      cases hb : y == n with
      | true => exact ⟨v, rfl⟩
      | false => exact ⟨c, e⟩
    by_cases hk : (k == NameKind.free) = true
    · rw [if_pos hk]
      refine clGo_has env r _ ?_
      rcases h with h | h
      · rcases List.mem_cons.mp h with z | z
        · cases z
          exact .inr ⟨(env.cells.lookup y).getD 0, by rw [List.lookup_cons, beq_self_eq_true]⟩
        · exact .inl z
      · exact .inr (up _ h)
    · rw [if_neg hk]
      refine clGo_has env r _ ?_
      rcases h with h | h
      · rcases List.mem_cons.mp h with z | z
        · cases z
          exact absurd rfl hk
        · exact .inl z
      · exact .inr h

def rlb (env : Env) (n : Str) (k : NameKind) : NameKind := if (k == .free && env.scope.kind == .function && env.kindOf n == some .cell) = true then .cell else k
theorem relabel_lookup (env : Env) (y : Str) : ∀ names : List (Str × NameKind),
    (names.map fun (n, k) => if (k == NameKind.free && env.scope.kind == .function && env.kindOf n == some .cell) = true then (n, NameKind.cell) else (n, k)).lookup y = (names.lookup y).map (rlb env y)
  | [] => rfl
  | (n, k) :: r => by
    have e : (if (k == NameKind.free && env.scope.kind == .function && env.kindOf n == some .cell) = true then (n, NameKind.cell) else (n, k)) = (n, rlb env n k) := by
      unfold rlb; split <;> rfl
    rw [List.map_cons]
    show List.lookup y ((if (k == NameKind.free && env.scope.kind == .function && env.kindOf n == some .cell) = true then (n, NameKind.cell) else (n, k)) :: _) = _
    rw [e, List.lookup_cons, List.lookup_cons]
    cases hb : y == n with
    | true => have := eq_of_beq hb; subst this; rfl
    | false => exact relabel_lookup env y r
theorem relabel_kind (scope : Scope) (env : Env) (y : Str) : (relabel scope env).names.lookup y = (scope.names.lookup y).map (rlb env y) := relabel_lookup env y scope.names
theorem mem_of_lookup {α β : Type} [BEq α] [LawfulBEq α] {y : α} {k : β} : ∀ {l : List (α × β)}, l.lookup y = some k → (y, k) ∈ l
  | (n, j) :: r, e => by
    rw [List.lookup_cons] at e
    cases hb : y == n with
    | true => rw [hb] at e; have := eq_of_beq hb; subst this; cases e; exact List.mem_cons_self
    | false => rw [hb] at e; exact List.mem_cons_of_mem _ (mem_of_lookup e)
/-- what the block's scope must be: its own name x, the rest free (a cell or free where the def stands) or global -/
structure CpScope (sc : Scope) (x : Str) (scope : Scope) : Prop where
  kind : scope.kind = .function
  cell : ∀ y ∈ scope.names, y.2 ≠ .cell
  own : scope.names.lookup x = some .local
  loc : ∀ y ∈ scope.names, y.2 = .local → y.1 = x ∨ y.1 = (".0" : Str)
  nam : ∀ y ∈ scope.names, y.2 = .local → scope.names.lookup y.1 = some .local
  free : ∀ y ∈ scope.names, y.2 = .free → sc.names.lookup y.1 = some .cell ∨ sc.names.lookup y.1 = some .free
  two : ∀ y ∈ scope.names, y.2 = .free → y.1 ≠ x
/-- the block's context -/
def Cx.comp (X : Cx) (M : List Str) (scope : Scope) (x : Str) (C : Addr) (s : Shared) (H : Hp) (ex : List Addr) : Cx :=
  { X with N := x :: M, s₀ := s, H₀ := H, env := compEnvC scope (clGo X.env scope.names []) C X.env, outer := X.stack, ex := ex, fn := fun _ => false, pn := [], xe := fun _ _ => False }
section
variable {X : Cx} {M : List Str} {pins : List (Addr × Obj)} {σ : St} {H : Hp} {s : Shared} {scope : Scope} {x : Str}
theorem CpScope.has (S : CpScope X.env.scope x scope) (ok : X.Ok) : ∀ p ∈ scope.names, p.2 = .free → ∃ c, X.env.cells.lookup p.1 = some c := fun p hp e => ok.has p.1 (S.free p hp e)
theorem CpScope.cells (S : CpScope X.env.scope x scope) (ok : X.Ok) {y : Str} {c : Addr} (e : (clGo X.env scope.names []).lookup y = some c) : X.env.cells.lookup y = some c := by
  rcases clGo_lookup X.env scope.names [] (S.has ok) c e with z | z
  · cases z
  · exact z
/-- a name that the block sees is its own, or free there -/
theorem CpScope.sees (S : CpScope X.env.scope x scope) {y : Str} (hy : (relabel scope X.env).names.lookup y ≠ some .local) (hv : Vis (relabel scope X.env) y) : (y, NameKind.free) ∈ scope.names ∧ ((relabel scope X.env).names.lookup y = some .cell ∨ (relabel scope X.env).names.lookup y = some .free) := by
  unfold Vis at hv
  rw [relabel_kind] at hv ⊢
  cases e : scope.names.lookup y with
  | none => rw [e] at hv; rcases hv with z | z | z <;> cases z
  | some k =>
    have hm := mem_of_lookup e
    rw [e] at hv
    have hk : k = .free := by
      by_cases hf : k = .free
      · exact hf
      · have hr : rlb X.env y k = k := by
          unfold rlb
          have : (k == NameKind.free) = false := by simpa using hf
          rw [this]; rfl
        rw [Option.map_some, hr] at hv
        rcases hv with z | z | z
        · rw [relabel_kind, e, Option.map_some, hr] at hy
          exact absurd z hy
        · exact absurd (Option.some.inj z) (S.cell _ hm)
        · exact Option.some.inj z
    subst hk
    refine ⟨hm, ?_⟩
    rw [Option.map_some]
    unfold rlb
    split
    · exact .inl rfl
    · exact .inr rfl
theorem CpScope.ok (S : CpScope X.env.scope x scope) (I : Inv X pins σ H s) {C : Addr} (hC : s.heap.objs.size ≤ C) {fp : List Addr} (hf : ∀ b ∈ fp, FpOk X pins H b) (hl : ∀ b ∈ fp, b < s.heap.objs.size) : (X.comp M scope x C s H fp).Ok where
  mod := I.ok.mod
  kind := S.kind
  glob := I.ok.glob
  blt := I.ok.blt
  above := hC
  inj := fun y z c e1 e2 => I.ok.inj y z c (S.cells I.ok e1) (S.cells I.ok e2)
  has := fun y hy => by
    have hv : Vis (relabel scope X.env) y := .inr hy
    have hne : (relabel scope X.env).names.lookup y ≠ some .local := fun e => by
      have hy' : (relabel scope X.env).names.lookup y = some .cell ∨ (relabel scope X.env).names.lookup y = some .free := hy
      rw [e] at hy'
      rcases hy' with q | q <;> cases q
    exact clGo_has X.env scope.names [] (.inl (S.sees hne hv).1)
  cab := fun _ _ z => nomatch z
  hd := I.ok.hd
  frames := I.ok.frames
  stk := .inl rfl
  exf := fun b hb => ⟨fun z => by
      have h1 := hl b hb
      have z' : b = C := z
      rw [z'] at h1
      exact Nat.not_le.mpr h1 hC, fun y c e => (hf b hb).2.2.2.2.1 y c (S.cells I.ok e)⟩
  bs := I.bs
  bsz := Nat.le_trans I.ok.bsz I.sz
  noex := fun b o e hb => by
    rcases (hf b hb).2.2.2.1 with z | z
    · exact I.ok.noex b o e z
    · have h1 := Heap.lt_size e
      have h2 := I.ok.bsz
      exact absurd (Nat.lt_of_lt_of_le (Nat.lt_of_lt_of_le h1 h2) z) (Nat.lt_irrefl _)
  exfs := fun b hb z => by
    rcases List.mem_cons.mp (I.stkSub b z) with q | q
    · exact (hf b hb).2.1 q
    · exact (hf b hb).2.2.1 q
  funs := I.stack
  frf := I.stkFree
/-- entering the block -/
theorem CpScope.inv (S : CpScope X.env.scope x scope) (hx : x ∉ M) (h0 : (".0" : Str) ∉ M) (hlen : M.length = X.N.length) (hM : ∀ (j : Nat) y, M[j]? = some y → X.N[j]? = some y ∨ scope.names.lookup y = none) (I : Inv X pins σ H s) {C : Addr} (hC : s.heap.objs.size ≤ C) {fp : List Addr} (hf : ∀ b ∈ fp, FpOk X pins H b) (hl : ∀ b ∈ fp, b < s.heap.objs.size) {h1 : Heap} {t1 : Nat}
    (old : ∀ b o, s.heap.get? b = some o → h1.get? b = some o) {m : Str → Option Value} (ns : h1.Ns C m) : Inv (X.comp M scope x C s H fp) [] (none :: σ) H { s with heap := h1, toks := t1 } where
  ok := S.ok I hC hf hl
  os := rfl
  bare := I.bare
  base := Un.kept old
  loc := by
    refine ⟨m, ns, fun i y v e1 e2 hv => ?_⟩
    cases i with
    | zero => cases e2
    | succ j =>
      have e1' : M[j]? = some y := by simpa [Cx.comp] using e1
      have e2' : σ[j]? = some (some v) := by simpa using e2
      by_cases hy : (relabel scope X.env).names.lookup y = some .local
      · exfalso
        rw [relabel_kind] at hy
        cases e : scope.names.lookup y with
        | none => rw [e] at hy; cases hy
        | some k =>
          rw [e, Option.map_some] at hy
          have hk : k = .local := by
            have hy' := Option.some.inj hy
            unfold rlb at hy'
            split at hy'
            · cases hy'
            · exact hy'
          rcases S.loc _ (mem_of_lookup e) hk with z | z
          · have z' : y = x := z
            subst z'; exact hx (List.mem_of_getElem? e1')
          · have z' : y = (".0" : Str) := z
            subst z'; exact h0 (List.mem_of_getElem? e1')
      · obtain ⟨hm, hk⟩ := S.sees hy hv
        obtain ⟨m0, _, hl0⟩ := I.loc
        have hx0 : Vis X.env.scope y := .inr (S.free _ hm rfl)
        have e1' : X.N[j]? = some y := by
          rcases hM j y e1' with z | z
          · exact z
          · exfalso
            unfold Vis at hv
            have hv' : (relabel scope X.env).names.lookup y = some .local ∨ (relabel scope X.env).names.lookup y = some .cell ∨ (relabel scope X.env).names.lookup y = some .free := hv
            rw [relabel_kind, z] at hv'
            rcases hv' with q | q | q <;> cases q
        obtain ⟨u, r, l⟩ := hl0 j y v e1' e2' hx0
        refine ⟨u, r, .inr ⟨hk, ?_⟩⟩
        obtain ⟨c, hc⟩ := clGo_has X.env scope.names [] (.inl hm)
        refine ⟨c, hc, ?_⟩
        have hc0 := S.cells I.ok hc
        rcases l with ⟨k0, _⟩ | ⟨_, c0, e0, q0⟩
        · rcases S.free _ hm rfl with z | z
          · have k0' : X.env.scope.names.lookup y = some .local := k0
            rw [z] at k0'; cases k0'
          · have k0' : X.env.scope.names.lookup y = some .local := k0
            rw [z] at k0'; cases k0'
        · rw [hc0] at e0; cases e0
          obtain ⟨o, ho, hd⟩ := q0
          exact ⟨o, old _ _ ho, hd⟩
  cell := fun y c e => by
    obtain ⟨v, o, ho, hd⟩ := I.cell y c (S.cells I.ok e)
    exact ⟨v, o, old _ _ ho, hd⟩
  free := I.hok.fresh hC
  freeC := fun y c e => I.freeC y c (S.cells I.ok e)
  pin := fun p hp => by cases hp
  hok := I.hok.kept old
  len := by simp [Cx.comp, I.len, hlen]
end
/-! the tests of the clause -/
def PIfs (X : Cx) (ifs : List Expr) (t : TT) : Prop :=
  ∀ (pins : List (Addr × Obj)) (s : Shared) (σ : St) (H : Hp) (Q : Bool → Hp → Prop), Inv X pins σ H s → t σ H Q →
    wpAny (model X.prog X.w) X.A (forIn ifs true fun c r => if r = true then do let ok ← isTrue c X.env (eval c X.env); pure (ForInStep.yield ok) else pure (ForInStep.yield r)) (TP X pins σ Q) X.xe s
def tYes : TT := fun _ H Q => Q true H
theorem pif_nil {X : Cx} : PIfs X [] tYes := fun _ _ _ H _ I h => wpAny_tests_nil ⟨H, I, h⟩
theorem pif_one {X : Cx} {c : Expr} {t : TT} (h : PT X c t) : PIfs X [c] t := fun pins s σ H Q I q => wpAny_tests_one (h pins s σ H Q I q)
theorem compLoop_any {prog : Program} {w : World} {A : Around} {R : Result → Shared → Prop} {s : Shared} {elt target iter : Expr} {ifs : List Expr} {scope : Scope} {pos : Pos} {it acc : Value} {env : Env} (I : Nat → Shared → Prop)
    (turn : ∀ n s, I n s → wpAny (model prog w) A (pyNext it) (fun r s₁ => match r with
      | none => R (.ok .next) s₁
      | some v => wpAny (model prog w) A (letOwnedTupleGo target it v) (fun _ s₀ => wpAny (model prog w) A (assign target env v) (fun _ s₂ =>
          wpAny (model prog w) A (forIn ifs true fun c r => if r = true then do let ok ← isTrue c env (eval c env); pure (ForInStep.yield ok) else pure (ForInStep.yield r)) (fun ok s₃ =>
            if ok = true then wpAny (model prog w) A (eval elt env) (fun x s₄ =>
              wpAny (model prog w) A (call (.builtin "list.append") [acc, x]) (fun _ s₅ => ∃ m, m < n ∧ I m s₅) (fun _ _ => False) s₄) (fun _ _ => False) s₃
            else ∃ m, m < n ∧ I m s₃) (fun _ _ => False) s₂) (fun _ _ => False) s₀) (fun _ _ => False) s₁) (fun _ _ => False) s)
    (n : Nat) (h : I n s) : codeAny (model prog w) A (.compLoop (.ListComp elt [⟨target, iter, ifs, 0⟩] scope pos) 0 it acc env) R s := by
  refine codeAny_loop rfl I (fun n s hI => ?_) n h
  show wpAny _ A ((compTurn (.ListComp elt [⟨target, iter, ifs, 0⟩] scope pos) 0 it acc env).onRaise (fun x => do noteFrame x env; theTreesLotGoes x)) _ _ s
  refine wpAny_noted ?_
  rw [compTurn_list]
  refine wpAny_bind (wpAny_standAt (wpAny_bind (wpAny_mono (turn n s hI) (fun r s₁ h₁ => ?_) fun _ _ h' => h'.elim)))
  cases r with
  | none => exact wpAny_pure h₁
  | some v =>
    refine wpAny_bind (wpAny_mono h₁ (fun _ s₀ h₀ => ?_) fun _ _ h' => h'.elim)
    refine wpAny_bind (wpAny_mono h₀ (fun _ s₂ h₂ => wpAny_bind (wpAny_mono h₂ (fun ok s₃ h₃ => ?_) fun _ _ h' => h'.elim)) fun _ _ h' => h'.elim)
    cases ok with
    | false => exact wpAny_pure ⟨rfl, h₃⟩
    | true =>
      exact wpAny_bind (wpAny_bind (wpAny_mono h₃ (fun x s₄ h₄ => wpAny_bind (wpAny_mono h₄ (fun _ s₅ h₅ => wpAny_pure (wpAny_pure ⟨rfl, h₅⟩)) fun _ _ h' => h'.elim)) fun _ _ h' => h'.elim))
/-- what a comprehension asks: an invariant over the turn, a measure and the list made so far -/
def tComp (wi : TI) (tt : TT) (te : TE) : TE := fun σ H Q => wi σ H fun J H1 => ∃ W : Nat → Nat → List V → Hp → Prop, (∃ m, W 0 m [] H1) ∧ ∀ i m ys H, W i m ys H →
  (J.stop i H ∧ ∀ p, H p = none → Q (.ref p) (upd H p (.lst ys))) ∨
  (J.go i H ∧ ys.length < sizeLine ∧ ∃ N : List V → Hp → Prop, (∀ ys' H', N ys' H' → ∃ m', m' < m ∧ W (i + 1) m' ys' H') ∧
    ∀ x H', J.yld i H x H' → tt (some x :: σ) H' fun b H2 => if b = true then te (some x :: σ) H2 fun y H3 => N (ys ++ [y]) H3 else N ys H2)
section
variable {X : Cx} {M : List Str} {scope : Scope} {x : Str} {px pos : Pos} {elt iter : Expr} {ifs : List Expr} {wi : TI} {tt : TT} {te : TE}
theorem comp_core {sc : Scope} {use : Option (Value → Sem Unit)} {QQ : Value → Shared → Prop} {Q : VK} {pins : List (Addr × Obj)} {s : Shared} {σ : St} {H : Hp} {cpos : Pos} (hsc : X.env.scope = sc) (S : CpScope sc x scope) (hx : x ∉ M) (h0 : (".0" : Str) ∉ M) (hN : M.Nodup) (hlen : M.length = X.N.length) (hM : ∀ (j : Nat) y, M[j]? = some y → X.N[j]? = some y ∨ scope.names.lookup y = none) (hc : X.calm = true) (hi : PI X (.Name x px) iter wi)
    (ht : ∀ C s H ex, PIfs (X.comp M scope x C s H ex) ifs tt) (he : ∀ C s H ex, PE (X.comp M scope x C s H ex) elt te) (I : Inv X pins σ H s) (h : tComp wi tt te σ H Q)
    (fin : ∀ (D C : Addr) (s4 : Shared) (H4 : Hp), C ≠ X.env.locals → (∀ y c, X.env.cells.lookup y = some c → c ≠ C) → (∀ p ∈ X.pn ++ pins, p.1 ≠ C) → X.s₀.heap.objs.size ≤ C → H4 C = none → (∃ m, s4.heap.Ns C m) →
      (∀ h', Heap.SameBut C s4.heap h' → Inv X pins σ H4 { s4 with heap := h' }) → Q (.ref D) H4 → compPost (model X.prog X.w) X.A X.xe use QQ (.ref D) C (.ok .next) s4)
    (hs : ∀ v, foldedSetIterable iter X.env v = pure v) :
    wpAny (model X.prog X.w) X.A (comprehension (.ListComp elt [⟨.Name x px, iter, ifs, 0⟩] scope pos) scope X.env cpos (newList []) false (eval iter X.env) use) QQ X.xe s := by
  subst hsc
  have hnames := S.nam
  refine wpAny_comprehension_free (use := use) rfl hs (closure_is (S.has I.ok)) S.kind hnames (thn (hi pins s σ H _ I h) fun v s1 h1 => thn h1 fun itv s2 h2 => ?_)
  obtain ⟨it, fp, tn, J, H2, e, I2, T, st2, f2, W, ⟨m0, w0⟩, turn⟩ := h2
  subst e
  refine wpAny_newObj_type (wpAny_newFunctionEnv S.cell (by intro y hy; simp at hy) (fun h₁ hns₁ hsb₁ => ?_) S.kind)
  dsimp only at hns₁ hsb₁ ⊢
  generalize hG : s2.heap.push { cls := .type "list", dict := none, data := .seq ([] : List Value).toArray } = G at hns₁ hsb₁ ⊢
  have hC : G.objs.size = s2.heap.objs.size + 1 := by rw [← hG, Heap.size_push]
  have hDC : s2.heap.objs.size ≠ G.objs.size := by omega
  have below : ∀ b, b < s2.heap.objs.size → b ≠ G.objs.size ∧ b ≠ s2.heap.objs.size := fun b hb => ⟨by omega, by omega⟩
  have old : ∀ b o, s2.heap.get? b = some o → h₁.get? b = some o := fun b o e => hsb₁.extBut b o (below b (Heap.lt_size e)).1 (Heap.get?_push_of_some _ (hG ▸ Heap.get?_push_of_some _ e))
  have hacc : h₁.get? s2.heap.objs.size = some { cls := .type "list", data := .seq ([] : List Value).toArray } := hsb₁.extBut _ _ hDC (Heap.get?_push_of_some _ (hG ▸ Heap.get?_push_size _ rfl))
  have hlt : ∀ b ∈ fp, b < s2.heap.objs.size := fun b hb => by
    obtain ⟨o, e, _⟩ := T.obj _ _ st2 b hb
    exact Heap.lt_size e
  have ctop : ∀ y c, (clGo X.env scope.names []).lookup y = some c → c < s2.heap.objs.size := fun y c e => by
    obtain ⟨v, q⟩ := I2.cell y c (S.cells I2.ok e)
    exact q.lt
  have hCle : s2.heap.objs.size ≤ G.objs.size := by omega
  have IY : ∀ t1, Inv (X.comp M scope x G.objs.size s2 H2 fp) [] (none :: σ) H2 { s2 with heap := h₁, toks := t1 } := fun t1 => S.inv hx h0 hlen hM I2 hCle f2 hlt old hns₁
  have nost : ∀ b, s2.heap.objs.size ≤ b → b ∉ frs X.stack := fun b hb z => by
    rcases List.mem_cons.mp (I2.stkSub b z) with q | q
    · exact Nat.not_le.mpr I2.lt (q ▸ hb)
    · exact I2.nofs hb q
  have hD : s2.heap.objs.size ∉ frs X.stack := nost _ (Nat.le_refl _)
  have ptop : ∀ {pl : List (Addr × Obj)} {H' : Hp}, (∀ b ∈ fp, H' b = none) → (∀ p ∈ pl, p.1 ∉ fp) → ∀ b ∈ fp, FpOk (X.comp M scope x G.objs.size s2 H2 fp) pl H' b := fun {pl H'} hn hp b hb =>
    ⟨hn b hb, fun z => (below b (hlt b hb)).1 z, fun z => (S.ok I2 hCle f2 hlt).exfs b hb z, .inl hb, fun y c e => (f2 b hb).2.2.2.2.1 y c (S.cells I2.ok e), fun p hp' z => hp p hp' (z ▸ hb)⟩
  have Dfp : s2.heap.objs.size ∉ fp := fun z => Nat.lt_irrefl _ (hlt _ z)
  have loop : ∀ t1, codeAny (model X.prog X.w) X.A (.compLoop (.ListComp elt [⟨.Name x px, iter, ifs, 0⟩] scope pos) 0 (.ref it) (.ref s2.heap.objs.size) (compEnvC scope (clGo X.env scope.names []) G.objs.size X.env))
      (compPost (model X.prog X.w) X.A X.xe use QQ (.ref s2.heap.objs.size) G.objs.size) { s2 with heap := h₁, toks := t1 } := by
    intro t1
    refine compLoop_any (fun n s' => ∃ i o H' ys its k, Inv (X.comp M scope x G.objs.size s2 H2 fp) [(s2.heap.objs.size, { cls := .type "list", data := .seq its k })] (o :: σ) H' s' ∧ tn i s'.heap ∧ (∀ b ∈ fp, H' b = none) ∧ Vals ys its.toList ∧ ys.length ≤ sizeLine ∧ W i n ys H')
      ?_ m0 ⟨0, none, H2, [], #[], 0, ?_, T.keep _ _ _ st2 fun b _ o e => old b o e, fun b hb => (f2 b hb).1, .nil, Nat.zero_le _, w0⟩
    · rintro n s3 ⟨i, o, H3, ys, its, k, I3, st3, fr3, vs3, z3, w3⟩
      have pD : ∀ p ∈ [(s2.heap.objs.size, ({ cls := .type "list", data := .seq its k } : Obj))], p.1 ∉ fp := fun p hp => by
        have e : p = _ := List.mem_singleton.mp hp
        subst e; exact Dfp
      rcases turn i n ys H3 w3 with ⟨stop, qn⟩ | ⟨go, hz, N, hN', step⟩
      · refine wpAny_mono (T.done (X.comp M scope x G.objs.size s2 H2 fp) rfl rfl rfl hc i _ s3 (o :: σ) H3 (fun _ _ => False) I3 (ptop fr3 pD) st3 stop) (fun r s4 ⟨hr, I4⟩ => ?_) fun _ _ f => f
        subst hr
        obtain ⟨m4, hn4, _⟩ := I4.loc
        obtain ⟨eD, nD, _⟩ := I4.pin _ (List.mem_singleton.mpr rfl)
        have nC : H3 G.objs.size = none := I4.free
        refine fin s2.heap.objs.size G.objs.size s4 (upd H3 s2.heap.objs.size (.lst ys)) (fun z => Nat.not_le.mpr I2.lt (z ▸ hCle)) (fun y c e z => ?_) (fun p hp z => ?_) (Nat.le_trans I2.sz hCle) (by rw [upd_ne (Ne.symm hDC)]; exact nC) ⟨m4, hn4⟩ (fun h' hs' => ?_) (qn _ nD)
        · obtain ⟨v, q⟩ := I2.cell y c e
          exact Nat.not_le.mpr q.lt (z ▸ hCle)
        · exact Nat.not_le.mpr (Heap.lt_size (I2.pin p hp).1) (z ▸ hCle)
        have eD' : h'.get? s2.heap.objs.size = some { cls := .type "list", data := .seq its k } := hs'.extBut _ _ hDC eD
        have stp : ∀ b o, s2.heap.get? b = some o → b ≠ G.objs.size ∧ b ≠ s2.heap.objs.size := fun b o e => below b (Heap.lt_size e)
        have un : Un (frs X.stack) fp H2 (upd H3 s2.heap.objs.size (.lst ys)) s2.heap h' := by
          have B := I4.base
          refine ⟨fun b o e n1 n2 n3 => hs'.extBut _ _ (stp b o e).1 (B.keep b o e n1 n2 n3), fun b o e n1 n2 n3 => ?_, fun b o e n1 n3 => ?_, fun b o e n3 => ?_, fun b xs e => ?_, fun b o u e => ?_, fun b ps e => ?_⟩
          · obtain ⟨sl, q⟩ := B.slot b o e n1 n2 n3
            exact ⟨sl, hs'.extBut _ _ (stp b o e).1 q⟩
          · rw [upd_ne (stp b o e).2]; exact B.free b o e n1 n3
          · obtain ⟨o', q⟩ := B.there b o e n3
            exact ⟨o', hs'.extBut _ _ (stp b o e).1 q⟩
          · have q := B.tups b xs e
            rw [upd_ne (ne_of_none q nD)]; exact q
          · have q := B.frzs b o u e
            rw [upd_ne (ne_of_none q nD)]; exact q
          · obtain ⟨more, q⟩ := B.tbls b ps e
            exact ⟨more, by rw [upd_ne (ne_of_none q nD)]; exact q⟩
        have hok : HOk X.prog X.w (upd H3 s2.heap.objs.size (.lst ys)) h' := fun b u e => by
          by_cases hb : b = s2.heap.objs.size
          · subst hb
            rw [upd_same] at e
            cases e
            exact ⟨z3, its.toList, k, vs3, by simpa using eD'⟩
          · rw [upd_ne hb] at e
            refine (I4.hok b u e).stay (fun c v hc' q => hs'.extBut _ _ (fun z => ?_) q) (fun c q => by rw [upd_ne (ne_of_none q nD)]; exact q) fun c xs q => by rw [upd_ne (ne_of_none q nD)]; exact q
            rcases hc' with r | r
            · rw [r] at z; rw [z, nC] at e; cases e
            · rw [z, nC] at r; cases r
        refine I2.call' (s' := { s4 with heap := h' }) I4.os un hok I4.bare (fun b hb => ?_)
        obtain ⟨f0, f1, f2', f3, f4, f5⟩ := f2 b hb
        exact ⟨f3, f1, f4, f5⟩
      · refine wpAny_mono (T.item (X.comp M scope x G.objs.size s2 H2 fp) rfl rfl rfl hc i _ s3 (o :: σ) H3 (fun _ _ => False) I3 (ptop fr3 pD) st3 go) (fun r s4 ⟨u, hr, h4⟩ => ?_) fun _ _ f => f
        subst hr
        refine wpAny_mono h4 (fun _ s5 ⟨v5, H5, I5, r5, y5, st5, fr5⟩ => ?_) fun _ _ f => f
        have I5' := I5.pinned (ptop fr5 pD) (T.obj _ _ st5)
        have hnd : (X.comp M scope x G.objs.size s2 H2 fp).N.Nodup := List.nodup_cons.mpr ⟨hx, hN⟩
        have hloc : (relabel scope X.env).names.lookup x = some .local := lookup_relabel_local S.own
        refine wpAny_mono (pg_name (X := X.comp M scope x G.objs.size s2 H2 fp) (i := 0) (pos := px) hnd rfl (.inl hloc) (.inr hloc) _ s5 (o :: σ) H5 v5 u (fun σ6 H6 => σ6 = some v5 :: σ ∧ H6 = H5) I5' r5 ⟨rfl, rfl⟩) (fun _ s6 ⟨σ6, H6, I6, e6, e6'⟩ => ?_) fun _ _ f => f
        subst e6 e6'
        have later : ∀ {σ7 : St} {H7 : Hp} {s7 : Shared}, Inv (X.comp M scope x G.objs.size s2 H2 fp) ([(s2.heap.objs.size, { cls := .type "list", data := .seq its k })] ++ pinsAt fp s5.heap) σ7 H7 s7 → tn (i + 1) s7.heap ∧ (∀ b ∈ fp, H7 b = none) := fun {σ7 H7 s7} I7 =>
          ⟨T.keep _ _ _ st5 fun b hb o e => (I7.pin (b, o) (List.mem_append_right _ (List.mem_append_right _ (mem_pinsAt hb e)))).1, fun b hb => by
            obtain ⟨o, e, d⟩ := T.obj _ _ st5 b hb
            exact (I7.pin (b, o) (List.mem_append_right _ (List.mem_append_right _ (mem_pinsAt hb e)))).2.1⟩
        refine wpAny_mono (ht _ _ _ _ _ s6 (some v5 :: σ) H6 _ I6 (step v5 H6 y5)) (fun ok s7 ⟨H7, I7, q7⟩ => ?_) fun _ _ f => f
        cases ok with
        | false =>
          obtain ⟨m', hm, w7⟩ := hN' _ _ q7
          exact ⟨m', hm, i + 1, some v5, H7, ys, its, k, I7.unpinned, (later I7).1, (later I7).2, vs3, z3, w7⟩
        | true =>
          refine wpAny_mono (he _ _ _ _ _ s7 (some v5 :: σ) H7 _ I7 q7) (fun uy s8 ⟨y8, H8, I8, r8, q8⟩ => ?_) fun _ _ f => f
          obtain ⟨m', hm, w8⟩ := hN' _ _ q8
          obtain ⟨eD, nD, _⟩ := I8.pin (s2.heap.objs.size, { cls := .type "list", data := .seq its k }) (List.mem_append_right _ (List.mem_append_left _ (List.mem_singleton.mpr rfl)))
          have hsz : its.size ≤ sizeLine := by
            have := vs3.length
            have e2 : its.toList.length = its.size := by simp
            omega
          refine wpAny_list_append_plain (hsz := hsz) ⟨k, eD⟩ fun h9 pl9 sb9 => ?_
          obtain ⟨k9, e9⟩ := pl9
          obtain ⟨st8, fr8⟩ := later I8
          have I8' : Inv (X.comp M scope x G.objs.size s2 H2 fp) [] (some v5 :: σ) H8 s8 := I8.pins_of fun p hp => nomatch hp
          have I9 : Inv (X.comp M scope x G.objs.size s2 H2 fp) [] (some v5 :: σ) H8 { s8 with heap := h9 } :=
            I8'.turned (t' := s8.toks) (fun b o hb e => sb9.extBut b o hb e) nD hDC (.inr (Nat.le_refl _)) (fun y c e z => by have := ctop y c e; rw [z] at this; exact Nat.lt_irrefl _ this) fun p hp => nomatch hp
          refine ⟨m', hm, i + 1, some v5, H8, ys ++ [y8], its.push uy, k9, I9.pins_of fun p hp => ?_, T.keep _ _ _ st8 fun b hb o e => sb9.extBut b o (fun z => Dfp (z ▸ hb)) e, fr8, ?_, ?_, w8⟩
          · have e : p = _ := List.mem_singleton.mp hp
            subst e
            exact ⟨e9, nD, hDC, hD, fun v z => by cases z⟩
          · rw [Array.toList_push]
            exact vs3.append (.cons r8 .nil)
          · rw [List.length_append, List.length_singleton]; omega
    · refine (IY t1).pins_of fun p hp => ?_
      have e : p = _ := List.mem_singleton.mp hp
      subst e
      exact ⟨hacc, I2.hok.fresh (Nat.le_refl _), hDC, hD, fun v z => by cases z⟩
  exact codeAny_compStart_list (loop _) (T.self _ 0 _ _ _ (T.keep _ _ _ st2 fun b _ o e => old b o e) (loop _))
theorem pe_comp {sc : Scope} (hsc : X.env.scope = sc) (S : CpScope sc x scope) (hx : x ∉ X.N) (h0 : (".0" : Str) ∉ X.N) (hN : X.N.Nodup) (hc : X.calm = true) (hi : PI X (.Name x px) iter wi)
    (ht : ∀ C s H ex, PIfs (X.comp X.N scope x C s H ex) ifs tt) (he : ∀ C s H ex, PE (X.comp X.N scope x C s H ex) elt te) (hs : ∀ v, foldedSetIterable iter X.env v = pure v := by intro _; rfl) :
    PE X (.ListComp elt [⟨.Name x px, iter, ifs, 0⟩] scope pos) (tComp wi tt te) := by
  intro pins s σ H Q I h
  rw [eval_ListComp]
  exact comp_core (use := none) (M := X.N) hsc S hx h0 hN rfl (fun _ _ e => .inl e) hc hi ht he I h (fun D C s4 H4 _ _ _ _ _ hn inv q => let ⟨m, hn⟩ := hn; ⟨m, hn, fun h' hs' => ⟨.ref D, H4, inv h' hs', rfl, q⟩⟩) hs
theorem zip_or {scope : Scope} : ∀ {M N : List Str}, (M.zip N).all (fun p => p.1 == p.2 || (scope.names.lookup p.1).isNone) = true → M.length = N.length → ∀ (j : Nat) y, M[j]? = some y → N[j]? = some y ∨ scope.names.lookup y = none
  | [], _, _, _, j, y, e => by simp at e
  | _ :: _, [], _, hl, _, _, _ => by cases hl
  | m :: M, n :: N, h, hl, 0, y, e => by
    have e' : m = y := Option.some.inj e
    subst e'
    rw [List.zip_cons_cons, List.all_cons, Bool.and_eq_true, Bool.or_eq_true] at h
    rcases h.1 with z | z
    · exact .inl (by rw [show n = m from (eq_of_beq z).symm]; rfl)
    · exact .inr (Option.isNone_iff_eq_none.mp z)
  | m :: M, n :: N, h, hl, j + 1, y, e => by
    rw [List.zip_cons_cons, List.all_cons, Bool.and_eq_true] at h
    exact zip_or h.2 (Nat.succ.inj hl) j y e
theorem pe_compS {sc : Scope} (M N0 : List Str) (hN0 : X.N = N0) (hsc : X.env.scope = sc) (S : CpScope sc x scope) (hx : x ∉ M) (h0 : (".0" : Str) ∉ M) (hN : M.Nodup) (hlen : M.length = N0.length) (hM : (M.zip N0).all (fun p => p.1 == p.2 || (scope.names.lookup p.1).isNone) = true) (hc : X.calm = true) (hi : PI X (.Name x px) iter wi)
    (ht : ∀ C s H ex, PIfs (X.comp M scope x C s H ex) ifs tt) (he : ∀ C s H ex, PE (X.comp M scope x C s H ex) elt te) (hs : ∀ v, foldedSetIterable iter X.env v = pure v := by intro _; rfl) :
    PE X (.ListComp elt [⟨.Name x px, iter, ifs, 0⟩] scope pos) (tComp wi tt te) := by
  subst hN0
  intro pins s σ H Q I h
  rw [eval_ListComp]
  exact comp_core (use := none) (M := M) hsc S hx h0 hN hlen (zip_or hM hlen) hc hi ht he I h (fun D C s4 H4 _ _ _ _ _ hn inv q => let ⟨m, hn⟩ := hn; ⟨m, hn, fun h' hs' => ⟨.ref D, H4, inv h' hs', rfl, q⟩⟩) hs
end
/-- over a tuple or a list that the block leaves as it is -/
theorem comp_tup {K : PySem.W.Frag} {a : Addr} {xs : List V} {tt : TT} {te : TE} {Q : VK} {σ : St} {H : Hp} (Pv : Nat → List V → Hp → Prop) (hn : xs.length ≤ 1000) (h0 : Pv 0 [] H) (hl : ∀ i ys H, Pv i ys H → ys.length ≤ i) (hk : ∀ i ys H, Pv i ys H → SqT K H a xs)
    (hs : ∀ i x ys H, xs[i]? = some x → Pv i ys H → tt (some x :: σ) H fun b H2 => if b = true then te (some x :: σ) H2 fun y H3 => Pv (i + 1) (ys ++ [y]) H3 else Pv (i + 1) ys H2)
    (hd : ∀ ys H, Pv xs.length ys H → ∀ p, H p = none → Q (.ref p) (upd H p (.lst ys))) :
    ∃ W : Nat → Nat → List V → Hp → Prop, (∃ m, W 0 m [] H) ∧ ∀ i m ys H, W i m ys H → ((Itt K a).stop i H ∧ ∀ p, H p = none → Q (.ref p) (upd H p (.lst ys))) ∨
      ((Itt K a).go i H ∧ ys.length < sizeLine ∧ ∃ N : List V → Hp → Prop, (∀ ys' H', N ys' H' → ∃ m', m' < m ∧ W (i + 1) m' ys' H') ∧
        ∀ x H', (Itt K a).yld i H x H' → tt (some x :: σ) H' fun b H2 => if b = true then te (some x :: σ) H2 fun y H3 => N (ys ++ [y]) H3 else N ys H2) := by
  refine ⟨fun i m ys H => m = xs.length - i ∧ i ≤ xs.length ∧ Pv i ys H, ⟨xs.length, by simp, Nat.zero_le _, h0⟩, ?_⟩
  rintro i m ys H ⟨rfl, hi, p⟩
  by_cases hlt : i < xs.length
  · refine .inr ⟨⟨xs, xs[i], hk i ys H p, by simp [hlt]⟩, small1000 (by have := hl i ys H p; omega), Pv (i + 1), fun ys' H' p' => ⟨xs.length - (i + 1), by omega, rfl, hlt, p'⟩, fun x H' y => ?_⟩
    obtain ⟨e, y⟩ := y
    subst e
    exact hs i x ys _ (y xs (hk i ys _ p)) p
  · have e : i = xs.length := by omega
    subst e
    exact .inl ⟨⟨xs, hk _ ys H p, Nat.le_refl _⟩, hd ys H p⟩
/-! int.bit_length -/
def rBitLen : V → List V → Hp → VK → Prop := fun x vs H Q => ∃ i, x = .int i ∧ vs = [] ∧ Q (.int (Builtin.Int.intBits i : Nat)) H
end L2

/-! Own mathematics: the places of a number's bits. -/
namespace Tw
/-- the places below k at which n has a 1, rising -/
def plc (n : Nat) : Nat → List Nat
  | 0 => []
  | k + 1 => if n.testBit k then plc n k ++ [k] else plc n k
/-- what the places are worth together -/
def wor : List Nat → Nat
  | [] => 0
  | k :: r => 2 ^ k + wor r
theorem take_succ_get {α : Type} {xs : List α} {i : Nat} {x : α} (h : xs[i]? = some x) : xs.take (i + 1) = xs.take i ++ [x] := by
  rw [List.take_add_one, h]; rfl
end Tw

set_option Elab.async false
set_option linter.all false
set_option maxRecDepth 100000
namespace L2
open PySem PySem.Spec PyProof.Rows
/-! Steps of readings, second part. -/
def rLen (K : PySem.W.Frag) : List V → Hp → VK → Prop := fun xs H Q => (∃ p ys, xs = [.ref p] ∧ (SqL K H p ys ∨ SqT K H p ys) ∧ Q (.int (ys.length : Nat)) H) ∨ ∃ z, xs = [.str z] ∧ z.length ≤ sizeLine ∧ Q (.int (z.length : Nat)) H
theorem call_lenQ {X : Cx} : CallR X (.builtin "len") (rLen X.K) := call_len_seq.or call_len_str
section
variable {K : PySem.W.Frag} {H : Hp} {Q : VK} {D : Ends} {σ : St} {te : TE} {tA : TA} {g : TG} {tb : TS} {v w y : V} {a b l : Addr} {i j : Int} {xs ys zs : List V} {n : Nat} {T : String} {r : V → List V → Hp → VK → Prop}
def sForL (K : PySem.W.Frag) (g : TG) (tb : TS) (D : Ends) (σ : St) : V → Hp → Prop := fun x H => ∃ a, x = .ref a ∧ (∃ xs, SqL K H a xs) ∧ ∃ W : Nat → Nat → St → Hp → Prop, (∃ m, W 0 m σ H) ∧ ∀ i m σ H, W i m σ H →
  ((Itl K a).stop i H ∧ D.nx σ H) ∨ ((Itl K a).go i H ∧ ∃ N : St → Hp → Prop, (∀ σ' H', N σ' H' → ∃ m', m' < m ∧ W (i + 1) m' σ' H') ∧ ∀ x H', (Itl K a).yld i H x H' → g x σ H' fun σ2 H2 => tb { D with nx := N, ct := N, bk := D.nx } σ2 H2)
theorem st_forE {tl : TE} (h : tl σ H (sForL K g tb D σ)) : tFor (iList K tl) g tb D σ H := h
theorem st_forAt (s : SqL K H a xs) (Pv : Nat → St → Hp → Prop) (h0 : Pv 0 σ H) (hl : ∀ i σ H, i ≤ xs.length → Pv i σ H → SqL K H a xs)
    (hs : ∀ i x σ H, xs[i]? = some x → Pv i σ H → g x σ H fun σ2 H2 => tb { D with nx := Pv (i + 1), ct := Pv (i + 1), bk := D.nx } σ2 H2) (hd : ∀ σ H, Pv xs.length σ H → D.nx σ H) : sForL K g tb D σ (.ref a) H :=
  ⟨a, rfl, ⟨xs, s⟩, for_list Pv h0 hl hs hd⟩
theorem st_cat (h1 : H l = some (.lst xs)) (h2 : H b = some (.lst zs)) (hz : xs.length + zs.length ≤ 1000) (q : ∀ p, H p = none → Q (.ref p) (upd H p (.lst (xs ++ zs)))) : rCat (.ref l) (.ref b) H Q :=
  ⟨l, b, xs, zs, rfl, rfl, h1, h2, Nat.le_of_lt (small1000 hz), q⟩
theorem st_lenL (s : SqL K H a xs) (h : Q (.int (xs.length : Nat)) H) : rLen K [.ref a] H Q := .inl ⟨a, xs, rfl, .inl s, h⟩
theorem st_lenT (s : SqT K H a xs) (h : Q (.int (xs.length : Nat)) H) : rLen K [.ref a] H Q := .inl ⟨a, xs, rfl, .inr s, h⟩
end
theorem kit_NoneType_int {K : PySem.W.Frag} : PySem.W.kitOne K (.type "NoneType") (.type "int") = some false := by kernel_rfl
theorem kit_NoneType_bool {K : PySem.W.Frag} : PySem.W.kitOne K (.type "NoneType") (.type "bool") = some false := by kernel_rfl
theorem kit_bool_int {K : PySem.W.Frag} : PySem.W.kitOne K (.type "bool") (.type "int") = some true := by kernel_rfl
theorem kit_bool_bool {K : PySem.W.Frag} : PySem.W.kitOne K (.type "bool") (.type "bool") = some true := by kernel_rfl
theorem kit_int_int {K : PySem.W.Frag} : PySem.W.kitOne K (.type "int") (.type "int") = some true := by kernel_rfl
theorem kit_int_bool {K : PySem.W.Frag} : PySem.W.kitOne K (.type "int") (.type "bool") = some false := by kernel_rfl
theorem kit_int_str {K : PySem.W.Frag} : PySem.W.kitOne K (.type "int") (.type "str") = some false := by kernel_rfl
theorem kit_str_int {K : PySem.W.Frag} : PySem.W.kitOne K (.type "str") (.type "int") = some false := by kernel_rfl
theorem kit_str_bool {K : PySem.W.Frag} : PySem.W.kitOne K (.type "str") (.type "bool") = some false := by kernel_rfl
theorem kit_str_str {K : PySem.W.Frag} : PySem.W.kitOne K (.type "str") (.type "str") = some true := by kernel_rfl
theorem kit_tuple_tuple {K : PySem.W.Frag} : PySem.W.kitOne K (.type "tuple") (.type "tuple") = some true := by kernel_rfl
end L2

set_option Elab.async false
set_option linter.all false
set_option maxRecDepth 100000
namespace L2
open PySem PySem.Spec PyProof.Rows
/-! Exceptions: raised by own classes under ValueError, passed on through defs, caught by a name. -/
abbrev bmVE : List Value := [.type "ValueError", .type "Exception", .type "BaseException", .type "object"]
/-- an own exception class of the text, named x -/
structure ExcK (K : PySem.W.Frag) (C : Addr) : Prop where
  exc : PySem.W.excIn K C bmVE "ValueError.__new__" = true
  ga : PySem.W.findIn K (.ref C) "__getattribute__" = some (some (.builtin "BaseException.__getattribute__"))
  gt : PySem.W.findIn K (.ref C) "__getattr__" = some none
  ca : PySem.W.findIn K (.ref C) "__class__" = some (some (.builtin "object.__class__"))
  cg : PySem.W.specialIn K (.builtin "object.__class__") "__get__" = some (some (.builtin "getset_descriptor.__get__"))
  tk : PySem.W.takesIn K (.builtin "object.__class__") = some true
  mo : PySem.W.mroIn K C (.type "object") = some true
  mb : PySem.W.mroIn K C (.type "BaseException") = some true
structure ExcC (K : PySem.W.Frag) (mg : Str → Option Value) (x : Str) (C : Addr) : Prop where
  at_ : mg x = some (.ref C)
  k : ExcK K C
theorem ExcK.obj {K : PySem.W.Frag} {C : Addr} {h : Heap} (c : ExcK K C) (X : K.In h) : ∃ bm N nm q bs hdct sn sub ab col dd k0 k1 k2 k3 k5 mN, h.get? C = some (excClassObj nm q C N bs bm hdct sn sub ab col dd k0 k1 k2 k3 k5 "ValueError.__new__") ∧ h.Ns N mN ∧ mN "__init__" = none ∧ OwnTail h bmVE bm := by
  have q := c.exc
  unfold PySem.W.excIn at q
  split at q
  · rename_i dd cd sl ho
    split at q
    · rename_i C' bm k0 k1 k2 k3 n k5 hm hs
      simp only [Bool.and_eq_true, beq_iff_eq, Bool.not_eq_true'] at q
      obtain ⟨⟨⟨⟨⟨rfl, rfl⟩, hdel⟩, ht⟩, hok⟩, hni⟩ := q
      obtain ⟨nm, bs, mro, ns, qn, hd, sn, sub, ab, col, del⟩ := cd
      dsimp only at hm hdel hok hni
      subst hm hdel
      have hsl : sl = #[k0, k1, k2, k3, some (.builtin "ValueError.__new__"), k5] := by
        obtain ⟨l⟩ := sl
        simp only at hs
        rw [hs]
      subst hsl
      exact ⟨bm, ns, nm, qn, bs, hd, sn, sub, ab, col, dd, k0, k1, k2, k3, k5, _, X _ _ ho, .of_isNs (PySem.W.isNs_of_in X hok), PySem.W.nsMap_none_of_in X hok hni, PySem.W.tail_of_in X ht⟩
    · cases q
  · cases q
theorem ObjOk.there {P : Program} {w : World} {H : Hp} {h : Heap} {b : Addr} {u : HO} (k : ObjOk P w H h b u) : ∃ o, h.get? b = some o := by
  revert k
  cases u with
  | lst xs => rintro ⟨_, its, n, _, z⟩; exact ⟨_, z⟩
  | tup xs => rintro ⟨_, its, _, o, z, _⟩; exact ⟨_, z⟩
  | dK kvs => rintro ⟨_, _, vs, _, o, es, ep, z, _⟩; exact ⟨_, z⟩
  | dT kvs => rintro ⟨_, _, vs, _, o, es, ep, z, _⟩; exact ⟨_, z⟩
  | set S n => rintro ⟨o, es, ep, t, z, _⟩; exact ⟨_, z⟩
  | ins C dx fs => rintro ⟨_, _, _, z, _⟩; exact ⟨_, z⟩
  | own y => rintro ⟨o, z⟩; exact ⟨_, z⟩
  | xd fs => rintro ⟨mA, ⟨od, es, ep, z, _⟩, _⟩; exact ⟨_, z⟩
  | rng lo hi => rintro ⟨t, u, v, z⟩; exact ⟨_, z⟩
  | frz ob u => rintro ⟨z, _⟩; exact ⟨_, z⟩
  | tbl ps => intro z; exact ⟨_, z⟩
  | met f y => intro z; exact ⟨_, z⟩
  | ext φ => rintro ⟨_, ⟨o, z⟩, _⟩; exact ⟨_, z⟩
/-- an exception in flight behind a call: B holds what stood at the raise, the frames left out -/
structure Flown (P : Program) (w : World) (outer : List Env) (H : Hp) (s : Shared) (E : XK) (ea : Addr) (cls : Value) (H' : Hp) (B : Heap) (s' : Shared) : Prop where
  os : s'.os = s.os
  bare : AllBare s'.gens
  un : Un (frs outer) [] H H' s.heap s'.heap
  hok : HOk P w H' s'.heap
  fly : ∃ a0, Heap.FlyingW B outer ea cls a0 s'.heap
  old : ∀ b o, s.heap.get? b = some o → b ∉ frs outer → ∃ o', B.get? b = some o' ∧ (H b = none → o' = o)
  trk : ∀ b u o, H' b = some u → s'.heap.get? b = some o → B.get? b = some o
  want : E cls none H'
def CXE (P : Program) (w : World) : CXT := fun outer H s E e s' => ∃ (ea : Addr) (cls : Value) (H' : Hp) (B : Heap), e = .ref ea ∧ Flown P w outer H s E ea cls H' B s'
section
variable {P : Program} {w : World} {X : Cx} {pins : List (Addr × Obj)} {σ : St} {H H' : Hp} {s s' : Shared} {E : XK} {ea : Addr} {cls : Value} {B : Heap} {outer : List Env}
theorem Flown.some_of (F : Flown P w outer H s E ea cls H' B s') {b : Addr} {u : HO} (e : H' b = some u) : ∃ o, s'.heap.get? b = some o := (F.hok b u e).there
/-- the exception goes through another heap that keeps B -/
theorem Flown.hokTo (F : Flown P w outer H s E ea cls H' B s') {h' : Heap} (k : B.StaysIn h') : HOk P w H' h' := fun b u e => by
  refine (F.hok b u e).stay (fun c v hc q => ?_) (fun _ q => q) fun _ _ q => q
  rcases hc with r | r
  · subst r; exact k _ _ (F.trk _ _ _ e q)
  · exact k _ _ (F.trk _ _ _ r q)
end
/-- a def's body lets its callee's exceptions through -/
theorem passE {P : Program} {w : World} {K : PySem.W.Frag} {mg : Str → Option Value} {base : Heap} {N : List Str} {qual : Str} {scope : Scope} {f : Addr} {cd : Value} {A : Around} {outer : List Env} {s : Shared} {H : Hp} {E : XK} :
    Passes (CXE P w) (cxOf (CXE P w) P w K mg base N qual scope f cd A outer s H E) E := by
  intro pins σ H1 s1 e s' I h
  obtain ⟨ea, cls, H', B, rfl, F⟩ := h
  have F' : Flown P w (envOfC qual scope s.heap.objs.size f cd :: outer) H1 s1 E ea cls H' B s' := F
  obtain ⟨a0, fl⟩ := F'.fly
  have hfr := I.ok.frames
  show wpAny _ _ (leaving _ _) _ _ _
  refine wpAny_leaves_onW (outer := outer) hfr rfl fl fun h' fl' up => ?_
  have frs2 : ∀ b, b ∈ frs (envOfC qual scope s.heap.objs.size f cd :: outer) → b = s.heap.objs.size ∨ b ∈ frs outer := fun b hb => by
    obtain ⟨env, he, hf⟩ := List.mem_filterMap.mp hb
    rcases List.mem_cons.mp he with rfl | he
    · exact .inl (Option.some.inj hf).symm
    · exact .inr (List.mem_filterMap.mpr ⟨env, he, hf⟩)
  have notin : ∀ b o, s.heap.get? b = some o → b ∉ frs outer → b ∉ frs (envOfC qual scope s.heap.objs.size f cd :: outer) := fun b o e hb z => by
    rcases frs2 b z with r | r
    · have := Heap.lt_size e
      rw [r] at this
      exact Nat.lt_irrefl _ this
    · exact hb r
  have base0 : Un (frs outer) [] H H1 s.heap s1.heap := I.base
  obtain ⟨_, _, frm, _⟩ := id fl
  have frm' : s'.heap.FunFrames B outer := frm.2.2
  refine ⟨ea, cls, H', B, rfl, F'.os.trans I.os, F'.bare, ⟨fun b o e n hb _ => ?_, fun b o e n hb _ => ?_, fun b o e n _ => ?_, fun b o e _ => ?_, fun b xs e => F'.un.tups b xs (base0.tups b xs e), fun b o u e => F'.un.frzs b o u (base0.frzs b o u e), fun b ps e => ?_⟩, F'.hokTo fl'.1, ⟨a0, fl'⟩, fun b o e hb => ?_, fun b u o e q => ?_, F'.want⟩
  · obtain ⟨o', q, z⟩ := F'.old b o (base0.keep b o e n hb (by simp)) (notin b o e hb)
    rw [z (base0.free b o e n (by simp))] at q
    exact fl'.1 _ _ q
  · obtain ⟨sl, q⟩ := base0.slot b o e n hb (by simp)
    obtain ⟨sl2, q2⟩ := F'.un.any (b := b) q (base0.free b o e n (by simp)) (by simp)
    obtain ⟨_, o3, q3, d3⟩ := frm'.mem hb
    rw [q2] at q3; cases q3
    obtain ⟨sl', q'⟩ := up b _ q2 d3
    exact ⟨sl', q'⟩
  · obtain ⟨o1, q1⟩ := base0.there b o e (by simp)
    exact F'.un.free b o1 q1 (base0.free b o e n (by simp)) (by simp)
  · obtain ⟨o1, q1⟩ := base0.there b o e (by simp)
    by_cases hb : b ∈ frs outer
    · obtain ⟨_, o3, q3, d3⟩ := frm'.mem hb
      obtain ⟨sl', q'⟩ := up b _ q3 d3
      exact ⟨_, q'⟩
    · obtain ⟨o', q, _⟩ := F'.old b o1 q1 (notin b o e hb)
      exact ⟨o', fl'.1 _ _ q⟩
  · obtain ⟨m1, e1⟩ := base0.tbls b ps e
    obtain ⟨m2, e2⟩ := F'.un.tbls b _ e1
    exact ⟨m1 ++ m2, by rw [e2, Array.append_assoc]⟩
  · obtain ⟨o1, q1⟩ := base0.there b o e (by simp)
    obtain ⟨o', q, z⟩ := F'.old b o1 q1 (notin b o e hb)
    refine ⟨o', q, fun n => ?_⟩
    have q1' := base0.keep b o e n hb (by simp)
    rw [q1'] at q1; cases q1
    exact z (base0.free b o e n (by simp))
  · obtain ⟨o1, q1⟩ := F'.some_of e
    have q2 := F'.trk b u o1 e q1
    have q3 := fl'.1 _ _ q2
    rw [q3] at q; cases q
    exact q2
/-- raising: what a body's context must let through -/
def Raises (X : Cx) (C : Addr) (E : XK) : Prop := ∀ (pins : List (Addr × Obj)) (σ : St) (H : Hp) (s : Shared) (h' : Heap) (e : Addr) (args : List Value), Inv X pins σ H s → Heap.MadeExcOf s.heap h' e (.ref C) args → E (.ref C) none H → X.xe (.ref e) { s with heap := h' }
theorem raisesE {P : Program} {w : World} {K : PySem.W.Frag} {mg : Str → Option Value} {base : Heap} {N : List Str} {qual : Str} {scope : Scope} {f C : Addr} {cd : Value} {A : Around} {outer : List Env} {s : Shared} {H : Hp} {E : XK} :
    Raises (cxOf (CXE P w) P w K mg base N qual scope f cd A outer s H E) C E := by
  intro pins σ H1 s1 h1 e args I hx hE
  have hfr := I.ok.frames
  have st := I.stack
  show wpAny _ _ (leaving _ _) _ _ _
  have hin : ∀ env ∈ (envOfC qual scope s.heap.objs.size f cd :: outer), ∀ b, env.frame = some b → b ∈ frs (envOfC qual scope s.heap.objs.size f cd :: outer) := fun env he b hb => List.mem_filterMap.mpr ⟨env, he, hb⟩
  have hid : ∀ {b o}, s1.heap.get? b = some o → b ∉ frs (envOfC qual scope s.heap.objs.size f cd :: outer) → (PySem.W.hideAll s1.heap (frs (envOfC qual scope s.heap.objs.size f cd :: outer))).get? b = some o := fun q nm => PySem.W.hideAll_get _ q nm
  refine wpAny_leaves_madeW (base := PySem.W.hideAll s1.heap (frs (envOfC qual scope s.heap.objs.size f cd :: outer))) (h := s1.heap) (outer := outer) hfr rfl (fun b o q => PySem.W.of_hideAll _ q) (PySem.W.funFrames_hide st hin) hx fun h' t fl _ _ up => ?_
  have base0 : Un (frs outer) [] H H1 s.heap s1.heap := I.base
  have notin : ∀ b o, s.heap.get? b = some o → b ∉ frs outer → b ∉ frs (envOfC qual scope s.heap.objs.size f cd :: outer) := fun b o e hb z => by
    obtain ⟨env, he, hf⟩ := List.mem_filterMap.mp z
    rcases List.mem_cons.mp he with rfl | he
    · have h1 := Heap.lt_size e
      have z2 : s.heap.objs.size = b := Option.some.inj hf
      rw [← z2] at h1
      exact Nat.lt_irrefl _ h1
    · exact hb (List.mem_filterMap.mpr ⟨env, he, hf⟩)
  have trkd : ∀ b u, H1 b = some u → b ∉ frs (envOfC qual scope s.heap.objs.size f cd :: outer) := fun b u e z => by
    rw [I.stkFree b z] at e; cases e
  obtain ⟨_, _, frm, _⟩ := id fl
  refine ⟨e, .ref C, H1, _, rfl, I.os, I.bare, ⟨fun b o e n hb _ => ?_, fun b o e n hb _ => ?_, fun b o e n _ => base0.free b o e n (by simp), fun b o e _ => ?_, base0.tups, base0.frzs, base0.tbls⟩, fun b u e => ?_, ⟨_, fl⟩, fun b o e hb => ?_, fun b u o e q => ?_, hE⟩
  · exact fl.1 _ _ (hid (base0.keep b o e n hb (by simp)) (notin b o e hb))
  · obtain ⟨sl, q⟩ := base0.slot b o e n hb (by simp)
    obtain ⟨_, o3, q3, d3⟩ := st.2.2.mem hb
    rw [q] at q3; cases q3
    obtain ⟨sl', q'⟩ := up b _ (hx.keeps _ _ q) d3
    exact ⟨sl', q'⟩
  · obtain ⟨o1, q1⟩ := base0.there b o e (by simp)
    by_cases hb : b ∈ frs outer
    · obtain ⟨_, o3, q3, d3⟩ := frm.mem hb
      exact ⟨_, q3⟩
    · exact ⟨o1, fl.1 _ _ (hid q1 (notin b o e hb))⟩
  · refine (I.hok b u e).stay (fun c v hc q => ?_) (fun _ q => q) fun _ _ q => q
    rcases hc with r | r
    · subst r; exact fl.1 _ _ (hid q (trkd _ _ e))
    · exact fl.1 _ _ (hid q (trkd _ _ r))
  · obtain ⟨o1, q1⟩ := base0.there b o e (by simp)
    refine ⟨o1, hid q1 (notin b o e hb), fun n => ?_⟩
    have q2 := base0.keep b o e n hb (by simp)
    rw [q1] at q2; cases q2; rfl
  · obtain ⟨o1, q1⟩ := (I.hok b u e).there
    have q2 := hid q1 (trkd _ _ e)
    have q3 := fl.1 _ _ q2
    rw [q3] at q; cases q
    exact q2

section
variable {X : Cx} {x : Str} {C : Addr} {E : XK} {np cpos pos : Pos} {e : Expr} {es : List Expr} {t : TA}
def tRaise (C : Addr) (E : XK) (t : TA) : TS := fun _ σ H => t σ H fun vs H1 => vs.length ≤ 1000 ∧ E (.ref C) none H1
/-- raise C(..) -/
theorem ps_raise (c : ExcC X.K X.mg x C) (hr : Raises X C E) (ha : PA X (e :: es) t) (hc : X.calm = true) (hg : Gl X x := by rfl) (hd : (x == ("__debug__" : Str)) = false := by decide)
    (he : starEach (e :: es) X.env = (false, eval e X.env) :: starEach es X.env := by rfl) (hpl : (backTo cpos (starEach es X.env)).any (·.1) = false := by rfl) :
    PS X (.Raise (some (.Call (.Name x np) (e :: es) [] cpos)) none pos) (tRaise C E t) := by
  intro pins s σ H D I h
  obtain ⟨bm, N, nm, q, bs, hdct, sn, sub, ab, col, dd, k0, k1, k2, k3, k5, mN, hC, hN, hni, T⟩ := c.k.obj I.ok.mod.kin
  refine wpAny_Raise_call_subT (C := C) (nm := nm) (q := q) (N := N) (bs := bs) (bm := bm) (hdct := hdct) (sn := sn) (sub := sub) (ab := ab) (col := col) (dd := dd) (k0 := k0) (k1 := k1) (k2 := k2) (k3 := k3) (k5 := k5)
    PySem.F.excBase_ValueError (mN := mN) (T.hasType PySem.F.excBase_ValueError.hasBase) (I.ok.hd hc) (by rw [he]; show (false || (backTo cpos (starEach es X.env)).any (·.1)) = false; rw [hpl]; rfl) hni (ld_glob I hg c.at_ ⟨rfl, ?_⟩ hd)
  have h' := ha cpos pins s σ H _ I h
  rw [he] at h' ⊢
  refine Calls.evalArgs_plain (thn h' fun us s2 ⟨vs, H2, I2, r2, z, q2⟩ => ?_)
  have hl : us.length ≤ sizeLine := by rw [← r2.length]; exact Nat.le_of_lt (small1000 z)
  exact ⟨rfl, hl, I2.bk _ _ hC, hN.keeps I2.bk, T.keeps I2.bk, fun h' e hm => hr pins σ H2 s2 h' e us I2 hm q2⟩
end
/-! ### what may raise, inside try -/
def XIn (X : Cx) (pins : List (Addr × Obj)) (σ : St) (E : XK) (e : Value) (s' : Shared) : Prop := ∃ H1 s1, Inv X pins σ H1 s1 ∧ CXE X.prog X.w X.stack H1 s1 E e s'
def PEx (X : Cx) (e : Expr) (t : XK → TE) : Prop :=
  ∀ (pins : List (Addr × Obj)) (s : Shared) (σ : St) (H : Hp) (Q : VK) (E : XK), Inv X pins σ H s → t E σ H Q → wpAny (model X.prog X.w) X.A (eval e X.env) (EP X pins σ Q) (XIn X pins σ E) s
def PSx (X : Cx) (st : Stmt) (t : XK → TS) : Prop :=
  ∀ (pins : List (Addr × Obj)) (s : Shared) (σ : St) (H : Hp) (D : Ends) (E : XK), Inv X pins σ H s → t E D σ H → wpAny (model X.prog X.w) X.A (exec st X.env) (SP X pins D) (XIn X pins σ E) s
section
variable {X : Cx} {k j : Nat} {ps : List Str} {sp : Sp} {x : Str} {p pos : Pos} {e : Expr} {es : List Expr} {t : TA}
end
/-- a caught exception, as a tracked thing -/
def ExcAt (a C : Addr) (h : Heap) : Prop := ∃ o, h.get? a = some o ∧ o.cls = .ref C
def xO (a C : Addr) : HO := .ext (ExcAt a C)
/-- the context of an except suite -/
def Cx.suite (X : Cx) (ea : Addr) : Cx := { X with A := X.A.mark (some (.ref ea)), calm := false, xe := fun _ _ => False }
section
variable {X : Cx} {pins : List (Addr × Obj)} {σ : St} {H : Hp} {s : Shared}
end
/-- try: one statement that may raise; except C as n: suite -/
def tTry (K : PySem.W.Frag) (W : Addr) (i : Nat) (t : XK → TS) (ts : TS) : TS := fun D σ H =>
  t (fun cls _ H2 => ∃ C, cls = .ref C ∧ PySem.W.exmOne K (.ref C) (.ref W) = some true ∧ ∀ ea, H2 ea = none →
    ts ⟨fun σ2 H3 => D.nx (σ2.set i none) H3, D.rt, fun σ2 H3 => D.bk (σ2.set i none) H3, fun σ2 H3 => D.ct (σ2.set i none) H3⟩ (σ.set i (some (.ref ea))) (upd H2 ea (xO ea C))) D σ H
section
variable {X : Cx} {st b₀ : Stmt} {suite : List Stmt} {W : Addr} {i : Nat} {y n : Str} {np hpos pos : Pos} {t : XK → TS} {ts : TS}
end

theorem passE0 {P : Program} {w : World} {X : Cx} : Passes (CXE P w) X E0 := fun _ _ _ _ _ _ _ ⟨_, _, _, _, _, F⟩ => F.want.elim
theorem Fun.okE {P : Program} {w : World} {K : PySem.W.Frag} {mg : Str → Option Value} {base : Heap} {x qual : Str} {st : Stmt} {f : Addr} {fd : FuncData} {N ps : List Str} {k : Nat} {sp : Sp} (F : Fun K x qual st f fd) (S : FnScope N ps (defScope st)) (len : ∀ vs H Q E, sp vs H Q E → vs.length = ps.length)
    (hbody : ∀ (cdv : Value) (A : Around) (outer : List Env) (s : Shared) (H : Hp) (vs : List V) (Q : VK) (E : XK), Room k (A.deeper (envOfC qual (defScope st) s.heap.objs.size f cdv)) → sp vs H Q E →
      ∃ t, PSs (cxOf (CXE P w) P w K mg base N qual (defScope st) f cdv A outer s H E) (defBody st) t ∧ t { nx := fun _ H' => Q .non H', rt := Q } (start N vs) H) : FnOk P w K mg base (CXE P w) (k + 1) f fd ps sp := by
  obtain ⟨oc, od, kV, doc, pm, an, cdv, ct, osl, rfl, lk, hcd⟩ := F.ex
  exact fn_of lk hcd S len fun A outer s H vs Q E hr hsp => hbody cdv A outer s H vs Q E hr hsp
end L2

set_option Elab.async false
set_option linter.all false
set_option maxRecDepth 100000
namespace L2
open PySem PySem.Spec PyProof.Rows PySem.Builtin PySem.Builtin.ObjectAttr PySem.Builtin.Getset_descriptor
/-! ### isinstance of a caught exception -/
section
variable {prog : Program} {w : World} {A : Around} {E : Value → Shared → Prop} {s : Shared} {K : PySem.W.Frag} {a C : Addr}
end
section
variable {X : Cx}
def rIsX (K : PySem.W.Frag) (c : V) (cv : Value) : List V → Hp → VK → Prop := fun xs H Q => ∃ a C b, xs = [.ref a, c] ∧ H a = some (xO a C) ∧ ExcK K C ∧ PySem.W.kitOne K (.ref C) cv = some b ∧ Q (.bl b) H
theorem st_raise {D : Ends} {C : Addr} {E : XK} {t : TA} {σ : St} {H : Hp} (h : t σ H fun vs H1 => vs.length ≤ 1000 ∧ E (.ref C) none H1) : tRaise C E t D σ H := h
end
end L2

/-! Own mathematics: parities of bits, the product's sign. -/
namespace Tw
end Tw

set_option Elab.async false
set_option linter.all false
set_option maxRecDepth 100000
namespace Tw
theorem bI_nat (b : Bool) : bI b = ((b.toNat : Nat) : Int) := by cases b <;> rfl
end Tw
namespace L2
open PySem PySem.Spec PyProof.Rows
/-! Steps of readings, third part. -/
section
variable {K : PySem.W.Frag} {H : Hp} {Q : VK} {σ : St} {ta tb tc : TE} {r r' : R2} {n k : Nat} {i : Int} {p q : Bool} {a : Addr}
theorem st_shlB (c : k ≤ 1000) (h : Q (.int ((p.toNat * 2 ^ k : Nat) : Int)) H) : rI CPow (fun i j => .int (i * 2 ^ j.toNat)) (.int (Tw.bI p)) (.int (k : Int)) H Q := st_i (cpow_n c (by cases p <;> decide)) (by
  rw [Int.toNat_natCast, Tw.bI_nat, Tw.pow2_cast, ← Int.natCast_mul]; exact h)
end
section
variable {X : Cx} {K : PySem.W.Frag}
theorem pe_isBK {x : Str} {T : String} {p p2 pos : Pos} {e : Expr} {te : TE} (h : X.K = K) (hg : Gl X "isinstance") (hm : X.mg "isinstance" = none) (he : PE X e te) (hmT : X.mg x = none) (hT : bootBuiltins x = some (.type T)) (hgT : Gl X x := by rfl) (hn : x ≠ "__name__" := by decide) (hd : (x == ("__debug__" : Str)) = false := by decide)
    (h1 : starEach [e, .Name x p2] X.env = (false, eval e X.env) :: starEach [.Name x p2] X.env := by rfl) (h2 : (backTo pos (starEach [.Name x p2] X.env)).any (·.1) = false := by rfl) :
    PE X (.Call (.Name "isinstance" p) [e, .Name x p2] [] pos) (tCB (rIsi K (.ty T) (.type T)) (tCons te (tCons (tC (.ty T)) tNil))) := h ▸ pe_isB hg hm he hmT hT hgT hn hd h1 h2
end
section
variable {X : Cx} {K : PySem.W.Frag}
end
end L2

set_option Elab.async false
set_option linter.all false
set_option maxRecDepth 100000
namespace L2
open PySem PySem.Spec PyProof.Rows
/-! all, list, str of an int; steps. -/
theorem all_getD (bs : List Bool) : (List.range bs.length).all (fun i => bs.getD i false) = bs.all id := by
  rw [Bool.eq_iff_iff, List.all_eq_true, List.all_eq_true]
  constructor
  · intro h b hb
    obtain ⟨i, hi, e⟩ := List.getElem_of_mem hb
    have := h i (List.mem_range.mpr hi)
    rw [List.getD_eq_getElem?_getD, List.getElem?_eq_getElem hi, Option.getD_some, e] at this
    exact this
  · intro h i hi
    have hi' := List.mem_range.mp hi
    rw [List.getD_eq_getElem?_getD, List.getElem?_eq_getElem hi', Option.getD_some]
    exact h _ (List.getElem_mem hi')
section
variable {X : Cx}
def rAll (K : PySem.W.Frag) : List V → Hp → VK → Prop := fun xs H Q => ∃ (p : Addr) (bs : List Bool), xs = [.ref p] ∧ SqL K H p (bs.map V.bl) ∧ Q (.bl (bs.all id)) H
theorem call_allB (hc : X.calm = true) : CallR X (.builtin "all") (rAll X.K) := by
  intro pins s σ H xs us Q I r h
  obtain ⟨p, bs, rfl, hs, q⟩ := h
  obtain ⟨u, rfl, ru⟩ := Vals.one r
  cases (show u = Value.ref p from ru)
  obtain ⟨its, rv, pl, hz⟩ := I.list hs
  have hlen : its.length = bs.length := by rw [← rv.length, List.length_map]
  have hpl : p < s.heap.objs.size := by
    obtain ⟨o, n, e, _⟩ := pl
    exact Heap.lt_size e
  refine call_all_walk (wpAny_pyIter_list pl.isList ?_)
  refine ⟨s.heap.objs.size, [s.heap.objs.size, p], [s.heap.objs.size], its.toArray.size, _, _, fun i => bs.getD i false, rfl, Walks.list (A := X.A.in1) (I.ok.hd hc) s.heap.objs.size p (Nat.ne_of_lt hpl) its.toArray, ⟨⟨_, Heap.get?_push_size _ rfl, rfl, rfl⟩, ?_⟩, fun i v s' Q' E' hv hq => ?_, fun h' tk hk => ?_⟩
  · exact pl.isList.at fun o e => Heap.get?_push_of_some _ e
  · have hv' : its[i]? = some v := by simpa using hv
    have hi : i < bs.length := by
      rw [← hlen]; exact (List.getElem?_eq_some_iff.mp hv').1
    obtain ⟨u, e1, e2⟩ := rv.get (i := i) (x := .bl bs[i]) (by rw [List.getElem?_map, List.getElem?_eq_getElem hi]; rfl)
    rw [hv'] at e1; cases e1
    cases (show v = Value.bool bs[i] from e2)
    refine wpAny_truthy_bool ?_
    dsimp only at hq
    rw [List.getD_eq_getElem?_getD, List.getElem?_eq_getElem hi, Option.getD_some] at hq
    exact hq
  · have e : its.toArray.size = bs.length := by simpa using hlen
    rw [e, all_getD]
    refine ⟨.bl _, H, I.kept (t' := tk) (h' := h') fun b o eb => hk b o (fun z => ?_) (Heap.get?_push_of_some _ eb), rfl, q⟩
    have : b = s.heap.objs.size := by simpa using z
    exact Nat.lt_irrefl _ (this ▸ Heap.lt_size eb)
/-! {}, as in the guide's dict layer -/
theorem Inv.bigD {pins : List (Addr × Obj)} {σ : St} {H : Hp} {s : Shared} (I : Inv X pins σ H s) : sysModules < s.heap.objs.size := by
  have h : mainGlobals < s.heap.objs.size := (I.mod.glob.keeps I.bk).lt
  exact Nat.lt_trans (by decide) h
def tDNew : TE := fun _ H Q => ∀ p, H p = none → Q (.ref p) (upd H p (.dK []))
theorem pe_dnew {pos : Pos} : PE X (.Dict [] [] pos) tDNew := fun pins s σ H Q I h =>
  wpAny_Dict_empty ⟨.ref s.heap.objs.size, _, I.laid (a := s.heap.objs.size) (o := .dK []) (t' := s.toks) (fun _ _ q => Heap.get?_push_of_some _ q) (Nat.le_refl _) ⟨Nat.zero_le _, beq_eq_false_iff_ne.mpr (Ne.symm (Nat.ne_of_lt I.bigD)), [], .nil, Heap.DictOf.new s.heap⟩, rfl, h _ (I.hok.fresh (Nat.le_refl _))⟩
def rLst (K : PySem.W.Frag) : List V → Hp → VK → Prop := fun xs H Q => ∃ p ys, xs = [.ref p] ∧ (SqL K H p ys ∨ SqT K H p ys) ∧ ∀ l, H l = none → Q (.ref l) (upd H l (.lst ys))
theorem call_listQ : CallR X (.type "list") (rLst X.K) := call_list_of
def rStrI : List V → Hp → VK → Prop := fun xs H Q => ∃ i, xs = [.int i] ∧ i.natAbs.log2 < 1920 ∧ Q (.str (toString i)) H
end
section
variable {K : PySem.W.Frag} {H : Hp} {Q : VK} {a : Addr} {xs : List V}
theorem st_all {bs : List Bool} (s : SqL K H a (bs.map V.bl)) (q : Q (.bl (bs.all id)) H) : rAll K [.ref a] H Q := ⟨a, bs, rfl, s, q⟩
theorem st_lstT (s : SqT K H a xs) (q : ∀ l, H l = none → Q (.ref l) (upd H l (.lst xs))) : rLst K [.ref a] H Q := ⟨a, xs, rfl, .inr s, q⟩
theorem st_yes {σ : St} {R : Bool → Hp → Prop} (h : R true H) : tYes σ H R := h
theorem st_comp_tup {tl : TE} {tt : TT} {te : TE} {σ : St} (e : ∀ P : V → Hp → Prop, P (.ref a) H → tl σ H P) (s : SqT K H a xs) (Pv : Nat → List V → Hp → Prop) (hn : xs.length ≤ 1000) (h0 : Pv 0 [] H) (hl : ∀ i ys H, Pv i ys H → ys.length ≤ i) (hk : ∀ i ys H, Pv i ys H → SqT K H a xs)
    (hs : ∀ i x ys H, xs[i]? = some x → Pv i ys H → tt (some x :: σ) H fun b H2 => if b = true then te (some x :: σ) H2 fun y H3 => Pv (i + 1) (ys ++ [y]) H3 else Pv (i + 1) ys H2)
    (hd : ∀ ys H, Pv xs.length ys H → ∀ p, H p = none → Q (.ref p) (upd H p (.lst ys))) : tComp (iTup K tl) tt te σ H Q :=
  e _ ⟨a, rfl, ⟨xs, s⟩, comp_tup Pv hn h0 hl hk hs hd⟩
theorem st_dnew {σ : St} (q : ∀ p, H p = none → Q (.ref p) (upd H p (.dK []))) : tDNew σ H Q := q
end
end L2

set_option Elab.async false
set_option linter.all false
set_option maxRecDepth 100000
namespace L2
open PySem PySem.Spec PyProof.Rows
/-! A dict walked by its items: it is frozen while it is walked, and thawed behind the loop. -/
theorem kv_get : ∀ {kvs : List (Key × V)} {vs : List (Key × Value)}, KV kvs vs → ∀ {i : Nat} {k : Key} {x : V}, kvs[i]? = some (k, x) → ∃ v, vs[i]? = some (k, v) ∧ RelV x v := by
  intro kvs vs r
  induction r with
  | nil => intro i k x h; simp at h
  | @cons p q ps qs h t ih =>
    intro i k x e
    cases i with
    | zero =>
      obtain ⟨h1, h2⟩ := h
      have e' : p = (k, x) := by simpa using e
      subst e'
      exact ⟨q.2, by rw [List.getElem?_cons_zero]; cases q; cases h1; rfl, h2⟩
    | succ i =>
      obtain ⟨v, e1, e2⟩ := ih (by simpa using e)
      exact ⟨v, by simpa using e1, e2⟩
theorem key_rel {P : Program} {w : World} {k : Key} {u : Value} (h : (mixKind P w).is k u = true) : RelV (kV k) u := by
  rcases keyIs_shape (show keyIs k u = true from h) with ⟨i, t, rfl, rfl⟩ | ⟨x, t, rfl, rfl⟩
  · exact ⟨t, rfl⟩
  · exact ⟨t, rfl⟩
section
variable {X : Cx} {pins : List (Addr × Obj)} {σ : St} {H : Hp} {s : Shared} {a : Addr} {kvs : List (Key × V)} {o : Obj}
theorem Inv.freeze (I : Inv X pins σ H s) (e : H a = some (.dK kvs)) (ho : s.heap.get? a = some o) : Inv X pins σ (upd H a (.frz o (.dK kvs))) s := by
  have x : ObjOk X.prog X.w H s.heap a (.dK kvs) := I.hok a _ e
  exact I.write (x := a) (e := a) (t' := s.toks) (h' := s.heap) (by rw [e]; exact True.intro) (.inl rfl) (fun b u _ q => q) ⟨o, ho⟩ ⟨ho, x⟩
theorem Inv.thaw (I : Inv X pins σ H s) (h0 : ∀ o u, X.H₀ a ≠ some (.frz o u)) (e : H a = some (.frz o (.dK kvs))) : Inv X pins σ (upd H a (.dK kvs)) s := by
  have na : ∀ {b : Addr}, H b = none → b ≠ a := fun {b} q z => by subst z; rw [q] at e; cases e
  have x : s.heap.get? a = some o ∧ ObjOk X.prog X.w H s.heap a (.dK kvs) := I.hok a _ e
  refine ⟨I.ok, I.os, I.bare, ⟨I.base.keep, I.base.slot, fun b ob q n hx => ?_, I.base.there, fun b xs q => ?_, fun b ob u q => ?_, fun b ps q => ?_⟩, I.loc, I.cell, ?_, fun y c q => ?_, fun p hp => ?_, fun b u q => ?_, I.len⟩
  · have := I.base.free b ob q n hx
    rw [upd_ne (na this)]; exact this
  · have h1 := I.base.tups b xs q
    have : b ≠ a := fun z => by subst z; rw [h1] at e; cases e
    rw [upd_ne this]; exact h1
  · have h1 := I.base.frzs b ob u q
    have : b ≠ a := fun z => by subst z; exact h0 _ _ q
    rw [upd_ne this]; exact h1
  · obtain ⟨more, h1⟩ := I.base.tbls b ps q
    have : b ≠ a := fun z => by subst z; rw [h1] at e; cases e
    exact ⟨more, by rw [upd_ne this]; exact h1⟩
  · rw [upd_ne (na I.free)]; exact I.free
  · rw [upd_ne (na (I.freeC y c q))]; exact I.freeC y c q
  · obtain ⟨h1, h2, h3⟩ := I.pin p hp
    exact ⟨h1, by rw [upd_ne (na h2)]; exact h2, h3⟩
  · by_cases hb : b = a
    · subst hb
      rw [upd_same] at q; cases q
      exact x.2
    · rw [upd_ne hb] at q
      exact (I.hok b u q).stay (fun c v _ r => r) (fun c r => by rw [upd_ne (fun z => by subst z; rw [r] at e; cases e)]; exact r) fun c xs r => by rw [upd_ne (fun z => by subst z; rw [r] at e; cases e)]; exact r
end
/-- the items of the frozen dict at a -/
def Itd (a : Addr) (o : Obj) (kvs : List (Key × V)) : It :=
  ⟨fun i H => H a = some (.frz o (.dK kvs)) ∧ i < kvs.length, fun i H x H' => ∃ T k v, H T = none ∧ x = .ref T ∧ kvs[i]? = some (k, v) ∧ H' = upd H T (.tup [kV k, v]), fun i H => H a = some (.frz o (.dK kvs)) ∧ kvs.length ≤ i⟩
theorem turn_items {P : Program} {w : World} {K : PySem.W.Frag} {elts : List Expr} {kk : Nat} {tpos : Pos} (a it : Addr) (o : Obj) (kvs : List (Key × V)) {es : Array DictEntry} {ep : Nat} (hep : o.data = .dict es ep) :
    Turn P w K (.Tuple elts kk tpos) (Itd a o kvs) [it] it (fun i h => (∃ ok ov, IsItemIter h it a i kvs.length ep ok ov) ∧ i ≤ kvs.length) where
  mem := by simp
  obj := fun i h st b hb => by
    have e : b = it := by simpa using hb
    subst e
    obtain ⟨⟨ok, ov, q⟩, _⟩ := st
    exact ⟨_, q, fun v z => by
      have z' : Data.fields _ = Data.cell v := z
      cases z'⟩
  keep := fun i h h' st k => by
    obtain ⟨⟨ok, ov, q⟩, l⟩ := st
    exact ⟨⟨ok, ov, k it (by simp) _ q⟩, l⟩
  item := by
    intro X hP hw hK hc i pins s σ H E I hf st hg
    subst hP hw hK
    obtain ⟨hz, hi⟩ := hg
    obtain ⟨f0, f1, f2, f3, f4, f5⟩ := hf it (by simp)
    obtain ⟨⟨ok, ov, hit⟩, _⟩ := st
    obtain ⟨go, _, _, vs, rel, o', es', ep', g', ex, hd', r'⟩ := (show ObjOk X.prog X.w H s.heap a (.frz o (.dK kvs)) from I.hok a _ hz)
    rw [go] at g'; cases g'
    rw [hep] at hd'; cases hd'
    have hm : s.heap.DictAt (mixKind X.prog X.w) a vs ep := ⟨o, es, go, ex, hep, r'⟩
    have hl : vs.length = kvs.length := rel.length.symm
    obtain ⟨k, x, hx⟩ : ∃ k x, kvs[i]? = some (k, x) := ⟨_, _, List.getElem?_eq_getElem hi⟩
    obtain ⟨v, hv, rv⟩ := kv_get rel hx
    rw [← hl] at hit
    refine wpAny_pyNext_items_item (knd := mixKind X.prog X.w) hit hm hv fun key h' hkey hout htup hsz hkeep => ⟨_, rfl, wpAny_letOwnedTupleGo_items hout fun h2 hit2 hsb => ?_⟩
    have hT : H s.heap.objs.size = none := I.hok.fresh (Nat.le_refl _)
    have hil : it ≠ s.heap.objs.size := Nat.ne_of_lt (Heap.lt_size hit)
    have kept : ∀ b o, b ≠ it → s.heap.get? b = some o → h2.get? b = some o := fun b o hb q => hsb.extBut b o hb (hkeep b o hb q)
    have eT : h2.get? s.heap.objs.size = some { cls := .type "tuple", data := .seq #[key, v] } := hsb.extBut _ _ (Ne.symm hil) htup
    have ntr : ∀ b u, H b = some u → b ≠ it := fun b u q z => by rw [z, f0] at q; cases q
    have bT : ∀ b o, s.heap.get? b = some o → b ≠ s.heap.objs.size := fun b o q => Nat.ne_of_lt (Heap.lt_size q)
    have nit : ∀ b, b ∉ [it] → b ≠ it := fun b hb z => hb (by simp [z])
    have un : Un (frs X.stack) [it] H (upd H s.heap.objs.size (.tup [kV k, x])) s.heap h2 :=
      ⟨fun b o q _ _ n3 => kept b o (nit b n3) q, fun b o q _ _ n3 => ⟨o.slots, kept b o (nit b n3) q⟩, fun b o q n _ => by rw [upd_ne (bT b o q)]; exact n, fun b o q n3 => ⟨o, kept b o (nit b n3) q⟩,
        fun b xs q => by rw [upd_ne (ne_of_none q hT)]; exact q, fun b o v q => by rw [upd_ne (ne_of_none q hT)]; exact q, fun b ps q => ⟨#[], by rw [upd_ne (ne_of_none q hT), q]; simp⟩⟩
    have hok : HOk X.prog X.w (upd H s.heap.objs.size (.tup [kV k, x])) h2 := fun b u q => by
      by_cases hb : b = s.heap.objs.size
      · subst hb
        rw [upd_same] at q; cases q
        exact ⟨Nat.le_of_lt (small1000 (show (2 : Nat) ≤ 1000 by decide)), [key, v], .cons (key_rel hkey) (.cons rv .nil), _, eT, rfl, _, rfl⟩
      · rw [upd_ne hb] at q
        refine (I.hok b u q).stay (fun c' v' hc2 q' => ?_) (fun c' q' => by rw [upd_ne (ne_of_none q' hT)]; exact q') fun c' xs q' => by rw [upd_ne (ne_of_none q' hT)]; exact q'
        rcases hc2 with r | r
        · subst r; exact kept _ _ (ntr _ _ q) q'
        · exact kept _ _ (ntr _ _ r) q'
    refine ⟨.ref s.heap.objs.size, _, I.call' (s' := { s with heap := h2 }) rfl un hok I.bare (fun b hb => ?_), rfl, ⟨_, k, x, hT, rfl, hx, rfl⟩, ⟨⟨_, _, by rw [← hl]; exact hit2⟩, hi⟩, fun b hb => ?_⟩
    · have e : b = it := by simpa using hb
      subst e
      exact ⟨f3, f1, f4, f5⟩
    · have e : b = it := by simpa using hb
      subst e
      rw [upd_ne hil]; exact f0
  done := by
    intro X hP hw hK hc i pins s σ H E I hf st hg
    subst hP hw hK
    obtain ⟨hz, hi⟩ := hg
    obtain ⟨f0, f1, f2, f3, f4, f5⟩ := hf it (by simp)
    obtain ⟨⟨ok, ov, hit⟩, _⟩ := st
    obtain ⟨go, _, _, vs, rel, o', es', ep', g', ex, hd', r'⟩ := (show ObjOk X.prog X.w H s.heap a (.frz o (.dK kvs)) from I.hok a _ hz)
    rw [go] at g'; cases g'
    rw [hep] at hd'; cases hd'
    have hm : s.heap.DictAt (mixKind X.prog X.w) a vs ep := ⟨o, es, go, ex, hep, r'⟩
    have hl : vs.length = kvs.length := rel.length.symm
    rw [← hl] at hit
    exact wpAny_pyNext_items_end (knd := mixKind X.prog X.w) (I.ok.hd hc) hit hm (List.getElem?_eq_none (by omega)) fun h' eb => ⟨rfl, I.turned (t' := s.toks) (fun b o hb e => eb b o (by simpa using hb) e) f0 f1 f3 f4 f5⟩
  self := fun _ _ _ _ _ st h => by
    obtain ⟨⟨ok, ov, q⟩, _⟩ := st
    exact PySem.W.kcp_self q h
section
variable {X : Cx}
/-- d.items() as it is walked: d is frozen from here on -/
def iItems (tl : TE) : TI := fun σ H R => tl σ H fun x H1 => ∃ a kvs, x = .ref a ∧ ((H1 a = some (.dK kvs) ∧ ∀ o, R (Itd a o kvs) (upd H1 a (.frz o (.dK kvs)))) ∨ ∃ o, H1 a = some (.frz o (.dK kvs)) ∧ R (Itd a o kvs) H1)
theorem pi_items {elts : List Expr} {kk : Nat} {tpos : Pos} {l : Expr} {tl : TE} {apos cpos : Pos} (hl : PE X l tl) (hbase : attributeBase l "items" X.env (eval l X.env) = eval l X.env := by rfl) (hline : (apos.endLine == cpos.line) = true := by rfl) :
    PI X (.Tuple elts kk tpos) (.Call (.Attribute l "items" apos) [] [] cpos) (iItems tl) := by
  intro pins s σ H R I h
  refine wpAny_Call_method0_late hbase hline (thn (hl pins s σ H _ I h) fun v s1 ⟨x, H1, I1, r1, q1⟩ => ?_)
  obtain ⟨a, kvs, rfl, q⟩ := q1
  cases r1
  have rd : Rd H1 a (.dK kvs) := by
    rcases q with ⟨e, _⟩ | ⟨o, e, _⟩
    · exact .inl e
    · exact .inr ⟨o, e⟩
  obtain ⟨z, hsy, vs, rel, dd⟩ := dk_rd I1.hok rd
  obtain ⟨o, es, ep, go, ex, hd, r'⟩ := id dd
  refine ⟨"dict", "dict.items", PySem.F.plainAttrs_dict, PySem.F.slot_dict_items, PySem.F.type_dict_items, ⟨o, go, ex.1⟩, fun b e => by cases e; exact ⟨o, go, ex.2.1⟩, Calls.callWith_builtin rfl (PySem.evalArgs_none ?_)⟩
  refine call_meetsIn PySem.F.slot_dict_items dd.typeIs PySem.F.entry_dict_items (PySem.F.args_dict_items_1 _) (meets_dict_items (mixKind X.prog X.w) a hsy) ⟨⟨vs, dd⟩, ?_⟩
  have I2 : Inv X pins σ H1 { s1 with heap := s1.heap.push { cls := .type "dict_items", data := .fields #[.ref a] } } := I1.kept (t' := s1.toks) fun b ob e => Heap.get?_push_of_some _ e
  have hm : s1.heap.DictAt (mixKind X.prog X.w) a vs ep := ⟨o, es, go, ex, hd, r'⟩
  refine wpAny_pyIter_items (knd := mixKind X.prog X.w) (d := a) (kvs := vs) (ep := ep) ⟨_, Heap.get?_push_size _ rfl, rfl, rfl⟩ (hm.push _) ?_
  dsimp only
  generalize hG : s1.heap.push { cls := .type "dict_items", data := .fields #[.ref a] } = G at I2 ⊢
  have goG : G.get? a = some o := by rw [← hG]; exact Heap.get?_push_of_some _ go
  have I3 : ∀ H2, Inv X pins σ H2 { s1 with heap := G } → Inv X pins σ H2 { s1 with heap := G.push { cls := .type "dict_itemiterator", data := .fields #[.none, .bool false, .ref a, .int 0 0, .int vs.length 0, .int ep 0, .none, .none] } } := fun H2 J => J.kept (t' := s1.toks) fun b ob e => Heap.get?_push_of_some _ e
  have hln : vs.length = kvs.length := rel.length.symm
  have st : ∀ i, i = 0 → (∃ ok ov, IsItemIter (G.push { cls := .type "dict_itemiterator", data := .fields #[.none, .bool false, .ref a, .int 0 0, .int vs.length 0, .int ep 0, .none, .none] }) G.objs.size a i kvs.length ep ok ov) ∧ i ≤ kvs.length := fun i hi => by
    subst hi
    refine ⟨⟨.none, .none, ?_⟩, Nat.zero_le _⟩
    rw [← hln]
    exact Heap.get?_push_size _ rfl
  rcases q with ⟨e, q⟩ | ⟨o2, e, q⟩
  · have J := I2.freeze e goG
    refine ⟨G.objs.size, [G.objs.size], _, _, _, rfl, I3 _ J, turn_items a _ o kvs hd, st 0 rfl, fun b hb => ?_, q o⟩
    have e : b = G.objs.size := by simpa using hb
    subst e
    exact J.fpOk (Nat.le_refl _) (J.hok.fresh (Nat.le_refl _))
  · have x : s1.heap.get? a = some o2 := (show s1.heap.get? a = some o2 ∧ _ from I1.hok a _ e).1
    rw [go] at x; cases x
    refine ⟨G.objs.size, [G.objs.size], _, _, _, rfl, I3 _ I2, turn_items a _ o kvs hd, st 0 rfl, fun b hb => ?_, q⟩
    have e : b = G.objs.size := by simpa using hb
    subst e
    exact I2.fpOk (Nat.le_refl _) (I2.hok.fresh (Nat.le_refl _))
/-- ends behind a thaw of a -/
def Ends.thaw (a : Addr) (kvs : List (Key × V)) (D : Ends) : Ends :=
  ⟨fun σ H => ∃ o, H a = some (.frz o (.dK kvs)) ∧ D.nx σ (upd H a (.dK kvs)), fun v H => ∃ o, H a = some (.frz o (.dK kvs)) ∧ D.rt v (upd H a (.dK kvs)),
   fun σ H => ∃ o, H a = some (.frz o (.dK kvs)) ∧ D.bk σ (upd H a (.dK kvs)), fun σ H => ∃ o, H a = some (.frz o (.dK kvs)) ∧ D.ct σ (upd H a (.dK kvs))⟩
def tThaw (t : TS) : TS := fun D σ H => t D σ H ∨ ∃ a kvs, H a = some (.dK kvs) ∧ t (D.thaw a kvs) σ H
/-- a statement that freezes a dict and is done with it -/
theorem ps_thaw {st : Stmt} {t : TS} (h : PS X st t) : PS X st (tThaw t) := by
  intro pins s σ H D I q
  rcases q with q | ⟨a, kvs, e, q⟩
  · exact h pins s σ H D I q
  have h0 : ∀ o u, X.H₀ a ≠ some (.frz o u) := fun o u z => by
    have := I.base.frzs a o u z
    rw [e] at this; cases this
  refine thn (h pins s σ H _ I q) fun f s1 q1 => ?_
  cases f with
  | next => obtain ⟨σ1, H1, I1, o, e1, q1⟩ := q1; exact ⟨σ1, _, I1.thaw h0 e1, q1⟩
  | brk => obtain ⟨σ1, H1, I1, o, e1, q1⟩ := q1; exact ⟨σ1, _, I1.thaw h0 e1, q1⟩
  | cont => obtain ⟨σ1, H1, I1, o, e1, q1⟩ := q1; exact ⟨σ1, _, I1.thaw h0 e1, q1⟩
  | ret u => obtain ⟨v, σ1, H1, I1, r1, o, e1, q1⟩ := q1; exact ⟨v, σ1, _, I1.thaw h0 e1, r1, q1⟩
end
/-! steps -/
theorem st_for_items {tl : TE} {g : TG} {tb : TS} {D : Ends} {σ : St} {H : Hp} {a : Addr} {kvs : List (Key × V)} (e : ∀ P : V → Hp → Prop, P (.ref a) H → tl σ H P) (h : H a = some (.dK kvs)) (Pv : Obj → Nat → St → Hp → Prop)
    (h0 : ∀ o, Pv o 0 σ (upd H a (.frz o (.dK kvs)))) (hk : ∀ o i σ H, Pv o i σ H → H a = some (.frz o (.dK kvs)))
    (hs : ∀ o i k v σ H p, kvs[i]? = some (k, v) → Pv o i σ H → H p = none → g (.ref p) σ (upd H p (.tup [kV k, v])) fun σ2 H2 => tb { D.thaw a kvs with nx := Pv o (i + 1), ct := Pv o (i + 1), bk := (D.thaw a kvs).nx } σ2 H2)
    (hd : ∀ o σ H, Pv o kvs.length σ H → D.nx σ (upd H a (.dK kvs))) : tThaw (tFor (iItems tl) g tb) D σ H := by
  refine .inr ⟨a, kvs, h, e _ ⟨a, kvs, rfl, .inl ⟨h, fun o => ⟨fun i m σ H => m = kvs.length - i ∧ i ≤ kvs.length ∧ Pv o i σ H, ⟨kvs.length, by simp, Nat.zero_le _, h0 o⟩, ?_⟩⟩⟩⟩
  rintro i m σ H ⟨rfl, hi, p⟩
  by_cases hlt : i < kvs.length
  · refine .inr ⟨⟨hk o i σ H p, hlt⟩, Pv o (i + 1), fun σ' H' p' => ⟨kvs.length - (i + 1), by omega, rfl, hlt, p'⟩, fun x H' y => ?_⟩
    obtain ⟨A, k, v, hA, rfl, hx, rfl⟩ := y
    exact hs o i k v σ H A hx p hA
  · have e : i = kvs.length := by omega
    subst e
    exact .inl ⟨⟨hk o _ σ H p, Nat.le_refl _⟩, o, hk o _ σ H p, hd o σ H p⟩
/-- all but a is as it was; a frozen is a as it was, thawed -/
theorem same_thaw {H H' : Hp} {a : Addr} {kvs : List (Key × V)} {o : Obj} (h : H a = some (.dK kvs)) (hS : Same (upd H a (.frz o (.dK kvs))) H') : Same H (upd H' a (.dK kvs)) := fun b u q => by
  by_cases hb : b = a
  · subst hb
    rw [h] at q; cases q
    exact upd_same
  · rw [upd_ne hb]
    exact hS b u (by rw [upd_ne hb]; exact q)
end L2

set_option Elab.async false
set_option linter.all false
set_option maxRecDepth 100000
set_option maxHeartbeats 1000000
namespace L2
open PySem PySem.Spec PyProof.Rows
open PySem.SeqAt (EqAt)
section
variable {prog : Program} {w : World} {A : Around} {E : Value → Shared → Prop} {s : Shared} {a b : Addr} {kvs kvs2 : List (Key × Value)} {nm : String}
theorem samePairs_ok (hsa : (a == sysModules) = false) (hsb : (b == sysModules) = false) (h1 : s.heap.DictOf (mixKind prog w) a kvs) (h2 : s.heap.DictOf (mixKind prog w) b kvs2) (e : Key → Bool)
    (he : ∀ k v v2, (k, v) ∈ kvs → valueAt kvs2 k = some v2 → EqAt A s v v2 (e k)) {Q : Bool → Shared → Prop} (h : Q (decide (kvs.length = kvs2.length) && kvs.all fun p => (valueAt kvs2 p.1).isSome && e p.1) s) :
    wpAny (model prog w) A (Builtin.Dict.samePairs nm a b) Q E s := by
  obtain ⟨o1, es1, ep1, g1, x1, d1, k1, p1, n1⟩ := id h1
  obtain ⟨o2, es2, ep2, g2, x2, d2, k2, p2, n2⟩ := id h2
  have l1 : es1.size = kvs.length := by rw [← p1.length]; simp
  have l2 : es2.size = kvs2.length := by rw [← p2.length]; simp
  unfold Builtin.Dict.samePairs Builtin.Dict.showsAll
  rw [if_neg (by rw [hsa]; exact Bool.false_ne_true), if_neg (by rw [hsb]; exact Bool.false_ne_true)]
  refine wpAny_bind (wpAny_pure (wpAny_bind (wpAny_pure ?_)))
  refine wpAny_bind (wpAny_dictEntries g1 d1 ?_)
  refine wpAny_bind (wpAny_dictEntries g2 d2 ?_)
  by_cases hsz : es1.size = es2.size
  case neg =>
    rw [if_pos (by simpa using hsz)]
    rw [decide_eq_false (by rw [← l1, ← l2]; exact hsz), Bool.false_and] at h
    exact wpAny_bind (wpAny_rule (wpAny_pure h))
  case pos =>
    rw [if_neg (by simpa using hsz)]
    rw [decide_eq_true (by rw [← l1, ← l2]; exact hsz), Bool.true_and] at h
    refine wpAny_bind (wpAny_dictEpoch g1 d1 ?_)
    refine wpAny_bind ?_
    rw [Std.Legacy.Range.forIn_eq_forIn_range']
    simp only [Std.Legacy.Range.size, Nat.sub_zero, Nat.add_sub_cancel, Nat.div_one]
    refine wpAny_forIn_list _
      (fun rest r s' => ∃ i, s' = s ∧ rest = List.range' i (es1.size - i) ∧ i ≤ es1.size ∧ r = (none, ()) ∧ (kvs.take i).all (fun p => (valueAt kvs2 p.1).isSome && e p.1) = true)
      _ ?_ ?_ _ _ ⟨0, rfl, by simp, Nat.zero_le _, rfl, by simp⟩
    · rintro x rest _ _ ⟨i, rfl, hr, hi, rfl, hall⟩
      have hlt : i < es1.size := by
        rcases Nat.lt_or_ge i es1.size with h | h
        · exact h
        · rw [Nat.sub_eq_zero_of_le h] at hr; simp at hr
      obtain ⟨rfl, hrest⟩ : x = i ∧ rest = List.range' (i + 1) (es1.size - (i + 1)) := by
        have e : es1.size - i = (es1.size - (i + 1)) + 1 := by omega
        rw [e, List.range'_succ] at hr
        injection hr with h1 h2
        exact ⟨h1, h2⟩
      refine wpAny_bind (wpAny_dictEntries g1 d1 ?_)
      rw [Array.getElem?_eq_getElem hlt]
      obtain ⟨⟨k, v⟩, hkv⟩ : ∃ kv, kvs[x]? = some kv := ⟨kvs[x]'(by rw [← l1]; exact hlt), List.getElem?_eq_getElem _⟩
      obtain ⟨hkey, hval⟩ := p1.get? (e := es1[x]) (by simp [hlt]) hkv
      obtain ⟨k', hkey', hhash⟩ := k1 es1[x] (Array.getElem_mem hlt)
      obtain rfl : k' = k := (mixKind prog w).inj _ _ _ hkey' hkey
      have hmem : (k', v) ∈ kvs := List.mem_of_getElem? hkv
      have step : ∀ b : Bool, b = ((valueAt kvs2 k').isSome && e k') → (kvs.take (x + 1)).all (fun p => (valueAt kvs2 p.1).isSome && e p.1) = b := fun b hb => by
        rw [Tw.take_succ_get hkv, List.all_append, hall, Bool.true_and, hb]
        simp
      have whole : (kvs.take (x + 1)).all (fun p => (valueAt kvs2 p.1).isSome && e p.1) = false → kvs.all (fun p => (valueAt kvs2 p.1).isSome && e p.1) = false := fun hf => by
        rw [← List.take_append_drop (x + 1) kvs, List.all_append, hf, Bool.false_and]
      have mf : valueAt kvs2 k' = findBy (mixKind prog w).is es2 k' := by
        obtain ⟨o3, es3, ep3, g3, _, d3, _, f3⟩ := h2.mapOf
        rw [g2] at g3; cases g3
        rw [d2] at d3; cases d3
        exact (f3 k').symm
      refine wpAny_bind (wpAny_holding ?_)
      rw [hhash, hval]
      refine wpAny_bind (wpAny_dictFind_of hkey g2 d2 k2 ?_)
      rw [findBy_of_findIdx?] at mf
      cases hf : es2.findIdx? (fun e => (mixKind prog w).is k' e.key) with
      | none =>
        rw [hf] at mf
        refine wpAny_pure ?_
        rw [if_pos (by rfl)]
        refine wpAny_pure (wpAny_pure ?_)
        rw [whole (step false (by rw [mf]; rfl))] at h
        exact h
      | some j =>
        obtain ⟨hj, _, _⟩ := Array.findIdx?_eq_some_iff_getElem.mp hf
        rw [hf] at mf
        have mf' : valueAt kvs2 k' = some es2[j].val := by rw [mf]; simp [hj]
        refine wpAny_bind (wpAny_dictEntries g2 d2 ?_)
        rw [Array.getElem?_eq_getElem hj]
        refine wpAny_holding (he k' v _ hmem mf' _ _ _ _ ?_)
        cases hek : e k' with
        | false =>
          rw [if_pos (by rfl)]
          refine wpAny_pure (wpAny_pure ?_)
          rw [whole (step false (by rw [hek, Bool.and_false]))] at h
          exact h
        | true =>
          rw [if_neg (by decide)]
          refine wpAny_bind (wpAny_dictEpoch g1 d1 ?_)
          rw [if_neg (by simp)]
          exact wpAny_pure ⟨x + 1, rfl, hrest, hlt, rfl, step true (by rw [hek, mf']; rfl)⟩
    · rintro _ _ ⟨i, rfl, hr, hi, rfl, hall⟩
      have hin : i = es1.size := by
        rcases Nat.lt_or_ge i es1.size with h | h
        · have e : es1.size - i = (es1.size - (i + 1)) + 1 := by omega
          rw [e, List.range'_succ] at hr; exact nomatch hr
        · exact Nat.le_antisymm hi h
      rw [hin, l1, List.take_length] at hall
      rw [hall] at h
      exact wpAny_pure h
end

theorem kv_mem : ∀ {kvs : List (Key × V)} {vs : List (Key × Value)}, KV kvs vs → ∀ {k : Key} {v : Value}, (k, v) ∈ vs → ∃ x, (k, x) ∈ kvs ∧ RelV x v := by
  intro kvs vs r
  induction r with
  | nil => intro k v h; cases h
  | @cons p q ps qs h t ih =>
    intro k v m
    rcases List.mem_cons.mp m with e | m
    · subst e
      obtain ⟨h1, h2⟩ := h
      obtain ⟨pk, px⟩ := p
      cases (show pk = k from h1)
      exact ⟨px, List.mem_cons_self .., h2⟩
    · obtain ⟨x, m', rx⟩ := ih m
      exact ⟨x, List.mem_cons_of_mem _ m', rx⟩
theorem valV_mem {kvs : List (Key × V)} {k : Key} {x : V} (h : valV kvs k = some x) : (k, x) ∈ kvs := by
  unfold valV at h
  obtain ⟨p, hp, e⟩ := Option.map_eq_some_iff.mp h
  have m := List.mem_of_find?_eq_some hp
  have ek : p.1 = k := by
    have z := List.find?_some hp
    exact of_decide_eq_true z
  obtain ⟨pk, px⟩ := p
  cases (show pk = k from ek)
  cases (show px = x from e)
  exact m
def Flat8 (d : PyData) : Prop := d.canLay0 = true ∧ d.depth ≤ 8
/-- whether two dicts are the same, their values told as data by their keys -/
def sameD (kvs kvs2 : List (Key × V)) (f g : Key → PyData) : Bool := decide (kvs.length = kvs2.length) && kvs.all fun p => (valV kvs2 p.1).isSome && PyData.eqv (f p.1) (g p.1)
def rEqM (neg : Bool) (K : PySem.W.Frag) : R2 := fun x y H Q => ∃ a b kvs kvs2 f g, x = .ref a ∧ y = .ref b ∧ Rd H a (.dK kvs) ∧ Rd H b (.dK kvs2) ∧ (∀ k x, (k, x) ∈ kvs → DV K H x (f k) ∧ Flat8 (f k)) ∧ (∀ k x, (k, x) ∈ kvs2 → DV K H x (g k) ∧ Flat8 (g k)) ∧
  Q (.bl (sameD kvs kvs2 f g ^^ neg)) H
section
variable {X : Cx} {pins : List (Addr × Obj)} {σ : St} {H : Hp} {s : Shared} {a b : Addr} {kvs kvs2 : List (Key × V)} {f g : Key → PyData}
theorem same_pairs {A : Around} {E : Value → Shared → Prop} {nm : String} {Q : Bool → Shared → Prop} (hu : A.units + 8 < cLine) (I : Inv X pins σ H s) (ha : Rd H a (.dK kvs)) (hb : Rd H b (.dK kvs2)) (hf : ∀ k x, (k, x) ∈ kvs → DV X.K H x (f k) ∧ Flat8 (f k))
    (hg : ∀ k x, (k, x) ∈ kvs2 → DV X.K H x (g k) ∧ Flat8 (g k)) (h : Q (sameD kvs kvs2 f g) s) : wpAny (model X.prog X.w) A (Builtin.Dict.samePairs nm a b) Q E s := by
  obtain ⟨_, s1, vs, r1, d1⟩ := dk_rd I.hok ha
  obtain ⟨_, s2, vs2, r2, d2⟩ := dk_rd I.hok hb
  refine samePairs_ok s1 s2 d1 d2 (fun k => PyData.eqv (f k) (g k)) (fun k v v2 m e => ?_) ?_
  · obtain ⟨x, mx, rx⟩ := kv_mem r1 m
    have q := r2.val k
    rw [e] at q
    cases ev : valV kvs2 k with
    | none => rw [ev] at q; exact (show False from q).elim
    | some x2 =>
      rw [ev] at q
      have rx2 : RelV x2 v2 := q
      obtain ⟨dx, sx⟩ := hf k x mx
      obtain ⟨dx2, sx2⟩ := hg k x2 (valV_mem ev)
      obtain ⟨as, ra⟩ := dx.reads I rx
      obtain ⟨bs, rb⟩ := dx2.reads I rx2
      exact SeqAt.eqAt_reads _ _ _ _ _ _ _ _ ra rb sx.1 sx2.1 (by have h8 := sx.2; have hm := Nat.min_le_left (f k).depth (g k).depth; omega)
  · have e1 : vs.length = kvs.length := r1.length.symm
    have e2 : vs2.length = kvs2.length := r2.length.symm
    have e3 : (vs.all fun p => (valueAt vs2 p.1).isSome && PyData.eqv (f p.1) (g p.1)) = kvs.all fun p => (valV kvs2 p.1).isSome && PyData.eqv (f p.1) (g p.1) := by
      have hk : ∀ k, (valueAt vs2 k).isSome = (valV kvs2 k).isSome := fun k => ((r2.val k).isSome_eq).symm
      have a1 : (vs.all fun p => (valueAt vs2 p.1).isSome && PyData.eqv (f p.1) (g p.1)) = (vs.map (·.1)).all fun k => (valV kvs2 k).isSome && PyData.eqv (f k) (g k) := by
        rw [List.all_map]
        congr 1
        funext p
        simp only [Function.comp_apply, hk]
      have a2 : (kvs.all fun p => (valV kvs2 p.1).isSome && PyData.eqv (f p.1) (g p.1)) = (kvs.map (·.1)).all fun k => (valV kvs2 k).isSome && PyData.eqv (f k) (g k) := by
        rw [List.all_map]
        rfl
      rw [a1, a2, r1.keys]
    rw [e1, e2, e3]
    exact h
theorem op_neM (hu : X.A.units + 64 < cLine) : OpR X (compareOp .NotEq) (rEqM true X.K) := by
  intro pins s σ H x y v u Q I rx ry h
  obtain ⟨a, b, kvs, kvs2, f, g, rfl, rfl, ha, hb, hf, hg, q⟩ := h
  cases rx
  cases ry
  obtain ⟨_, s1, vs, r1, d1⟩ := dk_rd I.hok ha
  obtain ⟨_, s2, vs2, r2, d2⟩ := dk_rd I.hok hb
  show wpAny _ _ (richCompare .NotEq (.ref a) (.ref b)) _ _ s
  refine wpAny_richCompare_same_room d1.typeIs d2.typeIs PySem.F.slot_dict_ne (wpAny_call_entry PySem.F.slot_dict_ne d1.typeIs PySem.F.entry_dict_ne ?_ (PySem.F.args_dict_ne_2 _ _)) (by omega)
  show wpAny _ _ (Builtin.Dict.dictSlotArgs "__ne__" ⟨[.ref a, .ref b], []⟩ >>= _) _ _ s
  refine wpAny_bind ?_
  unfold Builtin.Dict.dictSlotArgs
  refine wpAny_bind (wpAny_notOrdered_dict d1.typeIs ?_)
  show wpAny _ _ (pure ((Value.ref a, Value.ref b) : Value × Value)) _ _ s
  refine wpAny_pure ?_
  refine wpAny_bind (wpAny_isInstance d2.typeIs PySem.F.sub_dict_dict ?_)
  rw [if_neg (by decide)]
  refine wpAny_bind (wpAny_pure (wpAny_bind (wpAny_pure ?_)))
  refine wpAny_bind (same_pairs (by rw [units_in1]; omega) I ha hb hf hg ?_)
  refine wpAny_pure ?_
  refine Exists.intro _ (And.intro rfl (And.intro (fun z => nomatch z) ?_))
  refine ⟨.bl _, H, I, rfl, ?_⟩
  have e : (sameD kvs kvs2 f g == false) = (sameD kvs kvs2 f g ^^ true) := by cases sameD kvs kvs2 f g <;> rfl
  rw [e]
  exact q
end
end L2

set_option Elab.async false
set_option linter.all false
set_option maxRecDepth 100000
namespace L2
open PySem PySem.Spec PyProof.Rows
/-! dict(d), d.clear(); steps over dicts whose keys are ints -/
section
variable {X : Cx}
def rDict : List V → Hp → VK → Prop := fun xs H Q => ∃ a kvs, xs = [.ref a] ∧ Rd H a (.dK kvs) ∧ ∀ p, H p = none → Q (.ref p) (upd H p (.dK kvs))
theorem call_dictQ : CallR X (.type "dict") rDict := by
  intro pins s σ H xs us Q I r h
  obtain ⟨a, kvs, rfl, e, q⟩ := h
  obtain ⟨u, rfl, ru⟩ := Vals.one r
  cases (show u = Value.ref a from ru)
  exact d_copyOf I e fun p s' hp I' => ⟨.ref p, _, I', rfl, q p hp⟩
def rDClear : V → List V → Hp → VK → Prop := fun x vs H Q => ∃ a kvs, x = .ref a ∧ vs = [] ∧ H a = some (.dK kvs) ∧ Q .non (upd H a (.dK []))
end
section
variable {K : PySem.W.Frag} {H : Hp} {Q : VK} {a b : Addr} {kvs kvs2 : List (Key × V)} {σ : St} {td ty tx tv : TE}
theorem st_dict (h : H a = some (.dK kvs)) (q : ∀ p, H p = none → Q (.ref p) (upd H p (.dK kvs))) : rDict [.ref a] H Q := ⟨a, kvs, rfl, .inl h, q⟩
/-- what stands at i -/
abbrev atZ (kvs : List (Key × V)) (i : Int) : Option V := valV kvs (.inl i)
theorem dget_z {i : Int} (h : Rd H a (.dK kvs)) : DGet H a (.int i) (atZ kvs i) := .inl ⟨kvs, .inl i, h, rfl, rfl⟩
theorem dput_z {i : Int} {v : V} (h : H a = some (.dK kvs)) (hl : kvs.length ≤ 1000) : DPut H a (.int i) v (upd H a (.dK (putK kvs (.inl i) v))) := .inl ⟨kvs, .inl i, h, rfl, small1000 hl, rfl⟩
theorem st_dget2 (h : td σ H fun x H1 => ∃ a, x = .ref a ∧ IsD H1 a ∧ ty σ H1 fun y H2 => tx σ H2 fun z H3 => ∃ o, DGet H3 a y o ∧ Q (o.getD z) H3) : tDGet2 td ty tx σ H Q := h
theorem st_dput {D : Ends} (h : tv σ H fun v H1 => td σ H1 fun x H2 => ty σ H2 fun y H3 => ∃ a H4, x = .ref a ∧ DPut H3 a y v H4 ∧ D.nx σ H4) : sDPut td ty tv D σ H := h
theorem st_eqM {f g : Key → PyData} {neg : Bool} (ha : Rd H a (.dK kvs)) (hb : Rd H b (.dK kvs2)) (hf : ∀ k x, (k, x) ∈ kvs → DV K H x (f k) ∧ Flat8 (f k)) (hg : ∀ k x, (k, x) ∈ kvs2 → DV K H x (g k) ∧ Flat8 (g k)) (q : Q (.bl (sameD kvs kvs2 f g ^^ neg)) H) : rEqM neg K (.ref a) (.ref b) H Q :=
  ⟨a, b, kvs, kvs2, f, g, rfl, rfl, ha, hb, hf, hg, q⟩
end
/-- a pair of numbers as data -/
def pairD (p : Int × Int) : PyData := .tuple ([p.1, p.2].map PyData.int)
theorem pair_flat (p : Int × Int) : Flat8 (pairD p) := by
  have h := shaped_ints [p.1, p.2]
  refine ⟨SeqAt.canLay_of_shaped h, ?_⟩
  simp [pairD, PyData.depth, PySem.W.ke_depthAll, PyData.depthAll]
theorem pair_dv {K : PySem.W.Frag} {H : Hp} {a : Addr} {p : Int × Int} (h : SqT K H a [.int p.1, .int p.2]) : DV K H (.ref a) (pairD p) := .tup h (dvs_ints [p.1, p.2])
theorem pair_eqv (p q : Int × Int) : PyData.eqv (pairD p) (pairD q) = decide (p = q) := by
  unfold pairD
  rw [PyData.eqv, eqv_ints]
  obtain ⟨a, b⟩ := p
  obtain ⟨c, d⟩ := q
  simp
end L2

set_option Elab.async false
set_option linter.all false
set_option maxRecDepth 100000
namespace L2
open PySem PySem.Spec PyProof.Rows
/-! Own classes: made by their name, methods by the class of the instance, methods by the class's name, tables of texts, min and max. -/
/-- a class of the text that is made by its name -/
structure KCal (P : Program) (w : World) (K : PySem.W.Frag) (mg : Str → Option Value) (base : Heap) (CX : CXT) (k : Nat) (x : Str) (C : Addr) (ps : List Str) (sp : Sp) : Prop where
  ex : ∃ f fd, Mk K C f ∧ FnOk P w K mg base CX k f fd ps sp ∧ Binds K fd ps [] ∧ mg x = some (.ref C)
/-- a method of the class at C -/
structure MCal (P : Program) (w : World) (K : PySem.W.Frag) (mg : Str → Option Value) (base : Heap) (CX : CXT) (k : Nat) (C : Addr) (m : Str) (ps : List Str) (sp : Sp) : Prop where
  cl : Cls K C
  ex : ∃ f fd, Meth K C m f ∧ FnOk P w K mg base CX k f fd ps sp ∧ Binds K fd ps []
/-- a def of a class, asked for by the class's name -/
structure CMeth (K : PySem.W.Frag) (C : Addr) (m : Str) (f : Addr) : Prop where
  g : PySem.W.specialIn K (.ref C) "__getattribute__" = some (some (.builtin "type.__getattribute__"))
  r : PySem.W.readsIn K C (.type "type") = true
  e : PySem.W.findCls K (.ref C) (.type "type") m = some (.val (.ref f))
  kp : PySem.W.keepIn K (.ref f) = true
structure CCal (P : Program) (w : World) (K : PySem.W.Frag) (mg : Str → Option Value) (base : Heap) (CX : CXT) (k : Nat) (x m : Str) (ps : List Str) (sp : Sp) : Prop where
  ex : ∃ C f fd, mg x = some (.ref C) ∧ CMeth K C m f ∧ FnOk P w K mg base CX k f fd ps sp ∧ Binds K fd ps []
section
variable {X : Cx} {CX : CXT} {j k : Nat} {C : Addr} {ps : List Str} {sp : Sp} {E : XK} {x m : Str} {p pos apos : Pos} {e o : Expr} {es : List Expr} {ta : TE} {t : TA}
theorem pe_new (c : KCal X.prog X.w X.K X.mg X.base CX k x C ps sp) (hr : Room j X.A) (hx : Passes CX X E) (ha : PA X (e :: es) t) (hk : k + 1 ≤ j := by decide) (hg : Gl X x := by rfl) (hdb : (x == ("__debug__" : Str)) = false := by decide)
    (he : starEach (e :: es) X.env = (false, eval e X.env) :: starEach es X.env := by rfl) (hpl : (backTo pos (starEach es X.env)).any (·.1) = false := by rfl) :
    PE X (.Call (.Name x p) (e :: es) [] pos) (tMake C sp [] E t) := by
  obtain ⟨f, fd, M, F, b, m⟩ := c.ex
  exact pe_make M F (hr.mono hk) hg m b .nil hx ha hdb he hpl
/-- C.m(..), C the class's name -/
theorem pe_cm {pl : Sem Bool} (c : CCal X.prog X.w X.K X.mg X.base CX k x m ps sp) (hr : Room j X.A) (hx : Passes CX X E) (ha : PA X (e :: es) t) (hk : k ≤ j := by decide) (hg : Gl X x := by rfl) (hdb : (x == ("__debug__" : Str)) = false := by decide)
    (hst : starEach (e :: es) X.env = (false, eval e X.env) :: starEach es X.env := by rfl) (hpl : (backTo pos (starEach es X.env)).any (·.1) = false := by rfl)
    (ht : eval (.Call (.Attribute (.Name x p) m apos) (e :: es) [] pos) X.env = (do
      let ov ← eval (.Name x p) X.env
      standAt apos.atName
      let (f, first) ← holding [ov] (getMethod ov m pl)
      callWith pos f first (backTo pos (starEach (e :: es) X.env)) (backToKw pos (keywordEach [] X.env))) := by rfl) :
    PE X (.Call (.Attribute (.Name x p) m apos) (e :: es) [] pos) (tCall sp [] E t) := by
  intro pins s σ H Q I h
  obtain ⟨C, f, fd, hm, cm, F, b⟩ := c.ex
  refine PySem.W.methodCall_KW (pl := pl) (ld_glob I hg hm ?_ hdb) ht
  refine PySem.W.method_cls I.kIn cm.g (PySem.W.cls_value I.kIn cm.r cm.e rfl ?_)
  refine PySem.W.callWith_K (first := []) (h₀ := X.base) I.ok.mod.kin cm.kp (thn (ha pos pins _ σ H _ (I.tok _) h) fun us s2 ⟨vs, H2, I2, r, q2⟩ => ⟨I2.kIn, ?_⟩) hst hpl
  exact run_fn F (hr.mono hk) b .nil hx I2 r q2
/-! ### a table of the module: texts to ints -/
def Tab (K : PySem.W.Frag) (a : Addr) (D : List (Str × Int)) : Prop := KTD.tabLook (KTD.datLooks fun b => K.lookup b) (fun b => K.lookup b) a (D.map fun p => (p.1, KTD.Dat.flat (.int p.2))) = true
def GTab (K : PySem.W.Frag) (mg : Str → Option Value) (x : Str) (a : Addr) (D : List (Str × Int)) : Prop := mg x = some (.ref a) ∧ Tab K a D
theorem pe_gt {a : Addr} {D : List (Str × Int)} (h : GTab X.K X.mg x a D) (hg : Gl X x := by rfl) (hd : (x == ("__debug__" : Str)) = false := by decide) : PE X (.Name x pos) (tC (.ref a)) := pe_glob hg h.1 rfl hd
def tabAt (k : Str) (D : List (Str × Int)) : Option Int := KTD.datumAt k D
theorem tab_keys {k : Str} : ∀ D : List (Str × Int), KTD.inKeys k (D.map fun p => (p.1, KTD.Dat.flat (.int p.2))) = (KTD.datumAt k D).isSome := by
  intro D
  rw [← KTD.isSome_datumAt]
  induction D with
  | nil => rfl
  | cons p D ih =>
    rw [List.map_cons]
    unfold KTD.datumAt
    by_cases hk : k = p.1
    · simp only [hk]
      rfl
    · simp only [hk]
      exact ih
theorem tab_datum {k : Str} {d : KTD.Dat} : ∀ D : List (Str × Int), KTD.datumAt k (D.map fun p => (p.1, KTD.Dat.flat (.int p.2))) = some d → ∃ i, KTD.datumAt k D = some i ∧ d = .flat (.int i) := by
  intro D
  induction D with
  | nil => intro h; cases h
  | cons p D ih =>
    rw [List.map_cons]
    unfold KTD.datumAt
    by_cases hk : k = p.1
    · simp only [hk]
      intro h
      exact ⟨p.2, rfl, (Option.some.inj h).symm⟩
    · simp only [hk]
      exact ih
def rInTab (K : PySem.W.Frag) (neg : Bool) : R2 := fun x y H Q => ∃ k a D, x = .str k ∧ y = .ref a ∧ Tab K a D ∧ Q (.bl (neg != (tabAt k D).isSome)) H
theorem op_notInTab : OpR X (compareOp .NotIn) (rInTab X.K true) := by
  intro pins s σ H x y v u Q I rx ry h
  obtain ⟨k, a, D, rfl, rfl, hT, q⟩ := h
  obtain ⟨t, rfl⟩ := rx
  cases ry
  refine KTD.notin_text ⟨PySem.W.kt_text_in I.kIn hT, fun _ _ z => z⟩ ⟨.bl _, H, I.tok _, rfl, ?_⟩
  rw [tab_keys]
  have e : (true != (tabAt k D).isSome) = !(KTD.datumAt k D).isSome := by unfold tabAt; cases (KTD.datumAt k D).isSome <;> rfl
  rw [e] at q
  exact q
def rIxTab (K : PySem.W.Frag) : R2 := fun x y H Q => ∃ k a D i, x = .ref a ∧ y = .str k ∧ Tab K a D ∧ tabAt k D = some i ∧ Q (.int i) H
theorem plain_tab : ∀ D : List (Str × Int), ((D.map fun p => (p.1, KTD.Dat.flat (.int p.2))).all fun p => KTD.plain p.2) = true := by
  intro D
  induction D with
  | nil => rfl
  | cons p D ih => rw [List.map_cons, List.all_cons, ih]; rfl
theorem ix_tab : IxR X (rIxTab X.K) := by
  intro value slice pins s σ H x y v u Q I rx ry h hs
  obtain ⟨k, a, D, i, rfl, rfl, hT, hi, q⟩ := h
  cases rx
  obtain ⟨t, rfl⟩ := ry
  have T : KTD.Here s.heap s.heap a (D.map fun p => (p.1, KTD.Dat.flat (.int p.2))) := ⟨PySem.W.kt_text_in I.kIn hT, fun _ _ z => z⟩
  refine subscriptTail_builtin_flat T.typeIs slot_dict_getitem.lookup ?_ hs
  unfold getItem
  try with_reducible refine wpAny_holding ?_
  refine wpAny_bind (wpAny_sequenceKey T.typeIs (by decide) ?_)
  refine wpAny_bind (wpAny_callSpecial?_slot (name := Str.ofString "__getitem__") T.typeIs slot_dict_getitem
    (wpAny_call_entry slot_dict_getitem T.typeIs entry_dict_getitem ?_ (args_dict_getitem _ _)))
  show wpAny _ _ (dictGet a (.str k t) >>= _) _ _ s
  refine wpAny_bind (KTD.dictGet_text T (fun d v ha hv => wpAny_pure ⟨v, rfl, wpAny_pure ⟨KTD.notRef_of_plain (KTD.plain_at (plain_tab D) ha) hv, ?_⟩⟩) fun hn => absurd hn (KTD.at_of_mem (by rw [tab_keys]; show (tabAt k D).isSome = true; rw [hi]; rfl)))
  obtain ⟨i', e1, rfl⟩ := tab_datum D ha
  have e2 : i' = i := by
    have e3 : KTD.datumAt k D = some i := hi
    rw [e3] at e1
    exact (Option.some.inj e1).symm
  subst e2
  have hv' : PyProof.V.Flat v (.int i') := hv
  obtain ⟨t', rfl⟩ := hv'.int_inv
  exact ⟨.int i', H, I.tok _, ⟨_, rfl⟩, q⟩
/-! ### min, max of a tuple or list of ints -/
end
theorem ints_items : ∀ {ns : List Int} {us : List Value}, Vals (ns.map V.int) us → ∃ xs : Array (Int × Tok), us.toArray = intItems xs ∧ xs.toList.map (·.1) = ns
  | [], [], _ => ⟨#[], by simp [intItems], rfl⟩
  | n :: ns, u :: us, r => by
    cases r with
    | cons r1 r2 =>
      obtain ⟨t, rfl⟩ := r1
      obtain ⟨xs, e1, e2⟩ := ints_items r2
      refine ⟨((n, t) :: xs.toList).toArray, ?_, ?_⟩
      · have e3 : us = (intItems xs).toList := by rw [← e1]
        rw [e3]
        simp [intItems]
      · simp [e2]
def rBest (K : PySem.W.Frag) (le : Int → Int → Prop) : List V → Hp → VK → Prop := fun xs H Q => ∃ (p : Addr) (ns : List Int), xs = [.ref p] ∧ (SqL K H p (ns.map V.int) ∨ SqT K H p (ns.map V.int)) ∧ 0 < ns.length ∧ ∀ M, M ∈ ns → (∀ a ∈ ns, le a M) → Q (.int M) H
section
variable {X : Cx} {s : Shared} {A : Around} {E : Value → Shared → Prop}
theorem best_fin {pins : List (Addr × Obj)} {σ : St} {H : Hp} {Q : VK} {ns : List Int} {xs : Array (Int × Tok)} {num : Nat → Nat → Bool} {le : Int → Int → Prop} (I : Inv X pins σ H s) (ex : xs.toList.map (·.1) = ns) (hne : 0 < ns.length)
    (hb : argBest num (xs.size - 1) ≤ xs.size - 1 ∧ ∀ j, j ≤ xs.size - 1 → le (numAt xs j) (numAt xs (argBest num (xs.size - 1)))) (q : ∀ M, M ∈ ns → (∀ a ∈ ns, le a M) → Q (.int M) H)
    {v : Value} {h' : Heap} {tk : Nat} (hv : (intItems xs)[argBest num (xs.size - 1)]? = some v) (hk : ∀ b o, s.heap.get? b = some o → h'.get? b = some o) : EP X pins σ Q v { s with heap := h', toks := tk } := by
  obtain ⟨t, rfl⟩ := intItems_at hv
  have hsz : 0 < xs.size := by
    rw [← ex, List.length_map, Array.length_toList] at hne
    exact hne
  refine ⟨.int _, H, I.kept hk, ⟨_, rfl⟩, q _ ?_ fun a ha => ?_⟩
  · rw [← ex, numAt_eq]; exact getD_mem (by rw [List.length_map, Array.length_toList]; omega)
  · rw [← ex] at ha
    obtain ⟨j, hj, rfl⟩ := mem_getD ha
    rw [List.length_map, Array.length_toList] at hj
    rw [← numAt_eq]; exact hb.2 j (by omega)
theorem tup_kept {l : Addr} {xs : Array (Int × Tok)} (hT : s.heap.IsTuple l (intItems xs)) {h' : Heap} (hk : ∀ b o, b ∉ [s.heap.objs.size] → (s.heap.push { cls := .type "tuple_iterator", data := .fields #[.ref l, .int 0 0] }).get? b = some o → h'.get? b = some o) :
    ∀ b o, s.heap.get? b = some o → h'.get? b = some o := fun b o e => by
  refine hk b o (fun hm => ?_) (Heap.get?_push_of_some _ e)
  rcases List.mem_cons.mp hm with e1 | hm
  · exact absurd (e1 ▸ Heap.lt_size e) (Nat.lt_irrefl _)
  · cases hm
theorem best_pre {ns : List Int} {xs : Array (Int × Tok)} (ex : xs.toList.map (·.1) = ns) (hne : 0 < ns.length) : 0 < xs.size := by
  rw [← ex, List.length_map, Array.length_toList] at hne
  exact hne
theorem call_maxL (hc : X.calm = true) : CallR X (.builtin "max") (rBest X.K fun a M => a ≤ M) := by
  intro pins s σ H xs us Q I r h
  obtain ⟨p, ns, rfl, hs, hne, q⟩ := h
  obtain ⟨u, rfl, ru⟩ := vals1 r
  cases ru
  rcases hs with hs | hs
  · obtain ⟨its, ri, pl, _⟩ := I.list hs
    obtain ⟨xs, e1, e2⟩ := ints_items ri
    have hl : s.heap.IsList p (intItems xs) := by rw [← e1]; exact pl.isList
    exact max_intList (I.ok.hd hc) hl (best_pre e2 hne) fun v h' tk hv hk => best_fin I e2 hne (argBest_gt (numAt xs) (xs.size - 1)) q hv hk
  · obtain ⟨its, ri, pl, _⟩ := I.tuple hs
    obtain ⟨xs, e1, e2⟩ := ints_items ri
    have hT : s.heap.IsTuple p (intItems xs) := by rw [← e1]; exact pl
    have hlt : p < s.heap.objs.size := by obtain ⟨_, e, _⟩ := hT; exact Heap.lt_size e
    refine call_max_walk (wpAny_pyIter_tuple hT ?_)
    refine ⟨_, [_, p], [_], _, _, _, _, rfl, Walks.tuple (A := X.A.in1) (I.ok.hd hc) _ p (Nat.ne_of_lt hlt) (intItems xs), ⟨⟨_, Heap.get?_push_size _ rfl, rfl, rfl⟩, hT.push _⟩, fun c hc' => ?_,
      by simpa [intItems] using best_pre e2 hne, CmpOf.ints_gt (numAt xs) (fun _ _ => intItems_at), fun v h' tk hP hk => ?_⟩
    · show c < (s.heap.push _).objs.size
      rw [Heap.size_push]
      rcases List.mem_cons.mp hc' with rfl | hc'
      · exact Nat.lt_succ_self _
      · rcases List.mem_cons.mp hc' with rfl | hc'
        · exact Nat.lt_succ_of_lt hlt
        · cases hc'
    · exact best_fin I e2 hne (argBest_gt (numAt xs) (xs.size - 1)) q (by simpa [intItems] using hP) (tup_kept hT hk)
theorem call_minL (hc : X.calm = true) : CallR X (.builtin "min") (rBest X.K fun a M => M ≤ a) := by
  intro pins s σ H xs us Q I r h
  obtain ⟨p, ns, rfl, hs, hne, q⟩ := h
  obtain ⟨u, rfl, ru⟩ := vals1 r
  cases ru
  rcases hs with hs | hs
  · obtain ⟨its, ri, pl, _⟩ := I.list hs
    obtain ⟨xs, e1, e2⟩ := ints_items ri
    have hl : s.heap.IsList p (intItems xs) := by rw [← e1]; exact pl.isList
    exact min_intList (I.ok.hd hc) hl (best_pre e2 hne) fun v h' tk hv hk => best_fin (le := fun a M => M ≤ a) I e2 hne (argBest_lt (numAt xs) (xs.size - 1)) q hv hk
  · obtain ⟨its, ri, pl, _⟩ := I.tuple hs
    obtain ⟨xs, e1, e2⟩ := ints_items ri
    have hT : s.heap.IsTuple p (intItems xs) := by rw [← e1]; exact pl
    have hlt : p < s.heap.objs.size := by obtain ⟨_, e, _⟩ := hT; exact Heap.lt_size e
    refine call_min_walk (wpAny_pyIter_tuple hT ?_)
    refine ⟨_, [_, p], [_], _, _, _, _, rfl, Walks.tuple (A := X.A.in1) (I.ok.hd hc) _ p (Nat.ne_of_lt hlt) (intItems xs), ⟨⟨_, Heap.get?_push_size _ rfl, rfl, rfl⟩, hT.push _⟩, fun c hc' => ?_,
      by simpa [intItems] using best_pre e2 hne, CmpOf.ints_lt (numAt xs) (fun _ _ => intItems_at), fun v h' tk hP hk => ?_⟩
    · show c < (s.heap.push _).objs.size
      rw [Heap.size_push]
      rcases List.mem_cons.mp hc' with rfl | hc'
      · exact Nat.lt_succ_self _
      · rcases List.mem_cons.mp hc' with rfl | hc'
        · exact Nat.lt_succ_of_lt hlt
        · cases hc'
    · exact best_fin (le := fun a M => M ≤ a) I e2 hne (argBest_lt (numAt xs) (xs.size - 1)) q (by simpa [intItems] using hP) (tup_kept hT hk)
end
/-! ### methods of a family of classes -/
def tMethD {ι : Type} (CD : ι → Addr) (spm : ι → Sp) (m : Str) (E : XK) (ta : TE) (t : TA) : TE := fun σ H Q => ta σ H fun x H1 => ∃ a d dx fs, x = .ref a ∧ H1 a = some (.ins (CD d) dx fs) ∧ fs.lookup m = none ∧ t σ H1 fun vs H2 => spm d (x :: vs) H2 Q E
section
variable {X : Cx} {CX : CXT} {j k : Nat} {ι : Type} {CD : ι → Addr} {spm : ι → Sp} {ps : List Str} {E : XK} {m : Str} {pos apos : Pos} {e o : Expr} {es : List Expr} {ta : TE} {t : TA}
theorem pe_md {pl : Sem Bool} (hM : ∀ d, MCal X.prog X.w X.K X.mg X.base CX k (CD d) m ps (spm d)) (hr : Room j X.A) (hx : Passes CX X E) (he : PE X o ta) (ha : PA X (e :: es) t) (hk : k ≤ j := by decide)
    (hst : starEach (e :: es) X.env = (false, eval e X.env) :: starEach es X.env := by rfl) (hpl : (backTo pos (starEach es X.env)).any (·.1) = false := by rfl)
    (ht : eval (.Call (.Attribute o m apos) (e :: es) [] pos) X.env = (do
      let ov ← eval o X.env
      standAt apos.atName
      let (f, first) ← holding [ov] (getMethod ov m pl)
      callWith pos f first (backTo pos (starEach (e :: es) X.env)) (backToKw pos (keywordEach [] X.env))) := by rfl) :
    PE X (.Call (.Attribute o m apos) (e :: es) [] pos) (tMethD CD spm m E ta t) := by
  intro pins s σ H Q I h
  refine PySem.W.methodCall_KW (pl := pl) (thn (he pins s σ H _ I h) fun u s1 ⟨x, H1, I1, rx, a, d, dx, fs, ex, ea, l, q⟩ => ?_) ht
  subst ex
  obtain rfl : u = Value.ref a := rx
  have M := hM d
  obtain ⟨f, fd, hm, F, b⟩ := M.ex
  refine getmeth_ok I1 ea M.cl hm l ?_
  refine PySem.W.callWith_K (first := [.ref a]) (h₀ := X.base) I.ok.mod.kin hm.kp (thn (ha pos pins s1 σ H1 _ I1 q) fun us s2 ⟨vs, H2, I2, r, q2⟩ => ⟨I2.kIn, ?_⟩) hst hpl
  exact run_fn (us := .ref a :: us) (vs := .ref a :: vs) (dvs := []) F (hr.mono hk) b .nil hx I2 (.cons rfl r) (by rw [List.append_nil]; exact q2)
theorem pe_md0 {pl : Sem Bool} (hM : ∀ d, MCal X.prog X.w X.K X.mg X.base CX k (CD d) m ps (spm d)) (hr : Room j X.A) (hx : Passes CX X E) (he : PE X o ta) (hk : k ≤ j := by decide)
    (ht : eval (.Call (.Attribute o m apos) [] [] pos) X.env = (do
      let ov ← eval o X.env
      standAt apos.atName
      let (f, first) ← holding [ov] (getMethod ov m pl)
      callWith pos f first (backTo pos (starEach [] X.env)) (backToKw pos (keywordEach [] X.env))) := by rfl) :
    PE X (.Call (.Attribute o m apos) [] [] pos) (tMethD CD spm m E ta tNil) := by
  intro pins s σ H Q I h
  refine PySem.W.methodCall_KW (pl := pl) (thn (he pins s σ H _ I h) fun u s1 ⟨x, H1, I1, rx, a, d, dx, fs, ex, ea, l, q⟩ => ?_) ht
  subst ex
  obtain rfl : u = Value.ref a := rx
  have M := hM d
  obtain ⟨f, fd, hm, F, b⟩ := M.ex
  refine getmeth_ok I1 ea M.cl hm l ?_
  exact PySem.W.callWith_K0 (first := [.ref a]) I1.kIn hm.kp (run_fn (us := [.ref a]) (vs := [.ref a]) (dvs := []) F (hr.mono hk) b .nil hx I1 (.cons rfl .nil) q)
end
/-! ### isinstance of an instance by an own class -/
structure TyC (K : PySem.W.Frag) (C : Addr) : Prop where
  ca : PySem.W.findIn K (.ref C) "__class__" = some (some (.builtin "object.__class__"))
  cg : PySem.W.specialIn K (.builtin "object.__class__") "__get__" = some (some (.builtin "getset_descriptor.__get__"))
  tk : PySem.W.takesIn K (.builtin "object.__class__") = some true
  mo : PySem.W.mroIn K C (.type "object") = some true
section
variable {X : Cx}
end
/-! ### steps -/
theorem boot_max : bootBuiltins "max" = some (.builtin "max") := by decide +kernel
theorem boot_min : bootBuiltins "min" = some (.builtin "min") := by decide +kernel
section
variable {K : PySem.W.Frag} {H : Hp} {Q : VK} {σ : St} {D : Ends} {te ta tv : TE} {tA : TA} {f m : Str} {a C dx : Addr} {fs : List (Str × V)} {v : V}
def rFld (K : PySem.W.Frag) (f : Str) (x : V) (H1 : Hp) (Q : VK) : Prop := ∃ a C dx fs v, x = .ref a ∧ H1 a = some (.ins C dx fs) ∧ Cls K C ∧ NoAttr K C f ∧ fs.lookup f = some v ∧ Q v H1
theorem st_fld (h : ta σ H fun x H1 => rFld K f x H1 Q) : tFld K ta f σ H Q := h
theorem st_fld1 (e : H a = some (.ins C dx fs)) (c : Cls K C) (n : NoAttr K C f) (l : fs.lookup f = some v) (q : Q v H) : rFld K f (.ref a) H Q := ⟨a, C, dx, fs, v, rfl, e, c, n, l, q⟩
def rPut (K : PySem.W.Frag) (f : Str) (D : Ends) (σ : St) (y x : V) (H2 : Hp) : Prop := ∃ a C dx fs, x = .ref a ∧ H2 a = some (.ins C dx fs) ∧ Cls K C ∧ NoAttr K C f ∧ fs.length < 1000 ∧ D.nx σ (upd H2 a (.ins C dx (putF f y fs)))
theorem st_put (h : tv σ H fun y H1 => ta σ H1 fun x H2 => rPut K f D σ y x H2) : sFld K ta tv f D σ H := h
theorem st_put1 {y : V} (e : H a = some (.ins C dx fs)) (c : Cls K C) (n : NoAttr K C f) (l : fs.length < 1000) (q : D.nx σ (upd H a (.ins C dx (putF f y fs)))) : rPut K f D σ y (.ref a) H := ⟨a, C, dx, fs, rfl, e, c, n, l, q⟩
theorem st_make {sp : Sp} {dvs : List V} {E : XK} (h : tA σ H fun vs H1 => ∀ x dx, H1 x = none → H1 dx = none → dx ≠ x → sp (.ref x :: (vs ++ dvs)) (upd (upd H1 dx (.own x)) x (.ins C dx [])) (fun v H2 => v = .non ∧ Q (.ref x) H2) E) : tMake C sp dvs E tA σ H Q := h
def rMeth {ι : Type} (CD : ι → Addr) (m : Str) (x : V) (H1 : Hp) (R : ι → Prop) : Prop := ∃ a d dx fs, x = .ref a ∧ H1 a = some (.ins (CD d) dx fs) ∧ fs.lookup m = none ∧ R d
theorem st_md {ι : Type} {CD : ι → Addr} {spm : ι → Sp} {E : XK} (h : ta σ H fun x H1 => rMeth CD m x H1 fun d => tA σ H1 fun vs H2 => spm d (x :: vs) H2 Q E) : tMethD CD spm m E ta tA σ H Q := h
theorem st_md1 {ι : Type} {CD : ι → Addr} {R : ι → Prop} {d : ι} (e : H a = some (.ins (CD d) dx fs)) (l : fs.lookup m = none) (q : R d) : rMeth CD m (.ref a) H R := ⟨a, d, dx, fs, rfl, e, l, q⟩
end
theorem same_made {H : Hp} {x dx C : Addr} (hx : H x = none) (hd : H dx = none) : Same H (upd (upd H dx (.own x)) x (.ins C dx [])) := fun b o e => by
  rw [upd_ne (ne_of_none e hx), upd_ne (ne_of_none e hd)]
  exact e
end L2

set_option Elab.async false
set_option linter.all false
set_option maxRecDepth 100000
namespace L2
open PySem PySem.Spec PyProof.Rows
/-! A list comprehension of one clause whose target is a pair of names: after TwComp, with two names. -/
/-- what the block's scope must be: its own name x, the rest free (a cell or free where the def stands) or global -/
structure CpScope2 (sc : Scope) (x x2 : Str) (scope : Scope) : Prop where
  kind : scope.kind = .function
  cell : ∀ y ∈ scope.names, y.2 ≠ .cell
  own : scope.names.lookup x = some .local
  own2 : scope.names.lookup x2 = some .local
  loc : ∀ y ∈ scope.names, y.2 = .local → y.1 = x ∨ y.1 = x2 ∨ y.1 = (".0" : Str)
  nam : ∀ y ∈ scope.names, y.2 = .local → scope.names.lookup y.1 = some .local
  free : ∀ y ∈ scope.names, y.2 = .free → sc.names.lookup y.1 = some .cell ∨ sc.names.lookup y.1 = some .free
  two : ∀ y ∈ scope.names, y.2 = .free → y.1 ≠ x ∧ y.1 ≠ x2
/-- the block's context -/
def Cx.comp2 (X : Cx) (M : List Str) (scope : Scope) (x x2 : Str) (C : Addr) (s : Shared) (H : Hp) (ex : List Addr) : Cx :=
  { X with N := x :: x2 :: M, s₀ := s, H₀ := H, env := compEnvC scope (clGo X.env scope.names []) C X.env, outer := X.stack, ex := ex, fn := fun _ => false, pn := [], xe := fun _ _ => False }
section
variable {X : Cx} {M : List Str} {pins : List (Addr × Obj)} {σ : St} {H : Hp} {s : Shared} {scope : Scope} {x x2 : Str}
theorem CpScope2.has (S : CpScope2 X.env.scope x x2 scope) (ok : X.Ok) : ∀ p ∈ scope.names, p.2 = .free → ∃ c, X.env.cells.lookup p.1 = some c := fun p hp e => ok.has p.1 (S.free p hp e)
theorem CpScope2.cells (S : CpScope2 X.env.scope x x2 scope) (ok : X.Ok) {y : Str} {c : Addr} (e : (clGo X.env scope.names []).lookup y = some c) : X.env.cells.lookup y = some c := by
  rcases clGo_lookup X.env scope.names [] (S.has ok) c e with z | z
  · cases z
  · exact z
/-- a name that the block sees is its own, or free there -/
theorem CpScope2.sees (S : CpScope2 X.env.scope x x2 scope) {y : Str} (hy : (relabel scope X.env).names.lookup y ≠ some .local) (hv : Vis (relabel scope X.env) y) : (y, NameKind.free) ∈ scope.names ∧ ((relabel scope X.env).names.lookup y = some .cell ∨ (relabel scope X.env).names.lookup y = some .free) := by
  unfold Vis at hv
  rw [relabel_kind] at hv ⊢
  cases e : scope.names.lookup y with
  | none => rw [e] at hv; rcases hv with z | z | z <;> cases z
  | some k =>
    have hm := mem_of_lookup e
    rw [e] at hv
    have hk : k = .free := by
      by_cases hf : k = .free
      · exact hf
      · have hr : rlb X.env y k = k := by
          unfold rlb
          have : (k == NameKind.free) = false := by simpa using hf
          rw [this]; rfl
        rw [Option.map_some, hr] at hv
        rcases hv with z | z | z
        · rw [relabel_kind, e, Option.map_some, hr] at hy
          exact absurd z hy
        · exact absurd (Option.some.inj z) (S.cell _ hm)
        · exact Option.some.inj z
    subst hk
    refine ⟨hm, ?_⟩
    rw [Option.map_some]
    unfold rlb
    split
    · exact .inl rfl
    · exact .inr rfl
theorem CpScope2.ok (S : CpScope2 X.env.scope x x2 scope) (I : Inv X pins σ H s) {C : Addr} (hC : s.heap.objs.size ≤ C) {fp : List Addr} (hf : ∀ b ∈ fp, FpOk X pins H b) (hl : ∀ b ∈ fp, b < s.heap.objs.size) : (X.comp2 M scope x x2 C s H fp).Ok where
  mod := I.ok.mod
  kind := S.kind
  glob := I.ok.glob
  blt := I.ok.blt
  above := hC
  inj := fun y z c e1 e2 => I.ok.inj y z c (S.cells I.ok e1) (S.cells I.ok e2)
  has := fun y hy => by
    have hv : Vis (relabel scope X.env) y := .inr hy
    have hne : (relabel scope X.env).names.lookup y ≠ some .local := fun e => by
      have hy' : (relabel scope X.env).names.lookup y = some .cell ∨ (relabel scope X.env).names.lookup y = some .free := hy
      rw [e] at hy'
      rcases hy' with q | q <;> cases q
    exact clGo_has X.env scope.names [] (.inl (S.sees hne hv).1)
  cab := fun _ _ z => nomatch z
  hd := I.ok.hd
  frames := I.ok.frames
  stk := .inl rfl
  exf := fun b hb => ⟨fun z => by
      have h1 := hl b hb
      have z' : b = C := z
      rw [z'] at h1
      exact Nat.not_le.mpr h1 hC, fun y c e => (hf b hb).2.2.2.2.1 y c (S.cells I.ok e)⟩
  bs := I.bs
  bsz := Nat.le_trans I.ok.bsz I.sz
  noex := fun b o e hb => by
    rcases (hf b hb).2.2.2.1 with z | z
    · exact I.ok.noex b o e z
    · have h1 := Heap.lt_size e
      have h2 := I.ok.bsz
      exact absurd (Nat.lt_of_lt_of_le (Nat.lt_of_lt_of_le h1 h2) z) (Nat.lt_irrefl _)
  exfs := fun b hb z => by
    rcases List.mem_cons.mp (I.stkSub b z) with q | q
    · exact (hf b hb).2.1 q
    · exact (hf b hb).2.2.1 q
  funs := I.stack
  frf := I.stkFree
/-- entering the block -/
theorem CpScope2.inv (S : CpScope2 X.env.scope x x2 scope) (hx : x ∉ M) (hx2 : x2 ∉ M) (hxx : x ≠ x2) (h0 : (".0" : Str) ∉ M) (hlen : M.length = X.N.length) (hM : ∀ (j : Nat) y, M[j]? = some y → X.N[j]? = some y ∨ scope.names.lookup y = none) (I : Inv X pins σ H s) {C : Addr} (hC : s.heap.objs.size ≤ C) {fp : List Addr} (hf : ∀ b ∈ fp, FpOk X pins H b) (hl : ∀ b ∈ fp, b < s.heap.objs.size) {h1 : Heap} {t1 : Nat}
    (old : ∀ b o, s.heap.get? b = some o → h1.get? b = some o) {m : Str → Option Value} (ns : h1.Ns C m) : Inv (X.comp2 M scope x x2 C s H fp) [] (none :: none :: σ) H { s with heap := h1, toks := t1 } where
  ok := S.ok I hC hf hl
  os := rfl
  bare := I.bare
  base := Un.kept old
  loc := by
    refine ⟨m, ns, fun i y v e1 e2 hv => ?_⟩
    match i, e1, e2 with
    | 0, _, e2 => cases e2
    | 1, _, e2 => cases e2
    | j + 2, e1, e2 =>
      have e1' : M[j]? = some y := by simpa [Cx.comp2] using e1
      have e2' : σ[j]? = some (some v) := by simpa using e2
      by_cases hy : (relabel scope X.env).names.lookup y = some .local
      · exfalso
        rw [relabel_kind] at hy
        cases e : scope.names.lookup y with
        | none => rw [e] at hy; cases hy
        | some k =>
          rw [e, Option.map_some] at hy
          have hk : k = .local := by
            have hy' := Option.some.inj hy
            unfold rlb at hy'
            split at hy'
            · cases hy'
            · exact hy'
          rcases S.loc _ (mem_of_lookup e) hk with z | z | z
          · have z' : y = x := z
            subst z'; exact hx (List.mem_of_getElem? e1')
          · have z' : y = x2 := z
            subst z'; exact hx2 (List.mem_of_getElem? e1')
          · have z' : y = (".0" : Str) := z
            subst z'; exact h0 (List.mem_of_getElem? e1')
      · obtain ⟨hm, hk⟩ := S.sees hy hv
        obtain ⟨m0, _, hl0⟩ := I.loc
        have hx0 : Vis X.env.scope y := .inr (S.free _ hm rfl)
        have e1' : X.N[j]? = some y := by
          rcases hM j y e1' with z | z
          · exact z
          · exfalso
            unfold Vis at hv
            have hv' : (relabel scope X.env).names.lookup y = some .local ∨ (relabel scope X.env).names.lookup y = some .cell ∨ (relabel scope X.env).names.lookup y = some .free := hv
            rw [relabel_kind, z] at hv'
            rcases hv' with q | q | q <;> cases q
        obtain ⟨u, r, l⟩ := hl0 j y v e1' e2' hx0
        refine ⟨u, r, .inr ⟨hk, ?_⟩⟩
        obtain ⟨c, hc⟩ := clGo_has X.env scope.names [] (.inl hm)
        refine ⟨c, hc, ?_⟩
        have hc0 := S.cells I.ok hc
        rcases l with ⟨k0, _⟩ | ⟨_, c0, e0, q0⟩
        · rcases S.free _ hm rfl with z | z
          · have k0' : X.env.scope.names.lookup y = some .local := k0
            rw [z] at k0'; cases k0'
          · have k0' : X.env.scope.names.lookup y = some .local := k0
            rw [z] at k0'; cases k0'
        · rw [hc0] at e0; cases e0
          obtain ⟨o, ho, hd⟩ := q0
          exact ⟨o, old _ _ ho, hd⟩
  cell := fun y c e => by
    obtain ⟨v, o, ho, hd⟩ := I.cell y c (S.cells I.ok e)
    exact ⟨v, o, old _ _ ho, hd⟩
  free := I.hok.fresh hC
  freeC := fun y c e => I.freeC y c (S.cells I.ok e)
  pin := fun p hp => by cases hp
  hok := I.hok.kept old
  len := by simp [Cx.comp2, I.len, hlen]
end
/-- what a comprehension asks: an invariant over the turn, a measure and the list made so far -/
def tComp2 (K : PySem.W.Frag) (wi : TI) (tt : TT) (te : TE) : TE := fun σ H Q => wi σ H fun J H1 => ∃ W : Nat → Nat → List V → Hp → Prop, (∃ m, W 0 m [] H1) ∧ ∀ i m ys H, W i m ys H →
  (J.stop i H ∧ ∀ p, H p = none → Q (.ref p) (upd H p (.lst ys))) ∨
  (J.go i H ∧ ys.length < sizeLine ∧ ∃ N : List V → Hp → Prop, (∀ ys' H', N ys' H' → ∃ m', m' < m ∧ W (i + 1) m' ys' H') ∧
    ∀ x H', J.yld i H x H' → ∃ a v w, x = .ref a ∧ SqT K H' a [v, w] ∧ tt (some v :: some w :: σ) H' fun b H2 => if b = true then te (some v :: some w :: σ) H2 fun y H3 => N (ys ++ [y]) H3 else N ys H2)
section
variable {X : Cx} {M : List Str} {scope : Scope} {x x2 : Str} {px px2 ptg pos : Pos} {tk : Nat} {elt iter : Expr} {ifs : List Expr} {wi : TI} {tt : TT} {te : TE}
theorem comp_core2 {sc : Scope} {use : Option (Value → Sem Unit)} {QQ : Value → Shared → Prop} {Q : VK} {pins : List (Addr × Obj)} {s : Shared} {σ : St} {H : Hp} {cpos : Pos} (hsc : X.env.scope = sc) (S : CpScope2 sc x x2 scope) (hx : x ∉ M) (hx2 : x2 ∉ M) (hxx : x ≠ x2) (h0 : (".0" : Str) ∉ M) (hN : M.Nodup) (hlen : M.length = X.N.length) (hM : ∀ (j : Nat) y, M[j]? = some y → X.N[j]? = some y ∨ scope.names.lookup y = none) (hc : X.calm = true) (hi : PI X (.Tuple [.Name x px, .Name x2 px2] tk ptg) iter wi)
    (ht : ∀ C s H ex, PIfs (X.comp2 M scope x x2 C s H ex) ifs tt) (he : ∀ C s H ex, PE (X.comp2 M scope x x2 C s H ex) elt te) (I : Inv X pins σ H s) (h : tComp2 X.K wi tt te σ H Q)
    (fin : ∀ (D C : Addr) (s4 : Shared) (H4 : Hp), C ≠ X.env.locals → (∀ y c, X.env.cells.lookup y = some c → c ≠ C) → (∀ p ∈ X.pn ++ pins, p.1 ≠ C) → X.s₀.heap.objs.size ≤ C → H4 C = none → (∃ m, s4.heap.Ns C m) →
      (∀ h', Heap.SameBut C s4.heap h' → Inv X pins σ H4 { s4 with heap := h' }) → Q (.ref D) H4 → compPost (model X.prog X.w) X.A X.xe use QQ (.ref D) C (.ok .next) s4)
    (hs : ∀ v, foldedSetIterable iter X.env v = pure v) :
    wpAny (model X.prog X.w) X.A (comprehension (.ListComp elt [⟨.Tuple [.Name x px, .Name x2 px2] tk ptg, iter, ifs, 0⟩] scope pos) scope X.env cpos (newList []) false (eval iter X.env) use) QQ X.xe s := by
  subst hsc
  have hnames := S.nam
  refine wpAny_comprehension_free (use := use) rfl hs (closure_is (S.has I.ok)) S.kind hnames (thn (hi pins s σ H _ I h) fun v s1 h1 => thn h1 fun itv s2 h2 => ?_)
  obtain ⟨it, fp, tn, J, H2, e, I2, T, st2, f2, W, ⟨m0, w0⟩, turn⟩ := h2
  subst e
  refine wpAny_newObj_type (wpAny_newFunctionEnv S.cell (by intro y hy; simp at hy) (fun h₁ hns₁ hsb₁ => ?_) S.kind)
  dsimp only at hns₁ hsb₁ ⊢
  generalize hG : s2.heap.push { cls := .type "list", dict := none, data := .seq ([] : List Value).toArray } = G at hns₁ hsb₁ ⊢
  have hC : G.objs.size = s2.heap.objs.size + 1 := by rw [← hG, Heap.size_push]
  have hDC : s2.heap.objs.size ≠ G.objs.size := by omega
  have below : ∀ b, b < s2.heap.objs.size → b ≠ G.objs.size ∧ b ≠ s2.heap.objs.size := fun b hb => ⟨by omega, by omega⟩
  have old : ∀ b o, s2.heap.get? b = some o → h₁.get? b = some o := fun b o e => hsb₁.extBut b o (below b (Heap.lt_size e)).1 (Heap.get?_push_of_some _ (hG ▸ Heap.get?_push_of_some _ e))
  have hacc : h₁.get? s2.heap.objs.size = some { cls := .type "list", data := .seq ([] : List Value).toArray } := hsb₁.extBut _ _ hDC (Heap.get?_push_of_some _ (hG ▸ Heap.get?_push_size _ rfl))
  have hlt : ∀ b ∈ fp, b < s2.heap.objs.size := fun b hb => by
    obtain ⟨o, e, _⟩ := T.obj _ _ st2 b hb
    exact Heap.lt_size e
  have ctop : ∀ y c, (clGo X.env scope.names []).lookup y = some c → c < s2.heap.objs.size := fun y c e => by
    obtain ⟨v, q⟩ := I2.cell y c (S.cells I2.ok e)
    exact q.lt
  have hCle : s2.heap.objs.size ≤ G.objs.size := by omega
  have IY : ∀ t1, Inv (X.comp2 M scope x x2 G.objs.size s2 H2 fp) [] (none :: none :: σ) H2 { s2 with heap := h₁, toks := t1 } := fun t1 => S.inv hx hx2 hxx h0 hlen hM I2 hCle f2 hlt old hns₁
  have nost : ∀ b, s2.heap.objs.size ≤ b → b ∉ frs X.stack := fun b hb z => by
    rcases List.mem_cons.mp (I2.stkSub b z) with q | q
    · exact Nat.not_le.mpr I2.lt (q ▸ hb)
    · exact I2.nofs hb q
  have hD : s2.heap.objs.size ∉ frs X.stack := nost _ (Nat.le_refl _)
  have ptop : ∀ {pl : List (Addr × Obj)} {H' : Hp}, (∀ b ∈ fp, H' b = none) → (∀ p ∈ pl, p.1 ∉ fp) → ∀ b ∈ fp, FpOk (X.comp2 M scope x x2 G.objs.size s2 H2 fp) pl H' b := fun {pl H'} hn hp b hb =>
    ⟨hn b hb, fun z => (below b (hlt b hb)).1 z, fun z => (S.ok I2 hCle f2 hlt).exfs b hb z, .inl hb, fun y c e => (f2 b hb).2.2.2.2.1 y c (S.cells I2.ok e), fun p hp' z => hp p hp' (z ▸ hb)⟩
  have Dfp : s2.heap.objs.size ∉ fp := fun z => Nat.lt_irrefl _ (hlt _ z)
  have loop : ∀ t1, codeAny (model X.prog X.w) X.A (.compLoop (.ListComp elt [⟨.Tuple [.Name x px, .Name x2 px2] tk ptg, iter, ifs, 0⟩] scope pos) 0 (.ref it) (.ref s2.heap.objs.size) (compEnvC scope (clGo X.env scope.names []) G.objs.size X.env))
      (compPost (model X.prog X.w) X.A X.xe use QQ (.ref s2.heap.objs.size) G.objs.size) { s2 with heap := h₁, toks := t1 } := by
    intro t1
    refine compLoop_any (fun n s' => ∃ i o o2 H' ys its k, Inv (X.comp2 M scope x x2 G.objs.size s2 H2 fp) [(s2.heap.objs.size, { cls := .type "list", data := .seq its k })] (o :: o2 :: σ) H' s' ∧ tn i s'.heap ∧ (∀ b ∈ fp, H' b = none) ∧ Vals ys its.toList ∧ ys.length ≤ sizeLine ∧ W i n ys H')
      ?_ m0 ⟨0, none, none, H2, [], #[], 0, ?_, T.keep _ _ _ st2 fun b _ o e => old b o e, fun b hb => (f2 b hb).1, .nil, Nat.zero_le _, w0⟩
    · rintro n s3 ⟨i, o, o2, H3, ys, its, k, I3, st3, fr3, vs3, z3, w3⟩
      have pD : ∀ p ∈ [(s2.heap.objs.size, ({ cls := .type "list", data := .seq its k } : Obj))], p.1 ∉ fp := fun p hp => by
        have e : p = _ := List.mem_singleton.mp hp
        subst e; exact Dfp
      rcases turn i n ys H3 w3 with ⟨stop, qn⟩ | ⟨go, hz, N, hN', step⟩
      · refine wpAny_mono (T.done (X.comp2 M scope x x2 G.objs.size s2 H2 fp) rfl rfl rfl hc i _ s3 (o :: o2 :: σ) H3 (fun _ _ => False) I3 (ptop fr3 pD) st3 stop) (fun r s4 ⟨hr, I4⟩ => ?_) fun _ _ f => f
        subst hr
        obtain ⟨m4, hn4, _⟩ := I4.loc
        obtain ⟨eD, nD, _⟩ := I4.pin _ (List.mem_singleton.mpr rfl)
        have nC : H3 G.objs.size = none := I4.free
        refine fin s2.heap.objs.size G.objs.size s4 (upd H3 s2.heap.objs.size (.lst ys)) (fun z => Nat.not_le.mpr I2.lt (z ▸ hCle)) (fun y c e z => ?_) (fun p hp z => ?_) (Nat.le_trans I2.sz hCle) (by rw [upd_ne (Ne.symm hDC)]; exact nC) ⟨m4, hn4⟩ (fun h' hs' => ?_) (qn _ nD)
        · obtain ⟨v, q⟩ := I2.cell y c e
          exact Nat.not_le.mpr q.lt (z ▸ hCle)
        · exact Nat.not_le.mpr (Heap.lt_size (I2.pin p hp).1) (z ▸ hCle)
        have eD' : h'.get? s2.heap.objs.size = some { cls := .type "list", data := .seq its k } := hs'.extBut _ _ hDC eD
        have stp : ∀ b o, s2.heap.get? b = some o → b ≠ G.objs.size ∧ b ≠ s2.heap.objs.size := fun b o e => below b (Heap.lt_size e)
        have un : Un (frs X.stack) fp H2 (upd H3 s2.heap.objs.size (.lst ys)) s2.heap h' := by
          have B := I4.base
          refine ⟨fun b o e n1 n2 n3 => hs'.extBut _ _ (stp b o e).1 (B.keep b o e n1 n2 n3), fun b o e n1 n2 n3 => ?_, fun b o e n1 n3 => ?_, fun b o e n3 => ?_, fun b xs e => ?_, fun b o u e => ?_, fun b ps e => ?_⟩
          · obtain ⟨sl, q⟩ := B.slot b o e n1 n2 n3
            exact ⟨sl, hs'.extBut _ _ (stp b o e).1 q⟩
          · rw [upd_ne (stp b o e).2]; exact B.free b o e n1 n3
          · obtain ⟨o', q⟩ := B.there b o e n3
            exact ⟨o', hs'.extBut _ _ (stp b o e).1 q⟩
          · have q := B.tups b xs e
            rw [upd_ne (ne_of_none q nD)]; exact q
          · have q := B.frzs b o u e
            rw [upd_ne (ne_of_none q nD)]; exact q
          · obtain ⟨more, q⟩ := B.tbls b ps e
            exact ⟨more, by rw [upd_ne (ne_of_none q nD)]; exact q⟩
        have hok : HOk X.prog X.w (upd H3 s2.heap.objs.size (.lst ys)) h' := fun b u e => by
          by_cases hb : b = s2.heap.objs.size
          · subst hb
            rw [upd_same] at e
            cases e
            exact ⟨z3, its.toList, k, vs3, by simpa using eD'⟩
          · rw [upd_ne hb] at e
            refine (I4.hok b u e).stay (fun c v hc' q => hs'.extBut _ _ (fun z => ?_) q) (fun c q => by rw [upd_ne (ne_of_none q nD)]; exact q) fun c xs q => by rw [upd_ne (ne_of_none q nD)]; exact q
            rcases hc' with r | r
            · rw [r] at z; rw [z, nC] at e; cases e
            · rw [z, nC] at r; cases r
        refine I2.call' (s' := { s4 with heap := h' }) I4.os un hok I4.bare (fun b hb => ?_)
        obtain ⟨f0, f1, f2', f3, f4, f5⟩ := f2 b hb
        exact ⟨f3, f1, f4, f5⟩
      · refine wpAny_mono (T.item (X.comp2 M scope x x2 G.objs.size s2 H2 fp) rfl rfl rfl hc i _ s3 (o :: o2 :: σ) H3 (fun _ _ => False) I3 (ptop fr3 pD) st3 go) (fun r s4 ⟨u, hr, h4⟩ => ?_) fun _ _ f => f
        subst hr
        refine wpAny_mono h4 (fun _ s5 ⟨v5, H5, I5, r5, y5, st5, fr5⟩ => ?_) fun _ _ f => f
        have I5' := I5.pinned (ptop fr5 pD) (T.obj _ _ st5)
        have hnd : (X.comp2 M scope x x2 G.objs.size s2 H2 fp).N.Nodup := List.nodup_cons.mpr ⟨fun z => (List.mem_cons.mp z).elim hxx hx, List.nodup_cons.mpr ⟨hx2, hN⟩⟩
        have hloc : (relabel scope X.env).names.lookup x = some .local := lookup_relabel_local S.own
        have hloc2 : (relabel scope X.env).names.lookup x2 = some .local := lookup_relabel_local S.own2
        obtain ⟨a5, v5a, v5b, e5, sq5, q5⟩ := step v5 H5 y5
        subst e5
        refine wpAny_mono (pg_tup (X := X.comp2 M scope x x2 G.objs.size s2 H2 fp) (pos := ptg) (k := tk) hc (pgs_cons (pg_name (X := X.comp2 M scope x x2 G.objs.size s2 H2 fp) (i := 0) (pos := px) hnd rfl (.inl hloc) (.inr hloc)) (pgs_cons (pg_name (X := X.comp2 M scope x x2 G.objs.size s2 H2 fp) (i := 1) (pos := px2) hnd rfl (.inl hloc2) (.inr hloc2)) pgs_nil)) rfl rfl _ s5 (o :: o2 :: σ) H5 (.ref a5) u (fun σ6 H6 => σ6 = some v5a :: some v5b :: σ ∧ H6 = H5) I5' r5 ⟨a5, [v5a, v5b], rfl, sq5, rfl, v5a, [v5b], rfl, v5b, [], rfl, rfl, rfl, rfl⟩) (fun _ s6 ⟨σ6, H6, I6, e6, e6'⟩ => ?_) fun _ _ f => f
        subst e6 e6'
        have later : ∀ {σ7 : St} {H7 : Hp} {s7 : Shared}, Inv (X.comp2 M scope x x2 G.objs.size s2 H2 fp) ([(s2.heap.objs.size, { cls := .type "list", data := .seq its k })] ++ pinsAt fp s5.heap) σ7 H7 s7 → tn (i + 1) s7.heap ∧ (∀ b ∈ fp, H7 b = none) := fun {σ7 H7 s7} I7 =>
          ⟨T.keep _ _ _ st5 fun b hb o e => (I7.pin (b, o) (List.mem_append_right _ (List.mem_append_right _ (mem_pinsAt hb e)))).1, fun b hb => by
            obtain ⟨o, e, d⟩ := T.obj _ _ st5 b hb
            exact (I7.pin (b, o) (List.mem_append_right _ (List.mem_append_right _ (mem_pinsAt hb e)))).2.1⟩
        refine wpAny_mono (ht _ _ _ _ _ s6 (some v5a :: some v5b :: σ) H6 _ I6 q5) (fun ok s7 ⟨H7, I7, q7⟩ => ?_) fun _ _ f => f
        cases ok with
        | false =>
          obtain ⟨m', hm, w7⟩ := hN' _ _ q7
          exact ⟨m', hm, i + 1, some v5a, some v5b, H7, ys, its, k, I7.unpinned, (later I7).1, (later I7).2, vs3, z3, w7⟩
        | true =>
          refine wpAny_mono (he _ _ _ _ _ s7 (some v5a :: some v5b :: σ) H7 _ I7 q7) (fun uy s8 ⟨y8, H8, I8, r8, q8⟩ => ?_) fun _ _ f => f
          obtain ⟨m', hm, w8⟩ := hN' _ _ q8
          obtain ⟨eD, nD, _⟩ := I8.pin (s2.heap.objs.size, { cls := .type "list", data := .seq its k }) (List.mem_append_right _ (List.mem_append_left _ (List.mem_singleton.mpr rfl)))
          have hsz : its.size ≤ sizeLine := by
            have := vs3.length
            have e2 : its.toList.length = its.size := by simp
            omega
          refine wpAny_list_append_plain (hsz := hsz) ⟨k, eD⟩ fun h9 pl9 sb9 => ?_
          obtain ⟨k9, e9⟩ := pl9
          obtain ⟨st8, fr8⟩ := later I8
          have I8' : Inv (X.comp2 M scope x x2 G.objs.size s2 H2 fp) [] (some v5a :: some v5b :: σ) H8 s8 := I8.pins_of fun p hp => nomatch hp
          have I9 : Inv (X.comp2 M scope x x2 G.objs.size s2 H2 fp) [] (some v5a :: some v5b :: σ) H8 { s8 with heap := h9 } :=
            I8'.turned (t' := s8.toks) (fun b o hb e => sb9.extBut b o hb e) nD hDC (.inr (Nat.le_refl _)) (fun y c e z => by have := ctop y c e; rw [z] at this; exact Nat.lt_irrefl _ this) fun p hp => nomatch hp
          refine ⟨m', hm, i + 1, some v5a, some v5b, H8, ys ++ [y8], its.push uy, k9, I9.pins_of fun p hp => ?_, T.keep _ _ _ st8 fun b hb o e => sb9.extBut b o (fun z => Dfp (z ▸ hb)) e, fr8, ?_, ?_, w8⟩
          · have e : p = _ := List.mem_singleton.mp hp
            subst e
            exact ⟨e9, nD, hDC, hD, fun v z => by cases z⟩
          · rw [Array.toList_push]
            exact vs3.append (.cons r8 .nil)
          · rw [List.length_append, List.length_singleton]; omega
    · refine (IY t1).pins_of fun p hp => ?_
      have e : p = _ := List.mem_singleton.mp hp
      subst e
      exact ⟨hacc, I2.hok.fresh (Nat.le_refl _), hDC, hD, fun v z => by cases z⟩
  exact codeAny_compStart_list (loop _) (T.self _ 0 _ _ _ (T.keep _ _ _ st2 fun b _ o e => old b o e) (loop _))
theorem pe_comp2 {sc : Scope} (hsc : X.env.scope = sc) (S : CpScope2 sc x x2 scope) (hx : x ∉ X.N) (hx2 : x2 ∉ X.N) (hxx : x ≠ x2) (h0 : (".0" : Str) ∉ X.N) (hN : X.N.Nodup) (hc : X.calm = true) (hi : PI X (.Tuple [.Name x px, .Name x2 px2] tk ptg) iter wi)
    (ht : ∀ C s H ex, PIfs (X.comp2 X.N scope x x2 C s H ex) ifs tt) (he : ∀ C s H ex, PE (X.comp2 X.N scope x x2 C s H ex) elt te) (hs : ∀ v, foldedSetIterable iter X.env v = pure v := by intro _; rfl) :
    PE X (.ListComp elt [⟨.Tuple [.Name x px, .Name x2 px2] tk ptg, iter, ifs, 0⟩] scope pos) (tComp2 X.K wi tt te) := by
  intro pins s σ H Q I h
  rw [eval_ListComp]
  exact comp_core2 (use := none) (M := X.N) hsc S hx hx2 hxx h0 hN rfl (fun _ _ e => .inl e) hc hi ht he I h (fun D C s4 H4 _ _ _ _ _ hn inv q => let ⟨m, hn⟩ := hn; ⟨m, hn, fun h' hs' => ⟨.ref D, H4, inv h' hs', rfl, q⟩⟩) hs
end
end L2

set_option Elab.async false
set_option linter.all false
set_option maxRecDepth 100000
namespace L2
open PySem PySem.Spec PyProof.Rows
/-! Steps for own classes, tuples, tables, flat data held against one another. -/
/-- a flat value as data -/
def dV : V → PyData
  | .bl b => .bool b
  | .int i => .int i
  | .str x => .str x
  | _ => .none
/-- flat, and no text with a sign that is none -/
def okV : V → Bool
  | .non => true
  | .bl _ => true
  | .int _ => true
  | .str x => PyData.strOk x
  | _ => false
theorem okV_flat : ∀ {x : V}, okV x = true → flatV x = true
  | .non, _ => rfl
  | .bl b, _ => rfl
  | .int i, _ => rfl
  | .str x, _ => rfl
section
variable {K : PySem.W.Frag} {H : Hp} {Q : VK} {σ : St} {D : Ends} {a b t u : Addr} {xs ys : List V}
theorem st_slT {lo hi : Option Int} (s : SqT K H a xs) (c : ¬ (HT.sIx xs.length 0 lo = 0 ∧ HT.sIx xs.length xs.length hi = xs.length)) (h : ∀ p, H p = none → Q (.ref p) (upd H p (.tup (cutV xs lo hi)))) : rSlT K (.ref a) lo hi H Q := ⟨a, xs, rfl, s, c, h⟩
theorem st_catT (ha : SqT K H a xs) (hb : SqT K H b ys) (hx : xs ≠ []) (hy : ys ≠ []) (hl : xs.length + ys.length ≤ 1000) (q : ∀ p, H p = none → Q (.ref p) (upd H p (.tup (xs ++ ys)))) : rCatT K (.ref a) (.ref b) H Q :=
  ⟨a, b, xs, ys, rfl, rfl, ha, hb, hx, Nat.le_of_lt (small1000 hl), fun z => (hy z).elim, fun _ => q⟩
theorem st_bestT {le : Int → Int → Prop} {ns : List Int} (s : SqT K H a (ns.map V.int)) (h0 : 0 < ns.length) (q : ∀ M, M ∈ ns → (∀ a ∈ ns, le a M) → Q (.int M) H) : rBest K le [.ref a] H Q := ⟨a, ns, rfl, .inr s, h0, q⟩
theorem st_bestL {le : Int → Int → Prop} {ns : List Int} (s : SqL K H a (ns.map V.int)) (h0 : 0 < ns.length) (q : ∀ M, M ∈ ns → (∀ a ∈ ns, le a M) → Q (.int M) H) : rBest K le [.ref a] H Q := ⟨a, ns, rfl, .inl s, h0, q⟩
theorem st_inTab {neg : Bool} {k : Str} {T : List (Str × Int)} (h : Tab K a T) (q : Q (.bl (neg != (tabAt k T).isSome)) H) : rInTab K neg (.str k) (.ref a) H Q := ⟨k, a, T, rfl, rfl, h, q⟩
theorem st_ixTab {k : Str} {T : List (Str × Int)} {i : Int} (h : Tab K a T) (e : tabAt k T = some i) (q : Q (.int i) H) : rIxTab K (.ref a) (.str k) H Q := ⟨k, a, T, i, rfl, rfl, h, e, q⟩
theorem st_inT {neg : Bool} {x : V} (s : SqT K H a xs) (hx : flatV x = true) (hs : xs.all flatV = true) (q : Q (.bl (if neg then !inV x xs else inV x xs)) H) : rIn K neg x (.ref a) H Q := ⟨a, xs, rfl, .inr s, hx, hs, q⟩
def rIntB : List V → Hp → VK → Prop := fun xs H Q => ∃ k, xs = [.bl k] ∧ Q (.int (Tw.bI k)) H
end
section
variable {X : Cx}
end
theorem ite_t {c A B : Prop} [Decidable c] (h : c) (a : A) : if decide c = true then A else B := by
  rw [decide_eq_true h]
  exact iteT a
theorem ite_f {c A B : Prop} [Decidable c] (h : ¬ c) (b : B) : if decide c = true then A else B := by
  rw [decide_eq_false h]
  exact iteF b
theorem cut1 (x : V) (xs : List V) : cutV (x :: xs) (some 1) none = xs := by
  unfold cutV
  rw [HT.sIx_none, show (some (1 : Int)) = some ((1 : Nat) : Int) from rfl, HT.sIx_nat]
  simp
section
variable {K : PySem.W.Frag} {H : Hp} {Q : VK} {a : Addr} {xs : List V}
theorem st_tl {x : V} (s : SqT K H a (x :: xs)) (h : ∀ p, H p = none → Q (.ref p) (upd H p (.tup xs))) : rSlT K (.ref a) (some 1) none H Q :=
  st_slT s (fun z => by rw [show (some (1 : Int)) = some ((1 : Nat) : Int) from rfl, HT.sIx_nat] at z; have := z.1; simp at this) (by rw [cut1]; exact h)
end
theorem same_init {H : Hp} {x dx t C : Addr} {o o2 : HO} (hx : H x = none) (hd : H dx = none) (ht : (upd (upd H dx (.own x)) x (.ins C dx [])) t = none) : Same H (upd (upd (upd (upd H dx (.own x)) x (.ins C dx [])) t o) x o2) := by
  intro b u e
  have e2 := same_made (C := C) hx hd b u e
  rw [upd_ne (ne_of_none e hx), upd_ne (ne_of_none e2 ht)]
  exact e2
theorem at0 (x : V) (xs : List V) : atI (x :: xs) 0 = some x := atI_nat (j := 0) rfl
theorem at1 (x y : V) (xs : List V) : atI (x :: y :: xs) 1 = some y := atI_nat (j := 1) rfl
/-- H' is H with another list at l -/
structure App (l : Addr) (H H' : Hp) : Prop where
  ex : ∃ xs ys, H l = some (.lst xs) ∧ H' = upd H l (.lst ys)
theorem all_get {f : V → Bool} {xs : List V} (h : xs.all f = true) {i : Nat} {x : V} (e : xs[i]? = some x) : f x = true := List.all_eq_true.mp h _ (List.mem_of_getElem? e)
theorem take_succ_of {α : Type} {xs : List α} {i : Nat} {x : α} (e : xs[i]? = some x) : xs.take (i + 1) = xs.take i ++ [x] := by
  rw [List.take_add_one, e]
  rfl
theorem all_id_map {xs : List V} {f : V → Bool} : (xs.map f).all id = xs.all f := by
  rw [List.all_map]
  rfl
theorem int_get {is : List Int} {i : Nat} {x : V} (e : (is.map V.int)[i]? = some x) : ∃ j, x = .int j := by
  rw [List.getElem?_map] at e
  cases h : is[i]? with
  | none => rw [h] at e; cases e
  | some j => rw [h] at e; exact ⟨j, (Option.some.inj e).symm⟩
theorem all_replicate (n : Nat) : (List.replicate n true).all id = true := by simp
theorem len1 {is : List Int} (h : is.length = 1) : ∃ i, is = [i] := by
  match is, h with
  | [i], _ => exact ⟨i, rfl⟩
theorem len2 {is : List Int} (h : is.length = 2) : ∃ i j, is = [i, j] := by
  match is, h with
  | [i, j], _ => exact ⟨i, j, rfl⟩
/-- a comprehension over a tuple that the clause itself makes -/
def sCompT (K : PySem.W.Frag) (tt : TT) (te : TE) (σ : St) (Q : VK) : V → Hp → Prop := fun x H1 => ∃ a, x = .ref a ∧ (∃ xs, SqT K H1 a xs) ∧ ∃ W : Nat → Nat → List V → Hp → Prop, (∃ m, W 0 m [] H1) ∧ ∀ i m ys H, W i m ys H →
  ((Itt K a).stop i H ∧ ∀ p, H p = none → Q (.ref p) (upd H p (.lst ys))) ∨
  ((Itt K a).go i H ∧ ys.length < sizeLine ∧ ∃ N : List V → Hp → Prop, (∀ ys' H', N ys' H' → ∃ m', m' < m ∧ W (i + 1) m' ys' H') ∧
    ∀ x H', (Itt K a).yld i H x H' → tt (some x :: σ) H' fun b H2 => if b = true then te (some x :: σ) H2 fun y H3 => N (ys ++ [y]) H3 else N ys H2)
section
variable {K : PySem.W.Frag} {a : Addr} {xs : List V} {tl te : TE} {tt : TT} {Q : VK} {σ : St} {H : Hp}
end
end L2

set_option Elab.async false
set_option linter.all false
set_option maxRecDepth 100000
namespace L2
open PySem PySem.Spec PyProof.Rows
/-! Bits against numbers and bits. -/
section
variable {H : Hp} {Q : VK} {n m : Nat} {p q : Bool}
theorem st_xorBB (h : Q (.int (Tw.bI (p ^^ q))) H) : rI0 (fun i j => .int (Builtin.bitXor i j)) (.int (Tw.bI p)) (.int (Tw.bI q)) H Q := st_i0 (by
  rw [Tw.bI_nat, Tw.bI_nat, bitXor_nat]
  have e : ((p.toNat ^^^ q.toNat : Nat) : Int) = Tw.bI (p ^^ q) := by cases p <;> cases q <;> rfl
  rw [e]; exact h)
end
end L2

set_option Elab.async false
set_option linter.all false
set_option maxRecDepth 100000
namespace Tw
open PySem L2
/-! Deeds: their words, the objects, the refusals. -/
inductive DK where
  | over | quarter | back | both | wher | swap
  deriving DecidableEq
def DK.word : DK → Str
  | .over => "over" | .quarter => "quarter" | .back => "back" | .both => "both" | .wher => "where" | .swap => "swap"
def DK.undo : DK → Str
  | .over => "over" | .quarter => "back" | .back => "quarter" | .both => "both" | .wher => "where" | .swap => "swap"
def DK.n : DK → Nat
  | .over => 1 | .quarter => 1 | .back => 1 | .both => 1 | .wher => 2 | .swap => 2
def DK.inv : DK → DK
  | .quarter => .back | .back => .quarter | k => k
def tabW : List (Str × Int) := [("over", 1), ("quarter", 1), ("back", 1), ("both", 1), ("where", 2), ("swap", 2)]
theorem tab_word (k : DK) : tabAt k.word tabW = some (k.n : Int) := by cases k <;> decide +kernel
theorem DK.n_pos (k : DK) : 0 < k.n ∧ k.n ≤ 2 := by cases k <;> decide
def vn (l : List Nat) : List V := l.map fun k => V.int ((k : Nat) : Int)
theorem vn_ints (l : List Nat) : vn l = (l.map fun k : Nat => (k : Int)).map V.int := by unfold vn; rw [List.map_map]; rfl
theorem vn_len (l : List Nat) : (vn l).length = l.length := by unfold vn; rw [List.length_map]
/-- a deed: its kind, its wires -/
structure Dd where
  k : DK
  w : List Nat
structure Dd.Ok (d : Dd) (n : Nat) : Prop where
  len : d.w.length = d.k.n
  lt : ∀ x ∈ d.w, x < n
  nd : d.w.Nodup
def flds (k : DK) (t : Addr) : List (Str × V) := [("word", .str k.word), ("undoer", .str k.undo), ("at", .ref t)]
theorem flds_at (k : DK) (t : Addr) : (flds k t).lookup ("at" : Str) = some (.ref t) := by
  unfold flds
  rw [List.lookup_cons, show (("at" : Str) == "word") = false by decide +kernel]
  show List.lookup ("at" : Str) [(("undoer" : Str), V.str k.undo), ("at", .ref t)] = _
  rw [List.lookup_cons, show (("at" : Str) == "undoer") = false by decide +kernel]
  rfl
theorem flds_no (k : DK) (t : Addr) {m : Str} (h1 : (m == "word") = false) (h2 : (m == "undoer") = false) (h3 : (m == "at") = false) : (flds k t).lookup m = none := by
  unfold flds
  rw [List.lookup_cons, h1]
  show List.lookup m [(("undoer" : Str), V.str k.undo), ("at", .ref t)] = _
  rw [List.lookup_cons, h2]
  show List.lookup m [(("at" : Str), V.ref t)] = _
  rw [List.lookup_cons, h3]
  rfl
theorem flds_put (w u : Str) (t : Addr) : putF "at" (.ref t) (putF "undoer" (.str u) (putF "word" (.str w) [])) = ([("word", .str w), ("undoer", .str u), ("at", .ref t)] : List (Str × V)) := by
  have h1 : ¬ (("word" : Str) = "undoer") := by decide +kernel
  have h2 : ¬ (("word" : Str) = "at") := by decide +kernel
  have h3 : ¬ (("undoer" : Str) = "at") := by decide +kernel
  simp only [putF, if_neg h1, if_neg h2, if_neg h3]
/-- the deed d stands at a -/
def DdAt (CD : DK → Addr) (H : Hp) (a : Addr) (d : Dd) : Prop := ∃ dx t, H a = some (.ins (CD d.k) dx (flds d.k t)) ∧ H t = some (.tup (vn d.w)) ∧ d.w.length = d.k.n
theorem DdAt.same {CD : DK → Addr} {H H' : Hp} {a : Addr} {d : Dd} (h : DdAt CD H a d) (s : Same H H') : DdAt CD H' a d := by
  obtain ⟨dx, t, h1, h2, h3⟩ := h
  exact ⟨dx, t, s _ _ h1, s _ _ h2, h3⟩
/-- the words of the kind k with these numbers stand at a -/
def WdAt (H : Hp) (a : Addr) (k : DK) (is : List Int) : Prop := H a = some (.tup (.str k.word :: is.map V.int)) ∧ is.length = k.n ∧ is.Nodup
/-- whether a thing is told to be a whole number -/
def WN (K : PySem.W.Frag) (H : Hp) (v : V) (b : Bool) : Prop := ∃ t b1 b2, TyOf K H v t ∧ PySem.W.kitOne K t (.type "int") = some b1 ∧ PySem.W.kitOne K t (.type "bool") = some b2 ∧ b = (b1 && !b2)
theorem WN.int (K : PySem.W.Frag) (H : Hp) (i : Int) : WN K H (.int i) true := ⟨_, true, false, .int i, kit_int_int, kit_int_bool, rfl⟩
theorem WN.bl (K : PySem.W.Frag) (H : Hp) (i : Bool) : WN K H (.bl i) false := ⟨_, true, true, .bl i, kit_bool_int, kit_bool_bool, rfl⟩
theorem WN.str (K : PySem.W.Frag) (H : Hp) (i : Str) : WN K H (.str i) false := ⟨_, false, false, .str i, kit_str_int, kit_str_bool, rfl⟩
theorem WN.non (K : PySem.W.Frag) (H : Hp) : WN K H .non false := ⟨_, false, false, .non, kit_NoneType_int, kit_NoneType_bool, rfl⟩
/-- flat things, told to be whole numbers or not -/
def wnB : V → Bool
  | .int _ => true
  | _ => false
theorem WN.flat (K : PySem.W.Frag) (H : Hp) : ∀ {v : V}, flatV v = true → WN K H v (wnB v)
  | .int i, _ => WN.int K H i
  | .bl i, _ => WN.bl K H i
  | .str i, _ => WN.str K H i
  | .non, _ => WN.non K H
/-- what are no words of a deed -/
inductive NoW (K : PySem.W.Frag) (H : Hp) : V → Prop
  | kind {v t} (h : TyOf K H v t) (k : PySem.W.kitOne K t (.type "tuple") = some false) : NoW K H v
  | empty {a} (h : H a = some (.tup [])) : NoW K H (.ref a)
  | first {a i xs} (h : H a = some (.tup (.int i :: xs))) (f : xs.all okV = true) (m : xs.length ≤ 900) : NoW K H (.ref a)
  | word {a s xs} (h : H a = some (.tup (.str s :: xs))) (e : tabAt s tabW = none) (fs : PyData.strOk s = true) (f : xs.all okV = true) (m : xs.length ≤ 900) : NoW K H (.ref a)
  | len {a k xs} (h : H a = some (.tup (.str (DK.word k) :: xs))) (l : xs.length ≠ k.n) (f : xs.all okV = true) (m : xs.length ≤ 900) : NoW K H (.ref a)
  | part {a k xs} (h : H a = some (.tup (.str (DK.word k) :: xs))) (l : xs.length = k.n) (f : xs.all okV = true) (e : xs.all wnB = false) : NoW K H (.ref a)
  | same {a k i} (h : H a = some (.tup [.str (DK.word k), .int i, .int i])) (e : k.n = 2) : NoW K H (.ref a)
/-- what is handed in as words: none, or a kind's with numbers -/
def Thg (K : PySem.W.Frag) (H : Hp) (v : V) : Prop := NoW K H v ∨ ∃ a k is, v = .ref a ∧ WdAt H a k is
def sp_is_whole_number (K : PySem.W.Frag) : Sp := fun vs H Q _ => ∃ v b, vs = [v] ∧ WN K H v b ∧ Q (.bl b) H
def sp_check_words (K : PySem.W.Frag) (C : Addr) : Sp := fun vs H Q E => ∃ v, vs = [v] ∧ ((NoW K H v ∧ ∀ H', Same H H' → E (.ref C) none H') ∨ (∃ a k is, v = .ref a ∧ WdAt H a k is ∧ ∀ H', Same H H' → Q .non H'))
def sp_Deed___init__ (K : PySem.W.Frag) (CD : DK → Addr) : Sp := fun vs H Q _ => ∃ p w u t, vs = [.ref p, .str w, .str u, .ref t] ∧ ∃ k dx, H p = some (.ins (CD k) dx []) ∧ Q .non (upd H p (.ins (CD k) dx [("word", .str w), ("undoer", .str u), ("at", .ref t)]))
def sp_init1 (K : PySem.W.Frag) (CD : DK → Addr) (k : DK) : Sp := fun vs H Q _ => ∃ (p : Addr) (j : Nat), vs = [.ref p, .int j] ∧ ∃ dx, H p = some (.ins (CD k) dx []) ∧ ∀ t, H t = none → Q .non (upd (upd H t (.tup (vn [j]))) p (.ins (CD k) dx (flds k t)))
def sp_init2 (K : PySem.W.Frag) (CD : DK → Addr) (k : DK) : Sp := fun vs H Q _ => ∃ (p : Addr) (j i : Nat), vs = [.ref p, .int j, .int i] ∧ ∃ dx, H p = some (.ins (CD k) dx []) ∧ ∀ t, H t = none → Q .non (upd (upd H t (.tup (vn [j, i]))) p (.ins (CD k) dx (flds k t)))
abbrev sp_Over___init__ (K : PySem.W.Frag) (CD : DK → Addr) : Sp := sp_init1 K CD .over
abbrev sp_Quarter___init__ (K : PySem.W.Frag) (CD : DK → Addr) : Sp := sp_init1 K CD .quarter
abbrev sp_Back___init__ (K : PySem.W.Frag) (CD : DK → Addr) : Sp := sp_init1 K CD .back
abbrev sp_Both___init__ (K : PySem.W.Frag) (CD : DK → Addr) : Sp := sp_init1 K CD .both
abbrev sp_Where___init__ (K : PySem.W.Frag) (CD : DK → Addr) : Sp := sp_init2 K CD .wher
abbrev sp_Swap___init__ (K : PySem.W.Frag) (CD : DK → Addr) : Sp := sp_init2 K CD .swap
def sp_Deed_wires (K : PySem.W.Frag) (CD : DK → Addr) : Sp := fun vs H Q _ => ∃ a d, vs = [.ref a] ∧ DdAt CD H a d ∧ ∀ p, H p = none → Q (.ref p) (upd H p (.lst (vn d.w)))
abbrev sp_D_wires (K : PySem.W.Frag) (CD : DK → Addr) (_ : DK) : Sp := sp_Deed_wires K CD
def sp_Deed_words (K : PySem.W.Frag) (CD : DK → Addr) : Sp := fun vs H Q _ => ∃ a d, vs = [.ref a] ∧ DdAt CD H a d ∧ ∀ p H', Same H H' → H' p = some (.tup (.str d.k.word :: vn d.w)) → Q (.ref p) H'
abbrev sp_D_words (K : PySem.W.Frag) (CD : DK → Addr) (_ : DK) : Sp := sp_Deed_words K CD
def sp_Deed_undoing (K : PySem.W.Frag) (CD : DK → Addr) : Sp := fun vs H Q _ => ∃ a d, vs = [.ref a] ∧ DdAt CD H a d ∧ ∀ p t H', Same H H' → H p = none → H' p = some (.lst [.ref t]) → H' t = some (.tup (.str d.k.undo :: vn d.w)) → Q (.ref p) H'
abbrev sp_D_undoing (K : PySem.W.Frag) (CD : DK → Addr) (_ : DK) : Sp := sp_Deed_undoing K CD
def sp_deed_of_words (K : PySem.W.Frag) (CD : DK → Addr) (C1 C2 : Addr) : Sp := fun vs H Q E => ∃ v, vs = [v] ∧ ((NoW K H v ∧ ∀ H', Same H H' → E (.ref C1) none H') ∨ (∃ a k is, v = .ref a ∧ WdAt H a k is ∧
  ((∀ i ∈ is, 0 ≤ i) → ∀ p d H', Same H H' → DdAt CD H' p d → d.k = k → d.w.map (fun x : Nat => (x : Int)) = is → Q (.ref p) H') ∧ ((¬ ∀ i ∈ is, 0 ≤ i) → ∀ H', Same H H' → E (.ref C2) none H')))
def sp_deed_of (K : PySem.W.Frag) (CD : DK → Addr) (C1 C2 : Addr) : Sp := fun vs H Q E => ∃ v n, vs = [v, .int ((n : Nat) : Int)] ∧ ((NoW K H v ∧ ∀ H', Same H H' → E (.ref C1) none H') ∨ (∃ a k is, v = .ref a ∧ WdAt H a k is ∧
  ((∀ i ∈ is, 0 ≤ i ∧ i < (n : Int)) → ∀ p d H', Same H H' → DdAt CD H' p d → d.k = k → d.w.map (fun x : Nat => (x : Int)) = is → Q (.ref p) H') ∧ ((¬ ∀ i ∈ is, 0 ≤ i ∧ i < (n : Int)) → ∀ H', Same H H' → E (.ref C2) none H')))
/-- a row of signs -/
structure Row where
  m : Nat
  x : Nat
  z : Nat
def Row.V (r : Row) : List V := [.int (r.m : Nat), .int (r.x : Nat), .int (r.z : Nat)]
structure Row.Ok (r : Row) (n : Nat) : Prop where
  m : r.m ≤ 1
  x : r.x < 2 ^ n
  z : r.z < 2 ^ n
/-- what a row becomes by a deed of the kind k at the wires i, j -/
def ex (n i j : Nat) : Nat := n ^^^ (n.testBit i ^^ n.testBit j).toNat * 2 ^ i ^^^ (n.testBit i ^^ n.testBit j).toNat * 2 ^ j
def actW (k : DK) (i j : Nat) (r : Row) : Row :=
  match k with
  | .over => ⟨r.m ^^^ (r.z.testBit i).toNat, r.x, r.z⟩
  | .quarter => ⟨r.m ^^^ (r.x.testBit i && r.z.testBit i).toNat, r.x, r.z ^^^ (r.x.testBit i).toNat * 2 ^ i⟩
  | .back => ⟨r.m ^^^ (r.x.testBit i && !r.z.testBit i).toNat, r.x, r.z ^^^ (r.x.testBit i).toNat * 2 ^ i⟩
  | .both => ⟨r.m ^^^ (r.x.testBit i && r.z.testBit i).toNat, r.x ^^^ (r.x.testBit i ^^ r.z.testBit i).toNat * 2 ^ i, r.z ^^^ (r.x.testBit i ^^ r.z.testBit i).toNat * 2 ^ i⟩
  | .wher => ⟨r.m ^^^ (r.x.testBit i && r.z.testBit j && !(r.z.testBit i ^^ r.x.testBit j)).toNat, r.x ^^^ (r.x.testBit i).toNat * 2 ^ j, r.z ^^^ (r.z.testBit j).toNat * 2 ^ i⟩
  | .swap => ⟨r.m, ex r.x i j, ex r.z i j⟩
def act (d : Dd) (r : Row) : Row := actW d.k (d.w.getD 0 0) (d.w.getD 1 0) r
def sp_bit_at (K : PySem.W.Frag) : Sp := fun vs H Q _ => ∃ n k : Nat, vs = [.int n, .int k] ∧ Q (.int (bI (n.testBit k))) H
def sp_exchanged (K : PySem.W.Frag) : Sp := fun vs H Q _ => ∃ n i j : Nat, vs = [.int n, .int i, .int j] ∧ i ≤ 1000 ∧ j ≤ 1000 ∧ Q (.int (ex n i j : Nat)) H
def sp_onrow (K : PySem.W.Frag) (CD : DK → Addr) (k : DK) : Sp := fun vs H Q _ => ∃ (a b : Addr) (d : Dd) (r : Row), vs = [.ref a, .ref b] ∧ d.k = k ∧ DdAt CD H a d ∧ (∀ x ∈ d.w, x ≤ 1000) ∧ SqT K H b r.V ∧ ∀ p H', Same H H' → H' p = some (.tup (act d r).V) → Q (.ref p) H'
abbrev sp_D_on_row (K : PySem.W.Frag) (CD : DK → Addr) (k : DK) : Sp := sp_onrow K CD k
abbrev sp_Over_on_row (K : PySem.W.Frag) (CD : DK → Addr) : Sp := sp_onrow K CD .over
abbrev sp_Quarter_on_row (K : PySem.W.Frag) (CD : DK → Addr) : Sp := sp_onrow K CD .quarter
abbrev sp_Back_on_row (K : PySem.W.Frag) (CD : DK → Addr) : Sp := sp_onrow K CD .back
abbrev sp_Both_on_row (K : PySem.W.Frag) (CD : DK → Addr) : Sp := sp_onrow K CD .both
abbrev sp_Where_on_row (K : PySem.W.Frag) (CD : DK → Addr) : Sp := sp_onrow K CD .wher
abbrev sp_Swap_on_row (K : PySem.W.Frag) (CD : DK → Addr) : Sp := sp_onrow K CD .swap
theorem one_wire {w : List Nat} (h : w.length = 1) : ∃ i, w = [i] := by
  match w, h with
  | [i], _ => exact ⟨i, rfl⟩
theorem two_wires {w : List Nat} (h : w.length = 2) : ∃ i j, w = [i, j] := by
  match w, h with
  | [i, j], _ => exact ⟨i, j, rfl⟩
end Tw

set_option Elab.async false
set_option linter.all false
set_option maxRecDepth 100000
namespace Tw
/-! What rows and deeds do to one number of ups and downs: to do the row and then the deed is to do the deed and then what the row becomes. -/
theorem tb_mul (b : Bool) (i k : Nat) : (b.toNat * 2 ^ i).testBit k = (decide (i = k) && b) := by
  cases b with
  | false => simp
  | true => simp [Nat.testBit_two_pow]
theorem cnt_at {f g : Nat → Bool} {k : Nat} : ∀ {n : Nat}, k < n → (∀ i, i < n → i ≠ k → f i = g i) → cnt f n + (g k).toNat = cnt g n + (f k).toNat
  | n + 1, hk, h => by
    rw [cnt, cnt]
    by_cases e : k = n
    · subst e
      have := cnt_congr (p := f) (q := g) (k := k) fun i hi => h i (by omega) (by omega)
      omega
    · have := cnt_at (f := f) (g := g) (k := k) (n := n) (by omega) fun i hi hn => h i (by omega) hn
      rw [h n (by omega) (Ne.symm e)]
      omega
theorem cnt_at2 {f g : Nat → Bool} {i j n : Nat} (hi : i < n) (hj : j < n) (hij : i ≠ j) (h : ∀ k, k < n → k ≠ i → k ≠ j → f k = g k) : cnt f n + (g i).toNat + (g j).toNat = cnt g n + (f i).toNat + (f j).toNat := by
  have h1 := cnt_at (f := f) (g := fun k => if k = i then g i else f k) hi fun k _ hk => by simp [hk]
  have h2 := cnt_at (f := fun k => if k = i then g i else f k) (g := g) hj fun k hk1 hk => by
    by_cases e : k = i
    · simp [e]
    · simp only [e, if_false]
      exact h k hk1 e hk
  simp only [if_true] at h1
  simp only [Ne.symm hij, if_false] at h2
  omega
/-- a quarter turn, q times -/
def turn (q : Nat) (p : Int × Int) : Int × Int :=
  if q % 4 = 0 then p else if q % 4 = 1 then (-p.2, p.1) else if q % 4 = 2 then (-p.1, -p.2) else (p.2, -p.1)
theorem turn_mod {a b : Nat} (h : a % 4 = b % 4) (p : Int × Int) : turn a p = turn b p := by unfold turn; rw [h]
theorem turn_turn (a b : Nat) (p : Int × Int) : turn a (turn b p) = turn (a + b) p := by
  have ha : a % 4 < 4 := Nat.mod_lt _ (by decide)
  have hb : b % 4 < 4 := Nat.mod_lt _ (by decide)
  obtain ⟨x, y⟩ := p
  have e : (a + b) % 4 = (a % 4 + b % 4) % 4 := Nat.add_mod _ _ _
  unfold turn
  rw [e]
  revert ha hb
  generalize a % 4 = u
  generalize b % 4 = v
  intro ha hb
  match u, v, ha, hb with
  | 0, 0, _, _ => rfl
  | 0, 1, _, _ => rfl
  | 0, 2, _, _ => rfl
  | 0, 3, _, _ => rfl
  | 1, 0, _, _ => rfl
  | 1, 1, _, _ => simp
  | 1, 2, _, _ => simp
  | 1, 3, _, _ => simp
  | 2, 0, _, _ => rfl
  | 2, 1, _, _ => simp
  | 2, 2, _, _ => simp
  | 2, 3, _, _ => simp
  | 3, 0, _, _ => rfl
  | 3, 1, _, _ => simp
  | 3, 2, _, _ => simp
  | 3, 3, _, _ => simp
/-- the quarter turns of a row at the number b -/
def qq (r : Row) (b n : Nat) : Nat := 2 * r.m + 2 * cnt (fun i => r.z.testBit i && b.testBit i) n + cnt (fun i => r.x.testBit i && r.z.testBit i) n
def rowE (r : Row) (n : Nat) (e : Nat × Int × Int) : Nat × Int × Int := (e.1 ^^^ r.x, turn (qq r e.1 n) e.2)
/-- b with bit i let go -/
def clr (b i : Nat) : Nat := b - (b.testBit i).toNat * 2 ^ i
/-- what a deed makes of one number -/
def deedW (k : DK) (i j : Nat) (e : Nat × Int × Int) : List (Nat × Int × Int) :=
  match k with
  | .over => [(e.1 ^^^ 2 ^ i, e.2)]
  | .quarter => [(e.1, turn (e.1.testBit i).toNat e.2)]
  | .back => [(e.1, turn (3 * (e.1.testBit i).toNat) e.2)]
  | .both => [(clr e.1 i, e.2), (clr e.1 i + 2 ^ i, turn (2 * (e.1.testBit i).toNat) e.2)]
  | .wher => [(e.1 ^^^ (e.1.testBit i).toNat * 2 ^ j, e.2)]
  | .swap => [(clr (clr e.1 i) j + (e.1.testBit j).toNat * 2 ^ i + (e.1.testBit i).toNat * 2 ^ j, e.2)]
theorem add_xor {a t : Nat} (h : a &&& t = 0) : a + t = a ^^^ t := by
  have h1 := or_add_and a t
  have h2 := xor_add_and a t
  omega
theorem clr_xor (b i : Nat) : clr b i = b ^^^ (b.testBit i).toNat * 2 ^ i := by
  have h : (b ^^^ (b.testBit i).toNat * 2 ^ i) &&& ((b.testBit i).toNat * 2 ^ i) = 0 := by
    apply Nat.eq_of_testBit_eq
    intro k
    rw [Nat.testBit_and, Nat.testBit_xor, tb_mul, Nat.zero_testBit]
    by_cases e : i = k
    · subst e
      cases b.testBit i <;> simp
    · simp [e]
  have h2 := add_xor h
  rw [Nat.xor_assoc, Nat.xor_self, Nat.xor_zero] at h2
  unfold clr
  omega
theorem clr_tb (b i k : Nat) : (clr b i).testBit k = (!decide (i = k) && b.testBit k) := by
  rw [clr_xor, Nat.testBit_xor, tb_mul]
  by_cases e : i = k
  · subst e
    cases b.testBit i <;> simp
  · simp [e]
theorem add_bit {a i : Nat} {b : Bool} (h : a.testBit i = false) : a + b.toNat * 2 ^ i = a ^^^ b.toNat * 2 ^ i := by
  apply add_xor
  apply Nat.eq_of_testBit_eq
  intro k
  rw [Nat.testBit_and, tb_mul, Nat.zero_testBit]
  by_cases e : i = k
  · subst e
    simp [h]
  · simp [e]
theorem set_xor (b i : Nat) : clr b i + 2 ^ i = clr b i ^^^ 2 ^ i := by
  have h := add_bit (a := clr b i) (i := i) (b := true) (by rw [clr_tb]; simp)
  simpa using h
theorem swap_xor {b i j : Nat} (hij : i ≠ j) : clr (clr b i) j + (b.testBit j).toNat * 2 ^ i + (b.testBit i).toNat * 2 ^ j = ex b i j := by
  have h1 := add_bit (a := clr (clr b i) j) (i := i) (b := b.testBit j) (by rw [clr_tb, clr_tb]; simp)
  rw [h1]
  have h2 := add_bit (a := clr (clr b i) j ^^^ (b.testBit j).toNat * 2 ^ i) (i := j) (b := b.testBit i) (by rw [Nat.testBit_xor, clr_tb, tb_mul]; simp [hij])
  rw [h2]
  unfold ex
  apply Nat.eq_of_testBit_eq
  intro k
  simp only [Nat.testBit_xor, clr_tb, tb_mul]
  by_cases e : i = k
  · subst e
    simp only [Ne.symm hij, decide_true, decide_false, Bool.false_and, Bool.true_and, Bool.not_false, Bool.not_true, Bool.xor_false]
    cases b.testBit i <;> cases b.testBit j <;> rfl
  · by_cases e2 : j = k
    · subst e2
      simp only [e, decide_true, decide_false, Bool.false_and, Bool.true_and, Bool.not_false, Bool.not_true, Bool.xor_false]
      cases b.testBit i <;> cases b.testBit j <;> rfl
    · simp [e, e2]
theorem ex_tb {b i j k : Nat} (hij : i ≠ j) : (ex b i j).testBit k = if k = i then b.testBit j else if k = j then b.testBit i else b.testBit k := by
  unfold ex
  simp only [Nat.testBit_xor, tb_mul]
  by_cases e : k = i
  · subst e
    simp only [Ne.symm hij, decide_true, decide_false, Bool.false_and, Bool.true_and, Bool.xor_false, if_true]
    cases b.testBit k <;> cases b.testBit j <;> rfl
  · by_cases e2 : k = j
    · subst e2
      simp only [e, Ne.symm e, decide_true, decide_false, Bool.false_and, Bool.true_and, Bool.xor_false, if_true, if_false]
      cases b.testBit k <;> cases b.testBit i <;> rfl
    · simp [e, e2, Ne.symm e, Ne.symm e2]
theorem m_xor {m : Nat} (h : m ≤ 1) (b : Bool) : m ^^^ b.toNat = if b then 1 - m else m := by
  match m, h with
  | 0, _ => cases b <;> rfl
  | 1, _ => cases b <;> rfl
end Tw

set_option Elab.async false
set_option linter.all false
set_option maxRecDepth 100000
namespace Tw
theorem pr_eq {a c : Nat} {p q : Int × Int} (h1 : a = c) (h2 : p = q) : (a, p) = (c, q) := by rw [h1, h2]
theorem xor_rc (a b c : Nat) : a ^^^ b ^^^ c = a ^^^ c ^^^ b := by rw [Nat.xor_assoc, Nat.xor_comm b c, ← Nat.xor_assoc]
theorem tb_pow (i k : Nat) : (2 ^ i).testBit k = decide (i = k) := by simp [Nat.testBit_two_pow]
section
variable {i j n b : Nat} {r : Row}
theorem ph_over (ok : r.Ok n) (hi : i < n) : qq r b n % 4 = qq (actW .over i j r) (b ^^^ 2 ^ i) n % 4 := by
  have h := cnt_at (f := fun k => r.z.testBit k && (b ^^^ 2 ^ i).testBit k) (g := fun k => r.z.testBit k && b.testBit k) hi fun k _ hk => by
    simp only [Nat.testBit_xor, tb_pow]
    simp [Ne.symm hk]
  unfold qq actW
  dsimp only at h ⊢
  rw [m_xor ok.m]
  have hm := ok.m
  generalize cnt (fun k => r.z.testBit k && (b ^^^ 2 ^ i).testBit k) n = A at h ⊢
  generalize cnt (fun k => r.z.testBit k && b.testBit k) n = B at h ⊢
  generalize cnt (fun k => r.x.testBit k && r.z.testBit k) n = C at h ⊢
  simp only [Nat.testBit_xor, tb_pow, decide_true] at h
  clear ok
  generalize r.z.testBit i = v0 at h ⊢
  generalize b.testBit i = v1 at h ⊢
  cases v0 <;> cases v1 <;> simp only [Bool.true_and, Bool.false_and, Bool.and_true, Bool.and_false, Bool.xor_false, Bool.false_xor, Bool.true_xor, Bool.xor_true, Bool.not_true, Bool.not_false, Bool.toNat_true, Bool.toNat_false, if_true, if_false, Bool.false_eq_true, Bool.xor_self] at * <;> omega
theorem ph_q (ok : r.Ok n) (hi : i < n) : (((b ^^^ r.x).testBit i).toNat + qq r b n) % 4 = (qq (actW .quarter i j r) b n + (b.testBit i).toNat) % 4 := by
  have h := cnt_at (f := fun k => (r.z ^^^ (r.x.testBit i).toNat * 2 ^ i).testBit k && b.testBit k) (g := fun k => r.z.testBit k && b.testBit k) hi fun k _ hk => by
    simp only [Nat.testBit_xor, tb_mul]
    simp [Ne.symm hk]
  have h2 := cnt_at (f := fun k => r.x.testBit k && (r.z ^^^ (r.x.testBit i).toNat * 2 ^ i).testBit k) (g := fun k => r.x.testBit k && r.z.testBit k) hi fun k _ hk => by
    simp only [Nat.testBit_xor, tb_mul]
    simp [Ne.symm hk]
  unfold qq actW
  dsimp only at h h2 ⊢
  rw [m_xor ok.m]
  have hm := ok.m
  clear ok
  generalize cnt (fun k => (r.z ^^^ (r.x.testBit i).toNat * 2 ^ i).testBit k && b.testBit k) n = A at h h2 ⊢
  generalize cnt (fun k => r.z.testBit k && b.testBit k) n = B at h h2 ⊢
  generalize cnt (fun k => r.x.testBit k && (r.z ^^^ (r.x.testBit i).toNat * 2 ^ i).testBit k) n = C at h h2 ⊢
  generalize cnt (fun k => r.x.testBit k && r.z.testBit k) n = D at h h2 ⊢
  simp only [Nat.testBit_xor, tb_mul, decide_true, Bool.true_and] at h h2 ⊢
  generalize r.z.testBit i = v0 at h h2 ⊢
  generalize b.testBit i = v1 at h h2 ⊢
  generalize r.x.testBit i = v2 at h h2 ⊢
  cases v0 <;> cases v1 <;> cases v2 <;> simp only [Bool.true_and, Bool.false_and, Bool.and_true, Bool.and_false, Bool.xor_false, Bool.false_xor, Bool.true_xor, Bool.xor_true, Bool.not_true, Bool.not_false, Bool.toNat_true, Bool.toNat_false, if_true, if_false, Bool.false_eq_true, Bool.xor_self] at * <;> omega
theorem ph_b (ok : r.Ok n) (hi : i < n) : (3 * ((b ^^^ r.x).testBit i).toNat + qq r b n) % 4 = (qq (actW .back i j r) b n + 3 * (b.testBit i).toNat) % 4 := by
  have h := cnt_at (f := fun k => (r.z ^^^ (r.x.testBit i).toNat * 2 ^ i).testBit k && b.testBit k) (g := fun k => r.z.testBit k && b.testBit k) hi fun k _ hk => by
    simp only [Nat.testBit_xor, tb_mul]
    simp [Ne.symm hk]
  have h2 := cnt_at (f := fun k => r.x.testBit k && (r.z ^^^ (r.x.testBit i).toNat * 2 ^ i).testBit k) (g := fun k => r.x.testBit k && r.z.testBit k) hi fun k _ hk => by
    simp only [Nat.testBit_xor, tb_mul]
    simp [Ne.symm hk]
  unfold qq actW
  dsimp only at h h2 ⊢
  rw [m_xor ok.m]
  have hm := ok.m
  clear ok
  generalize cnt (fun k => (r.z ^^^ (r.x.testBit i).toNat * 2 ^ i).testBit k && b.testBit k) n = A at h h2 ⊢
  generalize cnt (fun k => r.z.testBit k && b.testBit k) n = B at h h2 ⊢
  generalize cnt (fun k => r.x.testBit k && (r.z ^^^ (r.x.testBit i).toNat * 2 ^ i).testBit k) n = C at h h2 ⊢
  generalize cnt (fun k => r.x.testBit k && r.z.testBit k) n = D at h h2 ⊢
  simp only [Nat.testBit_xor, tb_mul, decide_true, Bool.true_and] at h h2 ⊢
  generalize r.z.testBit i = v0 at h h2 ⊢
  generalize b.testBit i = v1 at h h2 ⊢
  generalize r.x.testBit i = v2 at h h2 ⊢
  cases v0 <;> cases v1 <;> cases v2 <;> simp only [Bool.true_and, Bool.false_and, Bool.and_true, Bool.and_false, Bool.xor_false, Bool.false_xor, Bool.true_xor, Bool.xor_true, Bool.not_true, Bool.not_false, Bool.toNat_true, Bool.toNat_false, if_true, if_false, Bool.false_eq_true, Bool.xor_self] at * <;> omega
/-- both: at b with bit i let go (c false) or set -/
theorem ph_h (ok : r.Ok n) (hi : i < n) (c : Bool) : ∀ B : Nat, (∀ k, B.testBit k = if k = i then c else b.testBit k) →
    (qq (actW .both i j r) B n + 2 * (r.z.testBit i && b.testBit i).toNat) % 4 = (qq r b n + 2 * (r.x.testBit i && c).toNat + 2 * (r.x.testBit i && r.z.testBit i).toNat) % 4 := by
  intro B hB
  have h := cnt_at (f := fun k => (r.z ^^^ (r.x.testBit i ^^ r.z.testBit i).toNat * 2 ^ i).testBit k && B.testBit k) (g := fun k => r.z.testBit k && b.testBit k) hi fun k _ hk => by
    simp only [Nat.testBit_xor, tb_mul, hB]
    simp [Ne.symm hk, hk]
  have h2 := cnt_at (f := fun k => (r.x ^^^ (r.x.testBit i ^^ r.z.testBit i).toNat * 2 ^ i).testBit k && (r.z ^^^ (r.x.testBit i ^^ r.z.testBit i).toNat * 2 ^ i).testBit k) (g := fun k => r.x.testBit k && r.z.testBit k) hi fun k _ hk => by
    simp only [Nat.testBit_xor, tb_mul]
    simp [Ne.symm hk]
  unfold qq actW
  dsimp only at h h2 ⊢
  rw [m_xor ok.m]
  have hm := ok.m
  clear ok
  generalize cnt (fun k => (r.z ^^^ (r.x.testBit i ^^ r.z.testBit i).toNat * 2 ^ i).testBit k && B.testBit k) n = A at h h2 ⊢
  generalize cnt (fun k => r.z.testBit k && b.testBit k) n = B1 at h h2 ⊢
  generalize cnt (fun k => (r.x ^^^ (r.x.testBit i ^^ r.z.testBit i).toNat * 2 ^ i).testBit k && (r.z ^^^ (r.x.testBit i ^^ r.z.testBit i).toNat * 2 ^ i).testBit k) n = C at h h2 ⊢
  generalize cnt (fun k => r.x.testBit k && r.z.testBit k) n = D at h h2 ⊢
  simp only [Nat.testBit_xor, tb_mul, decide_true, Bool.true_and, hB, if_true] at h h2 ⊢
  clear hB
  generalize r.z.testBit i = v0 at h h2 ⊢
  generalize b.testBit i = v1 at h h2 ⊢
  generalize r.x.testBit i = v2 at h h2 ⊢
  cases v0 <;> cases v1 <;> cases v2 <;> cases c <;> simp only [Bool.true_and, Bool.false_and, Bool.and_true, Bool.and_false, Bool.xor_false, Bool.false_xor, Bool.true_xor, Bool.xor_true, Bool.not_true, Bool.not_false, Bool.toNat_true, Bool.toNat_false, if_true, if_false, Bool.false_eq_true, Bool.xor_self] at * <;> omega
theorem ph_w (ok : r.Ok n) (hi : i < n) (hj : j < n) (hij : i ≠ j) : qq r b n % 4 = qq (actW .wher i j r) (b ^^^ (b.testBit i).toNat * 2 ^ j) n % 4 := by
  have h := cnt_at2 (f := fun k => (r.z ^^^ (r.z.testBit j).toNat * 2 ^ i).testBit k && (b ^^^ (b.testBit i).toNat * 2 ^ j).testBit k) (g := fun k => r.z.testBit k && b.testBit k) hi hj hij fun k _ hk hk2 => by
    simp only [Nat.testBit_xor, tb_mul]
    simp [Ne.symm hk, Ne.symm hk2]
  have h2 := cnt_at2 (f := fun k => (r.x ^^^ (r.x.testBit i).toNat * 2 ^ j).testBit k && (r.z ^^^ (r.z.testBit j).toNat * 2 ^ i).testBit k) (g := fun k => r.x.testBit k && r.z.testBit k) hi hj hij fun k _ hk hk2 => by
    simp only [Nat.testBit_xor, tb_mul]
    simp [Ne.symm hk, Ne.symm hk2]
  unfold qq actW
  dsimp only at h h2 ⊢
  rw [m_xor ok.m]
  have hm := ok.m
  clear ok
  generalize cnt (fun k => (r.z ^^^ (r.z.testBit j).toNat * 2 ^ i).testBit k && (b ^^^ (b.testBit i).toNat * 2 ^ j).testBit k) n = A at h h2 ⊢
  generalize cnt (fun k => r.z.testBit k && b.testBit k) n = B1 at h h2 ⊢
  generalize cnt (fun k => (r.x ^^^ (r.x.testBit i).toNat * 2 ^ j).testBit k && (r.z ^^^ (r.z.testBit j).toNat * 2 ^ i).testBit k) n = C at h h2 ⊢
  generalize cnt (fun k => r.x.testBit k && r.z.testBit k) n = D at h h2 ⊢
  simp only [Nat.testBit_xor, tb_mul, decide_true, Bool.true_and, hij, Ne.symm hij, decide_false, Bool.false_and, Bool.xor_false] at h h2 ⊢
  clear hij
  generalize r.z.testBit i = v0 at h h2 ⊢
  generalize b.testBit i = v1 at h h2 ⊢
  generalize r.x.testBit i = v2 at h h2 ⊢
  generalize r.z.testBit j = v3 at h h2 ⊢
  generalize b.testBit j = v4 at h h2 ⊢
  generalize r.x.testBit j = v5 at h h2 ⊢
  cases v0 <;> cases v1 <;> cases v2 <;> cases v3 <;> cases v4 <;> cases v5 <;> simp only [Bool.true_and, Bool.false_and, Bool.and_true, Bool.and_false, Bool.xor_false, Bool.false_xor, Bool.true_xor, Bool.xor_true, Bool.not_true, Bool.not_false, Bool.toNat_true, Bool.toNat_false, if_true, if_false, Bool.false_eq_true, Bool.xor_self] at * <;> omega
theorem ph_s (hi : i < n) (hj : j < n) (hij : i ≠ j) : qq r b n = qq (actW .swap i j r) (ex b i j) n := by
  have h := cnt_at2 (f := fun k => (ex r.z i j).testBit k && (ex b i j).testBit k) (g := fun k => r.z.testBit k && b.testBit k) hi hj hij fun k _ hk hk2 => by
    simp only [ex_tb hij, hk, hk2, if_false]
  have h2 := cnt_at2 (f := fun k => (ex r.x i j).testBit k && (ex r.z i j).testBit k) (g := fun k => r.x.testBit k && r.z.testBit k) hi hj hij fun k _ hk hk2 => by
    simp only [ex_tb hij, hk, hk2, if_false]
  unfold qq actW
  dsimp only at h h2 ⊢
  generalize cnt (fun k => (ex r.z i j).testBit k && (ex b i j).testBit k) n = A at h h2 ⊢
  generalize cnt (fun k => (ex r.x i j).testBit k && (ex r.z i j).testBit k) n = C at h h2 ⊢
  simp only [ex_tb hij, Ne.symm hij, if_true, if_false] at h h2
  omega
/-- the row and then the deed, and the deed and then what the row becomes -/
theorem core {k : DK} (ok : r.Ok n) (hi : i < n) (hj : k.n = 2 → j < n ∧ i ≠ j) (p : Int × Int) :
    deedW k i j (rowE r n (b, p)) = (deedW k i j (b, p)).map (rowE (actW k i j r) n) ∨ deedW k i j (rowE r n (b, p)) = ((deedW k i j (b, p)).map (rowE (actW k i j r) n)).reverse := by
  cases k with
  | over =>
    left
    simp only [deedW, rowE, List.map_cons, List.map_nil]
    rw [pr_eq (xor_rc b r.x (2 ^ i)) (turn_mod (ph_over (j := j) ok hi) p)]
    rfl
  | quarter =>
    left
    simp only [deedW, rowE, List.map_cons, List.map_nil, turn_turn]
    rw [pr_eq (rfl : b ^^^ r.x = b ^^^ r.x) (turn_mod (ph_q (j := j) ok hi) p)]
    rfl
  | back =>
    left
    simp only [deedW, rowE, List.map_cons, List.map_nil, turn_turn]
    rw [pr_eq (rfl : b ^^^ r.x = b ^^^ r.x) (turn_mod (ph_b (j := j) ok hi) p)]
    rfl
  | wher =>
    left
    obtain ⟨hj1, hij⟩ := hj rfl
    simp only [deedW, rowE, List.map_cons, List.map_nil]
    refine congrArg (fun x => [x]) (pr_eq ?_ (turn_mod (ph_w ok hi hj1 hij) p))
    unfold actW
    dsimp only
    apply Nat.eq_of_testBit_eq
    intro q
    simp only [Nat.testBit_xor, tb_mul]
    by_cases e : j = q
    · subst e
      simp only [decide_true, Bool.true_and]
      cases b.testBit i <;> cases r.x.testBit i <;> cases b.testBit j <;> cases r.x.testBit j <;> rfl
    · simp [e]
  | swap =>
    left
    obtain ⟨hj1, hij⟩ := hj rfl
    simp only [deedW, rowE, List.map_cons, List.map_nil, swap_xor hij]
    refine congrArg (fun x => [x]) (pr_eq ?_ (by rw [ph_s hi hj1 hij]))
    unfold actW
    dsimp only
    apply Nat.eq_of_testBit_eq
    intro q
    simp only [Nat.testBit_xor, ex_tb hij]
    by_cases e : q = i
    · simp [e]
    · by_cases e2 : q = j
      · subst e2
        simp [Ne.symm hij]
      · simp [e, e2]
  | both =>
    have t0 : ∀ q, (clr b i).testBit q = if q = i then false else b.testBit q := fun q => by
      rw [clr_tb]
      by_cases e : q = i
      · simp [e]
      · simp [e, Ne.symm e]
    have t1 : ∀ q, (clr b i + 2 ^ i).testBit q = if q = i then true else b.testBit q := fun q => by
      rw [set_xor, Nat.testBit_xor, clr_tb, tb_pow]
      by_cases e : q = i
      · simp [e]
      · simp [e, Ne.symm e]
    have p0 := ph_h (j := j) ok hi false (clr b i) t0
    have p1 := ph_h (j := j) ok hi true (clr b i + 2 ^ i) t1
    have k0 : ∀ c : Bool, ∀ B : Nat, (∀ q, B.testBit q = if q = i then c else b.testBit q) → ∀ q, (B ^^^ (r.x ^^^ (r.x.testBit i ^^ r.z.testBit i).toNat * 2 ^ i)).testBit q = if q = i then (c ^^ r.z.testBit i) else (b ^^^ r.x).testBit q := fun c B hB q => by
      simp only [Nat.testBit_xor, tb_mul, hB]
      by_cases e : q = i
      · subst e
        simp only [if_true, decide_true, Bool.true_and]
        cases c <;> cases r.x.testBit q <;> cases r.z.testBit q <;> rfl
      · simp [e, Ne.symm e]
    have l0 : ∀ q, (clr (b ^^^ r.x) i).testBit q = if q = i then false else (b ^^^ r.x).testBit q := fun q => by
      rw [clr_tb]
      by_cases e : q = i
      · simp [e]
      · simp [e, Ne.symm e]
    have l1 : ∀ q, (clr (b ^^^ r.x) i + 2 ^ i).testBit q = if q = i then true else (b ^^^ r.x).testBit q := fun q => by
      rw [set_xor, Nat.testBit_xor, clr_tb, tb_pow]
      by_cases e : q = i
      · simp [e]
      · simp [e, Ne.symm e]
    have keq : ∀ (c : Bool) (B : Nat), (∀ q, B.testBit q = if q = i then c else b.testBit q) → ∀ (L : Nat) (d : Bool), (∀ q, L.testBit q = if q = i then d else (b ^^^ r.x).testBit q) → d = (c ^^ r.z.testBit i) → L = B ^^^ (actW .both i j r).x := fun c B hB L d hL hd => by
      apply Nat.eq_of_testBit_eq
      intro q
      rw [hL, show (actW .both i j r).x = r.x ^^^ (r.x.testBit i ^^ r.z.testBit i).toNat * 2 ^ i from rfl, k0 c B hB, hd]
    simp only [deedW, rowE, List.map_cons, List.map_nil, turn_turn, List.reverse_cons, List.reverse_nil, List.nil_append, List.singleton_append]
    cases hz : r.z.testBit i with
    | false =>
      left
      rw [hz] at p0 p1
      refine congr (congrArg List.cons (pr_eq (keq false _ t0 _ false l0 (by rw [hz]; rfl)) (turn_mod ?_ p))) (congrArg (fun x => [x]) (pr_eq (keq true _ t1 _ true l1 (by rw [hz]; rfl)) (turn_mod ?_ p)))
      · simp only [Bool.false_and, Bool.and_false, Bool.toNat_false] at p0
        omega
      · simp only [Nat.testBit_xor, Bool.false_and, Bool.and_false, Bool.and_true, Bool.toNat_false] at p1 ⊢
        revert p1
        generalize qq (actW .both i j r) (clr b i + 2 ^ i) n = A
        generalize qq r b n = B
        cases b.testBit i <;> cases r.x.testBit i <;> simp only [Bool.toNat_true, Bool.toNat_false, Bool.false_xor, Bool.true_xor, Bool.not_true, Bool.not_false, Bool.xor_false] <;> intro p1 <;> omega
    | true =>
      right
      rw [hz] at p0 p1
      refine congr (congrArg List.cons (pr_eq (keq true _ t1 _ false l0 (by rw [hz]; rfl)) (turn_mod ?_ p))) (congrArg (fun x => [x]) (pr_eq (keq false _ t0 _ true l1 (by rw [hz]; rfl)) (turn_mod ?_ p)))
      · simp only [Bool.true_and, Bool.and_true] at p1
        revert p1
        generalize qq (actW .both i j r) (clr b i + 2 ^ i) n = A
        generalize qq r b n = B
        cases b.testBit i <;> cases r.x.testBit i <;> simp only [Bool.toNat_true, Bool.toNat_false] <;> intro p1 <;> omega
      · simp only [Nat.testBit_xor, Bool.true_and, Bool.and_false, Bool.and_true] at p0 ⊢
        revert p0
        generalize qq (actW .both i j r) (clr b i) n = A
        generalize qq r b n = B
        cases b.testBit i <;> cases r.x.testBit i <;> simp only [Bool.toNat_true, Bool.toNat_false, Bool.false_xor, Bool.true_xor, Bool.not_true, Bool.not_false, Bool.xor_false] <;> intro p0 <;> omega
end
end Tw

set_option Elab.async false
set_option linter.all false
set_option maxRecDepth 100000
namespace Tw
open PySem L2
/-! Rows behind deeds: they stay rows of these wires; what stays. -/
theorem bit_lt {b : Bool} {i n : Nat} (h : i < n) : b.toNat * 2 ^ i < 2 ^ n := by
  have h1 : (2 : Nat) ^ i < 2 ^ n := Nat.pow_lt_pow_right (by decide) h
  have h2 := Nat.two_pow_pos n
  cases b
  · simpa using h2
  · simpa using h1
theorem m_le {m : Nat} (h : m ≤ 1) (b : Bool) : m ^^^ b.toNat ≤ 1 := by
  rw [m_xor h]
  cases b <;> simp <;> omega
theorem actW_ok {k : DK} {i j n : Nat} {r : Row} (ok : r.Ok n) (hi : i < n) (hj : k.n = 2 → j < n) : (actW k i j r).Ok n := by
  cases k with
  | over => exact ⟨m_le ok.m _, ok.x, ok.z⟩
  | quarter => exact ⟨m_le ok.m _, ok.x, xor_lt ok.z (bit_lt hi)⟩
  | back => exact ⟨m_le ok.m _, ok.x, xor_lt ok.z (bit_lt hi)⟩
  | both => exact ⟨m_le ok.m _, xor_lt ok.x (bit_lt hi), xor_lt ok.z (bit_lt hi)⟩
  | wher => exact ⟨m_le ok.m _, xor_lt ok.x (bit_lt (hj rfl)), xor_lt ok.z (bit_lt hi)⟩
  | swap => exact ⟨ok.m, xor_lt (xor_lt ok.x (bit_lt hi)) (bit_lt (hj rfl)), xor_lt (xor_lt ok.z (bit_lt hi)) (bit_lt (hj rfl))⟩
/-- the wires of a deed, one by one -/
theorem Dd.Ok.one {d : Dd} {n : Nat} (ok : d.Ok n) : d.w.getD 0 0 < n ∧ (d.k.n = 2 → d.w.getD 1 0 < n ∧ d.w.getD 0 0 ≠ d.w.getD 1 0) ∧ d.w.getD 0 0 ∈ d.w ∧ (d.k.n = 2 → d.w.getD 1 0 ∈ d.w) := by
  obtain ⟨k, w⟩ := d
  have hl := ok.len
  have hp := k.n_pos
  have hlt := ok.lt
  have hnd := ok.nd
  dsimp only at hl hlt hnd ⊢
  rcases Nat.lt_or_ge k.n 2 with h | h
  · obtain ⟨i, rfl⟩ := one_wire (w := w) (by omega)
    exact ⟨hlt i (by simp), fun z => by omega, by simp, fun z => by omega⟩
  · obtain ⟨i, j, rfl⟩ := two_wires (w := w) (by omega)
    have hij : i ≠ j := by
      intro z
      subst z
      simp at hnd
    exact ⟨hlt i (by simp), fun _ => ⟨hlt j (by simp), hij⟩, by simp, fun _ => by simp⟩
theorem act_ok {d : Dd} {n : Nat} {r : Row} (ok : r.Ok n) (hd : d.Ok n) : (act d r).Ok n := actW_ok ok hd.one.1 fun e => (hd.one.2.1 e).1
end Tw

set_option Elab.async false
set_option linter.all false
set_option maxRecDepth 100000
namespace Tw
open PySem L2
/-! All but what stands at f stays. -/
def But (f : Addr) (H H' : Hp) : Prop := ∀ c o, c ≠ f → H c = some o → H' c = some o
theorem But.upd {f : Addr} {H : Hp} {o : HO} : But f H (L2.upd H f o) := fun c u hc e => by rw [upd_ne hc]; exact e
end Tw

set_option Elab.async false
set_option linter.all false
set_option maxRecDepth 100000
namespace Tw
open PySem L2
/-! Wholes: dicts from numbers of ups and downs to pairs, as lists. -/
abbrev Wh := List (Nat × Int × Int)
inductive WR (K : PySem.W.Frag) (H : Hp) : Wh → List (Key × V) → Prop
  | nil : WR K H [] []
  | cons {b : Nat} {p : Int × Int} {a : Addr} {ws : Wh} {kvs : List (Key × V)} : SqT K H a [.int p.1, .int p.2] → WR K H ws kvs → WR K H ((b, p) :: ws) ((.inl ((b : Nat) : Int), .ref a) :: kvs)
def wat (ws : Wh) (b : Nat) : Option (Int × Int) := (ws.find? fun e => decide (e.1 = b)).map (·.2)
def wput (ws : Wh) (b : Nat) (p : Int × Int) : Wh := if ws.any (fun e => decide (e.1 = b)) then ws.map (fun e => if e.1 = b then (e.1, p) else e) else ws ++ [(b, p)]
section
variable {K : PySem.W.Frag} {H H' : Hp} {ws : Wh} {kvs : List (Key × V)}
theorem WR.stay (h : WR K H ws kvs) (s : ∀ a xs, SqT K H a xs → SqT K H' a xs) : WR K H' ws kvs := by
  induction h with
  | nil => exact .nil
  | cons q _ ih => exact .cons (s _ _ q) ih
theorem WR.len (h : WR K H ws kvs) : kvs.length = ws.length := by
  induction h with
  | nil => rfl
  | cons q _ ih => simp [ih]
theorem key_eq {a b : Nat} : ((Sum.inl ((a : Nat) : Int) : Key) = .inl ((b : Nat) : Int)) ↔ a = b := by
  constructor
  · intro h
    exact Int.ofNat_inj.mp (Sum.inl.inj h)
  · rintro rfl
    rfl
theorem WR.val (h : WR K H ws kvs) (b : Nat) : (valV kvs (.inl ((b : Nat) : Int)) = none ∧ wat ws b = none) ∨ ∃ a p, valV kvs (.inl ((b : Nat) : Int)) = some (.ref a) ∧ SqT K H a [.int p.1, .int p.2] ∧ wat ws b = some p := by
  induction h with
  | nil => exact .inl ⟨rfl, rfl⟩
  | @cons c p a ws kvs q _ ih =>
    by_cases e : c = b
    · subst e
      refine .inr ⟨a, p, valV_pos rfl, q, ?_⟩
      unfold wat
      rw [List.find?_cons, decide_eq_true rfl]
      rfl
    · have e1 : ¬ (Sum.inl ((c : Nat) : Int) : Key) = .inl ((b : Nat) : Int) := fun z => e (key_eq.mp z)
      have e2 : wat ((c, p) :: ws) b = wat ws b := by
        unfold wat
        rw [List.find?_cons, decide_eq_false e]
      rw [e2, valV_neg e1]
      exact ih
theorem WR.any (h : WR K H ws kvs) (b : Nat) : (kvs.any fun kv => decide (kv.1 = .inl ((b : Nat) : Int))) = ws.any fun e => decide (e.1 = b) := by
  induction h with
  | nil => rfl
  | @cons c p a ws kvs q _ ih =>
    rw [List.any_cons, List.any_cons, ih]
    congr 1
    by_cases e : c = b
    · subst e
      rw [decide_eq_true rfl, decide_eq_true rfl]
    · rw [decide_eq_false e, decide_eq_false fun z => e (key_eq.mp z)]
theorem WR.snoc (h : WR K H ws kvs) {b : Nat} {p : Int × Int} {a : Addr} (q : SqT K H a [.int p.1, .int p.2]) : WR K H (ws ++ [(b, p)]) (kvs ++ [(.inl ((b : Nat) : Int), .ref a)]) := by
  induction h with
  | nil => exact .cons q .nil
  | cons q' _ ih => exact .cons q' ih
theorem WR.repl (h : WR K H ws kvs) {b : Nat} {p : Int × Int} {a : Addr} (q : SqT K H a [.int p.1, .int p.2]) : WR K H (ws.map fun e => if e.1 = b then (e.1, p) else e) (kvs.map fun kv => if kv.1 = .inl ((b : Nat) : Int) then (kv.1, .ref a) else kv) := by
  induction h with
  | nil => exact .nil
  | @cons c p' a' ws kvs q' _ ih =>
    rw [List.map_cons, List.map_cons]
    by_cases e : c = b
    · subst e
      rw [if_pos rfl, if_pos rfl]
      exact .cons q ih
    · rw [if_neg e, if_neg fun z => e (key_eq.mp z)]
      exact .cons q' ih
theorem WR.put (h : WR K H ws kvs) {b : Nat} {p : Int × Int} {a : Addr} (q : SqT K H a [.int p.1, .int p.2]) : WR K H (wput ws b p) (putK kvs (.inl ((b : Nat) : Int)) (.ref a)) := by
  unfold wput putK
  rw [h.any b]
  split
  · exact h.repl q
  · exact h.snoc q
theorem WR.get (h : WR K H ws kvs) : ∀ {i : Nat} {k : Key} {v : V}, kvs[i]? = some (k, v) → ∃ b p a, ws[i]? = some (b, p) ∧ k = .inl ((b : Nat) : Int) ∧ v = .ref a ∧ SqT K H a [.int p.1, .int p.2] := by
  induction h with
  | nil => intro i k v e; simp at e
  | @cons c p a ws kvs q _ ih =>
    intro i k v e
    cases i with
    | zero =>
      simp only [List.getElem?_cons_zero, Option.some.injEq, Prod.mk.injEq] at e
      exact ⟨c, p, a, rfl, e.1.symm, e.2.symm, q⟩
    | succ i =>
      rw [List.getElem?_cons_succ] at e ⊢
      exact ih e
/-- the data of what stands at a key -/
def wd (ws : Wh) : Key → PyData
  | .inl i => pairD ((wat ws i.toNat).getD (0, 0))
  | .inr _ => pairD (0, 0)
theorem wat_cons {c b : Nat} {p : Int × Int} (e : c ≠ b) : wat ((c, p) :: ws) b = wat ws b := by
  unfold wat
  rw [List.find?_cons, decide_eq_false e]
theorem wat_hd {c : Nat} {p : Int × Int} : wat ((c, p) :: ws) c = some p := by
  unfold wat
  rw [List.find?_cons, decide_eq_true rfl]
  rfl
theorem wd_flat (ws : Wh) (k : Key) : Flat8 (wd ws k) := by
  cases k with
  | inl i => exact pair_flat _
  | inr x => exact pair_flat _
theorem WR.dv (h : WR K H ws kvs) (nd : (ws.map (·.1)).Nodup) : ∀ k x, (k, x) ∈ kvs → DV K H x (wd ws k) ∧ Flat8 (wd ws k) := by
  suffices s : ∀ k x, (k, x) ∈ kvs → ∃ b a p, k = .inl ((b : Nat) : Int) ∧ x = .ref a ∧ b ∈ ws.map (·.1) ∧ wat ws b = some p ∧ SqT K H a [.int p.1, .int p.2] by
    intro k x hx
    obtain ⟨b, a, p, rfl, rfl, _, e, q⟩ := s k x hx
    refine ⟨?_, wd_flat _ _⟩
    show DV K H (.ref a) (pairD ((wat ws ((b : Nat) : Int).toNat).getD (0, 0)))
    rw [Int.toNat_natCast, e]
    exact pair_dv q
  induction h with
  | nil => intro k x hx; cases hx
  | @cons c p a ws kvs q _ ih =>
    rw [List.map_cons, List.nodup_cons] at nd
    intro k x hx
    rcases List.mem_cons.mp hx with e | hx
    · cases e
      exact ⟨c, a, p, rfl, rfl, by simp, wat_hd, q⟩
    · obtain ⟨b, a', p', rfl, rfl, hb, e, q'⟩ := ih nd.2 k x hx
      refine ⟨b, a', p', rfl, rfl, by simp [hb], ?_, q'⟩
      rw [wat_cons (c := c) (b := b) fun z => nd.1 (by show c ∈ _; rw [z]; exact hb)]
      exact e
theorem WR.same {ws2 : Wh} {kvs2 : List (Key × V)} (h : WR K H ws kvs) (h2 : WR K H ws2 kvs2) (hl : ws.length = ws2.length) (hw : ∀ b, wat ws b = wat ws2 b) (hn : ∀ b ∈ ws.map (·.1), (wat ws b).isSome = true) : sameD kvs kvs2 (wd ws) (wd ws2) = true := by
  unfold sameD
  rw [Bool.and_eq_true]
  refine ⟨decide_eq_true (by rw [h.len, h2.len, hl]), List.all_eq_true.mpr fun kv hkv => ?_⟩
  obtain ⟨i, hi⟩ := List.getElem?_of_mem hkv
  obtain ⟨b, p, a, e1, e2, e3, _⟩ := h.get (k := kv.1) (v := kv.2) hi
  have hb : b ∈ ws.map (·.1) := List.mem_map.mpr ⟨(b, p), List.mem_of_getElem? e1, rfl⟩
  rw [e2, Bool.and_eq_true]
  constructor
  · have hs := hn b hb
    rw [hw b] at hs
    rcases h2.val b with ⟨_, q⟩ | ⟨a2, p2, q, _⟩
    · rw [q] at hs; cases hs
    · rw [q]; rfl
  · have e : wd ws (.inl ((b : Nat) : Int)) = wd ws2 (.inl ((b : Nat) : Int)) := by
      unfold wd
      dsimp only
      rw [Int.toNat_natCast, hw b]
    rw [e]
    unfold wd
    dsimp only
    rw [pair_eqv]
    exact decide_eq_true rfl
end
end Tw

set_option Elab.async false
set_option linter.all false
set_option maxRecDepth 100000
namespace Tw
open PySem L2
/-! The law over deeds on rows: what stays, what wholes come out. -/
def wadd (ws : Wh) (b : Nat) (p : Int × Int) : Wh := wput ws b (((wat ws b).getD (0, 0)).1 + p.1, ((wat ws b).getD (0, 0)).2 + p.2)
def adds (ws es : Wh) : Wh := es.foldl (fun acc e => wadd acc e.1 e.2) ws
theorem wadd_new {ws : Wh} {b : Nat} {p : Int × Int} (h : ∀ e ∈ ws, e.1 ≠ b) : wadd ws b p = ws ++ [(b, p)] := by
  have h1 : (ws.any fun e => decide (e.1 = b)) = false := by
    rw [List.any_eq_false]
    intro e he
    simp [h e he]
  have h2 : wat ws b = none := by
    unfold wat
    rw [List.find?_eq_none.mpr]
    · rfl
    · intro e he
      simp [h e he]
  unfold wadd wput
  rw [h1, h2]
  simp
theorem wput_new {ws : Wh} {b : Nat} {p : Int × Int} (h : ∀ e ∈ ws, e.1 ≠ b) : wput ws b p = ws ++ [(b, p)] := by
  have h1 : (ws.any fun e => decide (e.1 = b)) = false := by
    rw [List.any_eq_false]
    intro e he
    simp [h e he]
  unfold wput
  rw [h1]
  simp
def deedF (d : Dd) (ws : Wh) : Wh := ws.foldl (fun acc e => adds acc (deedW d.k (d.w.getD 0 0) (d.w.getD 1 0) e)) []
def rowF (r : Row) (n : Nat) (ws : Wh) : Wh := ws.foldl (fun acc e => wput acc (rowE r n e).1 (rowE r n e).2) []
theorem xor_inj {a b c : Nat} (h : a ^^^ c = b ^^^ c) : a = b := by
  have := congrArg (· ^^^ c) h
  simpa [Nat.xor_assoc] using this
theorem wat_mem {ws : Wh} {b : Nat} (h : b ∈ ws.map (·.1)) : (wat ws b).isSome = true := by
  obtain ⟨e, he, rfl⟩ := List.mem_map.mp h
  unfold wat
  rw [Option.isSome_map, List.find?_isSome]
  exact ⟨e, he, by simp⟩
end Tw
namespace L2
open PySem
/-- {k: v} -/
def rDisp (p : Addr) (x y : V) (H2 : Hp) (Q : VK) : Prop := H2 p = some (.dK []) ∧ ∃ kvs : List (Key × V), [(x, y)] = kvs.map (fun kv => (kV kv.1, kv.2)) ∧ kvs.length ≤ 15 ∧ Q (.ref p) (upd H2 p (.dK (mergeK [] kvs)))
theorem st_disp1 {tk tv : TE} {σ : St} {H : Hp} {Q : VK} (h : ∀ p, H p = none → tk σ (upd H p (.dK [])) fun x H1 => tv σ H1 fun y H2 => rDisp p x y H2 Q) : tDisp [(tk, tv)] σ H Q := h
theorem st_disp2 {H : Hp} {Q : VK} {p : Addr} {i : Int} {y : V} (h : H p = some (.dK [])) (q : Q (.ref p) (upd H p (.dK [(.inl i, y)]))) : rDisp p (.int i) y H Q := ⟨h, [(.inl i, y)], rfl, Nat.le_of_ble_eq_true rfl, q⟩
/-- a loop over a tuple that its head makes -/
def sForT (K : PySem.W.Frag) (g : TG) (tb : TS) (D : Ends) (σ : St) : V → Hp → Prop := fun x H => ∃ a, x = .ref a ∧ (∃ xs, SqT K H a xs) ∧ ∃ W : Nat → Nat → St → Hp → Prop, (∃ m, W 0 m σ H) ∧ ∀ i m σ H, W i m σ H →
  ((Itt K a).stop i H ∧ D.nx σ H) ∨ ((Itt K a).go i H ∧ ∃ N : St → Hp → Prop, (∀ σ' H', N σ' H' → ∃ m', m' < m ∧ W (i + 1) m' σ' H') ∧ ∀ x H', (Itt K a).yld i H x H' → g x σ H' fun σ2 H2 => tb { D with nx := N, ct := N, bk := D.nx } σ2 H2)
section
variable {K : PySem.W.Frag} {H : Hp} {D : Ends} {σ : St} {g : TG} {tb : TS} {a : Addr} {xs : List V}
end
end L2

set_option Elab.async false
set_option linter.all false
set_option maxRecDepth 100000
namespace L2
open PySem PySem.Spec PyProof.Rows
/-! sum of a list of whole numbers; the values of a dict walked -/
section
variable {X : Cx}
def rSum (K : PySem.W.Frag) : List V → Hp → VK → Prop := fun xs H Q => ∃ (p : Addr) (ns : List Int), xs = [.ref p] ∧ SqL K H p (ns.map V.int) ∧ Q (.int ns.sum) H
theorem call_sumL (hc : X.calm = true) : CallR X (.builtin "sum") (rSum X.K) := by
  intro pins s σ H xs us Q I r h
  obtain ⟨p, ns, rfl, hs, q⟩ := h
  obtain ⟨u, rfl, ru⟩ := vals1 r
  cases ru
  obtain ⟨its, ri, pl, _⟩ := I.list hs
  obtain ⟨xs, e1, e2⟩ := ints_items ri
  have hl : s.heap.IsList p (intItems xs) := by rw [← e1]; exact pl.isList
  refine sum_intListG (I.ok.hd hc) hl fun h' tk t' hk => ⟨.int ns.sum, H, I.kept (t' := tk) hk, ⟨t', ?_⟩, q⟩
  rw [preSum_eq, List.take_of_length_le (by simp), ← e2]
/-- the values of the frozen dict at a -/
def Itv (a : Addr) (o : Obj) (kvs : List (Key × V)) : It :=
  ⟨fun i H => H a = some (.frz o (.dK kvs)) ∧ i < kvs.length, fun i H x H' => H' = H ∧ ∃ k, kvs[i]? = some (k, x), fun i H => H a = some (.frz o (.dK kvs)) ∧ kvs.length ≤ i⟩
end
theorem turn_vals {P : Program} {w : World} {K : PySem.W.Frag} {tg : Expr} (a it : Addr) (o : Obj) (kvs : List (Key × V)) {es : Array DictEntry} {ep : Nat} (hep : o.data = .dict es ep) :
    Turn P w K tg (Itv a o kvs) [it] it (fun i h => h.IsValIter it a i kvs.length ep ∧ i ≤ kvs.length) where
  mem := by simp
  obj := fun i h st b hb => by
    have e : b = it := by simpa using hb
    subst e
    obtain ⟨⟨ob, q, _, qd⟩, _⟩ := st
    exact ⟨ob, q, fun v z => by rw [qd] at z; cases z⟩
  keep := fun i h h' st k => by
    obtain ⟨⟨ob, q, r⟩, l⟩ := st
    exact ⟨⟨ob, k it (by simp) _ q, r⟩, l⟩
  item := by
    intro X hP hw hK hc i pins s σ H E I hf st hg
    subst hP hw hK
    obtain ⟨hz, hi⟩ := hg
    obtain ⟨f0, f1, f2, f3, f4, f5⟩ := hf it (by simp)
    obtain ⟨hit, _⟩ := st
    obtain ⟨go, _, _, vs, rel, o', es', ep', g', ex, hd', r'⟩ := (show ObjOk X.prog X.w H s.heap a (.frz o (.dK kvs)) from I.hok a _ hz)
    rw [go] at g'; cases g'
    rw [hep] at hd'; cases hd'
    have hm : s.heap.DictAt (mixKind X.prog X.w) a vs ep := ⟨o, es, go, ex, hep, r'⟩
    have hl : vs.length = kvs.length := rel.length.symm
    obtain ⟨k, x, hx⟩ : ∃ k x, kvs[i]? = some (k, x) := ⟨_, _, List.getElem?_eq_getElem hi⟩
    obtain ⟨v, hv, rv⟩ := kv_get rel hx
    rw [← hl] at hit
    refine wpAny_pyNext_values_item (knd := mixKind X.prog X.w) hit hm hv fun h' hit' hs' => ⟨_, rfl, ?_⟩
    obtain ⟨o2, q2, c2, d2⟩ := id hit'
    refine go_of (s := { s with heap := h' }) q2 c2 d2 (by decide) ⟨x, H, I.turned (t' := s.toks) (fun b o hb e => hs'.extBut b o hb e) f0 f1 f3 f4 f5, rv, ⟨rfl, k, hx⟩, ⟨by rw [← hl]; exact hit', hi⟩, fun b hb => ?_⟩
    have e : b = it := by simpa using hb
    subst e
    exact f0
  done := by
    intro X hP hw hK hc i pins s σ H E I hf st hg
    subst hP hw hK
    obtain ⟨hz, hi⟩ := hg
    obtain ⟨f0, f1, f2, f3, f4, f5⟩ := hf it (by simp)
    obtain ⟨hit, _⟩ := st
    obtain ⟨go, _, _, vs, rel, o', es', ep', g', ex, hd', r'⟩ := (show ObjOk X.prog X.w H s.heap a (.frz o (.dK kvs)) from I.hok a _ hz)
    rw [go] at g'; cases g'
    rw [hep] at hd'; cases hd'
    have hm : s.heap.DictAt (mixKind X.prog X.w) a vs ep := ⟨o, es, go, ex, hep, r'⟩
    have hl : vs.length = kvs.length := rel.length.symm
    rw [← hl] at hit
    exact wpAny_pyNext_values_end (knd := mixKind X.prog X.w) (I.ok.hd hc) hit hm (List.getElem?_eq_none (by omega)) fun h' eb => ⟨rfl, I.turned (t' := s.toks) (fun b o hb e => eb b o (by simpa using hb) e) f0 f1 f3 f4 f5⟩
  self := fun _ _ _ _ _ st h => by
    exact wpAny_pyIter_valiter st.1 h
section
variable {X : Cx}
/-- d.values() as it is walked: d is frozen from here on -/
def iVals (tl : TE) : TI := fun σ H R => tl σ H fun x H1 => ∃ a kvs, x = .ref a ∧ ((H1 a = some (.dK kvs) ∧ ∀ o, R (Itv a o kvs) (upd H1 a (.frz o (.dK kvs)))) ∨ ∃ o, H1 a = some (.frz o (.dK kvs)) ∧ R (Itv a o kvs) H1)
theorem pi_vals {tg : Expr} {l : Expr} {tl : TE} {apos cpos : Pos} (hl : PE X l tl) (hbase : attributeBase l "values" X.env (eval l X.env) = eval l X.env := by rfl) (hline : (apos.endLine == cpos.line) = true := by rfl) :
    PI X tg (.Call (.Attribute l "values" apos) [] [] cpos) (iVals tl) := by
  intro pins s σ H R I h
  refine wpAny_Call_method0_late hbase hline (thn (hl pins s σ H _ I h) fun v s1 ⟨x, H1, I1, r1, q1⟩ => ?_)
  obtain ⟨a, kvs, rfl, q⟩ := q1
  cases r1
  have rd : Rd H1 a (.dK kvs) := by
    rcases q with ⟨e, _⟩ | ⟨o, e, _⟩
    · exact .inl e
    · exact .inr ⟨o, e⟩
  obtain ⟨z, hsy, vs, rel, dd⟩ := dk_rd I1.hok rd
  obtain ⟨o, es, ep, go, ex, hd, r'⟩ := id dd
  refine ⟨"dict", "dict.values", PySem.F.plainAttrs_dict, PySem.F.slot_dict_values, PySem.F.type_dict_values, ⟨o, go, ex.1⟩, fun b e => by cases e; exact ⟨o, go, ex.2.1⟩, Calls.callWith_builtin rfl (PySem.evalArgs_none ?_)⟩
  refine call_meetsIn PySem.F.slot_dict_values dd.typeIs PySem.F.entry_dict_values (PySem.F.args_dict_values_1 _) (meets_dict_values (mixKind X.prog X.w) a hsy) ⟨⟨vs, dd⟩, ?_⟩
  have I2 : Inv X pins σ H1 { s1 with heap := s1.heap.push { cls := .type "dict_values", data := .fields #[.ref a] } } := I1.kept (t' := s1.toks) fun b ob e => Heap.get?_push_of_some _ e
  have hm : s1.heap.DictAt (mixKind X.prog X.w) a vs ep := ⟨o, es, go, ex, hd, r'⟩
  refine wpAny_pyIter_values (knd := mixKind X.prog X.w) (d := a) (kvs := vs) (ep := ep) ⟨_, Heap.get?_push_size _ rfl, rfl, rfl⟩ (hm.push _) ?_
  dsimp only
  generalize hG : s1.heap.push { cls := .type "dict_values", data := .fields #[.ref a] } = G at I2 ⊢
  have goG : G.get? a = some o := by rw [← hG]; exact Heap.get?_push_of_some _ go
  have I3 : ∀ H2, Inv X pins σ H2 { s1 with heap := G } → Inv X pins σ H2 { s1 with heap := G.push { cls := .type "dict_valueiterator", data := .fields #[.ref a, .int 0 0, .int vs.length 0, .int ep 0] } } := fun H2 J => J.kept (t' := s1.toks) fun b ob e => Heap.get?_push_of_some _ e
  have hln : vs.length = kvs.length := rel.length.symm
  have st : ∀ i, i = 0 → (G.push { cls := .type "dict_valueiterator", data := .fields #[.ref a, .int 0 0, .int vs.length 0, .int ep 0] }).IsValIter G.objs.size a i kvs.length ep ∧ i ≤ kvs.length := fun i hi => by
    subst hi
    refine ⟨⟨_, Heap.get?_push_size _ rfl, rfl, ?_⟩, Nat.zero_le _⟩
    rw [hln]
    rfl
  rcases q with ⟨e, q⟩ | ⟨o2, e, q⟩
  · have J := I2.freeze e goG
    refine ⟨G.objs.size, [G.objs.size], _, _, _, rfl, I3 _ J, turn_vals a _ o kvs hd, st 0 rfl, fun b hb => ?_, q o⟩
    have e : b = G.objs.size := by simpa using hb
    subst e
    exact J.fpOk (Nat.le_refl _) (J.hok.fresh (Nat.le_refl _))
  · have x : s1.heap.get? a = some o2 := (show s1.heap.get? a = some o2 ∧ _ from I1.hok a _ e).1
    rw [go] at x; cases x
    refine ⟨G.objs.size, [G.objs.size], _, _, _, rfl, I3 _ I2, turn_vals a _ o kvs hd, st 0 rfl, fun b hb => ?_, q⟩
    have e : b = G.objs.size := by simpa using hb
    subst e
    exact I2.fpOk (Nat.le_refl _) (I2.hok.fresh (Nat.le_refl _))
/-- an expression that freezes a dict and is done with it -/
def tThawE (t : TE) : TE := fun σ H Q => ∃ a kvs, H a = some (.dK kvs) ∧ t σ H fun v H' => ∃ o, H' a = some (.frz o (.dK kvs)) ∧ Q v (upd H' a (.dK kvs))
theorem pe_thaw {e : Expr} {t : TE} (h : PE X e t) : PE X e (tThawE t) := by
  intro pins s σ H Q I q
  obtain ⟨a, kvs, ea, q⟩ := q
  have h0 : ∀ o u, X.H₀ a ≠ some (.frz o u) := fun o u z => by
    have := I.base.frzs a o u z
    rw [ea] at this; cases this
  exact thn (h pins s σ H _ I q) fun v s1 ⟨x, H1, I1, r1, o, e1, q1⟩ => ⟨x, _, I1.thaw h0 e1, r1, q1⟩
end
section
variable {K : PySem.W.Frag} {tl : TE} {tt : TT} {te : TE} {Q : VK} {σ : St} {H : Hp} {a : Addr} {kvs : List (Key × V)}
/-- [.. for x, y in d.values()] -/
theorem st_cpV (e : ∀ P : V → Hp → Prop, P (.ref a) H → tl σ H P) (h : H a = some (.dK kvs)) (hn : kvs.length ≤ 1000) (Pv : Obj → Nat → List V → Hp → Prop)
    (h0 : ∀ o, Pv o 0 [] (upd H a (.frz o (.dK kvs)))) (hl : ∀ o i ys H, Pv o i ys H → ys.length ≤ i) (hk : ∀ o i ys H, Pv o i ys H → H a = some (.frz o (.dK kvs)))
    (hs : ∀ o i k v ys H, kvs[i]? = some (k, v) → Pv o i ys H → ∃ b x y, v = .ref b ∧ SqT K H b [x, y] ∧ tt (some x :: some y :: σ) H fun b H2 => if b = true then te (some x :: some y :: σ) H2 fun y H3 => Pv o (i + 1) (ys ++ [y]) H3 else Pv o (i + 1) ys H2)
    (hd : ∀ o ys H, Pv o kvs.length ys H → ∀ p, H p = none → Q (.ref p) (upd (upd H p (.lst ys)) a (.dK kvs))) : tThawE (tComp2 K (iVals tl) tt te) σ H Q := by
  refine ⟨a, kvs, h, e _ ⟨a, kvs, rfl, .inl ⟨h, fun o => ⟨fun i m ys H => m = kvs.length - i ∧ i ≤ kvs.length ∧ Pv o i ys H, ⟨kvs.length, by simp, Nat.zero_le _, h0 o⟩, ?_⟩⟩⟩⟩
  rintro i m ys H ⟨rfl, hi, p⟩
  by_cases hlt : i < kvs.length
  · refine .inr ⟨⟨hk o i ys H p, hlt⟩, small1000 (by have := hl o i ys H p; omega), Pv o (i + 1), fun σ' H' p' => ⟨kvs.length - (i + 1), by omega, rfl, hlt, p'⟩, fun x H' y => ?_⟩
    obtain ⟨rfl, k, hx⟩ := y
    exact hs o i k x ys _ hx p
  · have e : i = kvs.length := by omega
    subst e
    refine .inl ⟨⟨hk o _ ys H p, Nat.le_refl _⟩, fun q hq => ⟨o, ?_, hd o ys H p q hq⟩⟩
    rw [upd_ne (ne_of_none (hk o _ ys H p) hq)]
    exact hk o _ ys H p
theorem st_sum {ns : List Int} (s : SqL K H a (ns.map V.int)) (q : Q (.int ns.sum) H) : rSum K [.ref a] H Q := ⟨a, ns, rfl, s, q⟩
end
end L2

set_option Elab.async false
set_option linter.all false
set_option maxRecDepth 100000
/-! dict(a list of pairs) -/
namespace PySem
open Sem (wp)
namespace F
end F
section
variable {prog : Program} {w : World} {K : Type} [DecidableEq K] {knd : KeyKind prog w K} {A : Around} {R : Result → Shared → Prop}
end
end PySem
namespace L2
open PySem PySem.Spec PyProof.Rows
section
variable {X : Cx}
/-- the pairs in their places -/
def PairsAt (K : PySem.W.Frag) (H : Hp) : List Addr → List (Key × V) → Prop := Paired fun a (kv : Key × V) => SqT K H a [kV kv.1, kv.2]
def rDictP (K : PySem.W.Frag) : List V → Hp → VK → Prop := fun xs H Q => ∃ (p : Addr) (as : List Addr) (kvs : List (Key × V)), xs = [.ref p] ∧ H p = some (.lst (as.map V.ref)) ∧ kvs.length ≤ 1000 ∧ PairsAt K H as kvs ∧ (kvs.map (·.1)).Nodup ∧ ∀ q, H q = none → Q (.ref q) (upd H q (.dK kvs))
end
end L2

set_option Elab.async false
set_option linter.all false
set_option maxRecDepth 100000
namespace L2
open PySem PySem.Spec PyProof.Rows
/-- products up to 2 ** 300 -/
def CMulV (i j : Int) : Prop := i.natAbs < 2 ^ 300 ∧ j.natAbs < 2 ^ 300
theorem bits300V {k : Int} (h : k.natAbs < 2 ^ 300) : Builtin.Int.intBits k ≤ 300 := by
  unfold Builtin.Int.intBits
  split
  · exact Nat.zero_le _
  · rcases Nat.eq_zero_or_pos k.natAbs with z | z
    · rw [z]; decide
    · exact (Nat.log2_lt (Nat.ne_of_gt z)).mpr h
theorem op_mulV {X : Cx} : OpR X (binaryOp .Mult) (rI CMulV fun i j => .int (i * j)) := opI fun _ _ _ _ _ _ _ hc q => mul_int q (IntMulOk.of_bits (Nat.le_trans (bits300V hc.1) (by decide)) (Nat.le_trans (bits300V hc.2) (by decide)))
theorem cmulV {i j : Int} (h : i.natAbs < 2 ^ 100) (h2 : j.natAbs < 2 ^ 100) : CMulV i j := ⟨Nat.lt_trans h (by decide), Nat.lt_trans h2 (by decide)⟩
theorem st_par {i j : Nat} {ta : TA} {D : Ends} {σ : St} {H : Hp} (h : ta σ H fun vs H1 => ∃ v w, vs = [v, w] ∧ D.nx ((σ.set i (some v)).set j (some w)) H1) : tPar i j ta D σ H := h
end L2
namespace Tw
open PySem L2
/-! Rows that act on wholes. -/
def crs (r q : Row) : Nat := (r.x &&& q.z) ^^^ (r.z &&& q.x)

/-- the quarters of two rows done one behind the other, less the product's own letters y -/
def qrt (r q : Row) : Int := 2 * ((r.m : Int) + (q.m : Int) + (pop (r.x &&& q.z) : Nat)) + (pop (r.x &&& r.z) : Nat) + (pop (q.x &&& q.z) : Nat) - (pop ((r.x ^^^ q.x) &&& (r.z ^^^ q.z)) : Nat)
def prod (r q : Row) : Row := ⟨(qrt r q % 4 / 2).toNat, r.x ^^^ q.x, r.z ^^^ q.z⟩
/-- the quarters that a row turns the number b by -/
def trn (r : Row) (b : Nat) : Nat := 2 * r.m + 2 * pop (r.z &&& b) + pop (r.x &&& r.z)
/-- what a row makes of one number -/
def tE (r : Row) (e : Nat × Int × Int) : Nat × Int × Int := (e.1 ^^^ r.x, turn (trn r e.1) e.2)
def negE (e : Nat × Int × Int) : Nat × Int × Int := (e.1, (0 - e.2.1, 0 - e.2.2))
def wgt (ws : Wh) : Int := (ws.map fun e => e.2.1 * e.2.1 + e.2.2 * e.2.2).sum
/-- a whole: keys unlike, numbers not too great -/
structure Wok (ws : Wh) : Prop where
  nd : (ws.map (·.1)).Nodup
  sm : ∀ e ∈ ws, e.2.1.natAbs < 2 ^ 100 ∧ e.2.2.natAbs < 2 ^ 100
theorem turn_abs (q : Nat) {p : Int × Int} {N : Nat} (h : p.1.natAbs < N ∧ p.2.natAbs < N) : (turn q p).1.natAbs < N ∧ (turn q p).2.natAbs < N := by
  have c : q % 4 = 0 ∨ q % 4 = 1 ∨ q % 4 = 2 ∨ q % 4 = 3 := by omega
  rcases c with c | c | c | c
  · rw [turn_mod (b := 0) (by omega)]; exact h
  · rw [turn_mod (b := 1) (by omega)]
    show (-p.2).natAbs < N ∧ p.1.natAbs < N
    rw [Int.natAbs_neg]; exact ⟨h.2, h.1⟩
  · rw [turn_mod (b := 2) (by omega)]
    show (-p.1).natAbs < N ∧ (-p.2).natAbs < N
    rw [Int.natAbs_neg, Int.natAbs_neg]; exact h
  · rw [turn_mod (b := 3) (by omega)]
    show p.2.natAbs < N ∧ (-p.1).natAbs < N
    rw [Int.natAbs_neg]; exact ⟨h.2, h.1⟩
theorem wput_keys (ws : Wh) (b : Nat) (p : Int × Int) : (wput ws b p).map (·.1) = if ws.any (fun e => decide (e.1 = b)) then ws.map (·.1) else ws.map (·.1) ++ [b] := by
  unfold wput
  split
  · rw [List.map_map]
    apply List.map_congr_left
    intro e _
    show (if e.1 = b then (e.1, p) else e).1 = e.1
    split <;> rfl
  · rw [List.map_append]; rfl
/-- a row's whole, one by one -/
theorem tE_step {r : Row} {ws : Wh} {i : Nat} {e : Nat × Int × Int} (nd : (ws.map (·.1)).Nodup) (h : ws[i]? = some e) : (ws.take (i + 1)).map (tE r) = wput ((ws.take i).map (tE r)) (tE r e).1 (tE r e).2 := by
  have ht : ws.take (i + 1) = ws.take i ++ [e] := by
    rw [List.take_add_one, h]; rfl
  rw [ht, List.map_append, wput_new fun f hf => ?_]
  · rfl
  · obtain ⟨g, hg, rfl⟩ := List.mem_map.mp hf
    intro z
    have z' : g.1 = e.1 := xor_inj z
    have nd2 : ((ws.take (i + 1)).map (·.1)).Nodup := by
      rw [List.map_take]
      exact List.Sublist.nodup (List.take_sublist _ _) nd
    rw [ht, List.map_append, List.nodup_append] at nd2
    exact nd2.2.2 g.1 (List.mem_map.mpr ⟨g, hg, rfl⟩) e.1 (by simp) z'
theorem But.tup {K : PySem.W.Frag} {f : Addr} {H H' : Hp} (h : But f H H') {kvs : List (Key × V)} (hf : H f = some (.dK kvs)) : ∀ a xs, SqT K H a xs → SqT K H' a xs := fun a xs s => by
  rcases s with (s | ⟨o, s⟩) | s
  · exact .inl (.inl (h _ _ (ne_of s hf (by intro z; cases z)) s))
  · exact .inl (.inr ⟨o, h _ _ (ne_of s hf (by intro z; cases z)) s⟩)
  · exact .inr s
theorem frz_tup {K : PySem.W.Frag} {H : Hp} {a : Addr} {o : Obj} {kvs : List (Key × V)} {u : HO} (h : H a = some (.frz o (.dK kvs))) : ∀ x xs, SqT K H x xs → SqT K (upd H a u) x xs := fun x xs s => by
  rcases s with (s | ⟨o', s⟩) | s
  · exact .inl (.inl (by rw [upd_ne (ne_of s h (by intro z; cases z))]; exact s))
  · exact .inl (.inr ⟨o', by rw [upd_ne (ne_of s h (by intro z; cases z))]; exact s⟩)
  · exact .inr s
section
variable {K : PySem.W.Frag} {H : Hp} {Q : VK} {a b : Addr} {kvs kvs2 : List (Key × V)} {ws : Wh}
end
theorem cut_intsG (ns : List Int) (lo hi : Nat) : ∃ ms : List Int, cutV (ns.map V.int) (some (lo : Int)) (some (hi : Int)) = ms.map V.int ∧ ms.length ≤ hi - lo := by
  refine ⟨(ns.drop (min lo ns.length)).take (min hi ns.length - min lo ns.length), ?_, by rw [List.length_take, List.length_drop]; omega⟩
  unfold cutV
  rw [HT.sIx_nat, HT.sIx_nat, List.length_map, List.map_take, List.map_drop]
theorem take_succV {α : Type} {l : List α} {i : Nat} {x : α} (h : l[i]? = some x) : l.take (i + 1) = l.take i ++ [x] := by rw [List.take_add_one, h]; rfl
end Tw
namespace L2
open PySem PySem.Spec PyProof.Rows
end L2
namespace Tw
open PySem L2
/-- the whole ws stands at a -/
def WhAt (K : PySem.W.Frag) (H : Hp) (a : Addr) (ws : Wh) : Prop := ∃ kvs, H a = some (.dK kvs) ∧ WR K H ws kvs
theorem WhAt.stay {K : PySem.W.Frag} {H H' : Hp} {a : Addr} {ws : Wh} (h : WhAt K H a ws) (s : Same H H') : WhAt K H' a ws := by
  obtain ⟨kvs, h1, h2⟩ := h
  exact ⟨kvs, s _ _ h1, h2.stay fun a xs q => s.tup q⟩
end Tw

set_option Elab.async false
set_option linter.all false
set_option maxRecDepth 100000
namespace L2
open PySem PySem.Spec PyProof.Rows
/-! the keys of a dict: as a list, and walked -/
theorem vals_by {xs : List V} {us : List Value} (hl : xs.length = us.length) (h : ∀ i (hx : i < xs.length) (hu : i < us.length), RelV xs[i] us[i]) : Vals xs us := by
  induction xs generalizing us with
  | nil =>
    cases us with
    | nil => exact .nil
    | cons u us => cases hl
  | cons x xs ih =>
    cases us with
    | nil => cases hl
    | cons u us =>
      exact .cons (h 0 (Nat.succ_pos _) (Nat.succ_pos _)) (ih (Nat.succ.inj hl) fun i hx hu => h (i + 1) (Nat.succ_lt_succ hx) (Nat.succ_lt_succ hu))
/-- the keys, as they come -/
def ksV (kvs : List (Key × V)) : List V := kvs.map fun kv => kV kv.1
section
variable {X : Cx}
def rLstD : List V → Hp → VK → Prop := fun xs H Q => ∃ a kvs, xs = [V.ref a] ∧ Rd H a (.dK kvs) ∧ ∀ p, H p = none → Q (.ref p) (upd H p (.lst (ksV kvs)))
theorem call_listD (hc : X.calm = true) : CallR X (.type "list") rLstD := by
  intro pins s σ H xs us Q I r h
  obtain ⟨a, kvs, rfl, ha, q⟩ := h
  obtain ⟨u, rfl, ru⟩ := Vals.one r
  cases (show u = Value.ref a from ru)
  obtain ⟨z, lo, vs, rel, dd⟩ := dk_rd I.hok ha
  obtain ⟨ep, hm⟩ := dd.dictAt
  have hl : vs.length = kvs.length := rel.length.symm
  refine PySem.W.kdl_call (PySem.W.kdl_dict (kvs := vs) (ep := ep) lo) (I.ok.hd hc) hm (by rw [hl]; exact z) fun h' tk acc' c' kp e it => ?_
  have hsz : acc'.size = vs.length := it.1
  refine ⟨.ref s.heap.objs.size, _, I.laid (t' := tk) kp (Nat.le_refl _) (show ObjOk X.prog X.w _ h' _ (.lst (ksV kvs)) from ⟨by unfold ksV; rw [List.length_map]; exact z, acc'.toList, c', ?_, by simpa using e⟩), rfl, q _ (I.hok.fresh (Nat.le_refl _))⟩
  unfold ksV
  have hsz2 : acc'.toList.length = acc'.size := Array.length_toList
  refine vals_by (by rw [List.length_map, hsz2]; omega) fun i hx hu => ?_
  have hu' : i < acc'.size := by simpa using hu
  have hx' : i < kvs.length := by simpa using hx
  obtain ⟨k, x, e1, e2⟩ := it.2 i acc'[i] (by simp [hu'])
  obtain ⟨v, hv, rv⟩ := kv_get rel (show kvs[i]? = some (kvs[i].1, kvs[i].2) from List.getElem?_eq_getElem hx')
  rw [hv] at e1
  cases e1
  have e5 : (kvs.map fun kv => kV kv.1)[i] = kV kvs[i].1 := List.getElem_map ..
  have e6 : acc'.toList[i] = acc'[i] := Array.getElem_toList ..
  rw [e5, e6]
  exact key_rel e2
/-- the keys of the frozen dict at a -/
def Itk (a : Addr) (o : Obj) (kvs : List (Key × V)) : It :=
  ⟨fun i H => H a = some (.frz o (.dK kvs)) ∧ i < kvs.length, fun i H x H' => H' = H ∧ ∃ k v, x = kV k ∧ kvs[i]? = some (k, v), fun i H => H a = some (.frz o (.dK kvs)) ∧ kvs.length ≤ i⟩
end
theorem turn_keys {P : Program} {w : World} {K : PySem.W.Frag} {tg : Expr} (a it : Addr) (o : Obj) (kvs : List (Key × V)) {es : Array DictEntry} {ep : Nat} (hep : o.data = .dict es ep) :
    Turn P w K tg (Itk a o kvs) [it] it (fun i h => h.IsKeyIter it a i kvs.length ep ∧ i ≤ kvs.length) where
  mem := by simp
  obj := fun i h st b hb => by
    have e : b = it := by simpa using hb
    subst e
    obtain ⟨⟨ob, q, _, qd⟩, _⟩ := st
    exact ⟨ob, q, fun v z => by rw [qd] at z; cases z⟩
  keep := fun i h h' st k => by
    obtain ⟨⟨ob, q, r⟩, l⟩ := st
    exact ⟨⟨ob, k it (by simp) _ q, r⟩, l⟩
  item := by
    intro X hP hw hK hc i pins s σ H E I hf st hg
    subst hP hw hK
    obtain ⟨hz, hi⟩ := hg
    obtain ⟨f0, f1, f2, f3, f4, f5⟩ := hf it (by simp)
    obtain ⟨hit, _⟩ := st
    obtain ⟨go, _, _, vs, rel, o', es', ep', g', ex, hd', r'⟩ := (show ObjOk X.prog X.w H s.heap a (.frz o (.dK kvs)) from I.hok a _ hz)
    rw [go] at g'; cases g'
    rw [hep] at hd'; cases hd'
    have hm : s.heap.DictAt (mixKind X.prog X.w) a vs ep := ⟨o, es, go, ex, hep, r'⟩
    have hl : vs.length = kvs.length := rel.length.symm
    obtain ⟨k, x, hx⟩ : ∃ k x, kvs[i]? = some (k, x) := ⟨_, _, List.getElem?_eq_getElem hi⟩
    obtain ⟨v, hv, rv⟩ := kv_get rel hx
    rw [← hl] at hit
    refine wpAny_pyNext_dict_item (knd := mixKind X.prog X.w) hit hm hv fun key h' hkey hit' hs' => ⟨_, rfl, ?_⟩
    obtain ⟨o2, q2, c2, d2⟩ := id hit'
    refine go_of (s := { s with heap := h' }) q2 c2 d2 (by decide) ⟨kV k, H, I.turned (t' := s.toks) (fun b o hb e => hs'.extBut b o hb e) f0 f1 f3 f4 f5, key_rel hkey, ⟨rfl, k, x, rfl, hx⟩, ⟨by rw [← hl]; exact hit', hi⟩, fun b hb => ?_⟩
    have e : b = it := by simpa using hb
    subst e
    exact f0
  done := by
    intro X hP hw hK hc i pins s σ H E I hf st hg
    subst hP hw hK
    obtain ⟨hz, hi⟩ := hg
    obtain ⟨f0, f1, f2, f3, f4, f5⟩ := hf it (by simp)
    obtain ⟨hit, _⟩ := st
    obtain ⟨go, _, _, vs, rel, o', es', ep', g', ex, hd', r'⟩ := (show ObjOk X.prog X.w H s.heap a (.frz o (.dK kvs)) from I.hok a _ hz)
    rw [go] at g'; cases g'
    rw [hep] at hd'; cases hd'
    have hm : s.heap.DictAt (mixKind X.prog X.w) a vs ep := ⟨o, es, go, ex, hep, r'⟩
    have hl : vs.length = kvs.length := rel.length.symm
    rw [← hl] at hit
    exact wpAny_pyNext_dict_end (knd := mixKind X.prog X.w) (I.ok.hd hc) hit hm (List.getElem?_eq_none (by omega)) fun h' eb => ⟨rfl, I.turned (t' := s.toks) (fun b o hb e => eb b o (by simpa using hb) e) f0 f1 f3 f4 f5⟩
  self := fun _ _ _ _ _ st h => by
    exact wpAny_pyIter_keyiter st.1 h
section
variable {X : Cx}
/-- d as it is walked: d is frozen from here on -/
def iKeys (tl : TE) : TI := fun σ H R => tl σ H fun x H1 => ∃ a kvs, x = .ref a ∧ ((H1 a = some (.dK kvs) ∧ ∀ o, R (Itk a o kvs) (upd H1 a (.frz o (.dK kvs)))) ∨ ∃ o, H1 a = some (.frz o (.dK kvs)) ∧ R (Itk a o kvs) H1)
theorem pi_keys {tg : Expr} {l : Expr} {tl : TE} (hl : PE X l tl) : PI X tg l (iKeys tl) := by
  intro pins s σ H R I h
  refine thn (hl pins s σ H _ I h) fun v s1 ⟨x, H1, I1, r1, q1⟩ => ?_
  obtain ⟨a, kvs, rfl, q⟩ := q1
  cases r1
  have rd : Rd H1 a (.dK kvs) := by
    rcases q with ⟨e, _⟩ | ⟨o, e, _⟩
    · exact .inl e
    · exact .inr ⟨o, e⟩
  obtain ⟨z, hsy, vs, rel, dd⟩ := dk_rd I1.hok rd
  obtain ⟨o, es, ep, go, ex, hd, r'⟩ := id dd
  have hm : s1.heap.DictAt (mixKind X.prog X.w) a vs ep := ⟨o, es, go, ex, hd, r'⟩
  refine wpAny_pyIter_dict (knd := mixKind X.prog X.w) (d := a) (kvs := vs) (ep := ep) hsy hm ?_
  have I3 : ∀ H2, Inv X pins σ H2 s1 → Inv X pins σ H2 { s1 with heap := s1.heap.push { cls := .type "dict_keyiterator", data := .fields #[.ref a, .int 0 0, .int vs.length 0, .int ep 0] } } := fun H2 J => J.kept (t' := s1.toks) fun b ob e => Heap.get?_push_of_some _ e
  have hln : vs.length = kvs.length := rel.length.symm
  have st : ∀ i, i = 0 → (s1.heap.push { cls := .type "dict_keyiterator", data := .fields #[.ref a, .int 0 0, .int vs.length 0, .int ep 0] }).IsKeyIter s1.heap.objs.size a i kvs.length ep ∧ i ≤ kvs.length := fun i hi => by
    subst hi
    refine ⟨⟨_, Heap.get?_push_size _ rfl, rfl, ?_⟩, Nat.zero_le _⟩
    rw [hln]
    rfl
  rcases q with ⟨e, q⟩ | ⟨o2, e, q⟩
  · have J := I1.freeze e go
    refine ⟨s1.heap.objs.size, [s1.heap.objs.size], _, _, _, rfl, I3 _ J, turn_keys a _ o kvs hd, st 0 rfl, fun b hb => ?_, q o⟩
    have e : b = s1.heap.objs.size := by simpa using hb
    subst e
    exact J.fpOk (Nat.le_refl _) (J.hok.fresh (Nat.le_refl _))
  · have x : s1.heap.get? a = some o2 := (show s1.heap.get? a = some o2 ∧ _ from I1.hok a _ e).1
    rw [go] at x; cases x
    refine ⟨s1.heap.objs.size, [s1.heap.objs.size], _, _, _, rfl, I3 _ I1, turn_keys a _ o kvs hd, st 0 rfl, fun b hb => ?_, q⟩
    have e : b = s1.heap.objs.size := by simpa using hb
    subst e
    exact I1.fpOk (Nat.le_refl _) (I1.hok.fresh (Nat.le_refl _))
end
section
variable {K : PySem.W.Frag} {tl : TE} {tt : TT} {te : TE} {Q : VK} {σ : St} {H : Hp} {a b : Addr} {kvs : List (Key × V)} {g : TG} {tb : TS} {D : Ends}
/-- [.. for k in d] -/
theorem st_cpK (e : ∀ P : V → Hp → Prop, P (.ref a) H → tl σ H P) (h : H a = some (.dK kvs)) (hn : kvs.length ≤ 1000) (Pv : Obj → Nat → List V → Hp → Prop)
    (h0 : ∀ o, Pv o 0 [] (upd H a (.frz o (.dK kvs)))) (hl : ∀ o i ys H, Pv o i ys H → ys.length ≤ i) (hk : ∀ o i ys H, Pv o i ys H → H a = some (.frz o (.dK kvs)))
    (hs : ∀ o i k v ys H, kvs[i]? = some (k, v) → Pv o i ys H → tt (some (kV k) :: σ) H fun b H2 => if b = true then te (some (kV k) :: σ) H2 fun y H3 => Pv o (i + 1) (ys ++ [y]) H3 else Pv o (i + 1) ys H2)
    (hd : ∀ o ys H, Pv o kvs.length ys H → ∀ p, H p = none → Q (.ref p) (upd (upd H p (.lst ys)) a (.dK kvs))) : tThawE (tComp (iKeys tl) tt te) σ H Q := by
  refine ⟨a, kvs, h, e _ ⟨a, kvs, rfl, .inl ⟨h, fun o => ⟨fun i m ys H => m = kvs.length - i ∧ i ≤ kvs.length ∧ Pv o i ys H, ⟨kvs.length, by simp, Nat.zero_le _, h0 o⟩, ?_⟩⟩⟩⟩
  rintro i m ys H ⟨rfl, hi, p⟩
  by_cases hlt : i < kvs.length
  · refine .inr ⟨⟨hk o i ys H p, hlt⟩, small1000 (by have := hl o i ys H p; omega), Pv o (i + 1), fun σ' H' p' => ⟨kvs.length - (i + 1), by omega, rfl, hlt, p'⟩, fun x H' y => ?_⟩
    obtain ⟨rfl, k, v, rfl, hx⟩ := y
    exact hs o i k v ys _ hx p
  · have e : i = kvs.length := by omega
    subst e
    refine .inl ⟨⟨hk o _ ys H p, Nat.le_refl _⟩, fun q hq => ⟨o, ?_, hd o ys H p q hq⟩⟩
    rw [upd_ne (ne_of_none (hk o _ ys H p) hq)]
    exact hk o _ ys H p
end
end L2

set_option Elab.async false
set_option linter.all false
set_option maxRecDepth 100000
namespace L2
open PySem PySem.Spec PyProof.Rows
/-! for x in reversed(xs): the list stays as it is. -/
/-- the list at a, n long, from its end -/
def ItB (K : PySem.W.Frag) (a : Addr) (n : Nat) : It :=
  ⟨fun i H => ∃ xs x, SqL K H a xs ∧ xs.length = n ∧ i < n ∧ xs[n - 1 - i]? = some x, fun i H x H' => H' = H ∧ ∀ xs, SqL K H a xs → xs[n - 1 - i]? = some x, fun i _ => n ≤ i⟩
def iRev (K : PySem.W.Frag) (ta : TA) : TI := fun σ H R => ta σ H fun vs H1 => ∃ a xs, vs = [.ref a] ∧ SqL K H1 a xs ∧ R (ItB K a xs.length) H1
section
variable {X : Cx} {tg : Expr}
end
section
variable {K : PySem.W.Frag} {a : Addr} {xs : List V} {g : TG} {tb : TS} {D : Ends} {σ : St} {H : Hp}
end
end L2

set_option Elab.async false
set_option linter.all false
set_option maxRecDepth 100000
namespace Tw
open PySem L2
/-! Numbers of two parts, multiplied; wholes that are the same but for a factor. -/
def gm (p q : Int × Int) : Int × Int := (p.1 * q.1 - p.2 * q.2, p.1 * q.2 + p.2 * q.1)
/-- the number at b -/
def wv (ws : Wh) (b : Nat) : Int × Int := (wat ws b).getD (0, 0)
def Due (ws us : Wh) : Prop := (∀ b, b ∈ ws.map (·.1) ↔ b ∈ us.map (·.1)) ∧ ∀ h ∈ ws.map (·.1), ∀ t ∈ ws.map (·.1), gm (wv ws h) (wv us t) = gm (wv us h) (wv ws t)
/-- a whole times a number -/
def wtm (c : Int × Int) (ws : Wh) : Wh := ws.map fun e => (e.1, gm e.2 c)
end Tw

set_option Elab.async false
set_option linter.all false
set_option maxRecDepth 100000
namespace L2
open PySem PySem.Spec PyProof.Rows
/-! sorted and min of a dict whose keys are whole numbers -/
section
variable {prog : Program} {w : World} {A : Around} {E : Value → Shared → Prop} {s : Shared} {K : Type} [DecidableEq K] {knd : KeyKind prog w K} {d : Addr} {kvs : List (K × Value)} {ep : Nat}
end
/-- the keys are these whole numbers -/
def KInts (kvs : List (Key × V)) (ns : List Int) : Prop := kvs.map (·.1) = ns.map Sum.inl
section
variable {X : Cx}
def rBestD (le : Int → Int → Prop) : List V → Hp → VK → Prop := fun xs H Q => ∃ a kvs ns, xs = [V.ref a] ∧ Rd H a (.dK kvs) ∧ KInts kvs ns ∧ 0 < ns.length ∧ ∀ M, M ∈ ns → (∀ a ∈ ns, le a M) → Q (.int M) H
def rSortD : List V → Hp → VK → Prop := fun xs H Q => ∃ a kvs ns, xs = [V.ref a] ∧ Rd H a (.dK kvs) ∧ KInts kvs ns ∧ ns.length < 64 ∧ ∀ p (ms : List Int), H p = none → ms.Perm ns → ms.Pairwise (· ≤ ·) → Q (.ref p) (upd H p (.lst (ms.map V.int)))
def rSortR : List V → Hp → VK → Prop := fun xs H Q => ∃ a kvs ns, xs = [V.ref a] ∧ Rd H a (.dK kvs) ∧ KInts kvs ns ∧ ns.length < 64 ∧ ∀ p (ms : List Int), H p = none → ms.Perm ns → Q (.ref p) (upd H p (.lst (ms.map V.int)))
def tSortR (t : TA) (tk : TE) : TE := fun σ H Q => t σ H fun xs H1 => tk σ H1 fun b H2 => b = .bl true ∧ rSortR xs H2 Q
end
end L2

set_option Elab.async false
set_option linter.all false
set_option maxRecDepth 100000
namespace L2
open PySem PySem.Spec PyProof.Rows
/-! a pair of dicts told to be the same as another -/
section
variable {X : Cx} {pins : List (Addr × Obj)} {σ : St} {H : Hp} {s : Shared} {a b : Addr} {kvs kvs2 : List (Key × V)} {f g : Key → PyData}
/-- the dicts at a and b are the same -/
def SameAt (K : PySem.W.Frag) (H : Hp) (a b : Addr) : Prop := ∃ kvs kvs2 f g, Rd H a (.dK kvs) ∧ Rd H b (.dK kvs2) ∧ (∀ k x, (k, x) ∈ kvs → DV K H x (f k) ∧ Flat8 (f k)) ∧ (∀ k x, (k, x) ∈ kvs2 → DV K H x (g k) ∧ Flat8 (g k)) ∧ sameD kvs kvs2 f g = true ∧ (∀ kv ∈ kvs, ∃ i, kv.1 = .inl i) ∧ ∀ kv ∈ kvs2, ∃ i, kv.1 = .inl i
def rEqTT (K : PySem.W.Frag) : R2 := fun x y H Q => ∃ t u a1 a2 b1 b2, x = .ref t ∧ y = .ref u ∧ SqT K H t [.ref a1, .ref a2] ∧ SqT K H u [.ref b1, .ref b2] ∧ a1 ≠ b1 ∧ a2 ≠ b2 ∧ SameAt K H a1 b1 ∧ SameAt K H a2 b2 ∧ Q (.bl true) H
end
end L2

set_option Elab.async false
set_option linter.all false
set_option maxRecDepth 100000
namespace Tw
open PySem L2
/-! Wholes without noughts, their keys as lists. -/
/-- keys unlike, numbers below N -/
structure Wb (N : Nat) (ws : Wh) : Prop where
  nd : (ws.map (·.1)).Nodup
  sm : ∀ e ∈ ws, e.2.1.natAbs < N ∧ e.2.2.natAbs < N
structure Wz (N : Nat) (ws : Wh) : Prop extends Wb N ws where
  nz : ∀ e ∈ ws, e.2 ≠ (0, 0)
/-- b left out -/
def wdrop (ws : Wh) (b : Nat) : Wh := ws.filter fun e => decide (e.1 ≠ b)
/-- the keys as whole numbers -/
def kz (ws : Wh) : List Int := ws.map fun e => ((e.1 : Nat) : Int)
section
variable {K : PySem.W.Frag} {H : Hp} {Q : VK} {ws us : Wh} {kvs : List (Key × V)} {a b : Addr}
theorem dec_pair (p q : Int × Int) : decide ([p.1, p.2] = [q.1, q.2]) = decide (p = q) := by
  by_cases h : p = q
  · subst h
    rw [decide_eq_true rfl, decide_eq_true rfl]
  · rw [decide_eq_false h, decide_eq_false]
    intro z
    injection z with z1 z2
    injection z2 with z2
    exact h (Prod.ext z1 z2)
end
end Tw
namespace L2
open PySem PySem.Spec PyProof.Rows
/-- a comprehension over the list that an expression hands back -/
def sCompK (K : PySem.W.Frag) (tt : TT) (te : TE) (σ : St) (Q : VK) : V → Hp → Prop := fun x H => ∃ a, x = .ref a ∧ (∃ xs, SqL K H a xs) ∧ ∃ W : Nat → Nat → List V → Hp → Prop, (∃ m, W 0 m [] H) ∧ ∀ i m ys H, W i m ys H → ((Itl K a).stop i H ∧ ∀ p, H p = none → Q (.ref p) (upd H p (.lst ys))) ∨
      ((Itl K a).go i H ∧ ys.length < sizeLine ∧ ∃ N : List V → Hp → Prop, (∀ ys' H', N ys' H' → ∃ m', m' < m ∧ W (i + 1) m' ys' H') ∧
        ∀ x H', (Itl K a).yld i H x H' → tt (some x :: σ) H' fun b H2 => if b = true then te (some x :: σ) H2 fun y H3 => N (ys ++ [y]) H3 else N ys H2)
end L2

set_option Elab.async false
set_option linter.all false
set_option maxRecDepth 100000
namespace Tw
/-! A deed and what undoes it, on rows. -/
theorem xx (a b : Nat) : a ^^^ b ^^^ b = a := by rw [Nat.xor_assoc, Nat.xor_self, Nat.xor_zero]
theorem xx2 {a b c : Nat} (h : c = b) : a ^^^ b ^^^ c = a := by rw [h, xx]
theorem row_eq {a b c a' b' c' : Nat} (h1 : a = a') (h2 : b = b') (h3 : c = c') : (⟨a, b, c⟩ : Row) = ⟨a', b', c'⟩ := by rw [h1, h2, h3]
theorem actW_undo {k : DK} {i j : Nat} {r : Row} (hj : k.n = 2 → i ≠ j) : actW k.inv i j (actW k i j r) = r := by
  obtain ⟨m, x, z⟩ := r
  have td : ∀ q : Nat, decide (q = q) = true := fun q => decide_eq_true rfl
  cases k with
  | over => exact row_eq (xx _ _) rfl rfl
  | quarter =>
    refine row_eq (xx2 ?_) rfl (xx2 rfl)
    simp only [actW, Nat.testBit_xor, tb_mul, td]
    cases x.testBit i <;> cases z.testBit i <;> rfl
  | back =>
    refine row_eq (xx2 ?_) rfl (xx2 rfl)
    simp only [actW, Nat.testBit_xor, tb_mul, td]
    cases x.testBit i <;> cases z.testBit i <;> rfl
  | both =>
    refine row_eq (xx2 ?_) (xx2 ?_) (xx2 ?_) <;> simp only [actW, Nat.testBit_xor, tb_mul, td]
    · cases x.testBit i <;> cases z.testBit i <;> rfl
    · cases x.testBit i <;> cases z.testBit i <;> rfl
    · cases x.testBit i <;> cases z.testBit i <;> rfl
  | wher =>
    have hij := hj rfl
    have d1 : decide (j = i) = false := decide_eq_false (Ne.symm hij)
    have d2 : decide (i = j) = false := decide_eq_false hij
    refine row_eq (xx2 ?_) (xx2 ?_) (xx2 ?_) <;> simp only [actW, Nat.testBit_xor, tb_mul, td, d1, d2]
    · cases x.testBit i <;> cases z.testBit i <;> cases x.testBit j <;> cases z.testBit j <;> rfl
    · simp
    · simp
  | swap =>
    have hij := hj rfl
    have e : ∀ b, ex (ex b i j) i j = b := fun b => by
      apply Nat.eq_of_testBit_eq
      intro k
      rw [ex_tb hij, ex_tb hij, ex_tb hij, ex_tb hij]
      by_cases e : k = i
      · subst e; simp [Ne.symm hij]
      · by_cases e2 : k = j
        · subst e2; simp [e]
        · simp [e, e2]
    exact row_eq rfl (e _) (e _)
theorem DK.inv_inv (k : DK) : k.inv.inv = k := by cases k <;> rfl
theorem DK.inv_n (k : DK) : k.inv.n = k.n := by cases k <;> rfl
def Dd.inv (d : Dd) : Dd := ⟨d.k.inv, d.w⟩
theorem Dd.Ok.inv {d : Dd} {n : Nat} (h : d.Ok n) : d.inv.Ok n := ⟨h.len.trans d.k.inv_n.symm, h.lt, h.nd⟩
theorem act_inv {d : Dd} {n : Nat} {r : Row} (h : d.Ok n) : act d.inv (act d r) = r := actW_undo fun e => (h.one.2.1 e).2
theorem inv_inv (d : Dd) : d.inv.inv = d := by
  obtain ⟨k, w⟩ := d
  show (⟨k.inv.inv, w⟩ : Dd) = _
  rw [DK.inv_inv]
def acts (ds : List Dd) (r : Row) : Row := ds.foldl (fun r d => act d r) r
def undo (ds : List Dd) : List Dd := (ds.map Dd.inv).reverse
theorem acts_snoc (ds : List Dd) (d : Dd) (r : Row) : acts (ds ++ [d]) r = act d (acts ds r) := by unfold acts; rw [List.foldl_append]; rfl
theorem undo_oks {ds : List Dd} {n : Nat} (h : ∀ d ∈ ds, d.Ok n) : ∀ d ∈ undo ds, d.Ok n := fun d hd => by
  unfold undo at hd
  rw [List.mem_reverse, List.mem_map] at hd
  obtain ⟨e, he, rfl⟩ := hd
  exact (h e he).inv
theorem acts_undo {n : Nat} : ∀ {ds : List Dd}, (∀ d ∈ ds, d.Ok n) → ∀ r, acts (undo ds) (acts ds r) = r
  | [], _, _ => rfl
  | d :: ds, h, r => by
    have e : undo (d :: ds) = undo ds ++ [d.inv] := by unfold undo; rw [List.map_cons, List.reverse_cons]
    rw [e, acts_snoc]
    show act d.inv (acts (undo ds) (acts ds (act d r))) = r
    rw [acts_undo (fun x hx => h x (List.mem_cons_of_mem _ hx)), act_inv (h d List.mem_cons_self)]
theorem undo_undo (ds : List Dd) : undo (undo ds) = ds := by
  unfold undo
  rw [List.map_reverse, List.reverse_reverse, List.map_map]
  have : (Dd.inv ∘ Dd.inv) = id := funext inv_inv
  rw [this, List.map_id]
theorem acts_undo' {n : Nat} {ds : List Dd} (h : ∀ d ∈ ds, d.Ok n) (r : Row) : acts ds (acts (undo ds) r) = r := by
  have := acts_undo (undo_oks h) r
  rw [undo_undo] at this
  exact this
theorem acts_ok {n : Nat} : ∀ {ds : List Dd} {r : Row}, r.Ok n → (∀ d ∈ ds, d.Ok n) → (acts ds r).Ok n
  | [], _, h, _ => h
  | d :: ds, r, h, hd => acts_ok (ds := ds) (act_ok h (hd d List.mem_cons_self)) fun x hx => hd x (List.mem_cons_of_mem _ hx)
end Tw

set_option Elab.async false
set_option linter.all false
set_option maxRecDepth 100000
namespace L2
open PySem PySem.Spec PyProof.Rows
/-! Lambdas: made, handed to a def of the text, called there. -/
/-- the very object -/
def exO (a : Addr) (o : Obj) : HO := .ext fun h => h.get? a = some o
section
variable {P : Program} {w : World} {H : Hp} {h : Heap} {a : Addr} {o : Obj}
theorem exO_ok (e : h.get? a = some o) : ObjOk P w H h a (exO a o) := ⟨e, ⟨o, e⟩, fun _ _ p k => k o p⟩
theorem exO_get (x : ObjOk P w H h a (exO a o)) : h.get? a = some o := x.1
end
def CodeO (o : Obj) (q : Str) : Prop := ∃ vs t, o.data = .fields vs ∧ vs[1]? = some (.str q t)
structure Lam where
  qual : Str
  params : Arguments
  body : Expr
  scope : Scope
  pos : Pos
/-- the table of a def's code: it knows of the lambda, or does not yet -/
def TabAt (H : Hp) (T : Addr) (l : Lam) : Prop := ∃ ps : Array Value, H T = some (.tbl ps) ∧ TriplesOk ps.toList ∧ (codeAmong l.pos ps.toList = none ∨ ∃ c' oc, codeAmong l.pos ps.toList = some (.ref c') ∧ H c' = some (exO c' oc) ∧ CodeO oc l.qual)
/-- a function made of it, with its cells -/
def LamAt (H : Hp) (f : Addr) (l : Lam) (cl : List (Str × Addr)) : Prop := ∃ c' oc pm ctv, H f = some (exO f (PySem.W.kla_obj "<lambda>" l.qual l.params l.body l.scope cl pm c' ctv)) ∧ H c' = some (exO c' oc) ∧ CodeO oc l.qual
/-- all but tables stays -/
def SameT (H H' : Hp) : Prop := ∀ a o, H a = some o → (∀ ps, o ≠ .tbl ps) → H' a = some o
/-- all but one table stays -/
def SameX (T : Addr) (H H' : Hp) : Prop := ∀ a o, a ≠ T → H a = some o → H' a = some o
theorem SameX.t {T : Addr} {H H' : Hp} {ps : Array Value} (h : SameX T H H') (e : H T = some (.tbl ps)) : SameT H H' := fun a o q n => h a o (fun z => by rw [z, e] at q; cases q; exact n _ rfl) q
def BltM (mg : Str → Option Value) (base : Heap) : Prop := ∃ bm o, mg "__builtins__" = some (.ref bm) ∧ bm ≠ builtinsNs ∧ base.get? bm = some o ∧ o.cls = .type "module" ∧ o.dict = some builtinsNs ∧ o.data = .plain
section
variable {X : Cx} {pins : List (Addr × Obj)} {σ : St} {H : Hp} {s : Shared} {T c : Addr} {l : Lam} {cl : List (Str × Addr)}
theorem make_lam {Q : Value → Shared → Prop} (I : Inv X pins σ H s) (hcode : X.env.code = .ref c) (C : PySem.W.CodeHd X.base c T) (B : BltM X.mg X.base) (hq : X.env.qual ++ "<lambda>" = l.qual) (hdef : defaultsOf l.params X.env = ([], []))
    (hcl : closureFor l.scope X.env = pure cl) (t : TabAt H T l)
    (h : ∀ f H' s', Inv X pins σ H' s' → SameX T H H' → TabAt H' T l → H f = none → LamAt H' f l cl → Q (.ref f) s') :
    wpAny (model X.prog X.w) X.A (eval (.Lambda l.params l.body l.scope l.pos) X.env) Q X.xe s := by
  refine PySem.W.kla_eval hdef ?_
  rw [hq]
  obtain ⟨ps, hT, tr, hc⟩ := t
  have hP : s.heap.get? T = some (PySem.W.tabObj ps) := I.hok T _ hT
  have hns := I.mod.glob
  have hgs : s.heap.Ns mainGlobals X.mg := hns.keeps I.bk
  have hgT : mainGlobals ≠ T := fun z => by
    obtain ⟨o, es, ep, e, _⟩ := hns
    have := (I.bs _ _ e).2
    rw [z, hT] at this; cases this
  obtain ⟨bm, ob, b1, b2, b3, b4, b5, b6⟩ := B
  have hbT : bm ≠ T := fun z => by
    have := (I.bs _ _ b3).2
    rw [z, hT] at this; cases this
  have hbG : bm ≠ mainGlobals := fun z => by
    obtain ⟨o, es, ep, e, hd, _⟩ := hns
    rw [z, e] at b3; cases b3; rw [hd] at b6; cases b6
  have hb : s.heap.BuiltinsAt X.mg T := ⟨bm, ob, b1, b2, hbG, hbT, I.bk _ _ b3, b4, b5, b6⟩
  rcases hc with hnf | ⟨c', oc, hf, hc', hoc⟩
  · refine PySem.W.kla_makeFunction hcl I.ok.glob hgs hcode (C.keeps I.bk) hP tr hnf hgT hb fun c' ctv h' tk hx hge hlt hrec htb => ?_
    obtain ⟨c2, oc, vs, tt, e2, hoc, hd, hv⟩ := hrec
    cases e2
    have nT : ∀ b u, H b = some u → (∀ q, u ≠ .tbl q) → b ≠ T := fun b u e n z => by
      rw [z, hT] at e; cases e; exact n _ rfl
    have fc : H c' = none := I.hok.fresh hge
    have hszle : s.heap.objs.size ≤ h'.objs.size := Nat.le_trans hge (Nat.le_of_lt hlt)
    have ff : H h'.objs.size = none := I.hok.fresh hszle
    have fT : T ≠ c' := ne_of_none hT fc
    have fTf : T ≠ h'.objs.size := ne_of_none hT ff
    have cf : c' ≠ h'.objs.size := Nat.ne_of_lt hlt
    have at_ : ∀ b u, H b = some u → (∀ q, u ≠ .tbl q) → upd (upd (upd H T (.tbl (ps ++ #[rawInt l.pos.line, rawInt l.pos.col, .ref c']))) c' (exO c' oc)) h'.objs.size (exO h'.objs.size (PySem.W.kla_obj "<lambda>" l.qual l.params l.body l.scope cl ((X.mg "__name__").getD .none) c' ctv)) b = some u := fun b u e n => by
      rw [upd_ne (ne_of_none e ff), upd_ne (ne_of_none e fc), upd_ne (nT b u e n)]
      exact e
    have tb_ : upd (upd (upd H T (.tbl (ps ++ #[rawInt l.pos.line, rawInt l.pos.col, .ref c']))) c' (exO c' oc)) h'.objs.size (exO h'.objs.size (PySem.W.kla_obj "<lambda>" l.qual l.params l.body l.scope cl ((X.mg "__name__").getD .none) c' ctv)) T = some (.tbl (ps ++ #[rawInt l.pos.line, rawInt l.pos.col, .ref c'])) := by
      rw [upd_ne fTf, upd_ne fT, upd_same]
    have c_ : upd (upd (upd H T (.tbl (ps ++ #[rawInt l.pos.line, rawInt l.pos.col, .ref c']))) c' (exO c' oc)) h'.objs.size (exO h'.objs.size (PySem.W.kla_obj "<lambda>" l.qual l.params l.body l.scope cl ((X.mg "__name__").getD .none) c' ctv)) c' = some (exO c' oc) := by
      rw [upd_ne cf, upd_same]
    have f_ : upd (upd (upd H T (.tbl (ps ++ #[rawInt l.pos.line, rawInt l.pos.col, .ref c']))) c' (exO c' oc)) h'.objs.size (exO h'.objs.size (PySem.W.kla_obj "<lambda>" l.qual l.params l.body l.scope cl ((X.mg "__name__").getD .none) c' ctv)) h'.objs.size = some (exO h'.objs.size (PySem.W.kla_obj "<lambda>" l.qual l.params l.body l.scope cl ((X.mg "__name__").getD .none) c' ctv)) := upd_same
    have off : ∀ b, b ≠ T → b ≠ c' → b ≠ h'.objs.size → upd (upd (upd H T (.tbl (ps ++ #[rawInt l.pos.line, rawInt l.pos.col, .ref c']))) c' (exO c' oc)) h'.objs.size (exO h'.objs.size (PySem.W.kla_obj "<lambda>" l.qual l.params l.body l.scope cl ((X.mg "__name__").getD .none) c' ctv)) b = H b := fun b h1 h2 h3 => by
      rw [upd_ne h3, upd_ne h2, upd_ne h1]
    have old : ∀ b o, s.heap.get? b = some o → b ≠ c' ∧ b ≠ h'.objs.size := fun b o e => ⟨Nat.ne_of_lt (Nat.lt_of_lt_of_le (Heap.lt_size e) hge), Nat.ne_of_lt (Nat.lt_of_lt_of_le (Heap.lt_size e) hszle)⟩
    refine h h'.objs.size _ _ (I.un (h' := h'.push (PySem.W.kla_obj "<lambda>" l.qual l.params l.body l.scope cl ((X.mg "__name__").getD .none) c' ctv)) (t' := tk)
      ⟨fun b o e n _ _ => Heap.get?_push_of_some _ (hx b o (fun z => by rw [z, hT] at n; cases n) e), fun b o e n _ _ => ⟨o.slots, Heap.get?_push_of_some _ (hx b o (fun z => by rw [z, hT] at n; cases n) e)⟩,
       fun b o e n _ => by rw [off b (fun z => by rw [z, hT] at n; cases n) (old b o e).1 (old b o e).2]; exact n,
       fun b o e _ => ?_, fun b xs e => at_ b _ e (by intro q z; cases z), fun b o u e => at_ b _ e (by intro q z; cases z), fun b q e => ?_⟩ fun b u e => ?_) (fun b u n e => by rw [off b n (ne_of_none e fc) (ne_of_none e ff)]; exact e) ⟨_, tb_, ?_, .inr ⟨c', oc, ?_, c_, vs, tt, hd, hv⟩⟩ ff ⟨c', oc, _, ctv, f_, c_, vs, tt, hd, hv⟩
    · by_cases z : b = T
      · exact ⟨_, by rw [z]; exact Heap.get?_push_of_some _ htb⟩
      · exact ⟨o, Heap.get?_push_of_some _ (hx b o z e)⟩
    · by_cases z : b = T
      · subst z
        rw [hT] at e; cases e
        exact ⟨_, tb_⟩
      · exact ⟨#[], by rw [off b z (ne_of_none e fc) (ne_of_none e ff), e, Array.append_empty]⟩
    · by_cases z1 : b = h'.objs.size
      · subst z1
        rw [f_] at e; cases e
        exact exO_ok (Heap.get?_push_size _ rfl)
      · by_cases z2 : b = c'
        · subst z2
          rw [c_] at e; cases e
          exact exO_ok (Heap.get?_push_of_some _ hoc)
        · by_cases z3 : b = T
          · subst z3
            rw [tb_] at e; cases e
            exact Heap.get?_push_of_some _ htb
          · rw [off b z3 z2 z1] at e
            refine (I.hok b u e).stay (fun d v hd q => Heap.get?_push_of_some _ (hx d v ?_ q)) (fun d q => at_ d _ q (by intro q z; cases z)) fun d xs q => at_ d _ q (by intro q z; cases z)
            rcases hd with z | z
            · rw [z]; exact z3
            · exact nT d _ z (by intro q z; cases z)
    · rw [Array.toList_append]
      exact TriplesOk_snoc _ _ _ _ tr
    · rw [Array.toList_append]
      exact codeAmong_snoc _ tr hnf
  · refine PySem.W.kla_makeFunctionHit hcl I.ok.glob hgs hcode (C.keeps I.bk) hP tr hf hb fun ctv h' tk hk hsz => ?_
    have ff : H h'.objs.size = none := I.hok.fresh hsz
    have at_ : ∀ b u, H b = some u → upd H h'.objs.size (exO h'.objs.size (PySem.W.kla_obj "<lambda>" l.qual l.params l.body l.scope cl ((X.mg "__name__").getD .none) c' ctv)) b = some u := fun b u e => by
      rw [upd_ne (ne_of_none e ff)]
      exact e
    exact h h'.objs.size _ _ (I.laid (h' := h'.push (PySem.W.kla_obj "<lambda>" l.qual l.params l.body l.scope cl ((X.mg "__name__").getD .none) c' ctv)) (t' := tk) (fun b u e => Heap.get?_push_of_some _ (hk b u e)) hsz (exO_ok (Heap.get?_push_size _ rfl))) (fun b u _ e => at_ b u e)
      ⟨ps, at_ _ _ hT, tr, .inr ⟨c', oc, hf, at_ _ _ hc', hoc⟩⟩ ff ⟨c', oc, _, ctv, upd_same, at_ _ _ hc', hoc⟩
def tLam (T : Addr) (l : Lam) (cl : List (Str × Addr)) : TE := fun _ H Q => TabAt H T l ∧ ∀ f H', SameX T H H' → TabAt H' T l → H f = none → LamAt H' f l cl → Q (.ref f) H'
theorem pe_lam {qual : Str} {params : Arguments} {body : Expr} {scope : Scope} {pos : Pos} (C : PySem.W.CodeHd X.base c T) (B : BltM X.mg X.base) (hcode : X.env.code = .ref c := by rfl) (hq : X.env.qual ++ "<lambda>" = qual := by rfl) (hdef : defaultsOf params X.env = ([], []) := by rfl)
    (hcl : closureFor scope X.env = pure cl := by rfl) : PE X (.Lambda params body scope pos) (tLam T ⟨qual, params, body, scope, pos⟩ cl) := fun pins s σ H Q I h =>
  make_lam (l := ⟨qual, params, body, scope, pos⟩) I hcode C B hq hdef hcl h.1 fun f H' s' I' a b e d => ⟨.ref f, H', I', rfl, h.2 f H' a b e d⟩
end
/-! a call that shows the cells of this frame -/
structure Cov (N : List Str) (σ : St) (cl : List (Str × Addr)) (H G : Hp) : Prop where
  off : ∀ b, b ∉ cl.map (·.2) → G b = H b
  at_ : ∀ x c, (x, c) ∈ cl → H c = none ∧ ∃ o, G c = some (exO c o) ∧ ∀ (i : Nat) (v : V), N[i]? = some x → σ[i]? = some (some v) → ∃ u, o.data = .cell (some u) ∧ RelV v u
def unc (cl : List (Str × Addr)) (G : Hp) : Hp := fun b => if b ∈ cl.map (·.2) then none else G b
theorem unc_in {cl : List (Str × Addr)} {G : Hp} {b : Addr} (h : b ∈ cl.map (·.2)) : unc cl G b = none := if_pos h
theorem unc_out {cl : List (Str × Addr)} {G : Hp} {b : Addr} (h : b ∉ cl.map (·.2)) : unc cl G b = G b := if_neg h
def tCallC (N : List Str) (sp : Sp) (cl : List (Str × Addr)) (t : TA) : TE := fun σ H Q => t σ H fun vs H1 => ∀ G, Cov N σ cl H1 G → sp vs G (fun v G2 => (∀ p ∈ cl, G2 p.2 = G p.2) ∧ Q v (unc cl G2)) E0
section
variable {X : Cx} {j k : Nat} {ps : List Str} {sp : Sp} {x : Str} {p pos : Pos} {e : Expr} {es : List Expr} {t : TA} {cl : List (Str × Addr)}
theorem pe_fnC (c : Cal X.prog X.w X.K X.mg X.base CX0 k x ps sp) (hr : Room j X.A) (hcl : ∀ y a, (y, a) ∈ cl → X.env.cells.lookup y = some a ∧ X.env.kindOf y = some .cell ∧ X.fn y = true) (ha : PA X (e :: es) t) (hk : k ≤ j := by decide) (hg : Gl X x := by rfl) (hdb : (x == ("__debug__" : Str)) = false := by decide)
    (he : starEach (e :: es) X.env = (false, eval e X.env) :: starEach es X.env := by rfl) (hpl : (backTo pos (starEach es X.env)).any (·.1) = false := by rfl) :
    PE X (.Call (.Name x p) (e :: es) [] pos) (tCallC X.N sp cl t) := by
  obtain ⟨f, fd, F, b, kp, m⟩ := c.ex
  intro pins s0 σ H0 Q I0 h
  refine wpAny_Call_Name_kw (ld_glob I0 hg m ?_ hdb)
  refine PySem.W.callWith_K (h₀ := X.base) I0.ok.mod.kin kp (thn (ha pos pins s0 σ H0 _ I0 h) fun us s ⟨vs, H, I, r, q⟩ => ⟨I.kIn, ?_⟩) he hpl
  -- the cells
  have cin : ∀ a, a ∈ cl.map (·.2) → ∃ y, (y, a) ∈ cl := fun a ha => by
    obtain ⟨q, hq, rfl⟩ := List.mem_map.mp ha
    exact ⟨q.1, hq⟩
  have cob : ∀ y a, (y, a) ∈ cl → ∃ o v, s.heap.get? a = some o ∧ o.data = .cell v := fun y a hm => by
    obtain ⟨v, o, ho, hd⟩ := I.cell y a (hcl y a hm).1
    exact ⟨o, v, ho, hd⟩
  have cno : ∀ a, a ∈ cl.map (·.2) → H a = none := fun a ha => by
    obtain ⟨y, hm⟩ := cin a ha
    exact I.freeC y a (hcl y a hm).1
  have cge : ∀ a, a ∈ cl.map (·.2) → X.s₀.heap.objs.size ≤ a := fun a ha => by
    obtain ⟨y, hm⟩ := cin a ha
    exact I.ok.cab y a (hcl y a hm).2.2 (hcl y a hm).1
  have G_ : ∃ G : Hp, (∀ b, b ∉ cl.map (·.2) → G b = H b) ∧ ∀ a o, a ∈ cl.map (·.2) → s.heap.get? a = some o → G a = some (exO a o) :=
    ⟨fun b => if b ∈ cl.map (·.2) then (s.heap.get? b).map (exO b) else H b, fun b hb => if_neg hb, fun a o ha e => (if_pos ha).trans (by rw [e]; rfl)⟩
  obtain ⟨G, Goff, Gat⟩ := G_
  have trk : ∀ b u, H b = some u → b ∉ cl.map (·.2) := fun b u e z => by rw [cno b z] at e; cases e
  have cov : Cov X.N σ cl H G := ⟨Goff, fun y a hm => by
    have ha : a ∈ cl.map (·.2) := List.mem_map.mpr ⟨(y, a), hm, rfl⟩
    obtain ⟨o, v, ho, hd⟩ := cob y a hm
    refine ⟨cno a ha, o, Gat a o ha ho, fun i w e1 e2 => ?_⟩
    obtain ⟨mm, hn, hl⟩ := I.loc
    have hkk : X.env.scope.names.lookup y = some .cell := (hcl y a hm).2.1
    obtain ⟨u, ru, lk⟩ := hl i y w e1 e2 (.inr (.inl hkk))
    rcases lk with ⟨k1, _⟩ | ⟨_, a2, l2, o2, ho2, hd2⟩
    · rw [(hcl y a hm).2.1] at k1; cases k1
    · rw [(hcl y a hm).1] at l2; cases l2
      rw [ho] at ho2; cases ho2
      exact ⟨u, hd2, ru⟩⟩
  have hokG : HOk X.prog X.w G s.heap := fun b u e2 => by
    by_cases hb : b ∈ cl.map (·.2)
    · obtain ⟨y, hm⟩ := cin b hb
      obtain ⟨o, v, ho, _⟩ := cob y b hm
      rw [Gat b o hb ho] at e2; cases e2
      exact exO_ok ho
    · rw [Goff b hb] at e2
      exact (I.hok b u e2).stay (fun d v _ q => q) (fun d q => by rw [Goff d (trk d _ q)]; exact q) fun d xs q => by rw [Goff d (trk d _ q)]; exact q
  have inb : ∀ b o, X.base.get? b = some o → b ∉ cl.map (·.2) := fun b o e2 z => by
    have h1 := Nat.lt_of_lt_of_le (Heap.lt_size e2) I.ok.bsz
    exact absurd (Nat.lt_of_lt_of_le h1 (cge b z)) (Nat.lt_irrefl _)
  have nstk : ∀ b ∈ frs X.stack, b ∉ cl.map (·.2) := fun b hb z => by
    obtain ⟨y, hm⟩ := cin b z
    rcases List.mem_cons.mp (I.stkSub b hb) with z2 | z2
    · exact I.cne y b (hcl y b hm).1 z2
    · obtain ⟨_, o, ho, _⟩ := I.ok.funs.mem z2
      exact absurd (Nat.lt_of_lt_of_le (Heap.lt_size ho) (cge b z)) (Nat.lt_irrefl _)
  have e0 := I.env0
  have e0G : Env0 X.prog X.w X.K X.mg X.base X.A X.stack s G := ⟨e0.frames, e0.mod, fun b o e2 => ⟨(e0.bs b o e2).1, by rw [Goff b (inb b o e2)]; exact (e0.bs b o e2).2⟩, e0.bsz, e0.funs, fun b hb => by rw [Goff b (nstk b hb)]; exact e0.frf b hb, hokG, e0.bare⟩
  have hl : us.length = ps.length := by rw [← r.length]; exact F.len _ _ _ _ (q G cov)
  have hbd := b s us I.kIn (by rw [List.append_nil]; exact hl)
  rw [List.append_nil] at hbd
  refine wpAny_call (codeAny_mono (F.run X.A X.stack s G ⟨us, []⟩ us vs _ E0 (hr.mono hk) e0G hbd r (q G cov)) fun rr s' hq => ?_)
  cases rr with
  | error e => exact False.elim hq
  | ok fl =>
    cases fl with
    | next => exact False.elim hq
    | brk => exact False.elim hq
    | cont => exact False.elim hq
    | ret u =>
      obtain ⟨v, G2, os, bare, un, hok2, rv, hcells, hQ⟩ := hq
      have c2 : ∀ a o, a ∈ cl.map (·.2) → s.heap.get? a = some o → s'.heap.get? a = some o := fun a o ha e2 => by
        obtain ⟨q2, hq2, rfl⟩ := List.mem_map.mp ha
        have := hcells q2 hq2
        rw [Gat q2.2 o ha e2] at this
        exact exO_get (hok2 _ _ this)
      have c3 : ∀ a u, a ∈ cl.map (·.2) → G2 a = some u → ∃ o, u = exO a o := fun a u ha e2 => by
        obtain ⟨y, hm⟩ := cin a ha
        obtain ⟨o, _, ho, _⟩ := cob y a hm
        have := hcells (y, a) hm
        rw [Gat a o ha ho] at this
        rw [this] at e2
        exact ⟨o, (Option.some.inj e2).symm⟩
      have un2 : Un (frs X.stack) [] H (unc cl G2) s.heap s'.heap := by
        refine ⟨fun b o e2 n hb hx => ?_, fun b o e2 n hb hx => ?_, fun b o e2 n hx => ?_, fun b o e2 hx => ?_, fun b xs e2 => ?_, fun b o u e2 => ?_, fun b q e2 => ?_⟩
        · by_cases z : b ∈ cl.map (·.2)
          · exact c2 b o z e2
          · exact un.keep b o e2 (by rw [Goff b z]; exact n) hb hx
        · have z := nstk b hb
          exact un.slot b o e2 (by rw [Goff b z]; exact n) hb hx
        · by_cases z : b ∈ cl.map (·.2)
          · exact unc_in z
          · rw [unc_out z]
            exact un.free b o e2 (by rw [Goff b z]; exact n) hx
        · exact un.there b o e2 hx
        · have z := trk b _ e2
          rw [unc_out z]
          exact un.tups b xs (by rw [Goff b z]; exact e2)
        · have z := trk b _ e2
          rw [unc_out z]
          exact un.frzs b o u (by rw [Goff b z]; exact e2)
        · have z := trk b _ e2
          obtain ⟨m1, e3⟩ := un.tbls b q (by rw [Goff b z]; exact e2)
          exact ⟨m1, by rw [unc_out z]; exact e3⟩
      have hokU : HOk X.prog X.w (unc cl G2) s'.heap := fun b u e2 => by
        by_cases z : b ∈ cl.map (·.2)
        · rw [unc_in z] at e2; cases e2
        · rw [unc_out z] at e2
          have outs : ∀ d u2, G2 d = some u2 → (∀ o, u2 ≠ exO d o) → d ∉ cl.map (·.2) := fun d u2 e3 n z2 => by
            obtain ⟨o, z3⟩ := c3 d u2 z2 e3
            exact n o z3
          exact (hok2 b u e2).stay (fun d v _ q => q) (fun d q => by rw [unc_out (outs d _ q (by intro o z3; cases z3))]; exact q) fun d xs q => by rw [unc_out (outs d _ q (by intro o z3; cases z3))]; exact q
      obtain ⟨hh, g, d, tk, os'⟩ := s'
      obtain rfl : os' = s.os := os
      exact ⟨v, unc cl G2, I.call (h' := hh) (g' := g) (d' := d) (t' := tk) (ch := []) un2 hokU bare (fun b z => absurd z (by simp)), rv, hQ⟩
end
/-! a lambda that is called -/
structure LamScope (N ps : List Str) (l : Lam) (cl : List (Str × Addr)) : Prop where
  kind : l.scope.kind = .function
  co : l.scope.isCoroutine = false
  gen : l.scope.isGenerator = false
  nd : N.Nodup
  pre : N.take ps.length = ps
  par : ∀ x ∈ ps, l.scope.names.lookup x = some .local
  post : ∀ (i : Nat) (x : Str), ps.length ≤ i → N[i]? = some x → l.scope.names.lookup x = some .free
  nocell : ∀ x ∈ l.scope.names, x.2 ≠ .cell
  fr : ∀ x, l.scope.names.lookup x = some .free → ∃ c, cl.lookup x = some c
  inj : ∀ x y c, cl.lookup x = some c → cl.lookup y = some c → x = y
  binds : ∀ (pm ctv : Value) (c' : Addr) (us : List Value), us.length = ps.length → bindArgs (PySem.W.kla_fn "<lambda>" l.qual l.params l.body l.scope cl pm (.ref c') ctv) ⟨us, []⟩ = pure (ps.zip us)
theorem lookup_nd {l : List (Str × Value)} : ∀ {x : Str} {v : Value}, (l.map (·.1)).Nodup → (x, v) ∈ l → l.lookup x = some v := by
  induction l with
  | nil => intro x v _ h; cases h
  | cons p l ih =>
    intro x v nd h
    obtain ⟨y, u⟩ := p
    rw [List.map_cons, List.nodup_cons] at nd
    rcases List.mem_cons.mp h with h | h
    · cases h
      rw [List.lookup_cons]
      simp
    · have ne : x ≠ y := fun z => nd.1 (z ▸ List.mem_map.mpr ⟨(x, v), h, rfl⟩)
      rw [List.lookup_cons, show (x == y) = false from beq_eq_false_iff_ne.mpr ne]
      exact ih nd.2 h
def lamCx (P : Program) (w : World) (K : PySem.W.Frag) (mg : Str → Option Value) (base : Heap) (N : List Str) (qual : Str) (scope : Scope) (f : Addr) (cd : Value) (cl : List (Str × Addr)) (A : Around) (outer : List Env) (s : Shared) (H : Hp) : Cx where
  prog := P
  w := w
  K := K
  mg := mg
  base := base
  A := A.deeper (PySem.W.envX qual scope s.heap.objs.size f cd cl)
  N := N
  s₀ := s
  H₀ := H
  env := PySem.W.envX qual scope s.heap.objs.size f cd cl
  outer := outer
  stack := PySem.W.envX qual scope s.heap.objs.size f cd cl :: outer
  ex := []
  calm := true
  fn := fun _ => false
  pn := []
  xe := fun _ _ => False
def rec_ (cl : List (Str × Addr)) (G H : Hp) : Hp := fun b => if b ∈ cl.map (·.2) then G b else H b
/-- the cells, with what they hold -/
def CellsAt (G : Hp) (N : List Str) (cl : List (Str × Addr)) (σ : St) : Prop := ∀ x c, cl.lookup x = some c → ∃ o u, G c = some (exO c o) ∧ o.data = .cell (some u) ∧ ∀ (i : Nat) (v : V), N[i]? = some x → σ[i]? = some (some v) → RelV v u
theorem run_lam {P : Program} {w : World} {K : PySem.W.Frag} {mg : Str → Option Value} {base : Heap} {k : Nat} {N ps : List Str} {l : Lam} {cl : List (Str × Addr)} (S : LamScope N ps l cl) {A : Around} {outer : List Env} {s : Shared} {G : Hp} {f : Addr} {us : List Value} {vs ws : List V} {Q : VK} {E : XK}
    (hr : Room (k + 1) A) (e0 : Env0 P w K mg base A outer s G) (r : Vals vs us) (hl : vs.length = ps.length) (hN : N.length = vs.length + ws.length) (L : LamAt G f l cl) (hc : CellsAt G N cl ((vs ++ ws).map some)) (hcm : ∀ p ∈ cl, ∃ x, cl.lookup x = some p.2)
    (hbody : ∀ c' : Addr, ∃ t, PE (lamCx P w K mg base N l.qual l.scope f (.ref c') cl A outer s (unc cl G)) l.body t ∧ t ((vs ++ ws).map some) (unc cl G) fun v H' => Q v (rec_ cl G H')) :
    codeAny (model P w) A (.call (.ref f) ⟨us, []⟩) (CR CX0 outer P w G s Q E) s := by
  obtain ⟨c', oc, pm, ctv, hf, hc', vs', tt, hd, hv⟩ := L
  have ho := exO_get (e0.hok _ _ hf)
  have hoc := exO_get (e0.hok _ _ hc')
  have lim : s.heap.NoLimit := e0.mod.nolimit.keeps fun b o e => (e0.bs b o e).1
  have lu : us.length = ps.length := by rw [← r.length]; exact hl
  have hloc : ∀ y ∈ ps.zip us, l.scope.names.lookup y.1 = some .local := fun ⟨n, v⟩ hy => S.par n (List.of_mem_zip hy).1
  obtain ⟨t, ht, hq⟩ := hbody c'
  refine PySem.W.kla_callFunE hr.depth ho rfl S.co S.gen rfl ⟨c', oc, vs', tt, rfl, hoc, hd, hv⟩ ?_
  rw [S.binds pm ctv c' us lu]
  refine wpAny_pure (wpAny_newFunctionEnv S.nocell hloc (fun h₁ hns hsb => ⟨lim.fresh _ hsb, ?_⟩) S.kind)
  show codeAny _ _ (.expr l.body (PySem.W.envX l.qual l.scope s.heap.objs.size f (.ref c') cl)) _ _
  have hk₁ : ∀ b o, s.heap.get? b = some o → h₁.get? b = some o := fun b o e => hsb.extBut b o (Nat.ne_of_lt (Heap.lt_size e)) (Heap.get?_push_of_some _ e)
  have cin : ∀ a, a ∈ cl.map (·.2) → ∃ x, cl.lookup x = some a := fun a ha => by
    obtain ⟨q, hq, rfl⟩ := List.mem_map.mp ha
    exact hcm q hq
  have cat : ∀ x a, cl.lookup x = some a → a ∈ cl.map (·.2) := fun x a h => List.mem_map.mpr ⟨(x, a), PySem.mem_of_lookup h, rfl⟩
  have cob : ∀ a, a ∈ cl.map (·.2) → ∃ o u, G a = some (exO a o) ∧ o.data = .cell (some u) ∧ s.heap.get? a = some o := fun a ha => by
    obtain ⟨x, hx⟩ := cin a ha
    obtain ⟨o, u, h1, h2, _⟩ := hc x a hx
    exact ⟨o, u, h1, h2, exO_get (e0.hok _ _ h1)⟩
  have hokU : HOk P w (unc cl G) h₁ := fun b u e => by
    by_cases z : b ∈ cl.map (·.2)
    · rw [unc_in z] at e; cases e
    · rw [unc_out z] at e
      have outs : ∀ d u2, G d = some u2 → (∀ o, u2 ≠ exO d o) → d ∉ cl.map (·.2) := fun d u2 e3 n z2 => by
        obtain ⟨o, _, h1, _⟩ := cob d z2
        rw [h1] at e3
        exact n o (Option.some.inj e3).symm
      exact (e0.hok b u e).stay (fun d v _ q => hk₁ _ _ q) (fun d q => by rw [unc_out (outs d _ q (by intro o z3; cases z3))]; exact q) fun d xs q => by rw [unc_out (outs d _ q (by intro o z3; cases z3))]; exact q
  have nofr : ∀ b, G b = none → unc cl G b = none := fun b n => by
    by_cases z : b ∈ cl.map (·.2)
    · exact unc_in z
    · rw [unc_out z]; exact n
  have noA : ∀ b : Addr, b ∉ ([] : List Addr) := fun b z => nomatch z
  have I : Inv (lamCx P w K mg base N l.qual l.scope f (.ref c') cl A outer s (unc cl G)) [] ((vs ++ ws).map some) (unc cl G) { s with heap := h₁, toks := s.toks + (ps.zip us).length } := by
    refine ⟨⟨e0.mod, S.kind, rfl, rfl, Nat.le_refl _, fun x y c h1 h2 => S.inj x y c h1 h2, fun y hy => ?_, fun y c z => (by cases z), fun _ => hr.hd, Around.frames_deeper e0.frames, .inr ⟨rfl, rfl⟩, fun b z => (nomatch z), fun b o e => ⟨(e0.bs b o e).1, nofr b (e0.bs b o e).2⟩, e0.bsz, fun b _ _ z => (nomatch z), fun b z => (nomatch z), e0.funs, fun b hb => nofr b (e0.frf b hb)⟩,
      rfl, e0.bare, Un.kept hk₁, ⟨_, hns, fun i x v e1 e2 e3 => ?_⟩, fun x c h => ?_, ?_, fun x c h => unc_in (cat x c h), fun p hp => (nomatch hp), hokU, ?_⟩
    · have hy' : l.scope.names.lookup y = some .cell ∨ l.scope.names.lookup y = some .free := hy
      rcases hy' with hy' | hy'
      · exact absurd rfl (S.nocell _ (PySem.mem_of_lookup hy'))
      · exact S.fr y hy'
    · have e1' : N[i]? = some x := e1
      have e3' : Vis l.scope x := e3
      rcases e3' with k1 | k1 | k1
      · have hi : i < ps.length := by
          rcases Nat.lt_or_ge i ps.length with z | z
          · exact z
          · rw [S.post i x z e1'] at k1; cases k1
        have hvi : vs[i]? = some v := by
          rw [List.getElem?_map, List.getElem?_append_left (by omega)] at e2
          cases e4 : vs[i]? with
          | none => rw [e4] at e2; cases e2
          | some a => rw [e4] at e2; cases e2; rfl
        obtain ⟨u, hu, rv⟩ := r.get hvi
        have hp : ps[i]? = some x := by rw [← S.pre, List.getElem?_take_of_lt hi]; exact e1'
        have ndP : ps.Nodup := by rw [← S.pre]; exact S.nd.sublist (List.take_sublist _ _)
        refine ⟨u, rv, .inl ⟨k1, ?_⟩⟩
        have hm : (x, u) ∈ ps.zip us := List.mem_of_getElem? (i := i) (by rw [List.getElem?_zip_eq_some]; exact ⟨hp, hu⟩)
        refine lookup_nd ?_ (List.mem_reverse.mpr hm)
        rw [List.map_reverse]
        have e5 : (ps.zip us).map (·.1) = ps := List.map_fst_zip (by omega)
        rw [e5]
        exact (List.reverse_perm ps).symm.nodup ndP
      · exact absurd rfl (S.nocell _ (PySem.mem_of_lookup k1))
      · obtain ⟨c, hcx⟩ := S.fr x k1
        obtain ⟨o, u, h1, h2, h3⟩ := hc x c hcx
        exact ⟨u, h3 i v e1' e2, .inr ⟨.inr k1, c, hcx, o, hk₁ _ _ (exO_get (e0.hok _ _ h1)), h2⟩⟩
    · obtain ⟨o, u, h1, h2, h3⟩ := cob c (cat x c h)
      exact ⟨some u, o, hk₁ _ _ h3, h2⟩
    · exact nofr _ (e0.hok.fresh (Nat.le_refl _))
    · rw [List.length_map, List.length_append]
      exact hN.symm
  refine PySem.W.kla_codeExpr (wpAny_mono (ht [] _ _ _ _ I hq) (fun v s' hv => ?_) fun _ _ z => False.elim z)
  obtain ⟨x, H', J, rv, hQ⟩ := hv
  have un : Un (frs outer) [] (unc cl G) H' s.heap s'.heap := J.base
  have ncl : ∀ a, a ∈ cl.map (·.2) → ∀ o, s.heap.get? a = some o → H' a = none ∧ s'.heap.get? a = some o := fun a ha o e => by
    obtain ⟨o2, u, h1, h2, h3⟩ := cob a ha
    have nf : a ∉ frs outer := fun z => by rw [e0.frf a z] at h1; cases h1
    exact ⟨un.free a o e (unc_in ha) (by simp), un.keep a o e (unc_in ha) nf (by simp)⟩
  refine ⟨x, rec_ cl G H', J.os, J.bare, ⟨fun b o e n hb hx => un.keep b o e (nofr b n) hb hx, fun b o e n hb hx => un.slot b o e (nofr b n) hb hx, fun b o e n hx => ?_, fun b o e hx => un.there b o e hx, fun b xs e => ?_, fun b o u e => ?_, fun b q e => ?_⟩, fun b u e => ?_, rv, hQ⟩
  · have z : b ∉ cl.map (·.2) := fun z => by
      obtain ⟨o2, u, h1, _⟩ := cob b z
      rw [n] at h1; cases h1
    show (if b ∈ cl.map (·.2) then G b else H' b) = none
    rw [if_neg z]
    exact un.free b o e (nofr b n) hx
  · have z : b ∉ cl.map (·.2) := fun z => by
      obtain ⟨o2, u, h1, _⟩ := cob b z
      rw [e] at h1; cases h1
    show (if b ∈ cl.map (·.2) then G b else H' b) = _
    rw [if_neg z]
    exact un.tups b xs (by rw [unc_out z]; exact e)
  · have z : b ∉ cl.map (·.2) := fun z => by
      obtain ⟨o2, u, h1, _⟩ := cob b z
      rw [e] at h1; cases h1
    show (if b ∈ cl.map (·.2) then G b else H' b) = _
    rw [if_neg z]
    exact un.frzs b o u (by rw [unc_out z]; exact e)
  · have z : b ∉ cl.map (·.2) := fun z => by
      obtain ⟨o2, u, h1, _⟩ := cob b z
      rw [e] at h1; cases h1
    obtain ⟨m1, e3⟩ := un.tbls b q (by rw [unc_out z]; exact e)
    refine ⟨m1, ?_⟩
    show (if b ∈ cl.map (·.2) then G b else H' b) = _
    rw [if_neg z]
    exact e3
  · have e' : (if b ∈ cl.map (·.2) then G b else H' b) = some u := e
    by_cases z : b ∈ cl.map (·.2)
    · rw [if_pos z] at e'
      obtain ⟨o2, u2, h1, h2, h3⟩ := cob b z
      rw [h1] at e'; cases e'
      exact exO_ok (ncl b z o2 h3).2
    · rw [if_neg z] at e'
      have outs : ∀ d u2, H' d = some u2 → d ∉ cl.map (·.2) := fun d u2 e3 z2 => by
        obtain ⟨o, _, _, _, h3⟩ := cob d z2
        rw [(ncl d z2 o h3).1] at e3; cases e3
      refine (J.hok b u e').stay (fun d v _ q => q) (fun d q => ?_) fun d xs q => ?_
      · show (if d ∈ cl.map (·.2) then G d else H' d) = _
        rw [if_neg (outs d _ q)]; exact q
      · show (if d ∈ cl.map (·.2) then G d else H' d) = _
        rw [if_neg (outs d _ q)]; exact q
theorem rec_unc (cl : List (Str × Addr)) (G : Hp) : rec_ cl G (unc cl G) = G := by
  funext b
  unfold rec_ unc
  by_cases z : b ∈ cl.map (·.2)
  · rw [if_pos z]
  · rw [if_neg z, if_neg z]
/-! a function that is called by a name of this def -/
structure LCal (P : Program) (w : World) (K : PySem.W.Frag) (mg : Str → Option Value) (base : Heap) (k : Nat) (L : Addr → List V → Hp → VK → Prop) : Prop where
  fn : ∀ f vs H Q, L f vs H Q → ∃ o fd, H f = some (exO f o) ∧ o.data = .func fd
  run : ∀ (f : Addr) (A : Around) (outer : List Env) (s : Shared) (H : Hp) (us : List Value) (vs : List V) (Q : VK), Room k A → Env0 P w K mg base A outer s H → Vals vs us → L f vs H Q →
    codeAny (model P w) A (.call (.ref f) ⟨us, []⟩) (CR CX0 outer P w H s Q E0) s
def tCallF (i : Nat) (L : Addr → List V → Hp → VK → Prop) (t : TA) : TE := fun σ H Q => ∃ f o fd, σ[i]? = some (some (.ref f)) ∧ H f = some (exO f o) ∧ o.data = .func fd ∧ t σ H fun vs H1 => L f vs H1 Q
theorem fn_at {P : Program} {w : World} {H : Hp} {h : Heap} {f : Addr} {o : Obj} {fd : FuncData} (ok : HOk P w H h) (e : H f = some (exO f o)) (d : o.data = .func fd) : PySem.W.FnAt f h := by
  have := exO_get (ok _ _ e)
  obtain ⟨a, b, c, d'⟩ := o
  cases d
  exact ⟨_, _, _, _, this⟩
theorem pe_callF {X : Cx} {j k : Nat} {x : Str} {p pos : Pos} {e : Expr} {es : List Expr} {t : TA} {L : Addr → List V → Hp → VK → Prop} (i : Nat) (c : LCal X.prog X.w X.K X.mg X.base k L) (hr : Room j X.A) (ha : PA X (e :: es) t) (hk : k ≤ j := by decide)
    (hN : X.N[i]? = some x := by rfl) (hv : Vis X.env.scope x := by first | exact Or.inl rfl | exact Or.inr (Or.inl rfl) | exact Or.inr (Or.inr rfl)) (hd : (x == ("__debug__" : Str)) = false := by decide) (hcd : (x == ("__classdict__" : Str)) = false := by decide)
    (he : starEach (e :: es) X.env = (false, eval e X.env) :: starEach es X.env := by rfl) (hpl : (backTo pos (starEach es X.env)).any (·.1) = false := by rfl) :
    PE X (.Call (.Name x p) (e :: es) [] pos) (tCallF i L t) := by
  intro pins s0 σ H0 Q I0 h
  obtain ⟨f, o, fd, hσ, hf, hfd, h⟩ := h
  refine wpAny_Call_Name_kw (thn (pe_var (pos := p) hN hv hd hcd pins s0 σ H0 (fun v H1 => v = .ref f ∧ H1 = H0) I0 ⟨.ref f, hσ, rfl, rfl⟩) fun u s1 ⟨v, H1, I1, r1, q1, q2⟩ => ?_)
  subst q1 q2
  obtain rfl : u = Value.ref f := r1
  refine PySem.W.callWith_F (fn_at I1.hok hf hfd) (thn (ha pos pins s1 σ H1 _ I1 h) fun us s ⟨vs, H, I, r, q⟩ => ?_) he hpl
  obtain ⟨o2, fd2, e2, d2⟩ := c.fn f vs H Q q
  refine ⟨fn_at I.hok e2 d2, wpAny_call (codeAny_mono (c.run f X.A X.stack s H us vs Q (hr.mono hk) I.env0 r q) fun rr s' hq => ?_)⟩
  cases rr with
  | error e => exact False.elim hq
  | ok fl =>
    cases fl with
    | ret u => exact I.after hq
    | next => exact False.elim hq
    | brk => exact False.elim hq
    | cont => exact False.elim hq
/-- the lambda that a def hands on in what it gives back -/
def lamIn (q : Str) (st : Stmt) : Lam := match (defBody st).getLast? with
  | some (.Return (some (.Call _ as _ _)) _) => (match as.getLast? with
    | some (.Lambda ps b sc pos) => ⟨q, ps, b, sc, pos⟩
    | _ => ⟨q, defArgs st, .Name "" ⟨0, 0, 0, 0⟩, defScope st, ⟨0, 0, 0, 0⟩⟩)
  | _ => ⟨q, defArgs st, .Name "" ⟨0, 0, 0, 0⟩, defScope st, ⟨0, 0, 0, 0⟩⟩
theorem TabAt.same {H H' : Hp} {T : Addr} {l : Lam} (s : ∀ a o, H a = some o → H' a = some o) (h : TabAt H T l) : TabAt H' T l := by
  obtain ⟨ps, h1, h2, h3⟩ := h
  exact ⟨ps, s _ _ h1, h2, h3.imp id fun ⟨c, o, g1, g2, g3⟩ => ⟨c, o, g1, s _ _ g2, g3⟩⟩
theorem TabAt.other {H H' : Hp} {T T' : Addr} {l : Lam} {ps' : Array Value} (s : SameX T' H H') (n : T ≠ T') (e : H T' = some (.tbl ps')) (h : TabAt H T l) : TabAt H' T l := by
  obtain ⟨ps, h1, h2, h3⟩ := h
  exact ⟨ps, s _ _ n h1, h2, h3.imp id fun ⟨c, o, g1, g2, g3⟩ => ⟨c, o, g1, s _ _ (fun z => by rw [z, e] at g2; cases g2) g2, g3⟩⟩
theorem LamAt.same {H H' : Hp} {f : Addr} {l : Lam} {cl : List (Str × Addr)} (s : ∀ a o, H a = some o → H' a = some o) (h : LamAt H f l cl) : LamAt H' f l cl := by
  obtain ⟨c, oc, pm, ctv, h1, h2, h3⟩ := h
  exact ⟨c, oc, pm, ctv, s _ _ h1, s _ _ h2, h3⟩
theorem Cov.same {N : List Str} {σ : St} {cl : List (Str × Addr)} {H G : Hp} (c : Cov N σ cl H G) : ∀ a o, H a = some o → G a = some o := fun a o e => by
  rw [c.off a fun z => ?_]
  · exact e
  · obtain ⟨p, hp, rfl⟩ := List.mem_map.mp z
    have := (c.at_ p.1 p.2 hp).1
    rw [e] at this; cases this
theorem Cov.un {N : List Str} {σ : St} {cl : List (Str × Addr)} {H G G2 : Hp} (c : Cov N σ cl H G) (s : ∀ a o, G a = some o → G2 a = some o) : ∀ a o, H a = some o → unc cl G2 a = some o := fun a o e => by
  rw [unc_out fun z => ?_]
  · exact s _ _ (c.same a o e)
  · obtain ⟨p, hp, rfl⟩ := List.mem_map.mp z
    have := (c.at_ p.1 p.2 hp).1
    rw [e] at this; cases this
theorem Cov.keeps {N : List Str} {σ : St} {cl : List (Str × Addr)} {H G G2 : Hp} (c : Cov N σ cl H G) (s : ∀ a o, G a = some o → G2 a = some o) : ∀ p ∈ cl, G2 p.2 = G p.2 := fun p hp => by
  obtain ⟨_, o, e, _⟩ := c.at_ p.1 p.2 hp
  rw [e, s _ _ e]
theorem st_callC {N : List Str} {sp : Sp} {cl : List (Str × Addr)} {t : TA} {σ : St} {H : Hp} {Q : VK} (h : t σ H fun vs H1 => ∀ G, Cov N σ cl H1 G → sp vs G (fun v G2 => (∀ p ∈ cl, G2 p.2 = G p.2) ∧ Q v (unc cl G2)) E0) : tCallC N sp cl t σ H Q := h
theorem st_lam {T : Addr} {l : Lam} {cl : List (Str × Addr)} {σ : St} {H : Hp} {Q : VK} (t : TabAt H T l) (h : ∀ f H', SameX T H H' → TabAt H' T l → H f = none → LamAt H' f l cl → Q (.ref f) H') : tLam T l cl σ H Q := ⟨t, h⟩
theorem st_callF {i : Nat} {L : Addr → List V → Hp → VK → Prop} {t : TA} {σ : St} {H : Hp} {Q : VK} {f : Addr} {o : Obj} {fd : FuncData} (e : σ[i]? = some (some (.ref f))) (h1 : H f = some (exO f o)) (h2 : o.data = .func fd) (h : t σ H fun vs H1 => L f vs H1 Q) : tCallF i L t σ H Q := ⟨f, o, fd, e, h1, h2, h⟩
theorem TabAt.start {H : Hp} {T : Addr} {l : Lam} (h : H T = some (.tbl #[])) : TabAt H T l := ⟨#[], h, trivial, .inl rfl⟩
theorem SqT.stayT {K : PySem.W.Frag} {H H' : Hp} {a : Addr} {xs : List V} (s : SameT H H') (h : SqT K H a xs) : SqT K H' a xs := by
  rcases h with (h | ⟨o, h⟩) | h
  · exact .inl (.inl (s _ _ h (by intro p z; cases z)))
  · exact .inl (.inr ⟨o, s _ _ h (by intro p z; cases z)⟩)
  · exact .inr h
end L2

set_option Elab.async false
set_option linter.all false
set_option maxRecDepth 100000
namespace L2
open PySem PySem.Spec PyProof.Rows
/-! A law whose program makes lambdas: the tables of code are tracked from the start. -/
structure FunC (K : PySem.W.Frag) (x qual : Str) (st : Stmt) (f : Addr) (fd : FuncData) (c : Addr) : Prop where
  ex : ∃ (oc : Value) (od : Option Addr) (kV doc pm : Value) (an : Option Addr) (ct : Value) (osl : Array (Option Value)),
    fd = PySem.W.fnOf x qual (defArgs st) (defBody st) (defScope st) .none kV doc pm an (.ref c) ct ∧ K.lookup f = some ⟨oc, od, .func fd, osl⟩ ∧ PySem.W.codeIn K (.ref c) qual = true
  kp : PySem.W.keepIn K (.ref f) = true
section
variable {P : Program} {w : World} {K : PySem.W.Frag} {mg : Str → Option Value} {base : Heap}
theorem FunC.ok {x qual : Str} {st : Stmt} {f c : Addr} {fd : FuncData} {N ps : List Str} {k : Nat} {sp : Sp} (F : FunC K x qual st f fd c) (S : FnScope N ps (defScope st)) (len : ∀ vs H Q E, sp vs H Q E → vs.length = ps.length)
    (hbody : ∀ (A : Around) (outer : List Env) (s : Shared) (H : Hp) (vs : List V) (Q : VK) (E : XK), Room k (A.deeper (envOfC qual (defScope st) s.heap.objs.size f (.ref c))) → sp vs H Q E →
      ∃ t, PSs (cxOf CX0 P w K mg base N qual (defScope st) f (.ref c) A outer s H E).nox (defBody st) t ∧ t { nx := fun _ H' => Q .non H', rt := Q } (start N vs) H) : FnOk P w K mg base CX0 (k + 1) f fd ps sp := by
  obtain ⟨oc, od, kV, doc, pm, an, ct, osl, rfl, lk, hcd⟩ := F.ex
  refine fn_of lk hcd S len fun A outer s H vs Q E hr hsp => ?_
  obtain ⟨t, h, q⟩ := hbody A outer s H vs Q E hr hsp
  exact ⟨t, h.nox, q⟩
theorem FunC.binds {x qual : Str} {st : Stmt} {f c : Addr} {fd : FuncData} {ps : List Str} (F : FunC K x qual st f fd c)
    (h : ∀ (kV doc pm : Value) (an : Option Addr) (cdv ct : Value) (us : List Value), us.length = ps.length → bindArgs (PySem.W.fnOf x qual (defArgs st) (defBody st) (defScope st) .none kV doc pm an cdv ct) ⟨us, []⟩ = pure (ps.zip us)) : Binds K fd ps [] := by
  obtain ⟨oc, od, kV, doc, pm, an, ct, osl, rfl, lk, hcd⟩ := F.ex
  exact .all (h kV doc pm an (.ref c) ct)
theorem func_mk {x qual : Str} {st : Stmt} {f c : Addr} {oc : Value} {od an : Option Addr} {osl : Array (Option Value)} {kV doc pm ct : Value} (l : K.lookup f = some ⟨oc, od, .func (PySem.W.fnOf x qual (defArgs st) (defBody st) (defScope st) .none kV doc pm an (.ref c) ct), osl⟩)
    (h : PySem.W.codeIn K (.ref c) qual = true) (k : PySem.W.keepIn K (.ref f) = true) : FunC K x qual st f (PySem.W.fnOf x qual (defArgs st) (defBody st) (defScope st) .none kV doc pm an (.ref c) ct) c := ⟨⟨oc, od, kV, doc, pm, an, ct, osl, rfl, l, h⟩, k⟩
end
/-- a def of the text, called with a lambda behind one thing more -/
theorem pe_fnL {X : Cx} {j k : Nat} {ps : List Str} {sp : Sp} {x qual : Str} {p pos lpos : Pos} {e body : Expr} {params : Arguments} {scope : Scope} {te : TE} {cl : List (Str × Addr)} {c0 T : Addr} (c : Cal X.prog X.w X.K X.mg X.base CX0 k x ps sp) (hr : Room j X.A) (C : PySem.W.CodeHd X.base c0 T) (B : BltM X.mg X.base) (he : PE X e te)
    (hk : k ≤ j := by decide) (hg : Gl X x := by rfl) (hdb : (x == ("__debug__" : Str)) = false := by decide)
    (hcode : X.env.code = .ref c0 := by rfl) (hq : X.env.qual ++ "<lambda>" = qual := by rfl) (hdef : defaultsOf params X.env = ([], []) := by rfl) (hc0 : closureFor scope X.env = pure cl := by rfl)
    (h1 : starEach [e, .Lambda params body scope lpos] X.env = (false, eval e X.env) :: starEach [.Lambda params body scope lpos] X.env := by rfl) (h2 : (backTo pos (starEach [.Lambda params body scope lpos] X.env)).any (·.1) = false := by rfl)
    (h3 : starEach [.Lambda params body scope lpos] X.env = (false, eval (.Lambda params body scope lpos) X.env) :: starEach [] X.env := by rfl)
    (hcl : ∀ y a, (y, a) ∈ cl → X.env.cells.lookup y = some a ∧ X.env.kindOf y = some .cell ∧ X.fn y = true := by (intro y a h; first | (cases h with | head => exact ⟨rfl, rfl, rfl⟩ | tail _ h => cases h) | (cases h with | head => exact ⟨rfl, rfl, rfl⟩ | tail _ h => cases h with | head => exact ⟨rfl, rfl, rfl⟩ | tail _ h => cases h))) :
    PE X (.Call (.Name x p) [e, .Lambda params body scope lpos] [] pos) (tCallC X.N sp cl (tCons te (tCons (tLam T ⟨qual, params, body, scope, lpos⟩ cl) tNil))) :=
  pe_fnC c hr hcl (pa_cons he (pa_cons (pe_lam C B hcode hq hdef hc0) pa_nil h3) h1) hk hg hdb h1 h2
theorem law_callT {P : Program} {w : World} {K : PySem.W.Frag} {mg mb : Str → Option Value} {CX : CXT} {k : Nat} {fa a : Addr} {fd : FuncData} {x : Str} {sp : Sp} {s₁ : Shared} {vs : List Value} {ns : List Int} {tabs : List (Addr × Addr)}
    (KX : K.In s₁.heap) (hns : s₁.heap.Ns mainGlobals mg) (hb : s₁.heap.Ns builtinsNs mb) (hbb : ∀ x : Str, x ≠ "__name__" → mb x = bootBuiltins x) (hlim : s₁.heap.NoLimit) (hbm : BltM mg s₁.heap) (hg : s₁.gens = #[])
    (hT : PySem.W.TabsAt tabs s₁.heap) (hnt : PySem.W.noTabs K = true)
    (ha : s₁.heap.get? a = some { cls := .type "list", data := .seq vs.toArray }) (hi : IntsAre vs ns) (hl : ns.length ≤ sizeLine) (hr : Room k callerA)
    (F : ∀ base : Heap, K.In base → base.Ns mainGlobals mg → BltM mg base → FnOk P w K mg base CX k fa fd [x] sp) (hbind : ∀ (s : Shared) (u : Value), BindsTo s fd ⟨[u], []⟩ [(x, u)])
    (hsp : ∀ H : Hp, SqL K H a (ns.map V.int) → (∀ q ∈ tabs, H q.2 = some (.tbl #[])) → sp [.ref a] H (fun v _ => v = .bl true) fun _ _ _ => False)
    (hCX : ∀ H e s', CX [] H s₁ (fun _ _ _ => False) e s' → False) :
    codeAny (model P w) callerA (.call (.ref fa) ⟨[.ref a], []⟩) (fun r s' => r = .ok (.ret (.bool true)) ∧ OldK s₁.heap s'.heap ∧ s'.os = s₁.os ∧ AllBare s'.gens) s₁ := by
  have rv := vals_ints hi
  have lenV := hi.length
  have tat : ∀ b, b ∈ tabs.map (·.2) → s₁.heap.get? b = some (PySem.W.tabObj #[]) := fun b hb => by
    obtain ⟨q, hq, rfl⟩ := List.mem_map.mp hb
    exact (hT q hq).2
  have core : ∀ H : Hp, (∀ b u, H b = some u → (b ∈ tabs.map (·.2) ∧ u = .tbl #[]) ∨ ∃ o xs, b = a ∧ u = .frz o (.lst xs) ∧ K.lookup a = none) → (∀ b, b ∈ tabs.map (·.2) → H b = some (.tbl #[])) → SqL K H a (ns.map V.int) → HOk P w H s₁.heap →
      codeAny (model P w) callerA (.call (.ref fa) ⟨[.ref a], []⟩) (fun r s' => r = .ok (.ret (.bool true)) ∧ OldK s₁.heap s'.heap ∧ s'.os = s₁.os ∧ AllBare s'.gens) s₁ := by
    intro H hO hTb hS hok
    have base_of : ∀ {b : Addr} {o : Obj}, s₁.heap.get? b = some o → H b = none → (hidT s₁.heap H).get? b = some o := fun e n => hidT_get e n
    have noA : ∀ {b : Addr} {o : Obj}, s₁.heap.get? b = some o → o ≠ PySem.W.tabObj #[] → o.cls ≠ .type "list" → H b = none := fun {b o} e n1 n2 => by
      cases q : H b with
      | none => rfl
      | some u =>
        rcases hO b u q with ⟨z, _⟩ | ⟨_, _, z, _⟩
        · rw [tat b z] at e; exact (n1 (Option.some.inj e).symm).elim
        · rw [z, ha] at e; cases e; exact (n2 rfl).elim
    have nsK : ∀ {b : Addr} {m : Str → Option Value}, s₁.heap.Ns b m → (hidT s₁.heap H).Ns b m := fun {b m} ⟨o, es, ep, e, d, r⟩ => by
      refine ⟨o, es, ep, base_of e ?_, d, r⟩
      cases q : H b with
      | none => rfl
      | some u =>
        rcases hO b u q with ⟨z, _⟩ | ⟨_, _, z, _⟩
        · rw [tat b z] at e; cases e; cases d
        · rw [z, ha] at e; cases e
          have d' : Data.seq vs.toArray _ = Data.dict es ep := d
          cases d'
    have hKb : K.In (hidT s₁.heap H) := fun b o e => base_of (KX b o e) (by
      cases q : H b with
      | none => rfl
      | some u =>
        rcases hO b u q with ⟨z, _⟩ | ⟨_, _, z, _, z2⟩
        · have e1 := KX b o e
          rw [tat b z] at e1
          cases e1
          have h2 := List.all_eq_true.mp hnt (b, _) (PySem.W.mem_of_lookupK e)
          exact absurd (show false = true from h2) Bool.false_ne_true
        · rw [z, z2] at e; cases e)
    have hbmb : BltM mg (hidT s₁.heap H) := by
      obtain ⟨bm, ob, b1, b2, b3, b4, b5, b6⟩ := hbm
      exact ⟨bm, ob, b1, b2, base_of b3 (noA b3 (fun z => by rw [z] at b4; cases b4) (by rw [b4]; decide)), b4, b5, b6⟩
    have hM : Mod K mg (hidT s₁.heap H) := ⟨hKb, nsK hns, ⟨mb, nsK hb, hbb⟩, let ⟨mc, h1, h2⟩ := hlim; ⟨mc, nsK h1, h2⟩⟩
    have e0 : Env0 P w K mg (hidT s₁.heap H) callerA [] s₁ H := ⟨rfl, hM, fun b o e => of_hidT e, Nat.le_of_eq (hidT_size _ _), trivial, fun b hb => absurd (show b ∈ ([] : List Addr) from hb) (by simp), hok, .of_eq hg⟩
    refine codeAny_mono ((F _ hKb (nsK hns) hbmb).run callerA [] s₁ H ⟨[.ref a], []⟩ [.ref a] [.ref a] _ _ hr e0 (hbind s₁ (.ref a)) (.cons rfl .nil) (hsp H hS fun q hq => hTb q.2 (List.mem_map.mpr ⟨q, hq, rfl⟩))) fun r s' h => ?_
    cases r with
    | error e => exact (hCX H e s' h).elim
    | ok fl =>
      cases fl with
      | next => exact False.elim h
      | brk => exact False.elim h
      | cont => exact False.elim h
      | ret u =>
        obtain ⟨v, H', os, bare, un, hok', r', q⟩ := h
        have q' : v = .bl true := q
        subst q'
        obtain rfl : u = Value.bool true := r'
        refine ⟨rfl, ⟨fun b o e => ?_, fun b o e => un.there b o e (by simp)⟩, os, bare⟩
        cases q : H b with
        | none => exact .inl (un.keep b o e q (by intro z; exact absurd (show b ∈ ([] : List Addr) from z) (by simp)) (by simp))
        | some u =>
          rcases hO b u q with ⟨z, rfl⟩ | ⟨ob, xs, rfl, rfl, _⟩
          · obtain ⟨more, e2⟩ := un.tbls b _ q
            have e3 : s'.heap.get? b = some (PySem.W.tabObj (#[] ++ more)) := hok' b _ e2
            have e4 := tat b z
            rw [e] at e4; cases e4
            obtain ⟨p, hp, rfl⟩ := List.mem_map.mp z
            exact .inr (.inl ⟨((hT p hp).1.tab (hT p hp).2).isCodeTable, rfl, #[], more, rfl, e3⟩)
          · have z2 := un.frzs b ob _ q
            obtain ⟨e1, _⟩ := hok b _ q
            obtain ⟨e2, _⟩ := hok' b _ z2
            rw [e] at e1; cases e1
            exact .inl e2
  have nat : a ∉ tabs.map (·.2) := fun z => by rw [tat a z] at ha; cases ha
  cases hk : K.lookup a with
  | some o =>
    have e := KX a o hk
    rw [ha] at e
    cases e
    refine core (fun b => if b ∈ tabs.map (·.2) then some (.tbl #[]) else none) (fun b u e => ?_) (fun b hb => if_pos hb) (.inr ⟨_, vs.toArray, _, hk, rfl, rfl, rfl, by rw [List.size_toArray, lenV]; exact hl, by simpa using rv⟩) (fun b u e => ?_)
    · by_cases z : b ∈ tabs.map (·.2)
      · exact .inl ⟨z, (Option.some.inj ((if_pos z).symm.trans e)).symm⟩
      · have := (if_neg z).symm.trans e; cases this
    · by_cases z : b ∈ tabs.map (·.2)
      · have := (if_pos z).symm.trans e; cases this
        exact tat b z
      · have := (if_neg z).symm.trans e; cases this
  | none =>
    refine core (fun b => if b ∈ tabs.map (·.2) then some (.tbl #[]) else if b = a then some (.frz { cls := .type "list", data := .seq vs.toArray } (.lst (ns.map V.int))) else none) (fun b u e => ?_) (fun b hb => if_pos hb) (.inl (.inr ⟨{ cls := .type "list", data := .seq vs.toArray }, (if_neg nat).trans (if_pos rfl)⟩)) (fun b u e => ?_)
    · by_cases z : b ∈ tabs.map (·.2)
      · exact .inl ⟨z, (Option.some.inj ((if_pos z).symm.trans e)).symm⟩
      · have e := (if_neg z).symm.trans e
        by_cases z2 : b = a
        · exact .inr ⟨_, _, z2, (Option.some.inj ((if_pos z2).symm.trans e)).symm, hk⟩
        · have := (if_neg z2).symm.trans e; cases this
    · by_cases z : b ∈ tabs.map (·.2)
      · have := (if_pos z).symm.trans e; cases this
        exact tat b z
      · have e := (if_neg z).symm.trans e
        by_cases z2 : b = a
        · have := (if_pos z2).symm.trans e
          cases this
          subst z2
          exact ⟨ha, by rw [List.length_map]; exact hl, vs, _, rv, ha⟩
        · have := (if_neg z2).symm.trans e; cases this
theorem walk_ofT {l : PySem.W.OpenLaw} {n k : Nat} {q : Program} {loose : List Str} {XP : (Str → Option Value) → Heap → Prop} {YP : World → Heap → Prop} {d : DefRec} {K : Params → PySem.W.Frag} {CX : World → CXT} {sp : World → Sp} {x : Str} {tabs : List (Addr × Addr)}
    (hn : l.most = some n) (hn2 : n ≤ sizeLine) (hdf : d.params.defaults = []) (hr : Room k callerA)
    (hY : ∀ (w : World) (h : Heap), YP w h → (K w.params).In h ∧ PySem.W.TabsAt tabs h) (hnt : ∀ w : World, PySem.W.noTabs (K w.params) = true)
    (F : ∀ (w : World) (mg : Str → Option Value) (fa : Addr) (h : Heap), (K w.params).In h → h.Ns mainGlobals mg → mg d.name = some (.ref fa) →
      ∃ fd : FuncData, (∀ (s : Shared) (u : Value), BindsTo s fd ⟨[u], []⟩ [(x, u)]) ∧
        ∀ base : Heap, (K w.params).In base → base.Ns mainGlobals mg → BltM mg base → FnOk l.prog w (K w.params) mg base (CX w) k fa fd [x] (sp w))
    (hsp : ∀ (w : World) (H : Hp) (a : Addr) (ns : List Int), ns.length ≤ n → SqL (K w.params) H a (ns.map V.int) → (∀ q ∈ tabs, H q.2 = some (.tbl #[])) → sp w [.ref a] H (fun v _ => v = .bl true) fun _ _ _ => False)
    (hCX : ∀ (w : World) (H : Hp) (s : Shared) (e : Value) (s' : Shared), CX w [] H s (fun _ _ _ => False) e s' → False) :
    PySem.W.WalkO q loose XP YP l.row.toRowW d [] (fun f vs => PySem.call f vs) := by
  refine Att.attach_call hn hdf fun w s₀ s₁ mg mb fa o pm cd doc a vs ns G Y ho hd hcd hmg hobj hints hlen hg => ?_
  obtain ⟨KX, TX⟩ := hY w _ Y
  obtain ⟨fd, hb, hF⟩ := F w mg fa _ KX G.T.g hmg
  have hbm : BltM mg s₁.heap := G.T.bmain
  exact law_callT KX G.T.g G.T.b G.T.builtins G.T.nolimit hbm hg TX (hnt w) hobj hints (Nat.le_trans hlen hn2) hr hF hb (fun H hS hT => hsp w H a ns hlen hS hT) fun H e s' => hCX w H s₁ e s'
end L2

set_option Elab.async false
set_option linter.all false
set_option maxRecDepth 100000
namespace L2
open PySem PySem.Spec PyProof.Rows
section
variable {X : Cx}
/-- isinstance of a tuple that is read -/
def rIsiT (K : PySem.W.Frag) (c : V) (cv : Value) : List V → Hp → VK → Prop := fun xs H Q => ∃ a ys b, xs = [.ref a, c] ∧ SqT K H a ys ∧ PySem.W.kitOne K (.type "tuple") cv = some b ∧ Q (.bl b) H
theorem call_isiT {c : V} {cv : Value} (hc : ∀ u, RelV c u → u = cv) : CallR X (.builtin "isinstance") (rIsiT X.K c cv) := by
  intro pins s σ H xs us Q I r h
  obtain ⟨a, ys, b, rfl, sq, e, q⟩ := h
  obtain ⟨u, w, rfl, ru, rw'⟩ := Vals.two r
  cases hc w rw'
  cases (show u = Value.ref a from ru)
  obtain ⟨_, _, ⟨o, h1, h2, _⟩, _⟩ := I.tuple sq
  exact PySem.W.kia_one PySem.W.kitx_tuple I.kIn ⟨o, h1, h2⟩ e (fun z => nomatch z) fun tk => ⟨.bl b, H, I.tok tk, rfl, q⟩
theorem pe_isBT {x : Str} {T : String} {p p2 pos : Pos} {e : Expr} {te : TE} (hg : Gl X "isinstance") (hm : X.mg "isinstance" = none) (he : PE X e te) (hmT : X.mg x = none) (hT : bootBuiltins x = some (.type T)) (hgT : Gl X x := by rfl) (hn : x ≠ "__name__" := by decide) (hd : (x == ("__debug__" : Str)) = false := by decide)
    (h1 : starEach [e, .Name x p2] X.env = (false, eval e X.env) :: starEach [.Name x p2] X.env := by rfl) (h2 : (backTo pos (starEach [.Name x p2] X.env)).any (·.1) = false := by rfl) :
    PE X (.Call (.Name "isinstance" p) [e, .Name x p2] [] pos) (tCB (rIsiT X.K (.ty T) (.type T)) (tCons te (tCons (tC (.ty T)) tNil))) :=
  pe_callB (call_isiT fun u hu => hu) hg hm boot_isinstance (pa_cons he (pa_cons (pe_bltn hgT hmT hT rfl hn hd) pa_nil) h1) (by decide) (by decide) h1 h2
end
theorem st_isiT {K : PySem.W.Frag} {H : Hp} {Q : VK} {a : Addr} {ys : List V} {p : Bool} {c : V} {cv : Value} (sq : SqT K H a ys) (e : PySem.W.kitOne K (.type "tuple") cv = some p) (h : Q (.bl p) H) : rIsiT K c cv [.ref a, c] H Q := ⟨a, ys, p, rfl, sq, e, h⟩
end L2

set_option Elab.async false
set_option linter.all false
set_option maxRecDepth 100000
set_option maxHeartbeats 30000000
namespace L2
open PySem
theorem boot_all : bootBuiltins "all" = some (.builtin "all") := by decide +kernel
section
variable {X : Cx}
def CPowV (i j : Int) : Prop := j = 2 ∧ i.natAbs < 2 ^ 300
theorem op_powV : OpR X (binaryOp .Pow) (rI CPowV fun i j => .int (i ^ j.toNat)) := opI fun i j _ _ _ _ _ hc q => PyProof.Rows.pow_int (by rw [hc.1]; decide) (by have := bits300V hc.2; rw [hc.1]; omega) q
def rNotInD : R2 := fun x y H Q => ∃ a o, y = .ref a ∧ DGet H a x o ∧ Q (.bl (!o.isSome)) H
theorem op_notInD (hu : X.A.units + 1 < cLine) : OpR X (compareOp .NotIn) rNotInD := by
  intro pins s σ H x y v u Q I rx ry h
  obtain ⟨a, o, rfl, g, q⟩ := h
  cases ry
  exact d_notIn hu I g rx fun s' I' => ⟨.bl _, H, I', rfl, q⟩
end
theorem boot_sum : bootBuiltins "sum" = some (.builtin "sum") := by decide +kernel
end L2
namespace Tw
open PySem L2
local macro_rules | `(tactic| fail "la") => `(tactic| first | (with_reducible assumption) | exact upd_same | (with_reducible refine' upd_get ?s1 ?s2; (case s1 => with_reducible assumption); (case s2 => fail "la")))
local macro_rules | `(tactic| fail "sq") => `(tactic| first | (with_reducible assumption) | (with_reducible apply SqT.of upd_same) | (with_reducible apply SqL.of upd_same) | (with_reducible apply SqT.of; with_reducible assumption) | (with_reducible apply SqL.of; with_reducible assumption) | (with_reducible apply SqT.upd <;> first | (with_reducible assumption) | fail "sq") | (with_reducible apply SqL.upd <;> first | (with_reducible assumption) | fail "sq") | (with_reducible refine' Same.tup ?s1 ?s2; (case s1 => with_reducible assumption); (case s2 => fail "sq")) | (with_reducible refine' Same.seq ?s1 ?s2; (case s1 => with_reducible assumption); (case s2 => fail "sq")))
local macro_rules | `(tactic| fail "st") => `(tactic| dsimp only [cxOf_K])
local macro_rules | `(tactic| fail "sd") => `(tactic| first | omega | exact pow_pos2 _ | exact pow_le100 (by omega) | exact cdivw_pow (by omega) | exact cpow_n (by omega) | exact ⟨by decide, by decide⟩ | exact .inl ⟨by decide, by decide⟩ | decide)
local macro_rules | `(tactic| fail "tv") => `(tactic| ((with_reducible refine' st_var ?e1 ?h1); (case e1 => exact rfl)))
local macro_rules | `(tactic| fail "tx") => `(tactic| ((with_reducible refine' st_ixT ?s1 ?e1 ?h1); (case s1 => fail "sq"); (case e1 => exact rfl)))
local macro_rules | `(tactic| fail "tl") => `(tactic| ((with_reducible refine' st_ixL ?s1 ?e1 ?h1); (case s1 => fail "sq"); (case e1 => first | assumption | exact rfl)))
local macro_rules | `(tactic| fail "tg") => `(tactic| ((with_reducible refine' st_gtup ?s1 ?e1 ?h1); (case s1 => fail "sq"); (case e1 => exact rfl)))
local macro_rules | `(tactic| fail "ti") => `(tactic| ((with_reducible refine st_i ?c1 ?h1); (case c1 => fail "sd")))
local macro_rules | `(tactic| fail "ts") => `(tactic| ((with_reducible refine st_shl1 ?c1 ?h1); (case c1 => fail "sd")))
local macro_rules | `(tactic| fail "tm") => `(tactic| ((with_reducible refine st_modN ?c1 ?h1); (case c1 => fail "sd"); intro _ _ _))
local macro_rules | `(tactic| fail "td") => `(tactic| ((with_reducible refine st_divN ?c1 ?c2 ?h1); (case c1 => fail "sd"); (case c2 => fail "sd")))
local macro_rules | `(tactic| fail "tz") => `(tactic| ((with_reducible refine st_size ?c1 ?h1); (case c1 => exact rfl)))
local macro_rules | `(tactic| fail "sl") => `(tactic| ((with_reducible refine' st_slL ?s1 ?h1); (case s1 => fail "sq")))
local macro_rules | `(tactic| fail "n2") => `(tactic| ((with_reducible first | refine' rNeD_2 ?s1 ?s2 ?h1 | refine' rEqD_2 ?s1 ?s2 ?h1 | refine' rNeD_3 ?s1 ?s2 ?h1 | refine' rEqD_3 ?s1 ?s2 ?h1); (case s1 => fail "sq"); (case s2 => fail "sq")))
local macro_rules | `(tactic| fail "sm") => `(tactic| first | (with_reducible assumption) | exact Same.refl _ | (with_reducible refine' Same.updR ?s1 ?s2; (case s2 => with_reducible assumption); (case s1 => fail "sm")) | (with_reducible refine' Same.trans ?s1 ?s2; (case s2 => with_reducible assumption); (case s1 => fail "sm")))
local macro_rules | `(tactic| fail "is") => `(tactic| ((with_reducible refine' st_isi ?s1 ?s2 ?h1); (case s1 => first | exact TyOf.bl _ | exact TyOf.int _ | exact TyOf.str _ | exact TyOf.non | exact TyOf.tup upd_same | exact TyOf.lst upd_same | (with_reducible refine' TyOf.tup ?e9; (case e9 => fail "la")) | (with_reducible refine' TyOf.lst ?e9; (case e9 => fail "la")) | exact TyOf.dK upd_same); (case s2 => first | exact kit_NoneType_int | exact kit_NoneType_bool | exact kit_NoneType_str | exact kit_NoneType_tuple | exact kit_NoneType_list | exact kit_NoneType_dict | exact kit_bool_int | exact kit_bool_bool | exact kit_bool_str | exact kit_bool_tuple | exact kit_bool_list | exact kit_bool_dict | exact kit_int_int | exact kit_int_bool | exact kit_int_str | exact kit_int_tuple | exact kit_int_list | exact kit_int_dict | exact kit_str_int | exact kit_str_bool | exact kit_str_str | exact kit_str_tuple | exact kit_str_list | exact kit_str_dict | exact kit_list_int | exact kit_list_bool | exact kit_list_str | exact kit_list_tuple | exact kit_list_list | exact kit_list_dict | exact kit_tuple_int | exact kit_tuple_bool | exact kit_tuple_str | exact kit_tuple_tuple | exact kit_tuple_list | exact kit_tuple_dict | exact kit_dict_int | exact kit_dict_bool | exact kit_dict_str | exact kit_dict_tuple | exact kit_dict_list | exact kit_dict_dict)))
local macro_rules | `(tactic| fail "h0") => `(tactic| first | with_reducible refine st_andS ?_ | with_reducible refine st_andB ?_ | with_reducible refine st_and1 ?_ | with_reducible refine st_chain ?_ | with_reducible refine st_dnew ?_ | with_reducible refine st_yes ?_ | ((with_reducible refine' st_lstT ?s1 ?h1); (case s1 => fail "sq")) | with_reducible refine st_raise ?_ | with_reducible refine st_try ?_ | ((with_reducible refine st_shlB ?c1 ?h1); (case c1 => omega)) | ((with_reducible refine' st_in01 ?s1 ?c1 ?h1); (case s1 => fail "sq"); (case c1 => omega)))
local macro_rules | `(tactic| fail "h1") => `(tactic| with_reducible first | refine st_seq ?_ | refine st_asg ?_ | refine st_gname ?_ | refine st_op ?_ | refine st_c ?_ | refine st_if ?_ | refine st_ret ?_ | refine st_test ?_ | refine st_bl ?_ | refine st_cons ?_ | refine st_nil ?_ | refine st_call ?_ | refine st_tup ?_ | refine st_and ?_ | refine st_or ?_ | refine st_not ?_ | refine st_andN ?_ | refine st_orN ?_ | refine st_xorN ?_ | refine st_bit ?_ | refine st_i0 ?_ | refine st_shrN ?_ | refine st_eqi ?_ | refine st_nei ?_ | refine st_eqb ?_ | refine st_neb ?_ | refine st_eqs ?_ | refine st_nes ?_ | refine st_cb ?_ | refine st_lst ?_ | refine st_next ?_ | refine st_retN ?_ | refine st_drop ?_ | refine st_gcons ?_ | refine st_gnil ?_ | refine st_un ?_ | refine st_u ?_ | refine st_tB ?_ | refine st_andV ?_ | refine st_orV ?_ | refine st_notV ?_ | refine st_ifE ?_ | refine st_part ?_ | refine st_int ?_ | refine st_nopart ?_ | refine st_sl ?_)
local macro_rules | `(tactic| fail "h2") => `(tactic| first | with_reducible refine st_bm0 ?_ | with_reducible refine st_bm ?_ | with_reducible refine st_tyI ?_ | with_reducible refine st_tyS ?_ | with_reducible refine st_bitlen ?_ | ((with_reducible refine' st_tyL ?s1 ?h1); (case s1 => fail "sq")) | ((with_reducible refine' st_lenL ?s1 ?h1); (case s1 => fail "sq")) | ((with_reducible refine' st_lenT ?s1 ?h1); (case s1 => fail "sq")) | ((with_reducible refine' st_cat ?s1 ?s2 ?s3 ?h1); (case s1 => fail "la"); (case s2 => fail "la"); (case s3 => first | omega | (simp only [List.length_append, List.length_map, List.length_cons, List.length_nil]; omega))) | ((with_reducible refine' st_append ?s1 ?s2 ?h1); (case s1 => fail "la"); (case s2 => first | omega | (simp only [List.length_append, List.length_map, List.length_cons, List.length_nil]; omega))))
local macro_rules | `(tactic| fail "go") => `(tactic| repeat (first | fail "tv" | fail "h0" | fail "h1" | fail "tx" | fail "tl" | fail "ts" | fail "tm" | fail "td" | fail "ti" | fail "tz" | fail "tg" | fail "sl" | fail "n2" | fail "is" | fail "h2" | with_reducible refine iteT ?_ | with_reducible refine iteF ?_ | with_reducible refine iteNT ?_ | with_reducible refine iteNF ?_ | with_reducible refine (fun (p : Addr) (hp : _ = none) => ?_ : ∀ p : Addr, _ = none → _) | dsimp only [Bool.not_true, Bool.not_false]))
local macro_rules | `(tactic| fail "h2") => `(tactic| with_reducible first | refine st_fld ?_ | refine st_put ?_ | refine st_make ?_ | refine st_md ?_ | refine st_intB ?_)
local macro_rules | `(tactic| fail "tx") => `(tactic| ((with_reducible refine' st_ixT ?s1 ?e1 ?h1); (case s1 => fail "sq"); (case e1 => first | exact at0 _ _ | exact at1 _ _ _)))
local macro_rules | `(tactic| fail "h0") => `(tactic| with_reducible first | refine st_xorBB ?_ | refine st_xorNB ?_ | refine st_sub1B ?_)
local macro_rules | `(tactic| fail "h0") => `(tactic| with_reducible first | refine st_dget2 ?_ | refine st_dput ?_)
local macro_rules | `(tactic| fail "kw1") => `(tactic| first | ((with_reducible refine' ite_t ?e9 ?h9); (case e9 => decide +kernel)) | ((with_reducible refine' ite_f ?e9 ?h9); (case e9 => decide +kernel)))
local macro_rules | `(tactic| fail "kw") => `(tactic| (fail "go"; repeat (fail "kw1"; fail "go")))
theorem hu_of64 {A : Around} {k : Nat} (hr : Room k A) : A.units + 64 < cLine := hr.units
inductive MK where
  | ex
def top (i : Nat) : Stmt := PySem.Challenge.pw_twinwires_k24_halves.main.body.getD i (.Pass ⟨0, 0, 0, 0⟩)
abbrev s_is_whole_number : Stmt := top 2
theorem sc_is_whole_number : FnScope ["thing"] ["thing"] (defScope s_is_whole_number) := ⟨rfl, rfl, rfl, by decide +kernel, rfl, by decide +kernel, by decide +kernel⟩
abbrev s_Machine___init__ : Stmt := inClass (top 36) 0
theorem sc_Machine___init__ : FnScope ["self", "n", "most"] ["self", "n", "most"] (defScope s_Machine___init__) := ⟨rfl, rfl, rfl, by decide +kernel, rfl, by decide +kernel, by decide +kernel⟩
abbrev s_Exact___init__ : Stmt := inClass (top 43) 0
theorem sc_Exact___init__ : FnScope ["self", "n"] ["self", "n"] (defScope s_Exact___init__) := ⟨rfl, rfl, rfl, by decide +kernel, rfl, by decide +kernel, by decide +kernel⟩
abbrev s_Exact_whole : Stmt := inClass (top 43) 1
theorem sc_Exact_whole : FnScope ["self"] ["self"] (defScope s_Exact_whole) := ⟨rfl, rfl, rfl, by decide +kernel, rfl, by decide +kernel, by decide +kernel⟩
abbrev s_without_noughts : Stmt := top 13
theorem sc_without_noughts : FnScope ["whole", "told", "b", "pair"] ["whole"] (defScope s_without_noughts) := ⟨rfl, rfl, rfl, by decide +kernel, rfl, by decide +kernel, by decide +kernel⟩
abbrev s_bit_at : Stmt := top 4
theorem sc_bit_at : FnScope ["number", "k"] ["number", "k"] (defScope s_bit_at) := ⟨rfl, rfl, rfl, by decide +kernel, rfl, by decide +kernel, by decide +kernel⟩
abbrev s_exchanged : Stmt := top 29
theorem sc_exchanged : FnScope ["number", "j", "k", "unlike"] ["number", "j", "k"] (defScope s_exchanged) := ⟨rfl, rfl, rfl, by decide +kernel, rfl, by decide +kernel, by decide +kernel⟩
abbrev s_moved : Stmt := top 30
theorem sc_moved : FnScope ["whole", "place_of", "told", "b", "pair"] ["whole", "place_of"] (defScope s_moved) := ⟨rfl, rfl, rfl, by decide +kernel, rfl, by decide +kernel, by decide +kernel⟩
abbrev s_Over_on_whole : Stmt := inClass (top 23) 2
theorem sc_Over_on_whole : FnScope ["self", "whole", "bit"] ["self", "whole"] (defScope s_Over_on_whole) := ⟨rfl, rfl, rfl, by decide +kernel, rfl, by decide +kernel, by decide +kernel⟩
abbrev s_times_i : Stmt := top 11
theorem sc_times_i : FnScope ["pair", "often", "turns"] ["pair", "often"] (defScope s_times_i) := ⟨rfl, rfl, rfl, by decide +kernel, rfl, by decide +kernel, by decide +kernel⟩
abbrev s_turned_where_down : Stmt := top 31
theorem sc_turned_where_down : FnScope ["whole", "k", "often", "told", "b", "pair"] ["whole", "k", "often"] (defScope s_turned_where_down) := ⟨rfl, rfl, rfl, by decide +kernel, rfl, by decide +kernel, by decide +kernel⟩
abbrev s_Quarter_on_whole : Stmt := inClass (top 24) 2
theorem sc_Quarter_on_whole : FnScope ["self", "whole"] ["self", "whole"] (defScope s_Quarter_on_whole) := ⟨rfl, rfl, rfl, by decide +kernel, rfl, by decide +kernel, by decide +kernel⟩
abbrev s_Back_on_whole : Stmt := inClass (top 25) 2
theorem sc_Back_on_whole : FnScope ["self", "whole"] ["self", "whole"] (defScope s_Back_on_whole) := ⟨rfl, rfl, rfl, by decide +kernel, rfl, by decide +kernel, by decide +kernel⟩
abbrev s_add_at : Stmt := top 12
theorem sc_add_at : FnScope ["whole", "b", "pair", "before"] ["whole", "b", "pair"] (defScope s_add_at) := ⟨rfl, rfl, rfl, by decide +kernel, rfl, by decide +kernel, by decide +kernel⟩
abbrev s_Both_on_whole : Stmt := inClass (top 26) 2
theorem sc_Both_on_whole : FnScope ["self", "whole", "bit", "told", "b", "pair", "down"] ["self", "whole"] (defScope s_Both_on_whole) := ⟨rfl, rfl, rfl, by decide +kernel, rfl, by decide +kernel, by decide +kernel⟩
abbrev s_Where_on_whole : Stmt := inClass (top 27) 2
theorem sc_Where_on_whole : FnScope ["self", "whole", "j", "k"] ["self", "whole"] (defScope s_Where_on_whole) := ⟨rfl, rfl, rfl, by decide +kernel, rfl, by decide +kernel, by decide +kernel⟩
abbrev s_Swap_on_whole : Stmt := inClass (top 28) 2
theorem sc_Swap_on_whole : FnScope ["self", "whole", "j", "k"] ["self", "whole"] (defScope s_Swap_on_whole) := ⟨rfl, rfl, rfl, by decide +kernel, rfl, by decide +kernel, by decide +kernel⟩
abbrev s_Exact_follow : Stmt := inClass (top 43) 2
theorem sc_Exact_follow : FnScope ["self", "deed"] ["self", "deed"] (defScope s_Exact_follow) := ⟨rfl, rfl, rfl, by decide +kernel, rfl, by decide +kernel, by decide +kernel⟩
abbrev s_Deed_wires : Stmt := inClass (top 22) 2
theorem sc_Deed_wires : FnScope ["self"] ["self"] (defScope s_Deed_wires) := ⟨rfl, rfl, rfl, by decide +kernel, rfl, by decide +kernel, by decide +kernel⟩
abbrev s_Deed___init__ : Stmt := inClass (top 22) 0
theorem sc_Deed___init__ : FnScope ["self", "word", "undoer", "at"] ["self", "word", "undoer", "at"] (defScope s_Deed___init__) := ⟨rfl, rfl, rfl, by decide +kernel, rfl, by decide +kernel, by decide +kernel⟩
abbrev s_Swap___init__ : Stmt := inClass (top 28) 0
theorem sc_Swap___init__ : FnScope ["self", "j", "k"] ["self", "j", "k"] (defScope s_Swap___init__) := ⟨rfl, rfl, rfl, by decide +kernel, rfl, by decide +kernel, by decide +kernel⟩
abbrev s_Over___init__ : Stmt := inClass (top 23) 0
theorem sc_Over___init__ : FnScope ["self", "k"] ["self", "k"] (defScope s_Over___init__) := ⟨rfl, rfl, rfl, by decide +kernel, rfl, by decide +kernel, by decide +kernel⟩
abbrev s_Quarter___init__ : Stmt := inClass (top 24) 0
theorem sc_Quarter___init__ : FnScope ["self", "k"] ["self", "k"] (defScope s_Quarter___init__) := ⟨rfl, rfl, rfl, by decide +kernel, rfl, by decide +kernel, by decide +kernel⟩
abbrev s_Back___init__ : Stmt := inClass (top 25) 0
theorem sc_Back___init__ : FnScope ["self", "k"] ["self", "k"] (defScope s_Back___init__) := ⟨rfl, rfl, rfl, by decide +kernel, rfl, by decide +kernel, by decide +kernel⟩
abbrev s_Both___init__ : Stmt := inClass (top 26) 0
theorem sc_Both___init__ : FnScope ["self", "k"] ["self", "k"] (defScope s_Both___init__) := ⟨rfl, rfl, rfl, by decide +kernel, rfl, by decide +kernel, by decide +kernel⟩
abbrev s_Where___init__ : Stmt := inClass (top 27) 0
theorem sc_Where___init__ : FnScope ["self", "j", "k"] ["self", "j", "k"] (defScope s_Where___init__) := ⟨rfl, rfl, rfl, by decide +kernel, rfl, by decide +kernel, by decide +kernel⟩
abbrev s_check_words : Stmt := top 34
theorem sc_check_words : FnScope ["words", "at"] ["words"] (defScope s_check_words) := ⟨rfl, rfl, rfl, by decide +kernel, rfl, by decide +kernel, by decide +kernel⟩
abbrev s_deed_of_words : Stmt := top 33
theorem sc_deed_of_words : FnScope ["words", "word"] ["words"] (defScope s_deed_of_words) := ⟨rfl, rfl, rfl, by decide +kernel, rfl, by decide +kernel, by decide +kernel⟩
abbrev s_deed_of : Stmt := top 32
theorem sc_deed_of : FnScope ["words", "n", "deed"] ["words", "n"] (defScope s_deed_of) := ⟨rfl, rfl, rfl, by decide +kernel, rfl, by decide +kernel, by decide +kernel⟩
abbrev s_Machine_do : Stmt := inClass (top 36) 2
theorem sc_Machine_do : FnScope ["self", "words"] ["self", "words"] (defScope s_Machine_do) := ⟨rfl, rfl, rfl, by decide +kernel, rfl, by decide +kernel, by decide +kernel⟩
abbrev s_whole_weight : Stmt := top 40
theorem sc_whole_weight : FnScope ["whole"] ["whole"] (defScope s_whole_weight) := ⟨rfl, rfl, rfl, by decide +kernel, rfl, by decide +kernel, by decide +kernel⟩
abbrev s_added : Stmt := top 14
theorem sc_added : FnScope ["one", "other", "told", "b", "pair"] ["one", "other"] (defScope s_added) := ⟨rfl, rfl, rfl, by decide +kernel, rfl, by decide +kernel, by decide +kernel⟩
abbrev s_ones : Stmt := top 3
theorem sc_ones : FnScope ["number", "found", "rest"] ["number"] (defScope s_ones) := ⟨rfl, rfl, rfl, by decide +kernel, rfl, by decide +kernel, by decide +kernel⟩
abbrev s_letters_y : Stmt := top 19
theorem sc_letters_y : FnScope ["row"] ["row"] (defScope s_letters_y) := ⟨rfl, rfl, rfl, by decide +kernel, rfl, by decide +kernel, by decide +kernel⟩
abbrev s_acted_on : Stmt := top 39
theorem sc_acted_on : FnScope ["whole", "row", "told", "b", "pair", "minuses"] ["whole", "row"] (defScope s_acted_on) := ⟨rfl, rfl, rfl, by decide +kernel, rfl, by decide +kernel, by decide +kernel⟩
abbrev s_half_by : Stmt := top 42
theorem sc_half_by : FnScope ["whole", "row", "value"] ["whole", "row", "value"] (defScope s_half_by) := ⟨rfl, rfl, rfl, by decide +kernel, rfl, by decide +kernel, by decide +kernel⟩
abbrev s_halves_by : Stmt := top 41
theorem sc_halves_by : FnScope ["whole", "row"] ["whole", "row"] (defScope s_halves_by) := ⟨rfl, rfl, rfl, by decide +kernel, rfl, by decide +kernel, by decide +kernel⟩
abbrev s__law_cell_at : Stmt := top 45
theorem sc__law_cell_at : FnScope ["_law_script", "_law_k"] ["_law_script", "_law_k"] (defScope s__law_cell_at) := ⟨rfl, rfl, rfl, by decide +kernel, rfl, by decide +kernel, by decide +kernel⟩
abbrev s__law_mixed : Stmt := top 46
theorem sc__law_mixed : FnScope ["_law_draw", "_law_k", "_law_number"] ["_law_draw", "_law_k"] (defScope s__law_mixed) := ⟨rfl, rfl, rfl, by decide +kernel, rfl, by decide +kernel, by decide +kernel⟩
abbrev s__law_words : Stmt := top 47
theorem sc__law_words : FnScope ["_law_draw", "_law_n", "_law_way", "_law_k", "_law_j"] ["_law_draw", "_law_n"] (defScope s__law_words) := ⟨rfl, rfl, rfl, by decide +kernel, rfl, by decide +kernel, by decide +kernel⟩
abbrev s__law_bits : Stmt := top 51
theorem sc__law_bits : FnScope ["_law_draw", "_law_k", "_law_n", "_law_number"] ["_law_draw", "_law_k", "_law_n"] (defScope s__law_bits) := ⟨rfl, rfl, rfl, by decide +kernel, rfl, by decide +kernel, by decide +kernel⟩
abbrev s__law_signs : Stmt := top 52
theorem sc__law_signs : FnScope ["_law_draw", "_law_n", "_law_xs", "_law_zs", "_law_way", "_law_bit", "_law_other"] ["_law_draw", "_law_n"] (defScope s__law_signs) := ⟨rfl, rfl, rfl, by decide +kernel, rfl, by decide +kernel, by decide +kernel⟩
abbrev s__law_quarters : Stmt := top 48
theorem sc__law_quarters : FnScope ["_law_number", "_law_quarters_here", "_law_re", "_law_im", "_law_k"] ["_law_number", "_law_quarters_here"] (defScope s__law_quarters) := ⟨rfl, rfl, rfl, by decide +kernel, rfl, by decide +kernel, by decide +kernel⟩
abbrev s__law_ones : Stmt := top 53
theorem sc__law_ones : FnScope ["_law_number", "_law_found"] ["_law_number"] (defScope s__law_ones) := ⟨rfl, rfl, rfl, by decide +kernel, rfl, by decide +kernel, by decide +kernel⟩
abbrev s__law_acted : Stmt := top 54
theorem sc__law_acted : FnScope ["_law_whole", "_law_row", "_law_minus", "_law_xs", "_law_zs", "_law_found", "_law_here", "_law_number", "_law_quarters_here"] ["_law_whole", "_law_row"] (defScope s__law_acted) := ⟨rfl, rfl, rfl, by decide +kernel, rfl, by decide +kernel, by decide +kernel⟩
abbrev s__law_weight : Stmt := top 55
theorem sc__law_weight : FnScope ["_law_whole", "_law_other", "_law_sign", "_law_found", "_law_here", "_law_one", "_law_two"] ["_law_whole", "_law_other", "_law_sign"] (defScope s__law_weight) := ⟨rfl, rfl, rfl, by decide +kernel, rfl, by decide +kernel, by decide +kernel⟩
abbrev s__law_right : Stmt := top 56
theorem sc__law_right : FnScope ["_law_whole", "_law_row", "_law_other", "_law_handed", "_law_found", "_law_due"] ["_law_whole", "_law_row"] (defScope s__law_right) := ⟨rfl, rfl, rfl, by decide +kernel, rfl, by decide +kernel, by decide +kernel⟩
abbrev s_law : Stmt := top 57
theorem sc_law : FnScope ["_law_script", "_law_n", "_law_machine", "_law_draw", "_law_whole", "_law_other", "_law_k", "_law_number", "_law_row", "_law_halves"] ["_law_script"] (defScope s_law) := ⟨rfl, rfl, rfl, by decide +kernel, rfl, by decide +kernel, by decide +kernel⟩
structure Txt_D (K : PySem.W.Frag) (CD_D : DK → Addr) : Prop where
  cl : ∀ d, Cls K (CD_D d)
  n_word : ∀ d, NoAttr K (CD_D d) "word"
  n_undoer : ∀ d, NoAttr K (CD_D d) "undoer"
  n_at : ∀ d, NoAttr K (CD_D d) "at"
def CDof_D (C_Over C_Quarter C_Back C_Both C_Where C_Swap : Addr) : DK → Addr
  | .over => C_Over
  | .quarter => C_Quarter
  | .back => C_Back
  | .both => C_Both
  | .wher => C_Where
  | .swap => C_Swap
structure Txt_M (K : PySem.W.Frag) (CD_M : MK → Addr) : Prop where
  cl : ∀ d, Cls K (CD_M d)
  n_amounts : ∀ d, NoAttr K (CD_M d) "amounts"
  n_n : ∀ d, NoAttr K (CD_M d) "n"
def CDof_M (C_Exact : Addr) : MK → Addr
  | .ex => C_Exact
theorem But.of {f : Addr} {H H1 H' : Hp} (s : Same H H1) (h : But f H1 H') : But f H H' := fun c o hc e => h c o hc (s c o e)
def sp__law_put (K : PySem.W.Frag) : Sp := fun vs H Q _ => ∃ (f a : Addr) (b : Nat), vs = [.ref f, .int b, .ref a] ∧ ∃ (p : Int × Int) (ws : Wh) (kvs : List (Key × V)), SqT K H a [.int p.1, .int p.2] ∧ H f = some (.dK kvs) ∧ WR K H ws kvs ∧ ws.length ≤ 250 ∧
  ∀ H' kvs', H' f = some (.dK kvs') → WR K H' (wadd ws b p) kvs' → But f H H' → Q .non H'
theorem wput_len (ws : Wh) (b : Nat) (p : Int × Int) : (wput ws b p).length ≤ ws.length + 1 := by
  unfold wput
  split <;> simp
theorem deedF_step {d : Dd} {ws : Wh} {i : Nat} {e : Nat × Int × Int} (h : ws[i]? = some e) : deedF d (ws.take (i + 1)) = adds (deedF d (ws.take i)) (deedW d.k (d.w.getD 0 0) (d.w.getD 1 0) e) := by
  unfold deedF
  rw [take_succ_of h, List.foldl_append]
  rfl
theorem adds_len : ∀ (es ws : Wh), (adds ws es).length ≤ ws.length + es.length
  | [], ws => by simp [adds]
  | e :: es, ws => by
    have h := adds_len es (wadd ws e.1 e.2)
    have h2 := wput_len ws e.1 (((wat ws e.1).getD (0, 0)).1 + e.2.1, ((wat ws e.1).getD (0, 0)).2 + e.2.2)
    show (adds (wadd ws e.1 e.2) es).length ≤ _
    unfold wadd at h ⊢
    simp only [List.length_cons]
    omega
theorem deedW_len (k : DK) (i j : Nat) (e : Nat × Int × Int) : (deedW k i j e).length ≤ 2 := by cases k <;> simp [deedW]
def kd : Nat → DK
  | 0 => .over | 1 => .quarter | 2 => .back | 3 => .both | 4 => .wher | _ => .swap
def kd1 : Nat → DK
  | 0 => .over | 1 => .quarter | 2 => .back | 3 => .both | 4 => .over | _ => .both
theorem ne_mod {n j t : Nat} (hj : j < n) (h1 : 1 ≤ t) (h2 : t < n) : (j + t) % n ≠ j := by
  rcases Nat.lt_or_ge (j + t) n with h | h
  · rw [Nat.mod_eq_of_lt h]
    omega
  · rw [Nat.mod_eq_sub_mod h, Nat.mod_eq_of_lt (by omega)]
    omega
theorem ne_modI {n j i : Nat} {r : Int} (hj : j < n) (h0 : 0 ≤ r) (h2 : r < (n : Int) - 1) (e : ((j : Int) + 1 + r) % (n : Int) = (i : Int)) : j ≠ i := by
  obtain ⟨t, rfl⟩ : ∃ t : Nat, r = (t : Int) := ⟨r.toNat, by omega⟩
  have e2 : ((j + (1 + t)) % n : Nat) = i := by
    have e3 : (j : Int) + 1 + (t : Int) = ((j + (1 + t) : Nat) : Int) := by push_cast; omega
    rw [e3, ← Int.natCast_emod] at e
    exact Int.ofNat_inj.mp e
  intro z
  exact ne_mod hj (by omega) (by omega) (e2.trans z.symm)
def sp__law_words (K : PySem.W.Frag) : Sp := fun vs H Q _ => ∃ (c : Int) (n : Nat), vs = [.int c, .int n] ∧ 0 < n ∧ n ≤ 40 ∧ ∀ p H' (d : Dd), Same H H' → H' p = some (.tup (.str d.k.word :: vn d.w)) → d.Ok n → Q (.ref p) H'
theorem map_int_inj : ∀ {a b : List Nat}, a.map (fun x : Nat => (x : Int)) = b.map (fun x : Nat => (x : Int)) → a = b
  | [], [], _ => rfl
  | [], _ :: _, h => by cases h
  | _ :: _, [], h => by cases h
  | x :: r, y :: t, h => by
    simp only [List.map_cons, List.cons.injEq] at h
    rw [Int.ofNat_inj.mp h.1, map_int_inj h.2]
theorem dd_eq {d e : Dd} (hk : d.k = e.k) (hw : d.w.map (fun x : Nat => (x : Int)) = e.w.map (fun x : Nat => (x : Int))) : d = e := by
  obtain ⟨k, w⟩ := d
  obtain ⟨k', w'⟩ := e
  cases hk
  have hw' : w = w' := map_int_inj hw
  rw [hw']
theorem nodup_int : ∀ {l : List Nat}, l.Nodup → (l.map fun x : Nat => (x : Int)).Nodup
  | [], _ => by simp
  | x :: r, h => by
    rw [List.nodup_cons] at h
    rw [List.map_cons, List.nodup_cons]
    refine ⟨fun z => ?_, nodup_int h.2⟩
    obtain ⟨y, hy, e⟩ := List.mem_map.mp z
    have e2 : y = x := Int.ofNat_inj.mp e
    rw [e2] at hy
    exact h.1 hy
theorem vn_app (a b : List Nat) : vn a ++ vn b = vn (a ++ b) := by unfold vn; rw [List.map_append]
/-- the heap behind {b: (1, 0)} -/
theorem disp_at {K : PySem.W.Frag} {H : Hp} {p1 p2 : Addr} {b : Nat} (h1 : H p1 = none) (h2 : (upd H p1 (.dK [])) p2 = none) :
    Same H (upd (upd (upd H p1 (.dK [])) p2 (.tup [.int 1, .int 0])) p1 (.dK [(.inl ((b : Nat) : Int), .ref p2)])) ∧ (upd (upd (upd H p1 (.dK [])) p2 (.tup [.int 1, .int 0])) p1 (.dK [(.inl ((b : Nat) : Int), .ref p2)])) p1 = some (.dK [(.inl ((b : Nat) : Int), .ref p2)]) ∧
      WR K (upd (upd (upd H p1 (.dK [])) p2 (.tup [.int 1, .int 0])) p1 (.dK [(.inl ((b : Nat) : Int), .ref p2)])) [(b, (1, 0))] [(.inl ((b : Nat) : Int), .ref p2)] := by
  have hne : p2 ≠ p1 := Ne.symm (ne_of_none upd_same h2)
  refine ⟨fun c o e => ?_, upd_same, .cons (SqT.of ?_) .nil⟩
  · rw [upd_ne (ne_of_none e h1)]
    exact same_new h2 _ _ _ (same_new h1 _ _ _ e)
  · rw [upd_ne hne]
    exact upd_same
abbrev lam_over : Lam := lamIn (("Over.on_whole" : Str) ++ ".<locals>." ++ "<lambda>") s_Over_on_whole
abbrev lam_wher : Lam := lamIn (("Where.on_whole" : Str) ++ ".<locals>." ++ "<lambda>") s_Where_on_whole
abbrev lam_swap : Lam := lamIn (("Swap.on_whole" : Str) ++ ".<locals>." ++ "<lambda>") s_Swap_on_whole
def Tabs (T1 T2 T3 : Addr) (H : Hp) : Prop := TabAt H T1 lam_over ∧ TabAt H T2 lam_wher ∧ TabAt H T3 lam_swap ∧ [T1, T2, T3].Nodup
/-- a cell that holds a number -/
def CellN (H : Hp) (c : Addr) (i : Nat) : Prop := ∃ o t, H c = some (exO c o) ∧ o.data = .cell (some (.int (i : Int) t))
/-- what a lambda does to a number -/
inductive LamG (H : Hp) (f : Addr) : (Nat → Nat) → Prop where
  | over {c : Addr} {i : Nat} : LamAt H f lam_over [("bit", c)] → CellN H c (2 ^ i) → i ≤ 1000 → LamG H f (fun b => b ^^^ 2 ^ i)
  | wher {c d : Addr} {i j : Nat} : LamAt H f lam_wher [("k", d), ("j", c)] → c ≠ d → CellN H c i → CellN H d j → i ≤ 1000 → j ≤ 1000 → LamG H f (fun b => b ^^^ (b.testBit i).toNat * 2 ^ j)
  | swap {c d : Addr} {i j : Nat} : LamAt H f lam_swap [("k", d), ("j", c)] → c ≠ d → CellN H c i → CellN H d j → i ≤ 1000 → j ≤ 1000 → LamG H f (fun b => ex b i j)
def LL (f : Addr) (vs : List V) (H : Hp) (Q : VK) : Prop := ∃ (b : Nat) (g : Nat → Nat), vs = [.int b] ∧ LamG H f g ∧ Q (.int ((g b : Nat) : Int)) H
def wnz (ws : Wh) : Wh := ws.filter fun e => decide (e.2 ≠ (0, 0))
def sp_times_i (K : PySem.W.Frag) : Sp := fun vs H Q _ => ∃ (a : Addr) (o : Nat) (p : Int × Int), vs = [.ref a, .int o] ∧ SqT K H a [.int p.1, .int p.2] ∧ ∀ t H', Same H H' → SqT K H' t [.int (turn o p).1, .int (turn o p).2] → Q (.ref t) H'
abbrev sp_add_at (K : PySem.W.Frag) : Sp := sp__law_put K
def sp_without_noughts (K : PySem.W.Frag) : Sp := fun vs H Q _ => ∃ (a : Addr) (ws : Wh), vs = [.ref a] ∧ WhAt K H a ws ∧ (ws.map (·.1)).Nodup ∧ ws.length ≤ 200 ∧ ∀ p H', Same H H' → H p = none → WhAt K H' p (wnz ws) → Q (.ref p) H'
def sp_moved (K : PySem.W.Frag) : Sp := fun vs H Q _ => ∃ (a f : Addr) (ws : Wh) (g : Nat → Nat), vs = [.ref a, .ref f] ∧ WhAt K H a ws ∧ (ws.map fun e => g e.1).Nodup ∧ ws.length ≤ 200 ∧ LamG H f g ∧ ∀ p H', Same H H' → H p = none → WhAt K H' p (wnz (ws.map fun e => (g e.1, e.2))) → Q (.ref p) H'
def sp_turned_where_down (K : PySem.W.Frag) : Sp := fun vs H Q _ => ∃ (a : Addr) (k o : Nat) (ws : Wh), vs = [.ref a, .int k, .int o] ∧ WhAt K H a ws ∧ (ws.map (·.1)).Nodup ∧ ws.length ≤ 200 ∧ k ≤ 1000 ∧ o ≤ 3 ∧ ∀ p H', Same H H' → H p = none → WhAt K H' p (wnz (ws.map fun e => (e.1, turn (o * (e.1.testBit k).toNat) e.2))) → Q (.ref p) H'
def sp_D_on_whole (K : PySem.W.Frag) (CD : DK → Addr) (T1 T2 T3 : Addr) (k : DK) : Sp := fun vs H Q _ => ∃ (x a : Addr) (d : Dd) (ws : Wh), vs = [.ref x, .ref a] ∧ d.k = k ∧ DdAt CD H x d ∧ d.w.Nodup ∧ (∀ i ∈ d.w, i ≤ 1000) ∧ WhAt K H a ws ∧ (ws.map (·.1)).Nodup ∧ ws.length ≤ 90 ∧ Tabs T1 T2 T3 H ∧
  ∀ p H', SameT H H' → Tabs T1 T2 T3 H' → H p = none → WhAt K H' p (wnz (deedF d ws)) → Q (.ref p) H'
abbrev sp_Over_on_whole (K : PySem.W.Frag) (CD : DK → Addr) (T1 T2 T3 : Addr) : Sp := sp_D_on_whole K CD T1 T2 T3 .over
abbrev sp_Quarter_on_whole (K : PySem.W.Frag) (CD : DK → Addr) (T1 T2 T3 : Addr) : Sp := sp_D_on_whole K CD T1 T2 T3 .quarter
abbrev sp_Back_on_whole (K : PySem.W.Frag) (CD : DK → Addr) (T1 T2 T3 : Addr) : Sp := sp_D_on_whole K CD T1 T2 T3 .back
abbrev sp_Both_on_whole (K : PySem.W.Frag) (CD : DK → Addr) (T1 T2 T3 : Addr) : Sp := sp_D_on_whole K CD T1 T2 T3 .both
abbrev sp_Where_on_whole (K : PySem.W.Frag) (CD : DK → Addr) (T1 T2 T3 : Addr) : Sp := sp_D_on_whole K CD T1 T2 T3 .wher
abbrev sp_Swap_on_whole (K : PySem.W.Frag) (CD : DK → Addr) (T1 T2 T3 : Addr) : Sp := sp_D_on_whole K CD T1 T2 T3 .swap

def Sm2 (H : Hp) : Prop := True
theorem WhAt.to {K : PySem.W.Frag} {H H' : Hp} {a : Addr} {ws : Wh} (h : WhAt K H a ws) (s : SameT H H') : WhAt K H' a ws := by
  obtain ⟨kvs, h1, h2⟩ := h
  exact ⟨kvs, s _ _ h1 (by intro p z; cases z), h2.stay fun a xs x => SqT.stayT s x⟩
theorem Tabs.to {T1 T2 T3 : Addr} {H H' : Hp} (h : Tabs T1 T2 T3 H) (s : Same H H') : Tabs T1 T2 T3 H' := ⟨h.1.same s, h.2.1.same s, h.2.2.1.same s, h.2.2.2⟩
theorem LamG.fn {H : Hp} {f : Addr} {g : Nat → Nat} (h : LamG H f g) : ∃ o fd, H f = some (exO f o) ∧ o.data = .func fd := by
  cases h with
  | over a _ _ => obtain ⟨c', oc, pm, ctv, hf, _⟩ := a; exact ⟨_, _, hf, rfl⟩
  | wher a _ _ _ _ _ => obtain ⟨c', oc, pm, ctv, hf, _⟩ := a; exact ⟨_, _, hf, rfl⟩
  | swap a _ _ _ _ _ => obtain ⟨c', oc, pm, ctv, hf, _⟩ := a; exact ⟨_, _, hf, rfl⟩
theorem SqT.unc {K : PySem.W.Frag} {G : Hp} {cl : List (Str × Addr)} (hc : ∀ p ∈ cl, ∃ o, G p.2 = some (exO p.2 o)) {a : Addr} {xs : List V} (h : SqT K G a xs) : SqT K (unc cl G) a xs := by
  have out : ∀ {b u}, G b = some u → (∀ o, u ≠ exO b o) → L2.unc cl G b = some u := fun {b u} e n => by
    rw [unc_out fun z => ?_]
    · exact e
    · obtain ⟨p, hp, rfl⟩ := List.mem_map.mp z
      obtain ⟨o, eo⟩ := hc p hp
      rw [e] at eo
      exact n o (Option.some.inj eo)
  rcases h with (h | ⟨o, h⟩) | h
  · exact .inl (.inl (out h (by intro o z; cases z)))
  · exact .inl (.inr ⟨o, out h (by intro o z; cases z)⟩)
  · exact .inr h
theorem WhAt.unc {K : PySem.W.Frag} {G : Hp} {cl : List (Str × Addr)} (hc : ∀ p ∈ cl, ∃ o, G p.2 = some (exO p.2 o)) {a : Addr} {ws : Wh} (h : WhAt K G a ws) : WhAt K (L2.unc cl G) a ws := by
  obtain ⟨kvs, h1, h2⟩ := h
  refine ⟨kvs, ?_, h2.stay fun b xs x => SqT.unc hc x⟩
  rw [unc_out fun z => ?_]
  · exact h1
  · obtain ⟨p, hp, rfl⟩ := List.mem_map.mp z
    obtain ⟨o, eo⟩ := hc p hp
    rw [h1] at eo
    cases eo
theorem nodup_inj {g : Nat → Nat} (hg : ∀ a b, g a = g b → a = b) : ∀ {ws : Wh}, (ws.map (·.1)).Nodup → (ws.map fun e => g e.1).Nodup
  | [], _ => by simp
  | e :: ws, h => by
    rw [List.map_cons, List.nodup_cons] at h ⊢
    refine ⟨fun z => h.1 ?_, nodup_inj hg h.2⟩
    obtain ⟨e2, h2, h3⟩ := List.mem_map.mp z
    exact List.mem_map.mpr ⟨e2, h2, hg _ _ h3⟩
theorem nd3 {a b c : Addr} (h : [a, b, c].Nodup) : a ≠ b ∧ a ≠ c ∧ b ≠ c := by
  rw [List.nodup_cons, List.nodup_cons] at h
  exact ⟨fun z => h.1 (by simp [z]), fun z => h.1 (by simp [z]), fun z => h.2.1 (by simp [z])⟩
theorem inv_inj {g : Nat → Nat} (h : ∀ b, g (g b) = b) : ∀ a b, g a = g b → a = b := fun a b e => by rw [← h a, e, h]
theorem xor_two (b x : Nat) : b ^^^ x ^^^ x = b := by rw [Nat.xor_assoc, Nat.xor_self, Nat.xor_zero]
theorem wher_two {i j : Nat} (hij : i ≠ j) (b : Nat) : (b ^^^ (b.testBit i).toNat * 2 ^ j) ^^^ ((b ^^^ (b.testBit i).toNat * 2 ^ j).testBit i).toNat * 2 ^ j = b := by
  have e : (b ^^^ (b.testBit i).toNat * 2 ^ j).testBit i = b.testBit i := by
    rw [Nat.testBit_xor, tb_mul, decide_eq_false (Ne.symm hij), Bool.false_and, Bool.xor_false]
  rw [e, xor_two]
theorem ex_two {i j : Nat} (hij : i ≠ j) (b : Nat) : ex (ex b i j) i j = b := by
  have hji : j ≠ i := Ne.symm hij
  have e : ((ex b i j).testBit i ^^ (ex b i j).testBit j) = (b.testBit i ^^ b.testBit j) := by
    unfold ex
    simp only [Nat.testBit_xor, tb_mul, hij, hji, decide_true, decide_false, Bool.true_and, Bool.false_and, Bool.xor_false]
    cases b.testBit i <;> cases b.testBit j <;> rfl
  show ex b i j ^^^ ((ex b i j).testBit i ^^ (ex b i j).testBit j).toNat * 2 ^ i ^^^ ((ex b i j).testBit i ^^ (ex b i j).testBit j).toNat * 2 ^ j = b
  rw [e]
  unfold ex
  generalize (b.testBit i ^^ b.testBit j).toNat * 2 ^ i = u
  generalize (b.testBit i ^^ b.testBit j).toNat * 2 ^ j = v
  apply Nat.eq_of_testBit_eq
  intro q
  simp only [Nat.testBit_xor]
  cases b.testBit q <;> cases u.testBit q <;> cases v.testBit q <;> rfl
theorem deedF_map {d : Dd} {f : Nat × Int × Int → Nat × Int × Int} (hf : ∀ e, deedW d.k (d.w.getD 0 0) (d.w.getD 1 0) e = [f e]) {ws : Wh} (nd : (ws.map fun e => (f e).1).Nodup) : deedF d ws = ws.map f := by
  have key : ∀ (es acc : Wh), ((acc ++ es.map f).map (·.1)).Nodup → es.foldl (fun acc e => adds acc (deedW d.k (d.w.getD 0 0) (d.w.getD 1 0) e)) acc = acc ++ es.map f := by
    intro es
    induction es with
    | nil => intro acc _; simp
    | cons e es ih =>
      intro acc h
      have h1 : ∀ x ∈ acc, x.1 ≠ (f e).1 := fun x hx z => by
        rw [List.map_cons, List.map_append, List.nodup_append] at h
        exact h.2.2 x.1 (List.mem_map.mpr ⟨x, hx, rfl⟩) (f e).1 (by simp) z
      have h2 : adds acc (deedW d.k (d.w.getD 0 0) (d.w.getD 1 0) e) = acc ++ [f e] := by
        rw [hf]
        exact wadd_new h1
      rw [List.foldl_cons, h2, ih (acc ++ [f e]) (by rw [List.append_assoc]; exact h), List.append_assoc]
      rfl
  have := key ws [] (by rw [List.nil_append, List.map_map]; exact nd)
  rw [List.nil_append] at this
  exact this
theorem none_ofX {H H' : Hp} {p : Addr} (s : Same H H') (h : H' p = none) : H p = none := by
  cases e : H p with
  | none => rfl
  | some o => rw [s _ _ e] at h; cases h
theorem LamG.ex {H H' : Hp} {f : Addr} {g : Nat → Nat} (h : LamG H f g) (s : ∀ c o, H c = some (exO c o) → H' c = some (exO c o)) : LamG H' f g := by
  have la : ∀ {l : Lam} {cl : List (Str × Addr)}, LamAt H f l cl → LamAt H' f l cl := fun ⟨c, oc, pm, ctv, h1, h2, h3⟩ => ⟨c, oc, pm, ctv, s _ _ h1, s _ _ h2, h3⟩
  have ce : ∀ {c i}, CellN H c i → CellN H' c i := fun ⟨o, t, h1, h2⟩ => ⟨o, t, s _ _ h1, h2⟩
  cases h with
  | over a b c => exact .over (la a) (ce b) c
  | wher a n b c d e => exact .wher (la a) n (ce b) (ce c) d e
  | swap a n b c d e => exact .swap (la a) n (ce b) (ce c) d e
theorem map_step {f : Nat × Int × Int → Nat × Int × Int} {ws : Wh} {i : Nat} {e : Nat × Int × Int} (nd : (ws.map fun e => (f e).1).Nodup) (h : ws[i]? = some e) : (ws.take (i + 1)).map f = wput ((ws.take i).map f) (f e).1 (f e).2 := by
  have hi := (List.getElem?_eq_some_iff.mp h).1
  rw [take_succ_of h, List.map_append, wput_new]
  · rfl
  · intro x hx z
    obtain ⟨y, hy, rfl⟩ := List.mem_map.mp hx
    obtain ⟨j, hj⟩ := List.getElem?_of_mem hy
    have hj2 := (List.getElem?_eq_some_iff.mp hj).1
    rw [List.length_take] at hj2
    rw [List.getElem?_take_of_lt (by omega)] at hj
    have e1 : (ws.map fun e => (f e).1)[j]? = some (f y).1 := by rw [List.getElem?_map, hj]; rfl
    have e2 : (ws.map fun e => (f e).1)[i]? = some (f e).1 := by rw [List.getElem?_map, h]; rfl
    rw [z] at e1
    obtain ⟨l1, g1⟩ := List.getElem?_eq_some_iff.mp e1
    obtain ⟨l2, g2⟩ := List.getElem?_eq_some_iff.mp e2
    have := (List.getElem_inj nd).mp (g1.trans g2.symm)
    omega
theorem wnz_step {ws : Wh} {i : Nat} {e : Nat × Int × Int} (nd : (ws.map (·.1)).Nodup) (h : ws[i]? = some e) : wnz (ws.take (i + 1)) = if e.2 ≠ (0, 0) then wput (wnz (ws.take i)) e.1 e.2 else wnz (ws.take i) := by
  have hs := map_step (f := id) (by simpa using nd) h
  unfold wnz
  rw [take_succ_of h, List.filter_append]
  by_cases c : e.2 = (0, 0)
  · rw [if_neg (fun z => z c)]
    simp [c]
  · rw [if_pos c, wput_new]
    · simp [c]
    · intro x hx z
      have hx' := (List.mem_filter.mp hx).1
      obtain ⟨j, hj⟩ := List.getElem?_of_mem hx'
      have hj2 := (List.getElem?_eq_some_iff.mp hj).1
      rw [List.length_take] at hj2
      rw [List.getElem?_take_of_lt (by omega)] at hj
      have e1 : (ws.map (·.1))[j]? = some x.1 := by rw [List.getElem?_map, hj]; rfl
      have e2 : (ws.map (·.1))[i]? = some e.1 := by rw [List.getElem?_map, h]; rfl
      rw [z] at e1
      obtain ⟨l1, g1⟩ := List.getElem?_eq_some_iff.mp e1
      obtain ⟨l2, g2⟩ := List.getElem?_eq_some_iff.mp e2
      have := (List.getElem_inj nd).mp (g1.trans g2.symm)
      omega
theorem wnz_len (ws : Wh) : (wnz ws).length ≤ ws.length := List.length_filter_le _ _
theorem down_clr (b i : Nat) : (b ||| 2 ^ i) ^^^ 2 ^ i = clr b i := by
  apply Nat.eq_of_testBit_eq
  intro q
  rw [Nat.testBit_xor, Nat.testBit_or, clr_tb, Nat.testBit_two_pow]
  by_cases h : i = q
  · subst h; simp
  · simp [h]
theorem clr_down (b i : Nat) : clr b i + 2 ^ i = b ||| 2 ^ i := by
  have h := add_bit (a := clr b i) (i := i) (b := true) (by rw [clr_tb]; simp)
  rw [Bool.toNat_true, Nat.one_mul] at h
  rw [h, ← down_clr, xor_two]
theorem down_eq (b i : Nat) : b = b ||| 2 ^ i ↔ b.testBit i = true := by
  constructor
  · intro e
    rw [e, Nat.testBit_or, Nat.testBit_two_pow_self, Bool.or_true]
  · intro e
    apply Nat.eq_of_testBit_eq
    intro q
    rw [Nat.testBit_or, Nat.testBit_two_pow]
    by_cases h : i = q
    · subst h; simp [e]
    · simp [h]
theorem deedF_len (d : Dd) (ws : Wh) : (deedF d ws).length ≤ 2 * ws.length := by
  have key : ∀ (es acc : Wh), (es.foldl (fun acc e => adds acc (deedW d.k (d.w.getD 0 0) (d.w.getD 1 0) e)) acc).length ≤ acc.length + 2 * es.length := by
    intro es
    induction es with
    | nil => intro acc; simp
    | cons e es ih =>
      intro acc
      have h1 := ih (adds acc (deedW d.k (d.w.getD 0 0) (d.w.getD 1 0) e))
      have h2 := adds_len (deedW d.k (d.w.getD 0 0) (d.w.getD 1 0) e) acc
      have h3 := deedW_len d.k (d.w.getD 0 0) (d.w.getD 1 0) e
      rw [List.foldl_cons, List.length_cons]
      omega
  have := key ws []
  rw [List.length_nil] at this
  unfold deedF
  omega
theorem wadd_nd {ws : Wh} {b : Nat} {p : Int × Int} (h : (ws.map (·.1)).Nodup) : ((wadd ws b p).map (·.1)).Nodup := by
  unfold wadd
  rw [wput_keys]
  split
  · exact h
  · rename_i hn
    refine List.nodup_append.mpr ⟨h, by simp, fun x hx y hy z => hn ?_⟩
    rw [List.mem_singleton.mp hy] at z
    obtain ⟨e, he, rfl⟩ := List.mem_map.mp hx
    rw [List.any_eq_true]
    exact ⟨e, he, by simpa using z⟩
theorem deedF_nd (d : Dd) (ws : Wh) : ((deedF d ws).map (·.1)).Nodup := by
  have ad : ∀ (es acc : Wh), (acc.map (·.1)).Nodup → ((adds acc es).map (·.1)).Nodup := by
    intro es
    induction es with
    | nil => intro acc h; exact h
    | cons e es ih => intro acc h; exact ih _ (wadd_nd h)
  have key : ∀ (es acc : Wh), (acc.map (·.1)).Nodup → ((es.foldl (fun acc e => adds acc (deedW d.k (d.w.getD 0 0) (d.w.getD 1 0) e)) acc).map (·.1)).Nodup := by
    intro es
    induction es with
    | nil => intro acc h; exact h
    | cons e es ih => intro acc h; exact ih _ (ad _ _ h)
  exact key ws [] (by simp)
theorem wnz_nd {ws : Wh} (h : (ws.map (·.1)).Nodup) : ((wnz ws).map (·.1)).Nodup := h.sublist (List.Sublist.map _ List.filter_sublist)
theorem wput_nd {ws : Wh} {b : Nat} {p : Int × Int} (h : (ws.map (·.1)).Nodup) : ((wput ws b p).map (·.1)).Nodup := by
  rw [wput_keys]
  split
  · exact h
  · rename_i c
    refine List.nodup_append.mpr ⟨h, by simp, fun x hx y hy => ?_⟩
    rw [List.mem_singleton] at hy
    subst hy
    intro z
    subst z
    obtain ⟨e, he, rfl⟩ := List.mem_map.mp hx
    exact c (List.any_eq_true.mpr ⟨e, he, decide_eq_true rfl⟩)
theorem whAt_neN {K : PySem.W.Frag} {H : Hp} {Q : VK} {a b : Addr} {ws : Wh} (h : WhAt K H a ws) (h2 : WhAt K H b ws) (nd : (ws.map (·.1)).Nodup) (q : Q (.bl false) H) : rEqM true K (.ref a) (.ref b) H Q := by
  obtain ⟨kvs, ha, h⟩ := h
  obtain ⟨kvs2, hb, h2⟩ := h2
  refine st_eqM (.inl ha) (.inl hb) (h.dv nd) (h2.dv nd) ?_
  rw [h.same h2 rfl (fun _ => rfl) fun b hb => wat_mem hb]
  exact q
theorem whAt_but {K : PySem.W.Frag} {H H' : Hp} {f a : Addr} {ws : Wh} {kvs : List (Key × V)} (h : WhAt K H a ws) (s : But f H H') (e : H f = some (.dK kvs)) (n : a ≠ f) : WhAt K H' a ws := by
  obtain ⟨kv, h1, h2⟩ := h
  exact ⟨kv, s _ _ n h1, h2.stay (s.tup e)⟩
/-- an exact machine of n wires that keeps its whole at a -/
def ExAt (CM : MK → Addr) (H : Hp) (x : Addr) (n : Nat) (a : Addr) : Prop := ∃ dx, H x = some (.ins (CM .ex) dx [("n", .int n), ("amounts", .ref a)])
def sp_Machine___init__ (K : PySem.W.Frag) (CM : MK → Addr) : Sp := fun vs H Q _ => ∃ (p : Addr) (n m : Nat), vs = [.ref p, .int n, .int m] ∧ 1 ≤ n ∧ n ≤ m ∧ ∃ dx, H p = some (.ins (CM .ex) dx []) ∧ Q .non (upd H p (.ins (CM .ex) dx [("n", .int n)]))
def sp_Exact___init__ (K : PySem.W.Frag) (CM : MK → Addr) : Sp := fun vs H Q _ => ∃ (p : Addr) (n : Nat), vs = [.ref p, .int n] ∧ 1 ≤ n ∧ n ≤ 6 ∧ ∃ dx, H p = some (.ins (CM .ex) dx []) ∧ ∀ a H', But p H H' → H a = none → ExAt CM H' p n a → WhAt K H' a [(0, (1, 0))] → Q .non H'
def sp_Machine_wires (K : PySem.W.Frag) (CM : MK → Addr) : Sp := fun vs H Q _ => ∃ (x a : Addr) (n : Nat), vs = [.ref x] ∧ ExAt CM H x n a ∧ Q (.int n) H
abbrev sp_M_wires (K : PySem.W.Frag) (CM : MK → Addr) (_ : MK) : Sp := sp_Machine_wires K CM
def sp_Exact_whole (K : PySem.W.Frag) (CM : MK → Addr) : Sp := fun vs H Q _ => ∃ (x a : Addr) (n : Nat) (ws : Wh), vs = [.ref x] ∧ ExAt CM H x n a ∧ WhAt K H a ws ∧ ∀ p H', Same H H' → H p = none → WhAt K H' p ws → Q (.ref p) H'
abbrev sp_M_whole (K : PySem.W.Frag) (CM : MK → Addr) (_ : MK) : Sp := sp_Exact_whole K CM
/-- all but tables and x stays -/
def ButT (x : Addr) (H H' : Hp) : Prop := ∀ a o, a ≠ x → H a = some o → (∀ ps, o ≠ .tbl ps) → H' a = some o
def sp_Exact_follow (K : PySem.W.Frag) (CD : DK → Addr) (CM : MK → Addr) (T1 T2 T3 : Addr) : Sp := fun vs H Q _ => ∃ (x y a : Addr) (n : Nat) (d : Dd) (ws : Wh), vs = [.ref x, .ref y] ∧ ExAt CM H x n a ∧ DdAt CD H y d ∧ d.w.Nodup ∧ (∀ i ∈ d.w, i ≤ 1000) ∧ WhAt K H a ws ∧ (ws.map (·.1)).Nodup ∧ ws.length ≤ 90 ∧ Tabs T1 T2 T3 H ∧
  ∀ p H', ButT x H H' → Tabs T1 T2 T3 H' → H p = none → ExAt CM H' x n p → WhAt K H' p (wnz (deedF d ws)) → Q .non H'
abbrev sp_M_follow (K : PySem.W.Frag) (CD : DK → Addr) (CM : MK → Addr) (T1 T2 T3 : Addr) (_ : MK) : Sp := sp_Exact_follow K CD CM T1 T2 T3
def sp_Machine_do (K : PySem.W.Frag) (CD : DK → Addr) (CM : MK → Addr) (T1 T2 T3 : Addr) : Sp := fun vs H Q _ => ∃ (x w a : Addr) (n : Nat) (d : Dd) (ws : Wh), vs = [.ref x, .ref w] ∧ ExAt CM H x n a ∧ H w = some (.tup (.str d.k.word :: vn d.w)) ∧ d.Ok n ∧ n ≤ 6 ∧ WhAt K H a ws ∧ (ws.map (·.1)).Nodup ∧ ws.length ≤ 90 ∧ Tabs T1 T2 T3 H ∧
  ∀ p H', ButT x H H' → Tabs T1 T2 T3 H' → H p = none → ExAt CM H' x n p → WhAt K H' p (wnz (deedF d ws)) → Q .non H'
abbrev sp_M_do (K : PySem.W.Frag) (CD : DK → Addr) (CM : MK → Addr) (T1 T2 T3 : Addr) (_ : MK) : Sp := sp_Machine_do K CD CM T1 T2 T3
def sp__law_cell_at (K : PySem.W.Frag) : Sp := fun vs H Q _ => ∃ (a : Addr) (k : Nat) (ns : List Int), vs = [.ref a, .int k] ∧ SqL K H a (ns.map V.int) ∧ ∀ c : Int, Q (.int c) H
def sp__law_mixed (K : PySem.W.Frag) : Sp := fun vs H Q _ => ∃ (c : Int) (k : Nat), vs = [.int c, .int k] ∧ k ≤ 100 ∧ ∀ m : Nat, m < 2147483629 → Q (.int m) H
/-- a whole of n wires without noughts -/
structure Wn (n : Nat) (ws : Wh) : Prop where
  nd : (ws.map (·.1)).Nodup
  nz : ∀ e ∈ ws, e.2 ≠ (0, 0)
  lt : ∀ e ∈ ws, e.1 < 2 ^ n
def sp__law_quarters (K : PySem.W.Frag) : Sp := fun vs H Q _ => ∃ (a : Addr) (q : Nat) (p : Int × Int), vs = [.ref a, .int q] ∧ SqT K H a [.int p.1, .int p.2] ∧ ∀ t H', Same H H' → H' t = some (.tup [.int (turn q p).1, .int (turn q p).2]) → Q (.ref t) H'
def k5 : Nat → DK
  | 0 => .over | 1 => .quarter | 2 => .back | 3 => .both | _ => .both
def k4 : Nat → DK
  | 3 => .swap | _ => .wher
theorem at_k5 {m : Nat} (h : m < 5) : atI [V.str "over", .str "quarter", .str "back", .str "both", .str "both"] (m : Int) = some (.str (k5 m).word) := by
  match m, h with
  | 0, _ => rfl
  | 1, _ => rfl
  | 2, _ => rfl
  | 3, _ => rfl
  | 4, _ => rfl
theorem at_k4 {m : Nat} (h : m < 4) : atI [V.str "where", .str "where", .str "where", .str "swap"] (m : Int) = some (.str (k4 m).word) := by
  match m, h with
  | 0, _ => rfl
  | 1, _ => rfl
  | 2, _ => rfl
  | 3, _ => rfl
theorem k5_n (m : Nat) : (k5 m).n = 1 := by
  match m with
  | 0 => rfl
  | 1 => rfl
  | 2 => rfl
  | 3 => rfl
  | _ + 4 => rfl
theorem k4_n (m : Nat) : (k4 m).n = 2 := by
  match m with
  | 0 => rfl
  | 1 => rfl
  | 2 => rfl
  | 3 => rfl
  | _ + 4 => rfl
theorem butI_tup {K : PySem.W.Frag} {f C dx : Addr} {fs : List (Str × V)} {H H' : Hp} (h : But f H H') (hf : H f = some (.ins C dx fs)) {a : Addr} {xs : List V} (s : SqT K H a xs) : SqT K H' a xs := by
  rcases s with (e | ⟨o, e⟩) | e
  · exact .inl (.inl (h _ _ (fun z => by rw [z, hf] at e; cases e) e))
  · exact .inl (.inr ⟨o, h _ _ (fun z => by rw [z, hf] at e; cases e) e⟩)
  · exact .inr e
theorem tabatI_but {H H' : Hp} {T f C dx : Addr} {l : Lam} {fs : List (Str × V)} (h : TabAt H T l) (s : But f H H') (e : H f = some (.ins C dx fs)) : TabAt H' T l := by
  obtain ⟨ps, h1, h2, h3⟩ := h
  exact ⟨ps, s _ _ (fun z => by rw [z, e] at h1; cases h1) h1, h2, h3.imp id fun ⟨c, o, g1, g2, g3⟩ => ⟨c, o, g1, s _ _ (fun z => by rw [z, e] at g2; cases g2) g2, g3⟩⟩
theorem tabsI_but {T1 T2 T3 : Addr} {H H' : Hp} {f C dx : Addr} {fs : List (Str × V)} (h : Tabs T1 T2 T3 H) (s : But f H H') (e : H f = some (.ins C dx fs)) : Tabs T1 T2 T3 H' := ⟨tabatI_but h.1 s e, tabatI_but h.2.1 s e, tabatI_but h.2.2.1 s e, h.2.2.2⟩
theorem turn_step (i : Nat) (p : Int × Int) : turn (i + 1) p = (0 - (turn i p).2, (turn i p).1) := by
  rw [show i + 1 = 1 + i by omega, ← turn_turn 1 i p]
  show (-(turn i p).2, (turn i p).1) = _
  rw [Int.zero_sub]
theorem turn_mod4 (o : Nat) (p : Int × Int) : turn (o % 4) p = turn o p := turn_mod (a := o % 4) (b := o) (Nat.mod_mod _ _) p
theorem nodup_below : ∀ (N : Nat) (l : List Nat), l.Nodup → (∀ x ∈ l, x < N) → l.length ≤ N := by
  intro N
  induction N with
  | zero =>
    intro l _ h
    cases l with
    | nil => exact Nat.le_refl _
    | cons x l => exact absurd (h x (by simp)) (by omega)
  | succ N ih =>
    intro l nd h
    have h1 := ih (l.erase N) (nd.erase _) fun x hx => by
      have hm := (List.Nodup.mem_erase_iff nd).mp hx
      have := h x hm.2
      have := hm.1
      omega
    have h2 : l.length ≤ (l.erase N).length + 1 := by
      rw [List.length_erase]
      split <;> omega
    omega
theorem Wn.len {n : Nat} {ws : Wh} (h : Wn n ws) (hn : n ≤ 6) : ws.length ≤ 64 := by
  have h1 := nodup_below (2 ^ n) (ws.map (·.1)) h.nd fun x hx => by
    obtain ⟨e, he, rfl⟩ := List.mem_map.mp hx
    exact h.lt e he
  rw [List.length_map] at h1
  exact Nat.le_trans h1 (Nat.pow_le_pow_right (by decide) hn)
def twoA (A : Wh) (b1 b2 : Nat) (p1 p2 : Int × Int) (j : Nat) : Wh := match j with
  | 0 => A
  | 1 => wadd A b1 p1
  | _ => wadd (wadd A b1 p1) b2 p2
theorem ln1 {α : Type} {l : List α} (h : l.length = 1) : ∃ x, l = [x] := List.length_eq_one_iff.mp h
theorem ln2 {α : Type} {l : List α} (h : l.length = 2) : ∃ x y, l = [x, y] := by
  match l, h with
  | [x, y], _ => exact ⟨x, y, rfl⟩
theorem wput_lt {N : Nat} {ws : Wh} {b : Nat} {p : Int × Int} (h : ∀ e ∈ ws, e.1 < N) (hb : b < N) : ∀ e ∈ wput ws b p, e.1 < N := by
  intro e he
  have hm : e.1 ∈ (wput ws b p).map (·.1) := List.mem_map.mpr ⟨e, he, rfl⟩
  rw [wput_keys] at hm
  split at hm
  · obtain ⟨x, hx, ex⟩ := List.mem_map.mp hm
    rw [← ex]
    exact h x hx
  · rcases List.mem_append.mp hm with hm | hm
    · obtain ⟨x, hx, ex⟩ := List.mem_map.mp hm
      rw [← ex]
      exact h x hx
    · rw [List.mem_singleton.mp hm]
      exact hb
theorem adds_lt {N : Nat} : ∀ (es : Wh) {acc : Wh}, (∀ e ∈ acc, e.1 < N) → (∀ e ∈ es, e.1 < N) → ∀ e ∈ adds acc es, e.1 < N := by
  intro es
  induction es with
  | nil => intro acc h _; exact h
  | cons x es ih => intro acc h h2; exact ih (wput_lt h (h2 x (by simp))) fun e he => h2 e (List.mem_cons_of_mem _ he)
theorem deedW_lt {d : Dd} {n : Nat} (ok : d.Ok n) {e : Nat × Int × Int} (h : e.1 < 2 ^ n) : ∀ x ∈ deedW d.k (d.w.getD 0 0) (d.w.getD 1 0) e, x.1 < 2 ^ n := by
  obtain ⟨k, wl⟩ := d
  have hlen := ok.len
  have hlt := ok.lt
  have hnd := ok.nd
  have p2 : ∀ i, i < n → 2 ^ i < 2 ^ n := fun i hi => Nat.pow_lt_pow_right (by decide) hi
  intro x hx
  cases k with
  | over =>
    obtain ⟨i, rfl⟩ : ∃ i, wl = [i] := ln1 hlen
    rw [List.mem_singleton.mp hx]
    exact Nat.xor_lt_two_pow h (p2 i (hlt i (by simp)))
  | quarter => rw [List.mem_singleton.mp hx]; exact h
  | back => rw [List.mem_singleton.mp hx]; exact h
  | both =>
    obtain ⟨i, rfl⟩ : ∃ i, wl = [i] := ln1 hlen
    have hc : clr e.1 i ≤ e.1 := Nat.sub_le _ _
    rcases List.mem_cons.mp hx with rfl | hx
    · exact Nat.lt_of_le_of_lt hc h
    · rw [List.mem_singleton.mp hx]
      show clr e.1 i + 2 ^ i < 2 ^ n
      rw [clr_down]
      exact Nat.or_lt_two_pow h (p2 i (hlt i (by simp)))
  | wher =>
    obtain ⟨i, j, rfl⟩ : ∃ i j, wl = [i, j] := ln2 hlen
    rw [List.mem_singleton.mp hx]
    exact Nat.xor_lt_two_pow h (bit_lt (hlt j (by simp)))
  | swap =>
    obtain ⟨i, j, rfl⟩ : ∃ i j, wl = [i, j] := ln2 hlen
    have hij : i ≠ j := by simp at hnd; exact hnd
    rw [List.mem_singleton.mp hx]
    show clr (clr e.1 i) j + (e.1.testBit j).toNat * 2 ^ i + (e.1.testBit i).toNat * 2 ^ j < 2 ^ n
    rw [swap_xor hij]
    unfold ex
    exact Nat.xor_lt_two_pow (Nat.xor_lt_two_pow h (bit_lt (hlt i (by simp)))) (bit_lt (hlt j (by simp)))
theorem deedF_lt {d : Dd} {n : Nat} (ok : d.Ok n) {ws : Wh} (h : ∀ e ∈ ws, e.1 < 2 ^ n) : ∀ e ∈ deedF d ws, e.1 < 2 ^ n := by
  have key : ∀ (es acc : Wh), (∀ e ∈ es, e.1 < 2 ^ n) → (∀ e ∈ acc, e.1 < 2 ^ n) → ∀ e ∈ es.foldl (fun acc e => adds acc (deedW d.k (d.w.getD 0 0) (d.w.getD 1 0) e)) acc, e.1 < 2 ^ n := by
    intro es
    induction es with
    | nil => intro acc _ h; exact h
    | cons x es ih => intro acc h1 h2; exact ih _ (fun e he => h1 e (List.mem_cons_of_mem _ he)) (adds_lt _ h2 (deedW_lt ok (h1 x (by simp))))
  exact key ws [] h (fun e he => by cases he)
theorem Wn.deed {d : Dd} {n : Nat} {ws : Wh} (h : Wn n ws) (ok : d.Ok n) : Wn n (wnz (deedF d ws)) where
  nd := wnz_nd (deedF_nd d ws)
  nz := fun e he => by
    unfold wnz at he
    exact of_decide_eq_true (List.mem_filter.mp he).2
  lt := fun e he => by
    unfold wnz at he
    exact deedF_lt ok h.lt e (List.mem_filter.mp he).1
theorem Wn.start (n : Nat) : Wn n [(0, (1, 0))] where
  nd := by simp
  nz := fun e he => by rw [List.mem_singleton.mp he]; decide
  lt := fun e he => by rw [List.mem_singleton.mp he]; exact Nat.two_pow_pos n
theorem ExAt.stay {CM : MK → Addr} {H H' : Hp} {x : Addr} {n : Nat} {a : Addr} (h : ExAt CM H x n a) (s : Same H H') : ExAt CM H' x n a := by
  obtain ⟨dx, e⟩ := h
  exact ⟨dx, s _ _ e⟩
/-! Wholes as functions: what a deed makes of the numbers, and that deeds and rows go past one another. -/
def pad (p q : Int × Int) : Int × Int := (p.1 + q.1, p.2 + q.2)
theorem pad_z (p : Int × Int) : pad p (0, 0) = p := by unfold pad; simp
theorem z_pad (p : Int × Int) : pad (0, 0) p = p := by unfold pad; simp
theorem pad_assoc (p q r : Int × Int) : pad (pad p q) r = pad p (pad q r) := by unfold pad; simp [Int.add_assoc]
theorem pad_comm (p q : Int × Int) : pad p q = pad q p := by unfold pad; simp [Int.add_comm]
theorem pad_four (p q r s : Int × Int) : pad (pad p q) (pad r s) = pad (pad p r) (pad q s) := by
  unfold pad
  refine Prod.ext ?_ ?_ <;> first | omega | (dsimp only; omega) | (dsimp only)
theorem turn_pad (o : Nat) (p q : Int × Int) : turn o (pad p q) = pad (turn o p) (turn o q) := by
  unfold turn pad
  split
  · rfl
  · split
    · refine Prod.ext ?_ ?_ <;> first | omega | (dsimp only; omega) | (dsimp only)
    · split
      · refine Prod.ext ?_ ?_ <;> first | omega | (dsimp only; omega) | (dsimp only)
      · refine Prod.ext ?_ ?_ <;> first | omega | (dsimp only; omega) | (dsimp only)
theorem turn_z (o : Nat) : turn o (0, 0) = (0, 0) := by
  unfold turn
  simp
/-- all that stands at c, added -/
def sm : Wh → Nat → Int × Int
  | [], _ => (0, 0)
  | e :: ws, c => pad (if e.1 = c then e.2 else (0, 0)) (sm ws c)
theorem sm_app (xs ys : Wh) (c : Nat) : sm (xs ++ ys) c = pad (sm xs c) (sm ys c) := by
  induction xs with
  | nil => rw [List.nil_append]; exact (z_pad _).symm
  | cons e xs ih => show pad _ (sm (xs ++ ys) c) = pad (pad _ _) _; rw [ih, pad_assoc]
theorem sm_none {ws : Wh} {c : Nat} (h : ∀ e ∈ ws, e.1 ≠ c) : sm ws c = (0, 0) := by
  induction ws with
  | nil => rfl
  | cons e ws ih =>
    show pad _ (sm ws c) = _
    rw [if_neg (h e (by simp)), z_pad]
    exact ih fun x hx => h x (List.mem_cons_of_mem _ hx)
theorem wv_nil (c : Nat) : wv [] c = (0, 0) := rfl
theorem wv_cons (b : Nat) (p : Int × Int) (ws : Wh) (c : Nat) : wv ((b, p) :: ws) c = if b = c then p else wv ws c := by
  unfold wv
  by_cases e : b = c
  · subst e
    rw [wat_hd, if_pos rfl]
    rfl
  · rw [wat_cons e, if_neg e]
theorem wv_none {ws : Wh} {c : Nat} (h : ∀ e ∈ ws, e.1 ≠ c) : wv ws c = (0, 0) := by
  induction ws with
  | nil => rfl
  | cons e ws ih =>
    obtain ⟨b, p⟩ := e
    rw [wv_cons, if_neg (h (b, p) (by simp))]
    exact ih fun x hx => h x (List.mem_cons_of_mem _ hx)
theorem wv_sm {ws : Wh} (nd : (ws.map (·.1)).Nodup) (c : Nat) : wv ws c = sm ws c := by
  induction ws with
  | nil => rfl
  | cons e ws ih =>
    obtain ⟨b, p⟩ := e
    rw [List.map_cons, List.nodup_cons] at nd
    rw [wv_cons]
    show _ = pad (if b = c then p else (0, 0)) (sm ws c)
    by_cases h : b = c
    · subst h
      rw [if_pos rfl, if_pos rfl, sm_none, pad_z]
      intro e he z
      exact nd.1 (List.mem_map.mpr ⟨e, he, z⟩)
    · rw [if_neg h, if_neg h, z_pad, ih nd.2]
theorem wat_app (ws : Wh) (b : Nat) (p : Int × Int) (c : Nat) : wat (ws ++ [(b, p)]) c = (wat ws c).or (if b = c then some p else none) := by
  induction ws with
  | nil =>
    rw [List.nil_append]
    by_cases h : b = c
    · subst h
      rw [wat_hd, if_pos rfl]
      rfl
    · rw [wat_cons h, if_neg h]
      rfl
  | cons e ws ih =>
    obtain ⟨a, q⟩ := e
    rw [List.cons_append]
    by_cases h : a = c
    · subst h
      rw [wat_hd, wat_hd]
      rfl
    · rw [wat_cons h, wat_cons h, ih]
theorem wat_repl (ws : Wh) (b : Nat) (p : Int × Int) (c : Nat) : wat (ws.map fun e => if e.1 = b then (e.1, p) else e) c = if b = c then (wat ws c).map fun _ => p else wat ws c := by
  induction ws with
  | nil =>
    split <;> rfl
  | cons e ws ih =>
    obtain ⟨a, q⟩ := e
    rw [List.map_cons]
    by_cases h : a = c
    · subst h
      by_cases h2 : a = b
      · subst h2
        rw [if_pos rfl, wat_hd, if_pos rfl, wat_hd]
        rfl
      · rw [if_neg h2, wat_hd, if_neg (Ne.symm h2), wat_hd]
    · have e1 : wat ((if (a, q).1 = b then ((a, q).1, p) else (a, q)) :: ws.map fun e => if e.1 = b then (e.1, p) else e) c = wat (ws.map fun e => if e.1 = b then (e.1, p) else e) c := by
        by_cases h2 : a = b
        · rw [if_pos h2]
          exact wat_cons h
        · rw [if_neg h2]
          exact wat_cons h
      rw [e1, ih, wat_cons h]
theorem wat_any {ws : Wh} {b : Nat} (h : ws.any (fun e => decide (e.1 = b)) = true) : (wat ws b).isSome = true := by
  obtain ⟨e, he, z⟩ := List.any_eq_true.mp h
  exact wat_mem (List.mem_map.mpr ⟨e, he, of_decide_eq_true z⟩)
theorem wat_not {ws : Wh} {b : Nat} (h : ¬ ws.any (fun e => decide (e.1 = b)) = true) : wat ws b = none := by
  unfold wat
  rw [List.find?_eq_none.mpr]
  · rfl
  · intro e he z
    exact h (List.any_eq_true.mpr ⟨e, he, z⟩)
theorem wat_wput (ws : Wh) (b : Nat) (p : Int × Int) (c : Nat) : wat (wput ws b p) c = if b = c then some p else wat ws c := by
  unfold wput
  split
  · rename_i h
    rw [wat_repl]
    by_cases e : b = c
    · subst e
      rw [if_pos rfl, if_pos rfl]
      have := wat_any h
      cases hw : wat ws b with
      | none => rw [hw] at this; cases this
      | some q => rfl
    · rw [if_neg e, if_neg e]
  · rename_i h
    rw [wat_app]
    by_cases e : b = c
    · subst e
      rw [if_pos rfl, if_pos rfl, wat_not h]
      rfl
    · rw [if_neg e, if_neg e, Option.or_none]
theorem wv_wput (ws : Wh) (b : Nat) (p : Int × Int) (c : Nat) : wv (wput ws b p) c = if b = c then p else wv ws c := by
  unfold wv
  rw [wat_wput]
  split <;> rfl
theorem wv_wadd (ws : Wh) (b : Nat) (p : Int × Int) (c : Nat) : wv (wadd ws b p) c = pad (wv ws c) (if b = c then p else (0, 0)) := by
  unfold wadd
  rw [wv_wput]
  by_cases e : b = c
  · subst e
    rw [if_pos rfl, if_pos rfl]
    rfl
  · rw [if_neg e, if_neg e, pad_z]
theorem wv_adds (es : Wh) (c : Nat) : ∀ ws : Wh, wv (adds ws es) c = pad (wv ws c) (sm es c) := by
  induction es with
  | nil => intro ws; exact (pad_z _).symm
  | cons e es ih =>
    intro ws
    show wv (adds (wadd ws e.1 e.2) es) c = pad _ (pad _ _)
    rw [ih, wv_wadd, pad_assoc]
theorem wv_deedF (d : Dd) (ws : Wh) (c : Nat) : wv (deedF d ws) c = sm (ws.flatMap (deedW d.k (d.w.getD 0 0) (d.w.getD 1 0))) c := by
  have key : ∀ (es acc : Wh), wv (es.foldl (fun acc e => adds acc (deedW d.k (d.w.getD 0 0) (d.w.getD 1 0) e)) acc) c = pad (wv acc c) (sm (es.flatMap (deedW d.k (d.w.getD 0 0) (d.w.getD 1 0))) c) := by
    intro es
    induction es with
    | nil => intro acc; exact (pad_z _).symm
    | cons e es ih =>
      intro acc
      rw [List.foldl_cons, ih, wv_adds, List.flatMap_cons, sm_app, pad_assoc]
  rw [show deedF d ws = ws.foldl (fun acc e => adds acc (deedW d.k (d.w.getD 0 0) (d.w.getD 1 0) e)) [] from rfl, key, wv_nil, z_pad]
/-! what a deed makes of the numbers -/
def dF (k : DK) (i j : Nat) (f : Nat → Int × Int) (c : Nat) : Int × Int :=
  match k with
  | .over => f (c ^^^ 2 ^ i)
  | .quarter => turn (c.testBit i).toNat (f c)
  | .back => turn (3 * (c.testBit i).toNat) (f c)
  | .both => pad (turn (2 * (c.testBit i).toNat) (f c)) (f (c ^^^ 2 ^ i))
  | .wher => f (c ^^^ (c.testBit i).toNat * 2 ^ j)
  | .swap => f (ex c i j)
theorem dF_pad (k : DK) (i j : Nat) (f g : Nat → Int × Int) (c : Nat) : dF k i j (fun b => pad (f b) (g b)) c = pad (dF k i j f c) (dF k i j g c) := by
  cases k with
  | over => rfl
  | quarter => exact turn_pad _ _ _
  | back => exact turn_pad _ _ _
  | both =>
    show pad (turn _ (pad _ _)) (pad _ _) = pad (pad _ _) (pad _ _)
    rw [turn_pad, pad_four]
  | wher => rfl
  | swap => rfl
theorem dF_z (k : DK) (i j : Nat) (c : Nat) : dF k i j (fun _ => (0, 0)) c = (0, 0) := by
  cases k with
  | over => rfl
  | quarter => exact turn_z _
  | back => exact turn_z _
  | both => show pad (turn _ (0, 0)) (0, 0) = _; rw [turn_z]; rfl
  | wher => rfl
  | swap => rfl
theorem xor_self_two (b t : Nat) : b ^^^ t ^^^ t = b := by rw [Nat.xor_assoc, Nat.xor_self, Nat.xor_zero]
theorem xor_turn {b c t : Nat} : b ^^^ t = c ↔ b = c ^^^ t := by
  constructor
  · rintro rfl; exact (xor_self_two b t).symm
  · rintro rfl; exact xor_self_two c t
theorem flip_tb (b i : Nat) : (b ^^^ 2 ^ i).testBit i = !b.testBit i := by
  rw [Nat.testBit_xor, Nat.testBit_two_pow_self]
  simp
theorem bit_other {b i j : Nat} (hij : i ≠ j) (o : Nat) (h : o ≤ 1) : (b ^^^ o * 2 ^ j).testBit i = b.testBit i := by
  rw [Nat.testBit_xor]
  have : (o * 2 ^ j).testBit i = false := by
    match o, h with
    | 0, _ => simp
    | 1, _ => rw [Nat.one_mul, Nat.testBit_two_pow]; exact decide_eq_false (Ne.symm hij)
  rw [this, Bool.xor_false]
theorem dF_one {k : DK} {i j : Nat} (hij : k.n = 2 → i ≠ j) (b : Nat) (p : Int × Int) (c : Nat) : dF k i j (fun x => if b = x then p else (0, 0)) c = sm (deedW k i j (b, p)) c := by
  have s1 : ∀ (b' : Nat) (p' : Int × Int), sm [(b', p')] c = if b' = c then p' else (0, 0) := fun b' p' => pad_z _
  have tif : ∀ (o : Nat) (q : Prop) [Decidable q], turn o (if q then p else (0, 0)) = if q then turn o p else (0, 0) := fun o q _ => by
    split
    · rfl
    · exact turn_z o
  cases k with
  | over =>
    show (if b = c ^^^ 2 ^ i then p else (0, 0)) = sm [(b ^^^ 2 ^ i, p)] c
    rw [s1]
    simp only [xor_turn]
  | quarter =>
    show turn (c.testBit i).toNat (if b = c then p else (0, 0)) = sm [(b, turn (b.testBit i).toNat p)] c
    rw [s1, tif]
    by_cases h : b = c
    · subst h; rfl
    · rw [if_neg h, if_neg h]
  | back =>
    show turn (3 * (c.testBit i).toNat) (if b = c then p else (0, 0)) = sm [(b, turn (3 * (b.testBit i).toNat) p)] c
    rw [s1, tif]
    by_cases h : b = c
    · subst h; rfl
    · rw [if_neg h, if_neg h]
  | both =>
    show pad (turn (2 * (c.testBit i).toNat) (if b = c then p else (0, 0))) (if b = c ^^^ 2 ^ i then p else (0, 0)) = pad (if clr b i = c then p else (0, 0)) (sm [(clr b i + 2 ^ i, turn (2 * (b.testBit i).toNat) p)] c)
    rw [s1, tif]
    cases hb : b.testBit i with
    | false =>
      have e1 : clr b i = b := by rw [clr_xor, hb]; simp
      have e2 : clr b i + 2 ^ i = b ^^^ 2 ^ i := by
        rw [clr_down]
        apply Nat.eq_of_testBit_eq
        intro q
        rw [Nat.testBit_or, Nat.testBit_xor, Nat.testBit_two_pow]
        by_cases h : i = q
        · subst h; simp [hb]
        · simp [h]
      rw [e2, e1]
      have e3 : (if b = c then turn (2 * (c.testBit i).toNat) p else (0, 0)) = if b = c then p else (0, 0) := by
        by_cases h : b = c
        · subst h; rw [if_pos rfl, if_pos rfl, hb]; rfl
        · rw [if_neg h, if_neg h]
      rw [e3]
      simp only [xor_turn]
      rfl
    | true =>
      have e1 : clr b i = b ^^^ 2 ^ i := by rw [clr_xor, hb]; simp
      have e2 : clr b i + 2 ^ i = b := by
        rw [clr_down]
        apply Nat.eq_of_testBit_eq
        intro q
        rw [Nat.testBit_or, Nat.testBit_two_pow]
        by_cases h : i = q
        · subst h; simp [hb]
        · simp [h]
      rw [e2, e1, pad_comm]
      simp only [xor_turn]
      congr 1
      by_cases h : b = c
      · subst h; rw [if_pos rfl, if_pos rfl, hb]
      · rw [if_neg h, if_neg h]
  | wher =>
    have h := hij rfl
    show (if b = c ^^^ (c.testBit i).toNat * 2 ^ j then p else (0, 0)) = sm [(b ^^^ (b.testBit i).toNat * 2 ^ j, p)] c
    rw [s1]
    have e : (b ^^^ (b.testBit i).toNat * 2 ^ j = c) ↔ (b = c ^^^ (c.testBit i).toNat * 2 ^ j) := by
      constructor
      · rintro rfl
        rw [bit_other h _ (Bool.toNat_le _), xor_self_two]
      · rintro rfl
        rw [bit_other h _ (Bool.toNat_le _), xor_self_two]
    simp only [e]
  | swap =>
    have h := hij rfl
    show (if b = ex c i j then p else (0, 0)) = sm [(clr (clr b i) j + (b.testBit j).toNat * 2 ^ i + (b.testBit i).toNat * 2 ^ j, p)] c
    rw [s1, swap_xor h]
    have e : (ex b i j = c) ↔ (b = ex c i j) := by
      constructor
      · rintro rfl
        exact (ex_two h b).symm
      · rintro rfl
        exact ex_two h c
    simp only [e]
theorem dF_congr {k : DK} {i j : Nat} {f g : Nat → Int × Int} (h : ∀ b, f b = g b) (c : Nat) : dF k i j f c = dF k i j g c := by rw [funext h]
theorem sm_dF {k : DK} {i j : Nat} (hij : k.n = 2 → i ≠ j) (ws : Wh) (c : Nat) : sm (ws.flatMap (deedW k i j)) c = dF k i j (sm ws) c := by
  induction ws with
  | nil => exact (dF_z _ _ _ _).symm
  | cons e ws ih =>
    obtain ⟨b, p⟩ := e
    rw [List.flatMap_cons, sm_app, ih]
    show _ = dF k i j (fun x => pad (if b = x then p else (0, 0)) (sm ws x)) c
    rw [dF_pad, dF_one hij]
/-- a deed on a whole, number by number -/
abbrev dfd (d : Dd) (f : Nat → Int × Int) : Nat → Int × Int := dF d.k (d.w.getD 0 0) (d.w.getD 1 0) f
theorem deedF_wv {d : Dd} {n : Nat} (ok : d.Ok n) {ws : Wh} (nd : (ws.map (·.1)).Nodup) : wv (deedF d ws) = dfd d (wv ws) := by
  funext c
  rw [wv_deedF, sm_dF fun h => (ok.one.2.1 h).2]
  exact dF_congr (fun b => (wv_sm nd b).symm) c
theorem wnz_wv {ws : Wh} (nd : (ws.map (·.1)).Nodup) : wv (wnz ws) = wv ws := by
  funext c
  rw [wv_sm (wnz_nd nd), wv_sm nd]
  unfold wnz
  clear nd
  induction ws with
  | nil => rfl
  | cons e ws ih =>
    by_cases h : e.2 = (0, 0)
    · rw [List.filter_cons_of_neg (by simpa using h), ih]
      show _ = pad (if e.1 = c then e.2 else (0, 0)) _
      rw [h, ite_self, z_pad]
    · rw [List.filter_cons_of_pos (by simpa using h)]
      show pad _ _ = pad _ _
      rw [ih]
/-! rows -/
def rF (r : Row) (n : Nat) (f : Nat → Int × Int) (c : Nat) : Int × Int := turn (qq r (c ^^^ r.x) n) (f (c ^^^ r.x))
theorem sm_rowE (r : Row) (n : Nat) (ws : Wh) (c : Nat) : sm (ws.map (rowE r n)) c = rF r n (sm ws) c := by
  induction ws with
  | nil => exact (turn_z _).symm
  | cons e ws ih =>
    obtain ⟨b, p⟩ := e
    rw [List.map_cons]
    show pad (if b ^^^ r.x = c then turn (qq r b n) p else (0, 0)) (sm (ws.map (rowE r n)) c) = turn (qq r (c ^^^ r.x) n) (pad (if b = c ^^^ r.x then p else (0, 0)) (sm ws (c ^^^ r.x)))
    rw [ih, turn_pad]
    refine congrArg (fun z => pad z _) ?_
    by_cases h : b ^^^ r.x = c
    · rw [if_pos h, if_pos (xor_turn.mp h), ← xor_turn.mp h]
    · rw [if_neg h, if_neg fun z => h (xor_turn.mpr z), turn_z]
theorem rowE_nd {r : Row} {n : Nat} {ws : Wh} (nd : (ws.map (·.1)).Nodup) : ((ws.map (rowE r n)).map (·.1)).Nodup := by
  rw [List.map_map]
  have : (ws.map ((·.1) ∘ rowE r n)) = (ws.map (·.1)).map (· ^^^ r.x) := by rw [List.map_map]; rfl
  rw [this]
  exact List.pairwise_map.mpr (List.Pairwise.imp (fun h z => h (xor_inj z)) nd)
theorem rowE_wv {r : Row} {n : Nat} {ws : Wh} (nd : (ws.map (·.1)).Nodup) : wv (ws.map (rowE r n)) = rF r n (wv ws) := by
  funext c
  rw [wv_sm (rowE_nd nd), sm_rowE]
  unfold rF
  rw [wv_sm nd]
theorem sm_rev (ws : Wh) (c : Nat) : sm ws.reverse c = sm ws c := by
  induction ws with
  | nil => rfl
  | cons e ws ih =>
    rw [List.reverse_cons, sm_app, ih, pad_comm]
    show pad (pad _ (0, 0)) _ = pad _ _
    rw [pad_z]
/-- the row and then the deed are the deed and then what the row becomes -/
theorem dF_rF {d : Dd} {r : Row} {n : Nat} (ok : r.Ok n) (hd : d.Ok n) (ws : Wh) : dfd d (rF r n (sm ws)) = rF (act d r) n (dfd d (sm ws)) := by
  funext c
  have hij : d.k.n = 2 → d.w.getD 0 0 ≠ d.w.getD 1 0 := fun h => (hd.one.2.1 h).2
  have e1 : dfd d (rF r n (sm ws)) c = sm ((ws.map (rowE r n)).flatMap (deedW d.k (d.w.getD 0 0) (d.w.getD 1 0))) c := by
    rw [sm_dF hij]
    exact dF_congr (fun b => (sm_rowE r n ws b).symm) c
  have e2 : rF (act d r) n (dfd d (sm ws)) c = sm ((ws.flatMap (deedW d.k (d.w.getD 0 0) (d.w.getD 1 0))).map (rowE (act d r) n)) c := by
    rw [sm_rowE]
    unfold rF
    rw [sm_dF hij]
  rw [e1, e2]
  clear e1 e2
  induction ws with
  | nil => rfl
  | cons e ws ih =>
    obtain ⟨b, p⟩ := e
    rw [List.map_cons, List.flatMap_cons, List.flatMap_cons, List.map_append, sm_app, sm_app, ih]
    refine congrArg (fun z => pad z _) ?_
    rcases core (b := b) (k := d.k) ok hd.one.1 hd.one.2.1 p with h | h
    · rw [h]; rfl
    · rw [h, sm_rev]; rfl
/-! When two wholes without noughts are the same; weights. -/
theorem rowE_lt {r : Row} {n : Nat} (ok : r.Ok n) {ws : Wh} (lt : ∀ e ∈ ws, e.1 < 2 ^ n) : ∀ e ∈ ws.map (rowE r n), e.1 < 2 ^ n := by
  intro e he
  obtain ⟨x, hx, rfl⟩ := List.mem_map.mp he
  exact Nat.xor_lt_two_pow (lt x hx) ok.x
/-! weights -/
def nq (p : Int × Int) : Int := p.1 * p.1 + p.2 * p.2
theorem nq_turn (o : Nat) (p : Int × Int) : nq (turn o p) = nq p := by
  unfold turn nq
  split
  · rfl
  · split
    · dsimp only; rw [Int.neg_mul_neg]; omega
    · split
      · dsimp only; rw [Int.neg_mul_neg, Int.neg_mul_neg]
      · dsimp only; rw [Int.neg_mul_neg]; omega
def sumZ : List Int → Int
  | [] => 0
  | x :: l => x + sumZ l
theorem sumZ_perm {l m : List Int} (h : l.Perm m) : sumZ l = sumZ m := by
  induction h with
  | nil => rfl
  | cons x _ ih => show _ + _ = _ + _; rw [ih]
  | swap x y l => show _ + (_ + _) = _ + (_ + _); omega
  | trans _ _ h1 h2 => rw [h1, h2]
theorem sumZ_add {α : Type} (l : List α) (f g : α → Int) : sumZ (l.map fun x => f x + g x) = sumZ (l.map f) + sumZ (l.map g) := by
  induction l with
  | nil => rfl
  | cons x l ih => rw [List.map_cons, List.map_cons, List.map_cons]; show _ + _ = (_ + _) + (_ + _); rw [ih]; omega
theorem sumZ_mul {α : Type} (l : List α) (c : Int) (f : α → Int) : sumZ (l.map fun x => c * f x) = c * sumZ (l.map f) := by
  induction l with
  | nil => simp [sumZ]
  | cons x l ih => rw [List.map_cons, List.map_cons]; show _ + _ = _ * (_ + _); rw [ih, Int.mul_add]
theorem sumZ_congr {α : Type} {l : List α} {f g : α → Int} (h : ∀ x ∈ l, f x = g x) : sumZ (l.map f) = sumZ (l.map g) := by rw [List.map_congr_left h]
theorem sumZ_app (l m : List Int) : sumZ (l ++ m) = sumZ l + sumZ m := by
  induction l with
  | nil => simp [sumZ]
  | cons x l ih => rw [List.cons_append]; show _ + _ = _ + _ + _; rw [ih]; omega
theorem perm_of {l m : List Nat} (nl : l.Nodup) (nm : m.Nodup) (h : ∀ x, x ∈ l ↔ x ∈ m) : l.Perm m := (List.perm_ext_iff_of_nodup nl nm).mpr h
theorem sumZ_zero {α : Type} {l : List α} {f : α → Int} (h : ∀ x ∈ l, f x = 0) : sumZ (l.map f) = 0 := by
  induction l with
  | nil => rfl
  | cons x l ih => rw [List.map_cons]; show _ + _ = _; rw [h x (by simp), ih fun y hy => h y (List.mem_cons_of_mem _ hy)]; rfl
/-- noughts may be left out -/
theorem sumZ_filter {l : List Nat} {f : Nat → Int} {p : Nat → Bool} (h : ∀ x ∈ l, p x = false → f x = 0) : sumZ ((l.filter p).map f) = sumZ (l.map f) := by
  induction l with
  | nil => rfl
  | cons x l ih =>
    have ih := ih fun y hy => h y (List.mem_cons_of_mem _ hy)
    cases hp : p x with
    | true => rw [List.filter_cons_of_pos hp, List.map_cons, List.map_cons]; show _ + _ = _ + _; rw [ih]
    | false => rw [List.filter_cons_of_neg (by rw [hp]; simp), List.map_cons]; show _ = _ + _; rw [ih, h x (by simp) hp]; omega
/-- a sum over all numbers of n bits -/
def wS (n : Nat) (F : Nat → Int) : Int := sumZ ((List.range (2 ^ n)).map F)
theorem wS_keys {n : Nat} {ks : List Nat} {F : Nat → Int} (nd : ks.Nodup) (lt : ∀ k ∈ ks, k < 2 ^ n) (h : ∀ c, c ∉ ks → F c = 0) : sumZ (ks.map F) = wS n F := by
  unfold wS
  rw [← sumZ_filter (p := fun x => decide (x ∈ ks)) (l := List.range (2 ^ n)) (f := F) fun x _ hx => h x (of_decide_eq_false hx)]
  refine sumZ_perm (List.Perm.map _ (perm_of nd (List.Nodup.sublist List.filter_sublist List.nodup_range) fun x => ?_))
  rw [List.mem_filter, List.mem_range]
  constructor
  · intro hx; exact ⟨lt x hx, decide_eq_true hx⟩
  · intro hx; exact of_decide_eq_true hx.2
theorem wS_inv {n : Nat} (F : Nat → Int) (s : Nat → Nat) (hs : ∀ c, s (s c) = c) (hl : ∀ c, c < 2 ^ n → s c < 2 ^ n) : wS n (fun c => F (s c)) = wS n F := by
  unfold wS
  have e : (List.range (2 ^ n)).map (fun c => F (s c)) = ((List.range (2 ^ n)).map s).map F := by rw [List.map_map]; rfl
  rw [e]
  refine sumZ_perm (List.Perm.map _ (perm_of ?_ List.nodup_range fun x => ?_))
  · exact List.pairwise_map.mpr (List.Pairwise.imp (fun {a b} h z => h (by rw [← hs a, z, hs])) List.nodup_range)
  · rw [List.mem_map, List.mem_range]
    constructor
    · rintro ⟨c, hc, rfl⟩
      exact hl c (List.mem_range.mp hc)
    · intro hx
      exact ⟨s x, List.mem_range.mpr (hl x hx), hs x⟩
theorem wS_congr {n : Nat} {F G : Nat → Int} (h : ∀ c, F c = G c) : wS n F = wS n G := by rw [funext h]
theorem wS_add (n : Nat) (F G : Nat → Int) : wS n (fun c => F c + G c) = wS n F + wS n G := sumZ_add _ _ _
theorem wS_mul (n : Nat) (k : Int) (F : Nat → Int) : wS n (fun c => k * F c) = k * wS n F := sumZ_mul _ _ _
theorem wS_zero {n : Nat} {F : Nat → Int} (h : ∀ c, F c = 0) : wS n F = 0 := sumZ_zero fun c _ => h c
theorem wS_inv2 {n : Nat} {F : Nat → Int} {i : Nat} (hi : i < n) : wS n (fun c => F (c ^^^ 2 ^ i)) = wS n F :=
  wS_inv F (· ^^^ 2 ^ i) (fun c => xor_self_two c _) fun c hc => Nat.xor_lt_two_pow hc (Nat.pow_lt_pow_right (by decide) hi)
/-- the weight of a whole as a function -/
abbrev wW (n : Nat) (f : Nat → Int × Int) : Int := wS n fun c => nq (f c)
theorem nq_pad_turn (o : Nat) (p q : Int × Int) (h : o ≤ 1) : nq (pad (turn (2 * o) p) q) + nq (pad (turn (2 * (1 - o)) q) p) = 2 * (nq p + nq q) := by
  have h0 : ∀ x : Int × Int, turn (2 * 0) x = x := fun x => rfl
  have h2 : ∀ x : Int × Int, turn (2 * 1) x = (-x.1, -x.2) := fun x => rfl
  have key : ∀ a b : Int, (a + b) * (a + b) + (-b + a) * (-b + a) = 2 * (a * a + b * b) := by
    intro a b
    have e : (a + b) * (a + b) + (-b + a) * (-b + a) = a * a + a * a + (b * b + b * b) := by
      simp only [Int.add_mul, Int.mul_add, Int.neg_mul, Int.mul_neg, Int.neg_neg, Int.mul_comm b a]
      omega
    omega
  match o, h with
  | 0, _ =>
    rw [h0, h2]
    show (p.1 + q.1) * (p.1 + q.1) + (p.2 + q.2) * (p.2 + q.2) + ((-q.1 + p.1) * (-q.1 + p.1) + (-q.2 + p.2) * (-q.2 + p.2)) = 2 * (p.1 * p.1 + p.2 * p.2 + (q.1 * q.1 + q.2 * q.2))
    have k1 := key p.1 q.1
    have k2 := key p.2 q.2
    omega
  | 1, _ =>
    rw [h0, h2]
    show (-p.1 + q.1) * (-p.1 + q.1) + (-p.2 + q.2) * (-p.2 + q.2) + ((q.1 + p.1) * (q.1 + p.1) + (q.2 + p.2) * (q.2 + p.2)) = 2 * (p.1 * p.1 + p.2 * p.2 + (q.1 * q.1 + q.2 * q.2))
    have k1 := key q.1 p.1
    have k2 := key q.2 p.2
    omega
def DK.fac : DK → Int
  | .both => 2
  | _ => 1
theorem wW_dF {k : DK} {i j n : Nat} (hi : i < n) (hj : k.n = 2 → j < n ∧ i ≠ j) (f : Nat → Int × Int) : wW n (dF k i j f) = k.fac * wW n f := by
  cases k with
  | over => rw [show (DK.fac .over) = 1 from rfl, Int.one_mul]; exact wS_inv2 (F := fun c => nq (f c)) hi
  | quarter => rw [show (DK.fac .quarter) = 1 from rfl, Int.one_mul]; exact wS_congr fun c => nq_turn _ _
  | back => rw [show (DK.fac .back) = 1 from rfl, Int.one_mul]; exact wS_congr fun c => nq_turn _ _
  | both =>
    have e1 := wS_inv2 (F := fun c => nq (dF .both i j f c)) hi
    have e2 := wS_inv2 (F := fun c => nq (f c)) hi
    have e3 : ∀ c, nq (dF .both i j f c) + nq (dF .both i j f (c ^^^ 2 ^ i)) = 2 * (nq (f c) + nq (f (c ^^^ 2 ^ i))) := by
      intro c
      have := nq_pad_turn (c.testBit i).toNat (f c) (f (c ^^^ 2 ^ i)) (Bool.toNat_le _)
      have eo : ((c ^^^ 2 ^ i).testBit i).toNat = 1 - (c.testBit i).toNat := by rw [flip_tb]; cases c.testBit i <;> rfl
      show nq (pad _ _) + nq (pad (turn (2 * ((c ^^^ 2 ^ i).testBit i).toNat) (f (c ^^^ 2 ^ i))) (f (c ^^^ 2 ^ i ^^^ 2 ^ i))) = _
      rw [eo, xor_self_two]
      exact this
    have e4 := wS_congr (n := n) e3
    rw [wS_add, wS_mul, wS_add] at e4
    show wW n _ = 2 * wW n f
    dsimp only [wW] at e1 e2 e4 ⊢
    omega
  | wher =>
    rw [show (DK.fac .wher) = 1 from rfl, Int.one_mul]
    obtain ⟨hj, hij⟩ := hj rfl
    refine wS_inv (fun c => nq (f c)) (fun c => c ^^^ (c.testBit i).toNat * 2 ^ j) (fun c => ?_) fun c hc => ?_
    · rw [bit_other hij _ (Bool.toNat_le _), xor_self_two]
    · refine Nat.xor_lt_two_pow hc ?_
      have := Nat.pow_lt_pow_right (a := 2) (by decide) hj
      cases c.testBit i
      · simp; exact Nat.two_pow_pos n
      · simpa using this
  | swap =>
    rw [show (DK.fac .swap) = 1 from rfl, Int.one_mul]
    obtain ⟨hj, hij⟩ := hj rfl
    refine wS_inv (fun c => nq (f c)) (fun c => ex c i j) (fun c => ex_two hij c) fun c hc => ?_
    unfold ex
    have h1 := Nat.pow_lt_pow_right (a := 2) (by decide) hj
    have h2 := Nat.pow_lt_pow_right (a := 2) (by decide) hi
    have b : ∀ (x : Bool) (k : Nat), 2 ^ k < 2 ^ n → x.toNat * 2 ^ k < 2 ^ n := by
      intro x k hk
      cases x
      · simp; exact Nat.two_pow_pos n
      · simpa using hk
    exact Nat.xor_lt_two_pow (Nat.xor_lt_two_pow hc (b _ _ h2)) (b _ _ h1)
theorem wW_rF {r : Row} {n : Nat} (ok : r.Ok n) (f : Nat → Int × Int) : wW n (rF r n f) = wW n f := by
  have e : wW n (rF r n f) = wS n fun c => nq (f (c ^^^ r.x)) := wS_congr fun c => nq_turn _ _
  rw [e]
  exact wS_inv (fun c => nq (f c)) (· ^^^ r.x) (fun c => xor_self_two c _) fun c hc => Nat.xor_lt_two_pow hc ok.x
/-- the weight of a whole is the sum over all numbers -/
theorem wt_wW {n : Nat} {ws : Wh} (nd : (ws.map (·.1)).Nodup) (lt : ∀ e ∈ ws, e.1 < 2 ^ n) : sumZ (ws.map fun e => nq e.2) = wW n (wv ws) := by
  have h := wS_keys (n := n) (ks := ws.map (·.1)) (F := fun c => nq (wv ws c)) nd (fun k hk => by obtain ⟨e, he, rfl⟩ := List.mem_map.mp hk; exact lt e he) fun c hc => by
    rw [wv_none fun e he z => hc (List.mem_map.mpr ⟨e, he, z⟩)]
    rfl
  refine Eq.trans ?_ h
  rw [List.map_map]
  refine sumZ_congr fun e he => ?_
  show nq e.2 = nq (wv ws e.1)
  have hh : wv ws e.1 = e.2 := by
    clear h lt
    induction ws with
    | nil => cases he
    | cons x ws ih =>
      obtain ⟨b, p⟩ := x
      rw [List.map_cons, List.nodup_cons] at nd
      rw [wv_cons]
      rcases List.mem_cons.mp he with rfl | he
      · rw [if_pos rfl]
      · rw [if_neg fun z => nd.1 (by show b ∈ _; rw [z]; exact List.mem_map.mpr ⟨e, he, rfl⟩)]
        exact ih nd.2 he
  rw [hh]
/-! halves -/
def hf (r : Row) (n : Nat) (f : Nat → Int × Int) (c : Nat) : Int × Int := pad (f c) (rF r n f c)
/-- the row with its minus turned -/
def mi (r : Row) : Row := ⟨r.m ^^^ 1, r.x, r.z⟩
theorem mi_ok {r : Row} {n : Nat} (ok : r.Ok n) : (mi r).Ok n where
  m := by have := ok.m; show r.m ^^^ 1 ≤ 1; rcases (show r.m = 0 ∨ r.m = 1 by omega) with h | h <;> rw [h] <;> decide
  x := ok.x
  z := ok.z
theorem mi_act (d : Dd) (r : Row) : act d (mi r) = mi (act d r) := by
  have e : ∀ a b : Nat, a ^^^ 1 ^^^ b = a ^^^ b ^^^ 1 := fun a b => by rw [Nat.xor_assoc, Nat.xor_comm 1 b, ← Nat.xor_assoc]
  obtain ⟨k, w⟩ := d
  unfold act mi
  cases k <;> simp only [actW, e]
theorem dF_hf {d : Dd} {r : Row} {n : Nat} (ok : r.Ok n) (hd : d.Ok n) {ws : Wh} : dfd d (hf r n (sm ws)) = hf (act d r) n (dfd d (sm ws)) := by
  funext c
  have h := congrFun (dF_rF ok hd ws) c
  show dF d.k (d.w.getD 0 0) (d.w.getD 1 0) (fun c => pad (sm ws c) (rF r n (sm ws) c)) c = pad _ _
  rw [dF_pad]
  exact congrArg (pad _) h
theorem wW_hf {d : Dd} {r : Row} {n : Nat} (ok : r.Ok n) (hd : d.Ok n) {ws : Wh} : wW n (hf (act d r) n (dfd d (sm ws))) = d.k.fac * wW n (hf r n (sm ws)) := by
  rw [← dF_hf ok hd]
  exact wW_dF hd.one.1 hd.one.2.1 _
/-- a half for a row is as heavy as the half for its minus, or one is nothing -/
def Fair (n : Nat) (f : Nat → Int × Int) : Prop := ∀ r : Row, r.Ok n → wW n (hf r n f) = wW n (hf (mi r) n f) ∨ wW n (hf r n f) = 0 ∨ wW n (hf (mi r) n f) = 0
theorem Fair.deed {d : Dd} {n : Nat} {ws : Wh} (h : Fair n (sm ws)) (hd : d.Ok n) (hs : ∀ r : Row, r.Ok n → ∃ r0 : Row, r0.Ok n ∧ act d r0 = r) : Fair n (dfd d (sm ws)) := by
  intro r ok
  obtain ⟨r0, ok0, rfl⟩ := hs r ok
  rw [← mi_act, wW_hf ok0 hd, wW_hf (mi_ok ok0) hd]
  rcases h r0 ok0 with h | h | h
  · left; rw [h]
  · right; left; rw [h, Int.mul_zero]
  · right; right; rw [h, Int.mul_zero]
theorem rF_mi {r : Row} (hm : r.m ≤ 1) (n : Nat) (f : Nat → Int × Int) (c : Nat) : rF (mi r) n f c = turn 2 (rF r n f c) := by
  unfold rF
  rw [turn_turn]
  show turn (qq (mi r) (c ^^^ r.x) n) _ = _
  refine turn_mod ?_ _
  show (2 * (r.m ^^^ 1) + 2 * cnt (fun i => r.z.testBit i && (c ^^^ r.x).testBit i) n + cnt (fun i => r.x.testBit i && r.z.testBit i) n) % 4 = (2 + (2 * r.m + 2 * cnt (fun i => r.z.testBit i && (c ^^^ r.x).testBit i) n + cnt (fun i => r.x.testBit i && r.z.testBit i) n)) % 4
  rcases (show r.m = 0 ∨ r.m = 1 by omega) with h | h
  · rw [h, show (0 : Nat) ^^^ 1 = 1 by decide]; omega
  · rw [h, show (1 : Nat) ^^^ 1 = 0 by decide]; omega
theorem nq_two (p q : Int × Int) : nq (pad p q) + nq (pad p (turn 2 q)) = 2 * (nq p + nq q) := by
  have h := nq_pad_turn 0 p q (by decide)
  rw [pad_comm (turn (2 * (1 - 0)) q) p] at h
  exact h
/-- both halves together -/
theorem wW_halves {r : Row} {n : Nat} (ok : r.Ok n) (f : Nat → Int × Int) : wW n (hf r n f) + wW n (hf (mi r) n f) = 4 * wW n f := by
  have h1 : ∀ c, nq (hf r n f c) + nq (hf (mi r) n f c) = 2 * (nq (f c) + nq (rF r n f c)) := fun c => by
    unfold hf
    rw [rF_mi ok.m]
    exact nq_two _ _
  have h2 := wS_congr (n := n) h1
  rw [wS_add, wS_mul, wS_add] at h2
  have h3 := wW_rF ok f
  dsimp only [wW] at h2 h3 ⊢
  omega
theorem start_wv (c : Nat) : wv [(0, ((1 : Int), (0 : Int)))] c = if 0 = c then (1, 0) else (0, 0) := wv_cons _ _ _ _
theorem cnt_no : ∀ n, cnt (fun _ => false) n = 0
  | 0 => rfl
  | n + 1 => by unfold cnt; rw [cnt_no n]; rfl
theorem Fair.start (n : Nat) : Fair n (wv [(0, (1, 0))]) := by
  intro r ok
  have z1 : ∀ c, c ≠ 0 → wv [(0, ((1 : Int), (0 : Int)))] c = (0, 0) := fun c h => by rw [start_wv, if_neg (Ne.symm h)]
  by_cases hx : r.x = 0
  · have q0 : ∀ q : Row, q.x = 0 → q.m ≤ 1 → ∀ c, hf q n (wv [(0, (1, 0))]) c = if 0 = c then pad (1, 0) (turn (2 * q.m) (1, 0)) else (0, 0) := fun q hq hm c => by
      unfold hf rF
      rw [hq, Nat.xor_zero]
      by_cases hc : 0 = c
      · subst hc
        rw [if_pos rfl, start_wv, if_pos rfl]
        refine congrArg (pad _) (turn_mod ?_ _)
        unfold qq
        have e1 : cnt (fun i => q.z.testBit i && (0 : Nat).testBit i) n = 0 := by
          rw [cnt_congr (q := fun _ => false) fun i _ => by simp]
          exact cnt_no n
        have e2 : cnt (fun i => q.x.testBit i && q.z.testBit i) n = 0 := by
          rw [cnt_congr (q := fun _ => false) fun i _ => by rw [hq]; simp]
          exact cnt_no n
        rw [e1, e2]
        rfl
      · rw [if_neg hc, z1 c (Ne.symm hc), turn_z]
        rfl
    right
    rcases (show r.m = 0 ∨ r.m = 1 by have := ok.m; omega) with h | h
    · right
      refine wS_zero fun c => ?_
      rw [q0 (mi r) hx (mi_ok ok).m, show (mi r).m = 1 by show r.m ^^^ 1 = 1; rw [h]; decide]
      split <;> rfl
    · left
      refine wS_zero fun c => ?_
      rw [q0 r hx ok.m, h]
      split <;> rfl
  · left
    refine wS_congr fun c => ?_
    unfold hf
    rw [rF_mi ok.m]
    have key : ∀ p q : Int × Int, p = (0, 0) ∨ q = (0, 0) → nq (pad p q) = nq (pad p (turn 2 q)) := by
      rintro p q (rfl | rfl)
      · rw [z_pad, z_pad, nq_turn]
      · rw [turn_z]
    refine key _ _ ?_
    by_cases hc : c = 0
    · right
      subst hc
      unfold rF
      rw [z1 _ (by rw [Nat.zero_xor]; exact hx), turn_z]
    · left
      exact z1 c hc
theorem trn_qq {r : Row} {n : Nat} (ok : r.Ok n) (b : Nat) : trn r b = qq r b n := by
  unfold trn qq
  rw [pop_cnt n (r.z &&& b) (Nat.lt_of_le_of_lt Nat.and_le_left ok.z), pop_cnt n (r.x &&& r.z) (Nat.lt_of_le_of_lt Nat.and_le_left ok.x)]
  rw [cnt_congr (p := (r.z &&& b).testBit) (q := fun i => r.z.testBit i && b.testBit i) fun i _ => Nat.testBit_and _ _ _, cnt_congr (p := (r.x &&& r.z).testBit) (q := fun i => r.x.testBit i && r.z.testBit i) fun i _ => Nat.testBit_and _ _ _]
theorem tE_rowE {r : Row} {n : Nat} (ok : r.Ok n) (ws : Wh) : ws.map (tE r) = ws.map (rowE r n) := List.map_congr_left fun e _ => by
  show (e.1 ^^^ r.x, turn (trn r e.1) e.2) = (e.1 ^^^ r.x, turn (qq r e.1 n) e.2)
  rw [trn_qq ok]
/-! bounds, halves and weights of wholes -/
def Bn (B : Nat) (f : Nat → Int × Int) : Prop := ∀ c, (f c).1.natAbs ≤ B ∧ (f c).2.natAbs ≤ B
theorem turn_le (q : Nat) {p : Int × Int} {B : Nat} (h : p.1.natAbs ≤ B ∧ p.2.natAbs ≤ B) : (turn q p).1.natAbs ≤ B ∧ (turn q p).2.natAbs ≤ B := by
  have := turn_abs q (p := p) (N := B + 1) ⟨by omega, by omega⟩
  omega
theorem pad_le {p q : Int × Int} {A B : Nat} (h : p.1.natAbs ≤ A ∧ p.2.natAbs ≤ A) (h2 : q.1.natAbs ≤ B ∧ q.2.natAbs ≤ B) : (pad p q).1.natAbs ≤ A + B ∧ (pad p q).2.natAbs ≤ A + B := by
  unfold pad
  dsimp only
  omega
theorem Bn.dF {B : Nat} {f : Nat → Int × Int} (h : Bn B f) (k : DK) (i j : Nat) : Bn (2 * B) (Tw.dF k i j f) := by
  have one : ∀ p : Int × Int, p.1.natAbs ≤ B ∧ p.2.natAbs ≤ B → p.1.natAbs ≤ 2 * B ∧ p.2.natAbs ≤ 2 * B := fun p h => by omega
  intro c
  cases k with
  | over => exact one _ (h _)
  | quarter => exact one _ (turn_le _ (h _))
  | back => exact one _ (turn_le _ (h _))
  | both =>
    have := pad_le (turn_le (2 * (c.testBit i).toNat) (h c)) (h (c ^^^ 2 ^ i))
    rw [← Nat.two_mul] at this
    exact this
  | wher => exact one _ (h _)
  | swap => exact one _ (h _)
theorem Bn.deed {B n : Nat} {ws : Wh} {d : Dd} (h : Bn B (wv ws)) (nd : (ws.map (·.1)).Nodup) (hd : d.Ok n) : Bn (2 * B) (wv (wnz (deedF d ws))) := by
  rw [wnz_wv (deedF_nd d ws), deedF_wv hd nd]
  exact h.dF _ _ _
theorem wv_in {ws : Wh} (nd : (ws.map (·.1)).Nodup) {e : Nat × Int × Int} (he : e ∈ ws) : wv ws e.1 = e.2 := by
  induction ws with
  | nil => cases he
  | cons x ws ih =>
    obtain ⟨b, p⟩ := x
    rw [List.map_cons, List.nodup_cons] at nd
    rw [wv_cons]
    rcases List.mem_cons.mp he with rfl | he
    · rw [if_pos rfl]
    · rw [if_neg fun z => nd.1 (by show b ∈ _; rw [z]; exact List.mem_map.mpr ⟨e, he, rfl⟩)]
      exact ih nd.2 he
theorem Bn.wok {B : Nat} {ws : Wh} (h : Bn B (wv ws)) (nd : (ws.map (·.1)).Nodup) (hB : B < 2 ^ 100) : Wok ws := ⟨nd, fun e he => by
  have := h e.1
  rw [wv_in nd he] at this
  exact ⟨Nat.lt_of_le_of_lt this.1 hB, Nat.lt_of_le_of_lt this.2 hB⟩⟩
theorem Bn.start : Bn 1 (wv [(0, (1, 0))]) := fun c => by
  rw [start_wv]
  split <;> decide
theorem sum_sumZ : ∀ l : List Int, l.sum = sumZ l
  | [] => rfl
  | x :: l => by rw [List.sum_cons, sum_sumZ l]; rfl
theorem wgt_wW {n : Nat} {ws : Wh} (nd : (ws.map (·.1)).Nodup) (lt : ∀ e ∈ ws, e.1 < 2 ^ n) : wgt ws = wW n (wv ws) := by
  rw [← wt_wW nd lt]
  unfold wgt
  rw [sum_sumZ]
  rfl
theorem adds_nd : ∀ (es acc : Wh), (acc.map (·.1)).Nodup → ((adds acc es).map (·.1)).Nodup
  | [], _, h => h
  | e :: es, acc, h => adds_nd es (wadd acc e.1 e.2) (wadd_nd h)
/-- the half of a whole for a row -/
def half (r : Row) (ws : Wh) : Wh := wnz (adds ws (ws.map (tE r)))
theorem half_nd {r : Row} {ws : Wh} (nd : (ws.map (·.1)).Nodup) : ((half r ws).map (·.1)).Nodup := wnz_nd (adds_nd _ _ nd)
theorem half_wv {r : Row} {n : Nat} {ws : Wh} (ok : r.Ok n) (nd : (ws.map (·.1)).Nodup) : wv (half r ws) = hf r n (wv ws) := by
  unfold half
  rw [wnz_wv (adds_nd _ _ nd), tE_rowE ok]
  funext c
  rw [wv_adds, sm_rowE]
  unfold hf
  have e : wv ws = sm ws := funext fun c => wv_sm nd c
  rw [e]
theorem half_lt {r : Row} {n : Nat} {ws : Wh} (ok : r.Ok n) (lt : ∀ e ∈ ws, e.1 < 2 ^ n) : ∀ e ∈ half r ws, e.1 < 2 ^ n := fun e he => by
  unfold half wnz at he
  rw [tE_rowE ok] at he
  exact adds_lt _ lt (rowE_lt ok lt) e (List.mem_filter.mp he).1
theorem Bn.half {B n : Nat} {r : Row} {ws : Wh} (h : Bn B (wv ws)) (ok : r.Ok n) (nd : (ws.map (·.1)).Nodup) : Bn (2 * B) (wv (Tw.half r ws)) := by
  rw [half_wv ok nd]
  intro c
  have := pad_le (h c) (turn_le (qq r (c ^^^ r.x) n) (h (c ^^^ r.x)))
  rw [← Nat.two_mul] at this
  exact this
theorem half_wgt {r : Row} {n : Nat} {ws : Wh} (ok : r.Ok n) (nd : (ws.map (·.1)).Nodup) (lt : ∀ e ∈ ws, e.1 < 2 ^ n) : wgt (half r ws) = wW n (hf r n (wv ws)) := by
  rw [wgt_wW (half_nd nd) (half_lt ok lt), half_wv ok nd]
/-- the keys of two wholes, each once -/
def both2 (W O : Wh) : List Nat := W.map (·.1) ++ (O.map (·.1)).filter fun b => decide (b ∉ W.map (·.1))
theorem both2_sum {n : Nat} {W O : Wh} (ndW : (W.map (·.1)).Nodup) (ndO : (O.map (·.1)).Nodup) (ltW : ∀ e ∈ W, e.1 < 2 ^ n) (ltO : ∀ e ∈ O, e.1 < 2 ^ n) (s : Nat) :
    sumZ ((both2 W O).map fun c => nq (pad (wv W c) (turn s (wv O c)))) = wS n fun c => nq (pad (wv W c) (turn s (wv O c))) := by
  refine wS_keys ?_ ?_ ?_
  · unfold both2
    refine List.nodup_append.mpr ⟨ndW, ndO.sublist List.filter_sublist, fun a ha b hb z => ?_⟩
    have := of_decide_eq_true (List.mem_filter.mp hb).2
    exact this (by rw [← z]; exact ha)
  · intro k hk
    rcases List.mem_append.mp hk with h | h
    · obtain ⟨e, he, rfl⟩ := List.mem_map.mp h
      exact ltW e he
    · obtain ⟨e, he, rfl⟩ := List.mem_map.mp (List.mem_filter.mp h).1
      exact ltO e he
  · intro c hc
    have h1 : c ∉ W.map (·.1) := fun z => hc (List.mem_append.mpr (.inl z))
    have h2 : c ∉ O.map (·.1) := fun z => hc (List.mem_append.mpr (.inr (List.mem_filter.mpr ⟨z, decide_eq_true h1⟩)))
    rw [wv_none fun e he z => h1 (List.mem_map.mpr ⟨e, he, z⟩), wv_none fun e he z => h2 (List.mem_map.mpr ⟨e, he, z⟩), turn_z]
    rfl
theorem both2_half {r : Row} {n : Nat} {ws : Wh} (ok : r.Ok n) (nd : (ws.map (·.1)).Nodup) (lt : ∀ e ∈ ws, e.1 < 2 ^ n) (s : Nat) (hs : s = 0 ∨ s = 2) :
    sumZ ((both2 ws (ws.map (tE r))).map fun c => nq (pad (wv ws c) (turn s (wv (ws.map (tE r)) c)))) = wgt (half (if s = 0 then r else mi r) ws) := by
  rw [tE_rowE ok, both2_sum nd (rowE_nd nd) lt (rowE_lt ok lt), rowE_wv nd]
  rcases hs with rfl | rfl
  · rw [if_pos rfl, half_wgt ok nd lt]
    rfl
  · rw [if_neg (by decide), half_wgt (mi_ok ok) nd lt]
    refine wS_congr fun c => ?_
    unfold hf
    rw [rF_mi ok.m]
theorem mi_mi {r : Row} (h : r.m ≤ 1) : mi (mi r) = r := by
  obtain ⟨m, x, z⟩ := r
  show (⟨m ^^^ 1 ^^^ 1, x, z⟩ : Row) = _
  rw [Nat.xor_assoc, Nat.xor_self, Nat.xor_zero]
def sp__law_acted (K : PySem.W.Frag) : Sp := fun vs H Q _ => ∃ (a w : Addr) (ws : Wh) (r : Row), vs = [.ref a, .ref w] ∧ WhAt K H a ws ∧ (ws.map (·.1)).Nodup ∧ ws.length ≤ 100 ∧ SqT K H w r.V ∧ ∀ p H', Same H H' → H p = none → WhAt K H' p (ws.map (tE r)) → Q (.ref p) H'
def sp_acted_on (K : PySem.W.Frag) : Sp := sp__law_acted K
def sp_ones (K : PySem.W.Frag) : Sp := fun vs H Q _ => ∃ n : Nat, vs = [.int n] ∧ Q (.int (pop n : Nat)) H
abbrev sp__law_ones (K : PySem.W.Frag) : Sp := sp_ones K
def sp_letters_y (K : PySem.W.Frag) : Sp := fun vs H Q _ => ∃ (a : Addr) (r : Row), vs = [.ref a] ∧ SqT K H a r.V ∧ Q (.int (pop (r.x &&& r.z) : Nat)) H
def sp_whole_weight (K : PySem.W.Frag) : Sp := fun vs H Q _ => ∃ (a : Addr) (ws : Wh), vs = [.ref a] ∧ WhAt K H a ws ∧ Wok ws ∧ ws.length ≤ 100 ∧ ∀ H', Same H H' → Q (.int (wgt ws)) H'
def sp__law_bits (K : PySem.W.Frag) : Sp := fun vs H Q _ => ∃ (c : Int) (k n : Nat), vs = [.int c, .int k, .int n] ∧ k ≤ 90 ∧ n ≤ 40 ∧ ∀ m : Nat, m < 2 ^ n → Q (.int m) H
def sp__law_signs (K : PySem.W.Frag) : Sp := fun vs H Q _ => ∃ (c : Int) (n : Nat), vs = [.int c, .int n] ∧ 0 < n ∧ n ≤ 40 ∧ ∀ p H' (x z : Nat), Same H H' → H' p = some (.tup [.int x, .int z]) → x < 2 ^ n → z < 2 ^ n → Q (.ref p) H'
theorem at4b {N a b c d : Nat} (m : Nat) (ha : a < N) (hb : b < N) (hc : c < N) (hd : d < N) : ∃ k : Nat, k < N ∧ atI [V.int (a : Int), .int (b : Int), .int (c : Int), .int (d : Int)] ((m : Int) % 4) = some (.int (k : Int)) := by
  have e : ((m : Nat) : Int) % 4 = ((m % 4 : Nat) : Int) := by omega
  rw [e]
  have h : m % 4 < 4 := by omega
  match m % 4, h with
  | 0, _ => exact ⟨a, ha, atI_nat (j := 0) rfl⟩
  | 1, _ => exact ⟨b, hb, atI_nat (j := 1) rfl⟩
  | 2, _ => exact ⟨c, hc, atI_nat (j := 2) rfl⟩
  | 3, _ => exact ⟨d, hd, atI_nat (j := 3) rfl⟩
theorem adds_step {A W : Wh} {i : Nat} {e : Nat × Int × Int} (h : W[i]? = some e) : adds A (W.take (i + 1)) = wadd (adds A (W.take i)) e.1 e.2 := by
  unfold adds
  rw [List.take_succ, h]
  exact List.foldl_append
/-- a whole of n wires with not too great numbers -/
structure Wf (n : Nat) (ws : Wh) : Prop where
  nd : (ws.map (·.1)).Nodup
  lt : ∀ e ∈ ws, e.1 < 2 ^ n
  bn : Bn (2 ^ 80) (wv ws)
  n6 : n ≤ 6
theorem Wf.len {n : Nat} {ws : Wh} (h : Wf n ws) : ws.length ≤ 64 := by
  have h1 := nodup_below (2 ^ n) _ h.nd fun x hx => by obtain ⟨e, he, rfl⟩ := List.mem_map.mp hx; exact h.lt e he
  rw [List.length_map] at h1
  have h2 : 2 ^ n ≤ 2 ^ 6 := Nat.pow_le_pow_right (by decide) h.n6
  omega
theorem Wf.wok {n : Nat} {ws : Wh} (h : Wf n ws) : Wok ws := h.bn.wok h.nd (by decide)
theorem Wf.half {n : Nat} {ws : Wh} {r : Row} (h : Wf n ws) (ok : r.Ok n) : Wok (Tw.half r ws) := (h.bn.half ok h.nd).wok (half_nd h.nd) (by decide)
theorem half_len {n : Nat} {ws : Wh} {r : Row} (h : Wf n ws) (ok : r.Ok n) : (half r ws).length ≤ 64 := by
  have h1 := nodup_below (2 ^ n) _ (half_nd (r := r) h.nd) fun x hx => by obtain ⟨e, he, rfl⟩ := List.mem_map.mp hx; exact half_lt ok h.lt e he
  rw [List.length_map] at h1
  have h2 : 2 ^ n ≤ 2 ^ 6 := Nat.pow_le_pow_right (by decide) h.n6
  omega
def sp_added (K : PySem.W.Frag) : Sp := fun vs H Q _ => ∃ (a b : Addr) (W O : Wh), vs = [.ref a, .ref b] ∧ WhAt K H a W ∧ WhAt K H b O ∧ (W.map (·.1)).Nodup ∧ W.length ≤ 90 ∧ O.length ≤ 90 ∧ ∀ p H', Same H H' → H p = none → WhAt K H' p (wnz (adds W O)) → Q (.ref p) H'
def sp_half_by (K : PySem.W.Frag) : Sp := fun vs H Q _ => ∃ (a w : Addr) (v : Nat) (ws : Wh) (r : Row), vs = [.ref a, .ref w, .int v] ∧ WhAt K H a ws ∧ (ws.map (·.1)).Nodup ∧ ws.length ≤ 90 ∧ SqT K H w r.V ∧ ∀ p H', Same H H' → H p = none → WhAt K H' p (half ⟨r.m ^^^ v, r.x, r.z⟩ ws) → Q (.ref p) H'
def sp_halves_by (K : PySem.W.Frag) : Sp := fun vs H Q _ => ∃ (a w : Addr) (ws : Wh) (r : Row) (n : Nat), vs = [.ref a, .ref w] ∧ WhAt K H a ws ∧ Wf n ws ∧ r.Ok n ∧ SqT K H w r.V ∧ ∀ p H', Same H H' → H' p = some (.tup [.int (wgt (half r ws)), .int (wgt (half (mi r) ws))]) → Q (.ref p) H'
theorem WR.has {K : PySem.W.Frag} {H : Hp} {ws : Wh} {kvs : List (Key × V)} (h : WR K H ws kvs) (b : Nat) : (atZ kvs ((b : Nat) : Int)).isSome = decide (b ∈ ws.map (·.1)) := by
  rcases h.val b with ⟨e1, e2⟩ | ⟨a, p, e1, _, e2⟩
  · rw [show atZ kvs ((b : Nat) : Int) = none from e1, decide_eq_false]
    · rfl
    · intro z
      have := wat_mem z
      rw [e2] at this
      cases this
  · rw [show atZ kvs ((b : Nat) : Int) = some (.ref a) from e1, decide_eq_true]
    · rfl
    · refine Classical.byContradiction fun z => ?_
      have : wat ws b = none := wat_not fun y => by
        obtain ⟨e, he, x⟩ := List.any_eq_true.mp y
        exact z (List.mem_map.mpr ⟨e, he, of_decide_eq_true x⟩)
      rw [e2] at this
      cases this
theorem WR.getD {K : PySem.W.Frag} {H : Hp} {ws : Wh} {kvs : List (Key × V)} (h : WR K H ws kvs) {p : Addr} (hp : SqT K H p [.int 0, .int 0]) (b : Nat) : ∃ t, (atZ kvs ((b : Nat) : Int)).getD (.ref p) = .ref t ∧ SqT K H t [.int (wv ws b).1, .int (wv ws b).2] := by
  unfold wv
  rcases h.val b with ⟨e1, e2⟩ | ⟨a, q, e1, e3, e2⟩
  · rw [show atZ kvs ((b : Nat) : Int) = none from e1, e2]
    exact ⟨p, rfl, hp⟩
  · rw [show atZ kvs ((b : Nat) : Int) = some (.ref a) from e1, e2]
    exact ⟨a, rfl, e3⟩
theorem WR.ks {K : PySem.W.Frag} {H : Hp} {ws : Wh} {kvs : List (Key × V)} (h : WR K H ws kvs) : ksV kvs = vn (ws.map (·.1)) := by
  induction h with
  | nil => rfl
  | cons q _ ih =>
    unfold ksV vn at ih ⊢
    rw [List.map_cons, List.map_cons, List.map_cons, ih]
    rfl
theorem sumZ_snoc {α : Type} {l : List α} {i : Nat} {x : α} (h : l[i]? = some x) (F : α → Int) : sumZ ((l.take (i + 1)).map F) = sumZ ((l.take i).map F) + F x := by
  rw [List.take_succ, h, List.map_append, sumZ_app]
  show _ + (F x + 0) = _
  omega
theorem sq_turn {s : Int} {t : Nat} (h : (s = 1 ∧ t = 0) ∨ (s = -1 ∧ t = 2)) (f : Int) (p q : Int × Int) : f + (p.1 + s * q.1) ^ (2 : Int).toNat + (p.2 + s * q.2) ^ (2 : Int).toNat = f + nq (pad p (turn t q)) := by
  have e : ∀ x : Int, x ^ (2 : Int).toNat = x * x := fun x => by
    show x ^ 2 = _
    rw [Int.pow_succ, Int.pow_succ, Int.pow_zero, Int.one_mul]
  rw [e, e]
  rcases h with ⟨rfl, rfl⟩ | ⟨rfl, rfl⟩
  · show _ = f + ((p.1 + q.1) * (p.1 + q.1) + (p.2 + q.2) * (p.2 + q.2))
    rw [Int.one_mul, Int.one_mul]
    omega
  · show _ = f + ((p.1 + -q.1) * (p.1 + -q.1) + (p.2 + -q.2) * (p.2 + -q.2))
    rw [Int.neg_mul, Int.neg_mul, Int.one_mul, Int.one_mul]
    omega
def sp__law_weight (K : PySem.W.Frag) : Sp := fun vs H Q _ => ∃ (a b : Addr) (s : Int) (W O : Wh) (t : Nat), vs = [.ref a, .ref b, .int s] ∧ a ≠ b ∧ WhAt K H a W ∧ WhAt K H b O ∧ (W.map (·.1)).Nodup ∧ W.length ≤ 90 ∧ O.length ≤ 90 ∧ ((s = 1 ∧ t = 0) ∨ (s = -1 ∧ t = 2)) ∧ Bn (2 ^ 81) (wv W) ∧ Bn (2 ^ 81) (wv O) ∧
  ∀ H', Same H H' → Q (.int (sumZ ((both2 W O).map fun c => nq (pad (wv W c) (turn t (wv O c)))))) H'
theorem butT_sl {K : PySem.W.Frag} {x : Addr} {H H' : Hp} {C dx : Addr} {fs : List (Str × V)} (h : ButT x H H') (hx : H x = some (.ins C dx fs)) {a : Addr} {xs : List V} (s : SqL K H a xs) : SqL K H' a xs := by
  rcases s with (e | ⟨o, e⟩) | e
  · exact .inl (.inl (h _ _ (fun z => by rw [z, hx] at e; cases e) e (by intro ps z; cases z)))
  · exact .inl (.inr ⟨o, h _ _ (fun z => by rw [z, hx] at e; cases e) e (by intro ps z; cases z)⟩)
  · exact .inr e
theorem butD_sl {K : PySem.W.Frag} {x : Addr} {H H' : Hp} {kvs : List (Key × V)} (h : But x H H') (hx : H x = some (.dK kvs)) {a : Addr} {xs : List V} (s : SqL K H a xs) : SqL K H' a xs := by
  rcases s with (e | ⟨o, e⟩) | e
  · exact .inl (.inl (h _ _ (fun z => by rw [z, hx] at e; cases e) e))
  · exact .inl (.inr ⟨o, h _ _ (fun z => by rw [z, hx] at e; cases e) e⟩)
  · exact .inr e
theorem act_onto {d : Dd} {n : Nat} (hd : d.Ok n) (r : Row) (ok : r.Ok n) : ∃ r0 : Row, r0.Ok n ∧ act d r0 = r := by
  have hu : ∀ c ∈ [d], c.Ok n := fun c hc => by rw [List.mem_singleton.mp hc]; exact hd
  refine ⟨acts (undo [d]) r, acts_ok ok (undo_oks hu), ?_⟩
  exact acts_undo' hu r
theorem Fair.done {d : Dd} {n : Nat} {ws : Wh} (h : Fair n (wv ws)) (w : Wn n ws) (hd : d.Ok n) : Fair n (wv (wnz (deedF d ws))) := by
  rw [wnz_wv (deedF_nd d ws), deedF_wv hd w.nd]
  have e : wv ws = sm ws := funext fun c => wv_sm w.nd c
  rw [e] at h ⊢
  exact h.deed hd (act_onto hd)
theorem whAt_ne0 {K : PySem.W.Frag} {H : Hp} {Q : VK} {a b : Addr} {ws : Wh} {kvs : List (Key × V)} (h : H a = some (.dK kvs)) (hw : WR K H ws kvs) (nd : (ws.map (·.1)).Nodup) (h2 : H b = some (.dK [])) (q : Q (.bl (!ws.isEmpty)) H) : rEqM true K (.ref a) (.ref b) H Q := by
  refine st_eqM (.inl h) (.inl h2) (hw.dv nd) (g := wd []) (fun k x hx => nomatch hx) ?_
  have e : (sameD kvs [] (wd ws) (wd []) ^^ true) = !ws.isEmpty := by
    cases hw with
    | nil => rfl
    | cons q r =>
      unfold sameD
      rw [decide_eq_false (by simp)]
      rfl
  rw [e]
  exact q
theorem Bn.mono {A B : Nat} {f : Nat → Int × Int} (h : Bn A f) (hl : A ≤ B) : Bn B f := fun c => ⟨Nat.le_trans (h c).1 hl, Nat.le_trans (h c).2 hl⟩
theorem Bn.put {B : Nat} {ws : Wh} {b : Nat} {p : Int × Int} (h : Bn B (wv ws)) (hp : p.1.natAbs ≤ B ∧ p.2.natAbs ≤ B) : Bn B (wv (wput ws b p)) := fun c => by
  rw [wv_wput]
  split
  · exact hp
  · exact h c
theorem halves_none {n : Nat} {ws : Wh} (nd : (ws.map (·.1)).Nodup) (lt : ∀ e ∈ ws, e.1 < 2 ^ n) : wgt (half ⟨0, 0, 0⟩ ws) = 4 * wgt ws ∧ wgt (half (mi ⟨0, 0, 0⟩) ws) = 0 := by
  have ok : Row.Ok ⟨0, 0, 0⟩ n := ⟨Nat.zero_le _, Nat.two_pow_pos n, Nat.two_pow_pos n⟩
  have hB : wgt (half (mi ⟨0, 0, 0⟩) ws) = 0 := by
    rw [half_wgt (mi_ok ok) nd lt]
    refine wS_zero fun c => ?_
    unfold hf
    rw [rF_mi ok.m]
    have e : rF ⟨0, 0, 0⟩ n (wv ws) c = wv ws c := by
      show turn (qq ⟨0, 0, 0⟩ (c ^^^ 0) n) (wv ws (c ^^^ 0)) = _
      rw [Nat.xor_zero]
      refine Eq.trans (turn_mod (b := 0) ?_ _) rfl
      unfold qq
      have e1 : cnt (fun i => (0 : Nat).testBit i && c.testBit i) n = 0 := by
        rw [cnt_congr (q := fun _ => false) fun i _ => by simp]
        exact cnt_no n
      have e2 : cnt (fun i => (0 : Nat).testBit i && (0 : Nat).testBit i) n = 0 := by
        rw [cnt_congr (q := fun _ => false) fun i _ => by simp]
        exact cnt_no n
      show (2 * 0 + 2 * cnt (fun i => (0 : Nat).testBit i && c.testBit i) n + cnt (fun i => (0 : Nat).testBit i && (0 : Nat).testBit i) n) % 4 = 0 % 4
      rw [e1, e2]
    rw [e]
    show nq (pad (wv ws c) (-(wv ws c).1, -(wv ws c).2)) = 0
    unfold pad
    dsimp only
    rw [Int.add_right_neg, Int.add_right_neg]
    rfl
  refine ⟨?_, hB⟩
  have h := wW_halves ok (wv ws)
  rw [← half_wgt ok nd lt, ← half_wgt (mi_ok ok) nd lt, ← wgt_wW nd lt, hB] at h
  omega
def sp__law_right (K : PySem.W.Frag) : Sp := fun vs H Q _ => ∃ (a w : Addr) (ws : Wh) (r : Row) (n : Nat), vs = [.ref a, .ref w] ∧ WhAt K H a ws ∧ Wf n ws ∧ r.Ok n ∧ SqT K H w r.V ∧ ∀ H', Same H H' → Q (.bl true) H'
def sp_law (K : PySem.W.Frag) (T1 T2 T3 : Addr) : Sp := fun vs H Q _ => ∃ (a : Addr) (ns : List Int), vs = [.ref a] ∧ SqL K H a (ns.map V.int) ∧ ns.length ≤ 63 ∧ Tabs T1 T2 T3 H ∧ ∀ H', Q (.bl true) H'
section
variable {P : Program} {w : World} {K : PySem.W.Frag} {mg : Str → Option Value} {base : Heap} {cc_Over_on_whole TT_Over_on_whole cc_Where_on_whole TT_Where_on_whole cc_Swap_on_whole TT_Swap_on_whole : Addr} {C_WireError C_NoRow C_NoDeed C_NoWire A_WIRES_BEHIND : Addr} {CD_D : DK → Addr}
theorem lk1 {a b x : Str} (h : List.lookup x [(a, NameKind.local), (b, NameKind.free)] = some .free) : x = b := by
  have := PySem.mem_of_lookup h
  simpa using this
theorem ls_over (c : Addr) : LamScope ["b", "bit"] ["b"] lam_over [("bit", c)] where
  kind := rfl
  co := rfl
  gen := rfl
  nd := by decide +kernel
  pre := rfl
  par := by decide +kernel
  post := fun i x h e => by
    match i, h, e with
    | 1, _, e => cases e; rfl
    | i + 2, _, e => cases e
  nocell := by decide +kernel
  fr := fun x h => ⟨c, by
    have h2 : List.lookup x [(("b" : Str), NameKind.local), ("bit", NameKind.free)] = some .free := h
    rw [lk1 h2]
    rfl⟩
  inj := fun x y d h1 h2 => by
    have e1 := PySem.mem_of_lookup h1
    have e2 := PySem.mem_of_lookup h2
    simp only [List.mem_singleton, Prod.mk.injEq] at e1 e2
    rw [e1.1, e2.1]
  binds := fun pm ctv c' us hl => by
    match us, hl with
    | [_], _ => rfl
theorem lk2 {a b c d x : Str} {k : NameKind} (hk : k ≠ .free) (h : List.lookup x [(a, NameKind.local), (b, NameKind.free), (c, NameKind.free), (d, k)] = some .free) : x = b ∨ x = c := by
  have := PySem.mem_of_lookup h
  simp only [List.mem_cons, Prod.mk.injEq, List.not_mem_nil, or_false] at this
  rcases this with ⟨_, z⟩ | ⟨z, _⟩ | ⟨z, _⟩ | ⟨_, z⟩
  · cases z
  · exact .inl z
  · exact .inr z
  · exact absurd z.symm hk
theorem ls_two {l : Lam} {x : Str} {c d : Addr} {k : NameKind} (hcd : c ≠ d) (hk : k ≠ .free) (hkc : k ≠ .cell) (hn : l.scope.names = [(("b" : Str), NameKind.local), (("j" : Str), NameKind.free), (("k" : Str), NameKind.free), (x, k)]) (h1 : l.scope.kind = .function) (h2 : l.scope.isCoroutine = false) (h3 : l.scope.isGenerator = false)
    (hb : ∀ (pm ctv : Value) (c' : Addr) (us : List Value), us.length = 1 → bindArgs (PySem.W.kla_fn "<lambda>" l.qual l.params l.body l.scope [("k", d), ("j", c)] pm (.ref c') ctv) ⟨us, []⟩ = pure ((["b"] : List Str).zip us)) : LamScope ["b", "j", "k"] ["b"] l [("k", d), ("j", c)] where
  kind := h1
  co := h2
  gen := h3
  nd := by decide +kernel
  pre := rfl
  par := fun y hy => by
    rw [List.mem_singleton.mp hy, hn]
    rfl
  post := fun i y h e => by
    rw [hn]
    match i, h, e with
    | 1, _, e => cases e; rfl
    | 2, _, e => cases e; rfl
    | i + 3, _, e => cases e
  nocell := fun y hy => by
    rw [hn] at hy
    simp only [List.mem_cons, List.not_mem_nil, or_false] at hy
    rcases hy with rfl | rfl | rfl | rfl
    · decide
    · decide
    · decide
    · exact hkc
  fr := fun y h => by
    rw [hn] at h
    rcases lk2 hk h with rfl | rfl
    · exact ⟨c, rfl⟩
    · exact ⟨d, rfl⟩
  inj := fun y z e g1 g2 => by
    have e1 := PySem.mem_of_lookup g1
    have e2 := PySem.mem_of_lookup g2
    simp only [List.mem_cons, Prod.mk.injEq, List.not_mem_nil, or_false] at e1 e2
    rcases e1 with ⟨a1, b1⟩ | ⟨a1, b1⟩ <;> rcases e2 with ⟨a2, b2⟩ | ⟨a2, b2⟩
    · rw [a1, a2]
    · exact absurd (b2.symm.trans b1) hcd
    · exact absurd (b1.symm.trans b2) hcd
    · rw [a1, a2]
  binds := hb
theorem cells_two {G : Hp} {c d : Addr} {i j : Nat} {b : V} (h1 : CellN G c i) (h2 : CellN G d j) : CellsAt G ["b", "j", "k"] [("k", d), ("j", c)] (([b] ++ [V.int (i : Int), V.int (j : Int)]).map some) := fun x e hx => by
  have e1 := PySem.mem_of_lookup hx
  simp only [List.mem_cons, Prod.mk.injEq, List.not_mem_nil, or_false] at e1
  rcases e1 with ⟨rfl, rfl⟩ | ⟨rfl, rfl⟩
  · obtain ⟨o, t, g1, g2⟩ := h2
    refine ⟨o, _, g1, g2, fun n v e1 e2 => ?_⟩
    match n, e1, e2 with
    | 0, e1, _ => exact absurd (Option.some.inj e1) (by decide +kernel)
    | 1, e1, _ => exact absurd (Option.some.inj e1) (by decide +kernel)
    | 2, _, e2 => cases e2; exact ⟨t, rfl⟩
    | n + 3, e1, _ => cases e1
  · obtain ⟨o, t, g1, g2⟩ := h1
    refine ⟨o, _, g1, g2, fun n v e1 e2 => ?_⟩
    match n, e1, e2 with
    | 0, e1, _ => exact absurd (Option.some.inj e1) (by decide +kernel)
    | 1, _, e2 => cases e2; exact ⟨t, rfl⟩
    | 2, e1, _ => exact absurd (Option.some.inj e1) (by decide +kernel)
    | n + 3, e1, _ => cases e1
theorem cells_one {G : Hp} {c : Addr} {i : Nat} {b : V} (h1 : CellN G c i) : CellsAt G ["b", "bit"] [("bit", c)] (([b] ++ [V.int (i : Int)]).map some) := fun x e hx => by
  have e1 := PySem.mem_of_lookup hx
  simp only [List.mem_singleton, Prod.mk.injEq] at e1
  obtain ⟨rfl, rfl⟩ := e1
  obtain ⟨o, t, g1, g2⟩ := h1
  refine ⟨o, _, g1, g2, fun n v e1 e2 => ?_⟩
  match n, e1, e2 with
  | 0, e1, _ => exact absurd (Option.some.inj e1) (by decide +kernel)
  | 1, _, e2 => cases e2; exact ⟨t, rfl⟩
  | n + 2, e1, _ => cases e1
theorem lam_ok (c_bit_at : Cal P w K mg base CX0 1 "bit_at" ["number", "k"] (sp_bit_at K)) (c_exchanged : Cal P w K mg base CX0 2 "exchanged" ["number", "j", "k"] (sp_exchanged K)) : LCal P w K mg base 3 LL := by
  refine ⟨fun f vs H Q h => ?_, fun f A outer s H us vs Q hr e0 r h => ?_⟩
  · obtain ⟨b, g, rfl, hG, _⟩ := h
    exact hG.fn
  · obtain ⟨b, g, rfl, hG, q⟩ := h
    cases hG with
    | over hL hc hi =>
      rename_i c i
      refine run_lam (k := 2) (ws := [.int ((2 ^ i : Nat) : Int)]) (ls_over c) hr e0 r rfl rfl hL (cells_one hc) (fun p hp => ⟨"bit", by rw [List.mem_singleton.mp hp]; rfl⟩) fun c' => ?_
      have hr := hr.deeper (PySem.W.envX lam_over.qual lam_over.scope s.heap.objs.size f (.ref c') [("bit", c)])
      refine ⟨_, (pe_op (op_xor) (pv 0) (pv 1)), ?_⟩
      fail "go"
      rw [rec_unc]
      exact q
    | wher hL hcd hc hd hi hj =>
      rename_i c d i j
      refine run_lam (k := 2) (ws := [.int (i : Int), .int (j : Int)]) (ls_two hcd (by decide) (by decide) rfl rfl rfl rfl fun pm ctv c' us hl => (match us, hl with | [_], _ => rfl)) hr e0 r rfl rfl hL (cells_two hc hd) (fun p hp => by
        simp only [List.mem_cons, List.not_mem_nil, or_false] at hp
        rcases hp with rfl | rfl
        · exact ⟨"k", rfl⟩
        · exact ⟨"j", rfl⟩) fun c' => ?_
      have hr := hr.deeper (PySem.W.envX lam_wher.qual lam_wher.scope s.heap.objs.size f (.ref c') [("k", d), ("j", c)])
      refine ⟨_, (pe_op (op_xor) (pv 0) (pe_op (op_shl) (pe_fn c_bit_at hr pass0 (pa_cons (pv 0) (pa_cons (pv 1) pa_nil))) (pv 2))), ?_⟩
      fail "go"
      refine ⟨b, i, rfl, ?_⟩
      fail "go"
      rw [rec_unc]
      exact q
    | swap hL hcd hc hd hi hj =>
      rename_i c d i j
      refine run_lam (k := 2) (ws := [.int (i : Int), .int (j : Int)]) (ls_two hcd (by decide) (by decide) rfl rfl rfl rfl fun pm ctv c' us hl => (match us, hl with | [_], _ => rfl)) hr e0 r rfl rfl hL (cells_two hc hd) (fun p hp => by
        simp only [List.mem_cons, List.not_mem_nil, or_false] at hp
        rcases hp with rfl | rfl
        · exact ⟨"k", rfl⟩
        · exact ⟨"j", rfl⟩) fun c' => ?_
      have hr := hr.deeper (PySem.W.envX lam_swap.qual lam_swap.scope s.heap.objs.size f (.ref c') [("k", d), ("j", c)])
      refine ⟨_, (pe_fn c_exchanged hr pass0 (pa_cons (pv 0) (pa_cons (pv 1) (pa_cons (pv 2) pa_nil)))), ?_⟩
      fail "go"
      refine ⟨b, i, j, rfl, hi, hj, ?_⟩
      fail "go"
      rw [rec_unc]
      exact q
theorem ok_is_whole_number {f : Addr} {fd : FuncData} (F : Fun K "is_whole_number" "is_whole_number" s_is_whole_number f fd) (b_isinstance : mg "isinstance" = none) (b_int : mg "int" = none) (b_bool : mg "bool" = none) : FnOk P w K mg base CX0 1 f fd ["thing"] (sp_is_whole_number K) := by
  refine F.ok sc_is_whole_number (fun vs H Q E h => ?_) (fun cdv A outer s H vs Q E hr h => ?_)
  · obtain ⟨_, _, rfl, _⟩ := h
    rfl
  obtain ⟨v, b, rfl, ⟨t, b1, b2, ty, e1, e2, rfl⟩, q⟩ := h
  refine ⟨_, (pss_one (ps_ret (pe_and (pe_isB rfl b_isinstance (pv 0) b_int boot_int) (pe_one (pe_not (pe_isB rfl b_isinstance (pv 0) b_bool boot_bool)))))), ?_⟩
  fail "st"
  fail "go"
  refine st_isi ty e1 ?_
  cases b1 with
  | false =>
    fail "go"
    exact q
  | true =>
    fail "go"
    refine st_isi ty e2 ?_
    fail "go"
    exact q
theorem ok_ones {f : Addr} {fd : FuncData} (F : Fun K "ones" "ones" s_ones f fd)  : FnOk P w K mg base CX0 1 f fd ["number"] (sp_ones K) := by
  refine F.ok sc_ones (fun vs H Q E h => ?_) (fun cdv A outer s H vs Q E hr h => ?_)
  · obtain ⟨_, rfl, _⟩ := h
    rfl
  obtain ⟨n, rfl, q⟩ := h
  refine ⟨_, (pss_cons (ps_set (i := 1) sc_ones.nd rfl (Or.inl rfl) pe_int)
      (pss_cons (ps_set (i := 2) sc_ones.nd rfl (Or.inl rfl) (pv 0))
      (pss_cons (ps_while PassesOwn.never (pt_cmpR (op_gt) (pv 2) pe_int (nomark _)) (pss_cons (ps_set (i := 2) sc_ones.nd rfl (Or.inl rfl) (pe_op (op_and) (pv 2) (pe_op (op_sub) (pv 2) pe_int)))
      (pss_one (ps_set (i := 1) sc_ones.nd rfl (Or.inl rfl) (pe_op (op_add) (pv 1) pe_int)))))
      (pss_one (ps_ret (pv 1)))))), ?_⟩
  fail "go"
  refine ⟨fun m σ H' => ∃ k r : Nat, σ = [some (.int n), some (.int k), some (.int r)] ∧ H' = H ∧ m = r ∧ k + pop r = pop n, ⟨n, 0, n, rfl, rfl, rfl, by omega⟩, ?_⟩
  rintro m σ H' ⟨k, r, rfl, rfl, rfl, e⟩
  fail "go"
  refine iteD (fun c => ?_) (fun c => ?_)
  · have c' : 0 < m := by omega
    refine ⟨fun σ' H1 => ∃ k r : Nat, σ' = [some (.int n), some (.int k), some (.int r)] ∧ H1 = H' ∧ r < m ∧ k + pop r = pop n, fun σ' H1 ⟨k, r, e1, e2, e3, e4⟩ => ⟨r, e3, k, r, e1, e2, rfl, e4⟩, ?_⟩
    fail "go"
    rw [bitAnd_pred c']
    have := pop_pred m c'
    exact ⟨k + 1, m &&& (m - 1), rfl, rfl, and_pred_lt c', by omega⟩
  · have c' : m = 0 := by omega
    subst c'
    rw [pop_zero, Nat.add_zero] at e
    subst e
    fail "go"
    exact q
theorem ok_Deed___init__ {f : Addr} {fd : FuncData} (F : Fun K "__init__" "Deed.__init__" s_Deed___init__ f fd) (T_D : Txt_D K CD_D) : FnOk P w K mg base CX0 1 f fd ["self", "word", "undoer", "at"] (sp_Deed___init__ K CD_D) := by
  refine F.ok sc_Deed___init__ (fun vs H Q E h => ?_) (fun cdv A outer s H vs Q E hr h => ?_)
  · obtain ⟨_, _, _, _, rfl, _⟩ := h
    rfl
  obtain ⟨p, w, u, t, rfl, k, dx, hp, q⟩ := h
  refine ⟨_, (pss_cons (ps_fld (pv 0) (pv 1) rfl)
      (pss_cons (ps_fld (pv 0) (pv 2) rfl)
      (pss_one (ps_fld (pv 0) (pv 3) rfl)))), ?_⟩
  fail "st"
  fail "go"
  refine st_put1 hp (T_D.cl k) (T_D.n_word k) (by decide) ?_
  fail "go"
  refine st_put1 upd_same (T_D.cl k) (T_D.n_undoer k) (Nat.lt_of_le_of_lt (length_putF _ _ _) (by decide)) ?_
  fail "go"
  refine st_put1 upd_same (T_D.cl k) (T_D.n_at k) (Nat.lt_of_le_of_lt (length_putF _ _ _) (Nat.lt_of_le_of_lt (Nat.succ_le_succ (length_putF _ _ _)) (by decide))) ?_
  rw [upd_upd, upd_upd, flds_put]
  exact q
theorem ok_Over___init__ {f : Addr} {fd : FuncData} (F : Fun K "__init__" "Over.__init__" s_Over___init__ f fd) (cm_Deed___init__ : CCal P w K mg base CX0 1 "Deed" "__init__" ["self", "word", "undoer", "at"] (sp_Deed___init__ K CD_D)) : FnOk P w K mg base CX0 2 f fd ["self", "k"] (sp_Over___init__ K CD_D) := by
  refine F.ok sc_Over___init__ (fun vs H Q E h => ?_) (fun cdv A outer s H vs Q E hr h => ?_)
  · obtain ⟨_, _, rfl, _⟩ := h
    rfl
  obtain ⟨p, j, rfl, dx, hp, q⟩ := h
  refine ⟨_, (pss_one (ps_expr (pe_cm cm_Deed___init__ hr pass0 (pa_cons (pv 0) (pa_cons pe_str (pa_cons pe_str (pa_cons (pe_tup (pa_cons (pv 1) pa_nil)) pa_nil))))))), ?_⟩
  fail "go"
  rename_i t ht
  refine ⟨p, _, _, t, rfl, .over, dx, ?_, q t ht⟩
  rw [upd_ne (ne_of_none hp ht)]
  exact hp
theorem ok_Quarter___init__ {f : Addr} {fd : FuncData} (F : Fun K "__init__" "Quarter.__init__" s_Quarter___init__ f fd) (cm_Deed___init__ : CCal P w K mg base CX0 1 "Deed" "__init__" ["self", "word", "undoer", "at"] (sp_Deed___init__ K CD_D)) : FnOk P w K mg base CX0 2 f fd ["self", "k"] (sp_Quarter___init__ K CD_D) := by
  refine F.ok sc_Quarter___init__ (fun vs H Q E h => ?_) (fun cdv A outer s H vs Q E hr h => ?_)
  · obtain ⟨_, _, rfl, _⟩ := h
    rfl
  obtain ⟨p, j, rfl, dx, hp, q⟩ := h
  refine ⟨_, (pss_one (ps_expr (pe_cm cm_Deed___init__ hr pass0 (pa_cons (pv 0) (pa_cons pe_str (pa_cons pe_str (pa_cons (pe_tup (pa_cons (pv 1) pa_nil)) pa_nil))))))), ?_⟩
  fail "go"
  rename_i t ht
  refine ⟨p, _, _, t, rfl, .quarter, dx, ?_, q t ht⟩
  rw [upd_ne (ne_of_none hp ht)]
  exact hp
theorem ok_Back___init__ {f : Addr} {fd : FuncData} (F : Fun K "__init__" "Back.__init__" s_Back___init__ f fd) (cm_Deed___init__ : CCal P w K mg base CX0 1 "Deed" "__init__" ["self", "word", "undoer", "at"] (sp_Deed___init__ K CD_D)) : FnOk P w K mg base CX0 2 f fd ["self", "k"] (sp_Back___init__ K CD_D) := by
  refine F.ok sc_Back___init__ (fun vs H Q E h => ?_) (fun cdv A outer s H vs Q E hr h => ?_)
  · obtain ⟨_, _, rfl, _⟩ := h
    rfl
  obtain ⟨p, j, rfl, dx, hp, q⟩ := h
  refine ⟨_, (pss_one (ps_expr (pe_cm cm_Deed___init__ hr pass0 (pa_cons (pv 0) (pa_cons pe_str (pa_cons pe_str (pa_cons (pe_tup (pa_cons (pv 1) pa_nil)) pa_nil))))))), ?_⟩
  fail "go"
  rename_i t ht
  refine ⟨p, _, _, t, rfl, .back, dx, ?_, q t ht⟩
  rw [upd_ne (ne_of_none hp ht)]
  exact hp
theorem ok_Both___init__ {f : Addr} {fd : FuncData} (F : Fun K "__init__" "Both.__init__" s_Both___init__ f fd) (cm_Deed___init__ : CCal P w K mg base CX0 1 "Deed" "__init__" ["self", "word", "undoer", "at"] (sp_Deed___init__ K CD_D)) : FnOk P w K mg base CX0 2 f fd ["self", "k"] (sp_Both___init__ K CD_D) := by
  refine F.ok sc_Both___init__ (fun vs H Q E h => ?_) (fun cdv A outer s H vs Q E hr h => ?_)
  · obtain ⟨_, _, rfl, _⟩ := h
    rfl
  obtain ⟨p, j, rfl, dx, hp, q⟩ := h
  refine ⟨_, (pss_one (ps_expr (pe_cm cm_Deed___init__ hr pass0 (pa_cons (pv 0) (pa_cons pe_str (pa_cons pe_str (pa_cons (pe_tup (pa_cons (pv 1) pa_nil)) pa_nil))))))), ?_⟩
  fail "go"
  rename_i t ht
  refine ⟨p, _, _, t, rfl, .both, dx, ?_, q t ht⟩
  rw [upd_ne (ne_of_none hp ht)]
  exact hp
theorem ok_Where___init__ {f : Addr} {fd : FuncData} (F : Fun K "__init__" "Where.__init__" s_Where___init__ f fd) (cm_Deed___init__ : CCal P w K mg base CX0 1 "Deed" "__init__" ["self", "word", "undoer", "at"] (sp_Deed___init__ K CD_D)) : FnOk P w K mg base CX0 2 f fd ["self", "j", "k"] (sp_Where___init__ K CD_D) := by
  refine F.ok sc_Where___init__ (fun vs H Q E h => ?_) (fun cdv A outer s H vs Q E hr h => ?_)
  · obtain ⟨_, _, _, rfl, _⟩ := h
    rfl
  obtain ⟨p, j, i, rfl, dx, hp, q⟩ := h
  refine ⟨_, (pss_one (ps_expr (pe_cm cm_Deed___init__ hr pass0 (pa_cons (pv 0) (pa_cons pe_str (pa_cons pe_str (pa_cons (pe_tup (pa_cons (pv 1) (pa_cons (pv 2) pa_nil))) pa_nil))))))), ?_⟩
  fail "go"
  rename_i t ht
  refine ⟨p, _, _, t, rfl, .wher, dx, ?_, q t ht⟩
  rw [upd_ne (ne_of_none hp ht)]
  exact hp
theorem ok_Swap___init__ {f : Addr} {fd : FuncData} (F : Fun K "__init__" "Swap.__init__" s_Swap___init__ f fd) (cm_Deed___init__ : CCal P w K mg base CX0 1 "Deed" "__init__" ["self", "word", "undoer", "at"] (sp_Deed___init__ K CD_D)) : FnOk P w K mg base CX0 2 f fd ["self", "j", "k"] (sp_Swap___init__ K CD_D) := by
  refine F.ok sc_Swap___init__ (fun vs H Q E h => ?_) (fun cdv A outer s H vs Q E hr h => ?_)
  · obtain ⟨_, _, _, rfl, _⟩ := h
    rfl
  obtain ⟨p, j, i, rfl, dx, hp, q⟩ := h
  refine ⟨_, (pss_one (ps_expr (pe_cm cm_Deed___init__ hr pass0 (pa_cons (pv 0) (pa_cons pe_str (pa_cons pe_str (pa_cons (pe_tup (pa_cons (pv 1) (pa_cons (pv 2) pa_nil))) pa_nil))))))), ?_⟩
  fail "go"
  rename_i t ht
  refine ⟨p, _, _, t, rfl, .swap, dx, ?_, q t ht⟩
  rw [upd_ne (ne_of_none hp ht)]
  exact hp
theorem ok_Deed_wires {f : Addr} {fd : FuncData} (F : Fun K "wires" "Deed.wires" s_Deed_wires f fd) (T_D : Txt_D K CD_D) (b_list : mg "list" = none) : FnOk P w K mg base CX0 1 f fd ["self"] (sp_Deed_wires K CD_D) := by
  refine F.ok sc_Deed_wires (fun vs H Q E h => ?_) (fun cdv A outer s H vs Q E hr h => ?_)
  · obtain ⟨_, _, rfl, _⟩ := h
    rfl
  obtain ⟨a, d, rfl, ⟨dx, t, ha, ht, hl⟩, q⟩ := h
  refine ⟨_, (pss_one (ps_ret (pe_callTy (call_listQ) rfl b_list boot_list (pa_cons (pe_fld (pv 0) rfl) pa_nil)))), ?_⟩
  have ht' : SqT K H t (vn d.w) := SqT.of ht
  fail "st"
  fail "go"
  refine st_fld1 ha (T_D.cl _) (T_D.n_at _) (flds_at _ _) ?_
  fail "go"
  exact q _ (by assumption)
theorem ok_check_words {f : Addr} {fd : FuncData} (F : Fun K "check_words" "check_words" s_check_words f fd) (c_NoDeed : ExcC K mg "NoDeed" C_NoDeed) (g_WIRES_BEHIND : GTab K mg "WIRES_BEHIND" A_WIRES_BEHIND [("over", 1), ("quarter", 1), ("back", 1), ("both", 1), ("where", 2), ("swap", 2)]) (b_len : mg "len" = none) (b_all : mg "all" = none) (b_isinstance : mg "isinstance" = none) (b_tuple : mg "tuple" = none) (b_str : mg "str" = none) (c_is_whole_number : Cal P w K mg base CX0 1 "is_whole_number" ["thing"] (sp_is_whole_number K)) : FnOk P w K mg base (CXE P w) 2 f fd ["words"] (sp_check_words K C_NoDeed) := by
  refine F.okE sc_check_words (fun vs H Q E h => ?_) (fun cdv A outer s H vs Q E hr h => ?_)
  · obtain ⟨_, rfl, _⟩ := h
    rfl
  obtain ⟨v, rfl, hq⟩ := h
  refine ⟨_, (pss_cons (ps_if (PW.pt (pw_or (pt_not (pt_val (pe_isB rfl b_isinstance (pv 0) b_tuple boot_tuple))) (pw_or1 (pt_cmpR (op_eq) (pe_callB (call_lenQ) rfl b_len PySem.boot_len (pa_cons (pv 0) pa_nil)) pe_int (nomark _))))) (pss_one (ps_raise c_NoDeed raisesE (pa_cons pe_str pa_nil) rfl)) pss_nil)
      (pss_cons (ps_if (PW.pt (pw_or (pt_not (pt_val (pe_isB rfl b_isinstance (pe_ix (ix_tup) (pv 0) pe_int (fun _ _ => rfl)) b_str boot_str))) (pw_or1 (pt_cmpR (op_notInTab) (pe_ix (ix_tup) (pv 0) pe_int (fun _ _ => rfl)) (pe_gt g_WIRES_BEHIND) rfl)))) (pss_one (ps_raise c_NoDeed raisesE (pa_cons pe_str pa_nil) rfl)) pss_nil)
      (pss_cons (ps_set (i := 1) sc_check_words.nd rfl (Or.inl rfl) (pe_slice (sl_tup) (pv 0) (po_some pe_int) po_none))
      (pss_cons (ps_if (pt_cmpR (op_ne) (pe_callB (call_lenQ) rfl b_len PySem.boot_len (pa_cons (pv 1) pa_nil)) (pe_ix (ix_tab) (pe_gt g_WIRES_BEHIND) (pe_ix (ix_tup) (pv 0) pe_int (fun _ _ => rfl)) (fun _ _ => rfl)) (nomark _)) (pss_one (ps_raise c_NoDeed raisesE (pa_cons pe_str pa_nil) rfl)) pss_nil)
      (pss_cons (ps_if (pt_not (pt_val (pe_callB (call_allB rfl) rfl b_all boot_all (pa_cons (pe_comp (sc := defScope s_check_words) rfl ⟨rfl, by decide +kernel, rfl, by decide +kernel, by decide +kernel, by decide +kernel, by decide +kernel⟩ (by show ("k" : Str) ∉ (["words", "at"] : List Str); decide +kernel) (by show (".0" : Str) ∉ (["words", "at"] : List Str); decide +kernel) sc_check_words.nd rfl (pi_tup (pv 1)) (fun _ _ _ _ => pif_nil) (fun _ _ _ _ => (pe_fn c_is_whole_number hr pass0 (pa_cons (pv 0) pa_nil)))) pa_nil)))) (pss_one (ps_raise c_NoDeed raisesE (pa_cons pe_str pa_nil) rfl)) pss_nil)
      (pss_one (ps_if (PW.pt (pw_and (pt_cmpR (op_eq) (pe_callB (call_lenQ) rfl b_len PySem.boot_len (pa_cons (pv 1) pa_nil)) pe_int (nomark _)) (pw_and1 (pt_cmpR (op_eq) (pe_ix (ix_tup) (pv 1) pe_int (fun _ _ => rfl)) (pe_ix (ix_tup) (pv 1) pe_int (fun _ _ => rfl)) (nomark _))))) (pss_one (ps_raise c_NoDeed raisesE (pa_cons pe_str pa_nil) rfl)) pss_nil))))))), ?_⟩
  fail "st"
  fail "go"
  have tl : Tab K A_WIRES_BEHIND tabW := g_WIRES_BEHIND.2
  rcases hq with ⟨nw, hE⟩ | ⟨a, k, is, rfl, ⟨ha, hl, hn⟩, hQ⟩
  · cases nw with
    | kind ty kt =>
      refine st_isi ty kt ?_
      fail "go"
      exact ⟨by decide, hE H (Same.refl _)⟩
    | empty ha =>
      refine st_isi (TyOf.tup ha) kit_tuple_tuple ?_
      have ha' := SqT.of (K := K) ha
      fail "go"
      refine ite_t rfl ?_
      fail "go"
      exact ⟨by decide, hE H (Same.refl _)⟩
    | first ha f m =>
      refine st_isi (TyOf.tup ha) kit_tuple_tuple ?_
      have ha' := SqT.of (K := K) ha
      fail "go"
      refine ite_f (fun z => by first | (simp at z; done) | (simp at z; omega)) ?_
      fail "go"
      exact ⟨by decide, hE H (Same.refl _)⟩
    | word ha e fs f m =>
      refine st_isi (TyOf.tup ha) kit_tuple_tuple ?_
      have ha' := SqT.of (K := K) ha
      fail "go"
      refine ite_f (fun z => by first | (simp at z; done) | (simp at z; omega)) ?_
      fail "go"
      refine st_inTab tl ?_
      rw [e]
      fail "go"
      exact ⟨by decide, hE H (Same.refl _)⟩
    | @len a k xs ha l f m =>
      refine st_isi (TyOf.tup ha) kit_tuple_tuple ?_
      have ha' := SqT.of (K := K) ha
      fail "go"
      refine ite_f (fun z => by first | (simp at z; done) | (simp at z; omega)) ?_
      fail "go"
      refine st_inTab tl ?_
      rw [tab_word, show (true != (some (DK.n _ : Int)).isSome) = false from rfl]
      fail "go"
      refine st_tl ha' (fun p hp => ?_)
      have hp' : SqT K (upd H p (.tup xs)) p xs := SqT.of upd_same
      fail "go"
      refine st_ixTab tl (tab_word k) ?_
      fail "go"
      refine iteN (fun _ => ?_) (fun c => (l (by omega)).elim)
      fail "go"
      exact ⟨by decide, hE _ (same_new hp _)⟩
    | @part a k xs ha l f e =>
      refine st_isi (TyOf.tup ha) kit_tuple_tuple ?_
      have ha' := SqT.of (K := K) ha
      fail "go"
      refine ite_f (fun z => by first | (simp at z; done) | (simp at z; omega)) ?_
      fail "go"
      refine st_inTab tl ?_
      rw [tab_word, show (true != (some (DK.n _ : Int)).isSome) = false from rfl]
      fail "go"
      refine st_tl ha' (fun p hp => ?_)
      have hp' : SqT K (upd H p (.tup xs)) p xs := SqT.of upd_same
      fail "go"
      refine st_ixTab tl (tab_word k) ?_
      fail "go"
      refine iteN (fun c => (c (by omega)).elim) (fun _ => ?_)
      fail "go"
      refine st_comp_tup (fun P h => ⟨_, rfl, h⟩) hp' (fun i ys H' => H' = upd H p (.tup xs) ∧ ys = ((xs.take i).map wnB).map V.bl) (by have := k.n_pos; omega) ⟨rfl, rfl⟩ ?_ ?_ ?_ ?_
      · rintro i ys H' ⟨rfl, rfl⟩
        rw [List.length_map, List.length_map, List.length_take]
        omega
      · rintro i ys H' ⟨rfl, rfl⟩
        exact hp'
      · rintro i x ys H' hx ⟨rfl, rfl⟩
        fail "go"
        refine ⟨x, wnB x, rfl, WN.flat K _ (okV_flat (all_get f hx)), rfl, ?_⟩
        rw [take_succ_of hx, List.map_append, List.map_append]
        rfl
      · rintro ys H' ⟨rfl, rfl⟩ p2 hp2
        fail "go"
        refine st_all (bs := (xs.take xs.length).map wnB) (SqL.of upd_same) ?_
        rw [List.take_length, all_id_map, e]
        fail "go"
        exact ⟨by decide, hE _ ((same_new hp _).trans (same_new hp2 _))⟩
    | @same a k i ha e =>
      refine st_isi (TyOf.tup ha) kit_tuple_tuple ?_
      have ha' := SqT.of (K := K) ha
      fail "go"
      refine ite_f (fun z => by first | (simp at z; done) | (simp at z; omega)) ?_
      fail "go"
      refine st_inTab tl ?_
      rw [tab_word, show (true != (some (DK.n _ : Int)).isSome) = false from rfl]
      fail "go"
      refine st_tl ha' (fun p hp => ?_)
      have hp' : SqT K (upd H p (.tup [.int i, .int i])) p [.int i, .int i] := SqT.of upd_same
      fail "go"
      refine st_ixTab tl (tab_word k) ?_
      fail "go"
      refine iteN (fun c => (c (by rw [e]; rfl)).elim) (fun _ => ?_)
      fail "go"
      refine st_comp_tup (fun P h => ⟨_, rfl, h⟩) hp' (fun j ys H' => H' = upd H p (.tup [.int i, .int i]) ∧ ys = ([true, true].take j).map V.bl) (by show (2 : Nat) ≤ 1000; decide) ⟨rfl, rfl⟩ ?_ ?_ ?_ ?_
      · rintro j ys H' ⟨rfl, rfl⟩
        rw [List.length_map, List.length_take]
        omega
      · rintro j ys H' ⟨rfl, rfl⟩
        exact hp'
      · rintro j x ys H' hx ⟨rfl, rfl⟩
        fail "go"
        rcases j with _ | _ | j
        · cases hx
          exact ⟨_, true, rfl, WN.int _ _ _, rfl, rfl⟩
        · cases hx
          exact ⟨_, true, rfl, WN.int _ _ _, rfl, rfl⟩
        · simp at hx
      · rintro ys H' ⟨rfl, rfl⟩ p2 hp2
        fail "go"
        refine st_all (bs := [true, true]) (SqL.of upd_same) ?_
        rw [show [true, true].all id = true from rfl]
        have hp3 : SqT K (upd (upd H p (.tup [.int i, .int i])) p2 (.lst (List.map V.bl (List.take [V.int i, V.int i].length [true, true])))) p [.int i, .int i] := (same_new hp2 _).tup hp'
        fail "go"
        refine ite_t rfl ?_
        fail "go"
        refine ite_t rfl ?_
        fail "go"
        exact ⟨by decide, hE _ ((same_new hp _).trans (same_new hp2 _))⟩
  · refine st_isi (TyOf.tup ha) kit_tuple_tuple ?_
    have ha' := SqT.of (K := K) ha
    fail "go"
    refine ite_f (fun z => by first | (simp at z; done) | (simp at z; omega)) ?_
    fail "go"
    refine st_inTab tl ?_
    rw [tab_word, show (true != (some (DK.n _ : Int)).isSome) = false from rfl]
    fail "go"
    refine st_tl ha' (fun p hp => ?_)
    have hp' : SqT K (upd H p (.tup (is.map V.int))) p (is.map V.int) := SqT.of upd_same
    fail "go"
    refine st_ixTab tl (tab_word k) ?_
    fail "go"
    rw [List.length_map]
    refine iteN (fun c => (c (by omega)).elim) (fun _ => ?_)
    fail "go"
    refine st_comp_tup (fun P h => ⟨_, rfl, h⟩) hp' (fun j ys H' => H' = upd H p (.tup (is.map V.int)) ∧ ys = (List.replicate j true).map V.bl) (by rw [List.length_map]; have := k.n_pos; omega) ⟨rfl, rfl⟩ ?_ ?_ ?_ ?_
    · rintro j ys H' ⟨rfl, rfl⟩
      rw [List.length_map, List.length_replicate]
      omega
    · rintro j ys H' ⟨rfl, rfl⟩
      exact hp'
    · rintro j x ys H' hx ⟨rfl, rfl⟩
      fail "go"
      obtain ⟨i, rfl⟩ := int_get hx
      refine ⟨_, true, rfl, WN.int _ _ _, rfl, ?_⟩
      rw [List.replicate_succ', List.map_append]
      rfl
    · rintro ys H' ⟨rfl, rfl⟩ p2 hp2
      fail "go"
      refine st_all (bs := List.replicate (is.map V.int).length true) (SqL.of upd_same) ?_
      rw [all_replicate]
      have hS : Same H (upd (upd H p (.tup (is.map V.int))) p2 (.lst ((List.replicate (is.map V.int).length true).map V.bl))) := (same_new hp _).trans (same_new hp2 _)
      have hp3 : SqT K (upd (upd H p (.tup (is.map V.int))) p2 (.lst ((List.replicate (is.map V.int).length true).map V.bl))) p (is.map V.int) := (same_new hp2 _).tup hp'
      fail "go"
      refine iteD (fun c => ?_) (fun c => ?_)
      · rw [List.length_map] at c
        obtain ⟨i, j, rfl⟩ := len2 (is := is) (by omega)
        have hij : ¬ i = j := by
          intro z
          subst z
          simp at hn
        fail "go"
        refine ite_f hij ?_
        fail "go"
        exact hQ _ hS
      · fail "go"
        exact hQ _ hS
theorem ok_deed_of_words {f : Addr} {fd : FuncData} (F : Fun K "deed_of_words" "deed_of_words" s_deed_of_words f fd) (k_Swap : KCal P w K mg base CX0 2 "Swap" (CD_D .swap) ["self", "j", "k"] (sp_Swap___init__ K CD_D)) (T_D : Txt_D K CD_D) (k_Over : KCal P w K mg base CX0 2 "Over" (CD_D .over) ["self", "k"] (sp_Over___init__ K CD_D)) (k_Quarter : KCal P w K mg base CX0 2 "Quarter" (CD_D .quarter) ["self", "k"] (sp_Quarter___init__ K CD_D)) (k_Back : KCal P w K mg base CX0 2 "Back" (CD_D .back) ["self", "k"] (sp_Back___init__ K CD_D)) (k_Both : KCal P w K mg base CX0 2 "Both" (CD_D .both) ["self", "k"] (sp_Both___init__ K CD_D)) (k_Where : KCal P w K mg base CX0 2 "Where" (CD_D .wher) ["self", "j", "k"] (sp_Where___init__ K CD_D)) (c_check_words : Cal P w K mg base (CXE P w) 2 "check_words" ["words"] (sp_check_words K C_NoDeed)) (b_min : mg "min" = none) (c_NoWire : ExcC K mg "NoWire" C_NoWire) : FnOk P w K mg base (CXE P w) 4 f fd ["words"] (sp_deed_of_words K CD_D C_NoDeed C_NoWire) := by
  refine F.okE sc_deed_of_words (fun vs H Q E h => ?_) (fun cdv A outer s H vs Q E hr h => ?_)
  · obtain ⟨_, rfl, _⟩ := h
    rfl
  obtain ⟨v, rfl, hq⟩ := h
  refine ⟨_, (pss_cons (ps_expr (pe_fn c_check_words hr passE (pa_cons (pv 0) pa_nil)))
      (pss_cons (ps_if (pt_cmpR (op_lt) (pe_callB (call_minL rfl) rfl b_min boot_min (pa_cons (pe_slice (sl_tup) (pv 0) (po_some pe_int) po_none) pa_nil)) pe_int (nomark _)) (pss_one (ps_raise c_NoWire raisesE (pa_cons pe_str pa_nil) rfl)) pss_nil)
      (pss_cons (ps_set (i := 1) sc_deed_of_words.nd rfl (Or.inl rfl) (pe_ix (ix_tup) (pv 0) pe_int (fun _ _ => rfl)))
      (pss_cons (ps_if (pt_cmpR (op_eq) (pv 1) pe_str (nomark _)) (pss_one (ps_ret (pe_new k_Over hr pass0 (pa_cons (pe_ix (ix_tup) (pv 0) pe_int (fun _ _ => rfl)) pa_nil)))) pss_nil)
      (pss_cons (ps_if (pt_cmpR (op_eq) (pv 1) pe_str (nomark _)) (pss_one (ps_ret (pe_new k_Quarter hr pass0 (pa_cons (pe_ix (ix_tup) (pv 0) pe_int (fun _ _ => rfl)) pa_nil)))) pss_nil)
      (pss_cons (ps_if (pt_cmpR (op_eq) (pv 1) pe_str (nomark _)) (pss_one (ps_ret (pe_new k_Back hr pass0 (pa_cons (pe_ix (ix_tup) (pv 0) pe_int (fun _ _ => rfl)) pa_nil)))) pss_nil)
      (pss_cons (ps_if (pt_cmpR (op_eq) (pv 1) pe_str (nomark _)) (pss_one (ps_ret (pe_new k_Both hr pass0 (pa_cons (pe_ix (ix_tup) (pv 0) pe_int (fun _ _ => rfl)) pa_nil)))) pss_nil)
      (pss_cons (ps_if (pt_cmpR (op_eq) (pv 1) pe_str (nomark _)) (pss_one (ps_ret (pe_new k_Where hr pass0 (pa_cons (pe_ix (ix_tup) (pv 0) pe_int (fun _ _ => rfl)) (pa_cons (pe_ix (ix_tup) (pv 0) pe_int (fun _ _ => rfl)) pa_nil))))) pss_nil)
      (pss_one (ps_ret (pe_new k_Swap hr pass0 (pa_cons (pe_ix (ix_tup) (pv 0) pe_int (fun _ _ => rfl)) (pa_cons (pe_ix (ix_tup) (pv 0) pe_int (fun _ _ => rfl)) pa_nil))))))))))))), ?_⟩
  fail "st"
  fail "go"
  rcases hq with ⟨nw, hE⟩ | ⟨a, k, is, rfl, wd, hQ, hE⟩
  · exact ⟨v, rfl, .inl ⟨nw, hE⟩⟩
  · refine ⟨_, rfl, .inr ⟨a, k, is, rfl, wd, fun H1 hS1 => ?_⟩⟩
    obtain ⟨ha, hl, hn⟩ := wd
    have ha1 : SqT K H1 a (.str k.word :: is.map V.int) := SqT.of (hS1 _ _ ha)
    have hk0 := k.n_pos
    fail "go"
    refine st_tl ha1 (fun p hp => ?_)
    fail "go"
    refine st_bestT (ns := is) (SqT.of upd_same) (by omega) fun M hM hle => ?_
    have hS2 : Same H (upd H1 p (.tup (is.map V.int))) := hS1.trans (same_new hp _)
    have ha2 : SqT K (upd H1 p (.tup (is.map V.int))) a (.str k.word :: is.map V.int) := (same_new hp _).tup ha1
    fail "go"
    refine iteD (fun c => ?_) (fun c => ?_)
    · fail "go"
      exact ⟨by decide, hE (fun z => by have := z M hM; omega) _ hS2⟩
    · have hpos : ∀ i ∈ is, 0 ≤ i := fun i hi => by have := hle i hi; omega
      have hQ' := hQ hpos
      have fin1 : ∀ (x dx : Addr) (i : Int), is = [i] → (upd H1 p (.tup (is.map V.int))) x = none → (upd H1 p (.tup (is.map V.int))) dx = none → dx ≠ x →
          sp_init1 K CD_D k [.ref x, .int i] (upd (upd (upd H1 p (.tup (is.map V.int))) dx (.own x)) x (.ins (CD_D k) dx [])) (fun v H2 => v = .non ∧ Q (.ref x) H2) E0 := by
        intro x dx i hi hx hdx hne
        obtain ⟨j, rfl⟩ : ∃ j : Nat, i = (j : Int) := ⟨i.toNat, by have := hpos i (by rw [hi]; simp); omega⟩
        refine ⟨x, j, rfl, dx, upd_same, fun t ht => ⟨rfl, ?_⟩⟩
        refine hQ' x ⟨k, [j]⟩ _ (hS2.trans (same_init hx hdx ht)) ⟨dx, t, upd_same, ?_, by show 1 = k.n; rw [← hl, hi]; rfl⟩ rfl hi.symm
        rw [upd_ne (Ne.symm (ne_of_none upd_same ht)), upd_same]
      have fin2 : ∀ (x dx : Addr) (i i2 : Int), is = [i, i2] → (upd H1 p (.tup (is.map V.int))) x = none → (upd H1 p (.tup (is.map V.int))) dx = none → dx ≠ x →
          sp_init2 K CD_D k [.ref x, .int i, .int i2] (upd (upd (upd H1 p (.tup (is.map V.int))) dx (.own x)) x (.ins (CD_D k) dx [])) (fun v H2 => v = .non ∧ Q (.ref x) H2) E0 := by
        intro x dx i i2 hi hx hdx hne
        obtain ⟨j, rfl⟩ : ∃ j : Nat, i = (j : Int) := ⟨i.toNat, by have := hpos i (by rw [hi]; simp); omega⟩
        obtain ⟨j2, rfl⟩ : ∃ j : Nat, i2 = (j : Int) := ⟨i2.toNat, by have := hpos i2 (by rw [hi]; simp); omega⟩
        refine ⟨x, j, j2, rfl, dx, upd_same, fun t ht => ⟨rfl, ?_⟩⟩
        refine hQ' x ⟨k, [j, j2]⟩ _ (hS2.trans (same_init hx hdx ht)) ⟨dx, t, upd_same, ?_, by show 2 = k.n; rw [← hl, hi]; rfl⟩ rfl hi.symm
        rw [upd_ne (Ne.symm (ne_of_none upd_same ht)), upd_same]
      cases k with
      | over =>
        obtain ⟨i, rfl⟩ := len1 hl
        fail "kw"
        exact fun x dx hx hdx hne => fin1 x dx i rfl hx hdx hne
      | quarter =>
        obtain ⟨i, rfl⟩ := len1 hl
        fail "kw"
        exact fun x dx hx hdx hne => fin1 x dx i rfl hx hdx hne
      | back =>
        obtain ⟨i, rfl⟩ := len1 hl
        fail "kw"
        exact fun x dx hx hdx hne => fin1 x dx i rfl hx hdx hne
      | both =>
        obtain ⟨i, rfl⟩ := len1 hl
        fail "kw"
        exact fun x dx hx hdx hne => fin1 x dx i rfl hx hdx hne
      | wher =>
        obtain ⟨i, i2, rfl⟩ := len2 hl
        fail "kw"
        exact fun x dx hx hdx hne => fin2 x dx i i2 rfl hx hdx hne
      | swap =>
        obtain ⟨i, i2, rfl⟩ := len2 hl
        fail "kw"
        exact fun x dx hx hdx hne => fin2 x dx i i2 rfl hx hdx hne
theorem ok_deed_of {f : Addr} {fd : FuncData} (F : Fun K "deed_of" "deed_of" s_deed_of f fd) (m_D_wires : ∀ d : DK, MCal P w K mg base CX0 1 (CD_D d) "wires" ["self"] (sp_D_wires K CD_D d)) (c_deed_of_words : Cal P w K mg base (CXE P w) 4 "deed_of_words" ["words"] (sp_deed_of_words K CD_D C_NoDeed C_NoWire)) (b_max : mg "max" = none) (c_NoWire : ExcC K mg "NoWire" C_NoWire) : FnOk P w K mg base (CXE P w) 5 f fd ["words", "n"] (sp_deed_of K CD_D C_NoDeed C_NoWire) := by
  refine F.okE sc_deed_of (fun vs H Q E h => ?_) (fun cdv A outer s H vs Q E hr h => ?_)
  · obtain ⟨_, _, rfl, _⟩ := h
    rfl
  obtain ⟨v, n, rfl, hq⟩ := h
  refine ⟨_, (pss_cons (ps_set (i := 2) sc_deed_of.nd rfl (Or.inl rfl) (pe_fn c_deed_of_words hr passE (pa_cons (pv 0) pa_nil)))
      (pss_cons (ps_if (pt_cmpR (op_ge) (pe_callB (call_maxL rfl) rfl b_max boot_max (pa_cons (pe_md0 m_D_wires hr pass0 (pv 2)) pa_nil)) (pv 1) (nomark _)) (pss_one (ps_raise c_NoWire raisesE (pa_cons pe_str pa_nil) rfl)) pss_nil)
      (pss_one (ps_ret (pv 2))))), ?_⟩
  fail "st"
  fail "go"
  rcases hq with ⟨nw, hE⟩ | ⟨a, k, is, rfl, wd, hQ, hE⟩
  · exact ⟨v, rfl, .inl ⟨nw, hE⟩⟩
  · refine ⟨_, rfl, .inr ⟨a, k, is, rfl, wd, fun hpos p d H1 hS1 hd hdk hdw => ?_, fun hneg H1 hS1 => hE (fun z => hneg fun i hi => (z i hi).1) H1 hS1⟩⟩
    fail "go"
    obtain ⟨dx, t, hp, ht, hl⟩ := id hd
    refine st_md1 hp (flds_no _ _ (by decide +kernel) (by decide +kernel) (by decide +kernel)) ?_
    fail "go"
    refine ⟨p, d, rfl, hd, fun p2 hp2 => ?_⟩
    fail "go"
    have hk0 := d.k.n_pos
    refine st_bestL (ns := is) (by rw [← hdw, ← vn_ints]; exact SqL.of upd_same) (by rw [← hdw, List.length_map]; omega) fun M hM hle => ?_
    fail "go"
    refine iteD (fun c => ?_) (fun c => ?_)
    · fail "go"
      exact ⟨by decide, hE (fun z => by have := z M hM; omega) _ (hS1.trans (same_new hp2 _))⟩
    · fail "go"
      exact hQ (fun i hi => ⟨hpos i hi, by have := hle i hi; omega⟩) p d _ (hS1.trans (same_new hp2 _)) (hd.same (same_new hp2 _)) hdk hdw
theorem ok_bit_at {f : Addr} {fd : FuncData} (F : Fun K "bit_at" "bit_at" s_bit_at f fd)  : FnOk P w K mg base CX0 1 f fd ["number", "k"] (sp_bit_at K) := by
  refine F.ok sc_bit_at (fun vs H Q E h => ?_) (fun cdv A outer s H vs Q E hr h => ?_)
  · obtain ⟨_, _, rfl, _⟩ := h
    rfl
  obtain ⟨n, k, rfl, q⟩ := h
  refine ⟨_, (pss_one (ps_ret (pe_op (op_and) (pe_op (op_shr) (pv 0) (pv 1)) pe_int))), ?_⟩
  fail "go"
  exact q
theorem ok_exchanged {f : Addr} {fd : FuncData} (F : Fun K "exchanged" "exchanged" s_exchanged f fd) (c_bit_at : Cal P w K mg base CX0 1 "bit_at" ["number", "k"] (sp_bit_at K)) : FnOk P w K mg base CX0 2 f fd ["number", "j", "k"] (sp_exchanged K) := by
  refine F.ok sc_exchanged (fun vs H Q E h => ?_) (fun cdv A outer s H vs Q E hr h => ?_)
  · obtain ⟨_, _, _, rfl, _⟩ := h
    rfl
  obtain ⟨n, i, j, rfl, hi, hj, q⟩ := h
  refine ⟨_, (pss_cons (ps_set (i := 3) sc_exchanged.nd rfl (Or.inl rfl) (pe_op (op_xor) (pe_fn c_bit_at hr pass0 (pa_cons (pv 0) (pa_cons (pv 1) pa_nil))) (pe_fn c_bit_at hr pass0 (pa_cons (pv 0) (pa_cons (pv 2) pa_nil)))))
      (pss_one (ps_ret (pe_op (op_xor) (pe_op (op_xor) (pv 0) (pe_op (op_shl) (pv 3) (pv 1))) (pe_op (op_shl) (pv 3) (pv 2)))))), ?_⟩
  fail "go"
  refine ⟨n, i, rfl, ?_⟩
  fail "go"
  refine ⟨n, j, rfl, ?_⟩
  fail "go"
  exact q
theorem ok_times_i {f : Addr} {fd : FuncData} (F : Fun K "times_i" "times_i" s_times_i f fd)  : FnOk P w K mg base CX0 1 f fd ["pair", "often"] (sp_times_i K) := by
  refine F.ok sc_times_i (fun vs H Q E h => ?_) (fun cdv A outer s H vs Q E hr h => ?_)
  · obtain ⟨_, _, _, rfl, _⟩ := h
    rfl
  obtain ⟨a, o, p, rfl, ha, q⟩ := h
  refine ⟨_, (pss_cons (ps_set (i := 2) sc_times_i.nd rfl (Or.inl rfl) (pe_op (op_mod) (pv 1) pe_int))
      (pss_cons (ps_if (pt_cmpR (op_eq) (pv 2) pe_int (nomark _)) (pss_one (ps_ret (pe_tup (pa_cons (pe_un un_neg (pe_ix (ix_tup) (pv 0) pe_int (fun _ _ => rfl))) (pa_cons (pe_ix (ix_tup) (pv 0) pe_int (fun _ _ => rfl)) pa_nil))))) pss_nil)
      (pss_cons (ps_if (pt_cmpR (op_eq) (pv 2) pe_int (nomark _)) (pss_one (ps_ret (pe_tup (pa_cons (pe_un un_neg (pe_ix (ix_tup) (pv 0) pe_int (fun _ _ => rfl))) (pa_cons (pe_un un_neg (pe_ix (ix_tup) (pv 0) pe_int (fun _ _ => rfl))) pa_nil))))) pss_nil)
      (pss_cons (ps_if (pt_cmpR (op_eq) (pv 2) pe_int (nomark _)) (pss_one (ps_ret (pe_tup (pa_cons (pe_ix (ix_tup) (pv 0) pe_int (fun _ _ => rfl)) (pa_cons (pe_un un_neg (pe_ix (ix_tup) (pv 0) pe_int (fun _ _ => rfl))) pa_nil))))) pss_nil)
      (pss_one (ps_ret (pv 0))))))), ?_⟩
  fail "st"
  have em : ((o : Nat) : Int) % 4 = ((o % 4 : Nat) : Int) := by omega
  fail "go"
  have ht : ∀ k : Nat, o % 4 = k % 4 → turn o p = turn k p := fun k e => turn_mod e p
  refine iteD (fun c => ?_) (fun c => ?_)
  · fail "go"
    rename_i t kt
    exact q t _ (same_new kt _) (by rw [ht 1 (by omega)]; exact SqT.of upd_same)
  · fail "go"
    refine iteD (fun c => ?_) (fun c => ?_)
    · fail "go"
      rename_i t kt
      exact q t _ (same_new kt _) (by rw [ht 2 (by omega)]; exact SqT.of upd_same)
    · fail "go"
      refine iteD (fun c => ?_) (fun c => ?_)
      · fail "go"
        rename_i t kt
        exact q t _ (same_new kt _) (by rw [ht 3 (by omega)]; exact SqT.of upd_same)
      · fail "go"
        exact q a H (Same.refl _) (by rw [ht 0 (by omega)]; exact ha)
theorem ok_add_at {f : Addr} {fd : FuncData} (F : Fun K "add_at" "add_at" s_add_at f fd)  : FnOk P w K mg base CX0 1 f fd ["whole", "b", "pair"] (sp_add_at K) := by
  refine F.ok sc_add_at (fun vs H Q E h => ?_) (fun cdv A outer s H vs Q E hr h => ?_)
  · obtain ⟨_, _, _, rfl, _⟩ := h
    rfl
  obtain ⟨f, a, b, rfl, p, ws, kvs, ha, hf, hw, hl, q⟩ := h
  refine ⟨_, (pss_cons (ps_set (i := 3) sc_add_at.nd rfl (Or.inl rfl) (pe_dget2 (hu_of hr) (pv 0) (pv 1) (pe_tup (pa_cons pe_int (pa_cons pe_int pa_nil))) ⟨rfl, rfl, rfl, rfl⟩))
      (pss_one (ps_dput (hu_of hr) (pv 0) (pv 1) (pe_tup (pa_cons (pe_op (op_add) (pe_ix (ix_tup) (pv 3) pe_int (fun _ _ => rfl)) (pe_ix (ix_tup) (pv 2) pe_int (fun _ _ => rfl))) (pa_cons (pe_op (op_add) (pe_ix (ix_tup) (pv 3) pe_int (fun _ _ => rfl)) (pe_ix (ix_tup) (pv 2) pe_int (fun _ _ => rfl))) pa_nil))) rfl))), ?_⟩
  fail "st"
  fail "go"
  refine ⟨f, rfl, .inl ⟨kvs, .inl hf⟩, ?_⟩
  fail "go"
  rename_i p1 hp1
  have hf1 : upd H p1 (.tup [.int 0, .int 0]) f = some (.dK kvs) := same_new hp1 _ _ _ hf
  have ha1 := (same_new hp1 (.tup [.int 0, .int 0])).tup ha
  refine ⟨_, dget_z (.inl hf1), ?_⟩
  have fin : ∀ p2 (x : Int × Int), (upd H p1 (.tup [.int 0, .int 0])) p2 = none → x = (wat ws b).getD (0, 0) →
      Q .non (upd (upd (upd H p1 (.tup [.int 0, .int 0])) p2 (.tup [.int (x.1 + p.1), .int (x.2 + p.2)])) f (.dK (putK kvs (.inl ((b : Nat) : Int)) (.ref p2)))) := fun p2 x hp2 hx => by
    have hS2 := (same_new hp1 (.tup [.int 0, .int 0])).trans (same_new hp2 (.tup [.int (x.1 + p.1), .int (x.2 + p.2)]))
    have hf2 := hS2 _ _ hf
    have hB : But f (upd (upd H p1 (.tup [.int 0, .int 0])) p2 (.tup [.int (x.1 + p.1), .int (x.2 + p.2)])) (upd (upd (upd H p1 (.tup [.int 0, .int 0])) p2 (.tup [.int (x.1 + p.1), .int (x.2 + p.2)])) f (.dK (putK kvs (.inl ((b : Nat) : Int)) (.ref p2)))) := fun c o hc e => by
      rw [upd_ne hc]
      exact e
    refine q _ _ upd_same ?_ (But.of hS2 hB)
    have hw2 := hw.stay (K := K) (H' := upd (upd H p1 (.tup [.int 0, .int 0])) p2 (.tup [.int (x.1 + p.1), .int (x.2 + p.2)])) fun a xs s => hS2.tup s
    have hw3 := hw2.put (b := b) (p := (x.1 + p.1, x.2 + p.2)) (a := p2) (SqT.of upd_same)
    unfold wadd
    rw [← hx]
    exact hw3.stay (hB.tup hf2)
  rcases hw.val b with ⟨e1, e2⟩ | ⟨a', p', e1, e2, e3⟩
  · rw [show atZ kvs ((b : Nat) : Int) = none from e1]
    have h01 : SqT K (upd H p1 (.tup [.int 0, .int 0])) p1 [.int 0, .int 0] := SqT.of upd_same
    rw [show Option.getD (none : Option V) (V.ref p1) = V.ref p1 from rfl]
    fail "go"
    rename_i p2 hp2
    refine ⟨f, _, rfl, dput_z (same_new hp2 _ _ _ hf1) (by rw [hw.len]; omega), ?_⟩
    fail "go"
    have z := fin p2 (0, 0) hp2 (by rw [e2]; rfl)
    simpa using z
  · rw [show atZ kvs ((b : Nat) : Int) = some (.ref a') from e1]
    have h01 := (same_new hp1 (.tup [.int 0, .int 0])).tup e2
    rw [show Option.getD (some (V.ref a')) (V.ref p1) = V.ref a' from rfl]
    fail "go"
    rename_i p2 hp2
    refine ⟨f, _, rfl, dput_z (same_new hp2 _ _ _ hf1) (by rw [hw.len]; omega), ?_⟩
    fail "go"
    exact fin p2 p' hp2 (by rw [e3]; rfl)
theorem ok_without_noughts {f : Addr} {fd : FuncData} (F : Fun K "without_noughts" "without_noughts" s_without_noughts f fd)  : FnOk P w K mg base CX0 1 f fd ["whole"] (sp_without_noughts K) := by
  refine F.ok sc_without_noughts (fun vs H Q E h => ?_) (fun cdv A outer s H vs Q E hr h => ?_)
  · obtain ⟨_, _, rfl, _⟩ := h
    rfl
  obtain ⟨a, ws, rfl, ⟨kvs, ha, hWR⟩, nd, hl, q⟩ := h
  refine ⟨_, (pss_cons (ps_set (i := 1) sc_without_noughts.nd rfl (Or.inl rfl) pe_dnew)
      (pss_cons (ps_thaw (ps_for PassesOwn.never rfl (pi_items (pv 0)) (pg_tup rfl (pgs_cons (pg_name (i := 2) sc_without_noughts.nd rfl (Or.inl rfl)) (pgs_cons (pg_name (i := 3) sc_without_noughts.nd rfl (Or.inl rfl)) pgs_nil))) (pss_one (ps_if (pt_cmpR (op_neD (hu_of64 hr)) (pv 3) (pe_tup (pa_cons pe_int (pa_cons pe_int pa_nil))) (nomark _)) (pss_one (ps_dput (hu_of hr) (pv 1) (pv 2) (pv 3) rfl)) pss_nil))))
      (pss_one (ps_ret (pv 1))))), ?_⟩
  fail "st"
  fail "go"
  rename_i p hp
  have hpa : p ≠ a := Ne.symm (ne_of_none ha hp)
  refine st_for_items (fun P h => ⟨_, rfl, h⟩) (same_new hp _ _ _ ha) (fun o i σ H' => ∃ (u0 u1 : Option V) (kvs' : List (Key × V)), σ = [some (.ref a), some (.ref p), u0, u1] ∧ H' a = some (.frz o (.dK kvs)) ∧ H' p = some (.dK kvs') ∧ WR K H' (wnz (ws.take i)) kvs' ∧ But a H H') ?_ ?_ ?_ ?_
  · intro o
    refine ⟨none, none, [], rfl, upd_same, by rw [upd_ne hpa]; exact upd_same, .nil, fun c o' hc e => ?_⟩
    rw [upd_ne hc]
    exact same_new hp _ _ _ e
  · rintro o i σ H' ⟨u0, u1, kvs', _, h1, _⟩
    exact h1
  · rintro o i k v σ H' x hget ⟨u0, u1, kvs', rfl, h1, h2, h3, h5⟩ hx
    obtain ⟨b, pp, a', e1, rfl, rfl, sq⟩ := hWR.get hget
    have hil : i < ws.length := (List.getElem?_eq_some_iff.mp e1).1
    have sq' : SqT K (upd H' x (.tup [kV (.inl ((b : Nat) : Int)), .ref a'])) a' [.int pp.1, .int pp.2] := (same_new hx _).tup (h5.tup ha _ _ sq)
    have hp2 := same_new hx (.tup [kV (.inl ((b : Nat) : Int)), .ref a']) _ _ h2
    have ha2 := same_new hx (.tup [kV (.inl ((b : Nat) : Int)), .ref a']) _ _ h1
    have hB2 : But a H (upd H' x (.tup [kV (.inl ((b : Nat) : Int)), .ref a'])) := fun c o' hc e => same_new hx _ _ _ (h5 _ _ hc e)
    have h3' := h3.stay (K := K) (H' := upd H' x (.tup [kV (.inl ((b : Nat) : Int)), .ref a'])) (fun y ys s => (same_new hx _).tup s)
    have ht0 : SqT K (upd H' x (.tup [kV (.inl ((b : Nat) : Int)), .ref a'])) x [.int ((b : Nat) : Int), .ref a'] := SqT.of upd_same
    generalize upd H' x (.tup [kV (.inl ((b : Nat) : Int)), .ref a']) = G at sq' hp2 ha2 hB2 h3' ht0 ⊢
    fail "go"
    rename_i p0 hp0
    have n0 := same_new hp0 (.tup [.int 0, .int 0])
    have hst := wnz_step nd e1
    have hlen := h3'.len
    have hle := wnz_len (ws.take i)
    rw [List.length_take] at hle
    by_cases c : pp = (0, 0)
    · rw [if_neg (fun z => z c)] at hst
      subst c
      fail "go"
      refine ⟨_, _, kvs', rfl, n0 _ _ ha2, n0 _ _ hp2, ?_, fun c o' hc e => n0 _ _ (hB2 _ _ hc e)⟩
      rw [hst]
      exact h3'.stay (fun y ys s => n0.tup s)
    · rw [if_pos c] at hst
      have ec : (!decide ([pp.1, pp.2] = [(0 : Int), 0])) = true := by
        rw [dec_pair pp (0, 0), decide_eq_false c]
        rfl
      rw [ec]
      fail "go"
      have hB : But p (upd G p0 (.tup [.int 0, .int 0])) (upd (upd G p0 (.tup [.int 0, .int 0])) p (.dK (putK kvs' (.inl ((b : Nat) : Int)) (.ref a')))) := But.upd
      refine ⟨p, _, rfl, dput_z (n0 _ _ hp2) (by omega), _, _, _, rfl, hB _ _ (Ne.symm hpa) (n0 _ _ ha2), upd_same, ?_, fun c o' hc e => hB _ _ (ne_of_none e hp) (n0 _ _ (hB2 _ _ hc e))⟩
      rw [hst]
      exact ((h3'.stay (fun y ys s => n0.tup s)).stay (fun y ys s => hB.tup (n0 _ _ hp2) y ys s)).put (hB.tup (n0 _ _ hp2) _ _ (n0.tup sq'))
  · rintro o σ H' ⟨u0, u1, kvs', rfl, h1, h2, h3, h5⟩
    rw [hWR.len, List.take_length] at h3
    have SS : Same H (upd H' a (.dK kvs)) := fun c o' e => by
      by_cases hc : c = a
      · subst hc
        rw [ha] at e
        rw [upd_same]
        exact e
      · rw [upd_ne hc]
        exact h5 _ _ hc e
    have hW : WhAt K (upd H' a (.dK kvs)) p (wnz ws) := ⟨kvs', by rw [upd_ne hpa]; exact h2, h3.stay (frz_tup h1)⟩
    fail "go"
    exact q p _ SS hp hW
theorem ok_added {f : Addr} {fd : FuncData} (F : Fun K "added" "added" s_added f fd) (b_dict : mg "dict" = none) (c_without_noughts : Cal P w K mg base CX0 1 "without_noughts" ["whole"] (sp_without_noughts K)) (c_add_at : Cal P w K mg base CX0 1 "add_at" ["whole", "b", "pair"] (sp_add_at K)) : FnOk P w K mg base CX0 2 f fd ["one", "other"] (sp_added K) := by
  refine F.ok sc_added (fun vs H Q E h => ?_) (fun cdv A outer s H vs Q E hr h => ?_)
  · obtain ⟨_, _, _, _, rfl, _⟩ := h
    rfl
  obtain ⟨a, b, W, O, rfl, hW, hO, ndW, lW, lO, q⟩ := h
  refine ⟨_, (pss_cons (ps_set (i := 2) sc_added.nd rfl (Or.inl rfl) (pe_callTy (call_dictQ) rfl b_dict boot_dict (pa_cons (pv 0) pa_nil)))
      (pss_cons (ps_thaw (ps_for PassesOwn.never rfl (pi_items (pv 1)) (pg_tup rfl (pgs_cons (pg_name (i := 3) sc_added.nd rfl (Or.inl rfl)) (pgs_cons (pg_name (i := 4) sc_added.nd rfl (Or.inl rfl)) pgs_nil))) (pss_one (ps_expr (pe_fn c_add_at hr pass0 (pa_cons (pv 2) (pa_cons (pv 3) (pa_cons (pv 4) pa_nil))))))))
      (pss_one (ps_ret (pe_fn c_without_noughts hr pass0 (pa_cons (pv 2) pa_nil)))))), ?_⟩
  obtain ⟨kvW, ha, rW⟩ := id hW
  obtain ⟨kvs, hb, hWR⟩ := id hO
  fail "st"
  fail "go"
  refine st_dict ha fun p hp => ?_
  fail "go"
  have hpb : p ≠ b := Ne.symm (ne_of_none hb hp)
  refine st_for_items (fun P h => ⟨_, rfl, h⟩) (same_new hp _ _ _ hb) (fun o i σ H' => ∃ (u0 u1 : Option V) (kvs' : List (Key × V)), σ = [some (.ref a), some (.ref b), some (.ref p), u0, u1] ∧ H' b = some (.frz o (.dK kvs)) ∧ H' p = some (.dK kvs') ∧ WR K H' (adds W (O.take i)) kvs' ∧ But b H H') ?_ ?_ ?_ ?_
  · intro o
    refine ⟨none, none, kvW, rfl, upd_same, by rw [upd_ne hpb]; exact upd_same, rW.stay fun y ys s => (But.upd (f := b)).tup (same_new hp _ _ _ hb) _ _ ((same_new hp _).tup s), fun c o' hc e => ?_⟩
    rw [upd_ne hc]
    exact same_new hp _ _ _ e
  · rintro o i σ H' ⟨u0, u1, kvs', _, h1, _⟩
    exact h1
  · rintro o i k v σ H' x hget ⟨u0, u1, kvs', rfl, h1, h2, h3, h5⟩ hx
    obtain ⟨c, pp, a', e1, rfl, rfl, sq⟩ := hWR.get hget
    have hil : i < O.length := (List.getElem?_eq_some_iff.mp e1).1
    have sq' : SqT K (upd H' x (.tup [kV (.inl ((c : Nat) : Int)), .ref a'])) a' [.int pp.1, .int pp.2] := (same_new hx _).tup (h5.tup hb _ _ sq)
    have hp2 := same_new hx (.tup [kV (.inl ((c : Nat) : Int)), .ref a']) _ _ h2
    have ha2 := same_new hx (.tup [kV (.inl ((c : Nat) : Int)), .ref a']) _ _ h1
    have hB2 : But b H (upd H' x (.tup [kV (.inl ((c : Nat) : Int)), .ref a'])) := fun c o' hc e => same_new hx _ _ _ (h5 _ _ hc e)
    have h3' := h3.stay (K := K) (H' := upd H' x (.tup [kV (.inl ((c : Nat) : Int)), .ref a'])) (fun y ys s => (same_new hx _).tup s)
    have ht0 : SqT K (upd H' x (.tup [kV (.inl ((c : Nat) : Int)), .ref a'])) x [.int ((c : Nat) : Int), .ref a'] := SqT.of upd_same
    generalize upd H' x (.tup [kV (.inl ((c : Nat) : Int)), .ref a']) = G at sq' hp2 ha2 hB2 h3' ht0 ⊢
    have hlen := adds_len (O.take i) W
    rw [List.length_take] at hlen
    fail "go"
    refine ⟨p, a', c, rfl, pp, _, _, sq', hp2, h3', by omega, fun G2 kvs2 g1 g2 g3 => ?_⟩
    fail "go"
    refine ⟨_, _, kvs2, rfl, g3 _ _ (Ne.symm hpb) ha2, g1, ?_, fun c o' hc e => g3 _ _ (ne_of_none e hp) (hB2 _ _ hc e)⟩
    rw [adds_step e1]
    exact g2
  · rintro o σ H' ⟨u0, u1, kvs', rfl, h1, h2, h3, h5⟩
    rw [hWR.len, List.take_length] at h3
    have SS : Same H (upd H' b (.dK kvs)) := fun c o' e => by
      by_cases hc : c = b
      · subst hc
        rw [hb] at e
        rw [upd_same]
        exact e
      · rw [upd_ne hc]
        exact h5 _ _ hc e
    have hWW : WhAt K (upd H' b (.dK kvs)) p (adds W O) := ⟨kvs', by rw [upd_ne hpb]; exact h2, h3.stay (frz_tup h1)⟩
    have hlen := adds_len O W
    fail "go"
    refine ⟨p, _, rfl, hWW, adds_nd _ _ ndW, by omega, fun p2 H2 s2 np2 hW2 => ?_⟩
    fail "go"
    exact q p2 H2 (SS.trans s2) (none_ofX SS np2) hW2
theorem ok_moved {f : Addr} {fd : FuncData} (F : Fun K "moved" "moved" s_moved f fd) (c_without_noughts : Cal P w K mg base CX0 1 "without_noughts" ["whole"] (sp_without_noughts K)) (h_lam : LCal P w K mg base 3 (LL)) : FnOk P w K mg base CX0 4 f fd ["whole", "place_of"] (sp_moved K) := by
  refine F.ok sc_moved (fun vs H Q E h => ?_) (fun cdv A outer s H vs Q E hr h => ?_)
  · obtain ⟨_, _, _, _, rfl, _⟩ := h
    rfl
  obtain ⟨a, f1, ws, g, rfl, ⟨kvs, ha, hWR⟩, nd, hl, hG, q⟩ := h
  refine ⟨_, (pss_cons (ps_set (i := 2) sc_moved.nd rfl (Or.inl rfl) pe_dnew)
      (pss_cons (ps_thaw (ps_for PassesOwn.never rfl (pi_items (pv 0)) (pg_tup rfl (pgs_cons (pg_name (i := 3) sc_moved.nd rfl (Or.inl rfl)) (pgs_cons (pg_name (i := 4) sc_moved.nd rfl (Or.inl rfl)) pgs_nil))) (pss_one (ps_dput (hu_of hr) (pv 2) (pe_callF 1 h_lam hr (pa_cons (pv 3) pa_nil)) (pv 4) rfl))))
      (pss_one (ps_ret (pe_fn c_without_noughts hr pass0 (pa_cons (pv 2) pa_nil)))))), ?_⟩
  fail "st"
  fail "go"
  rename_i p hp
  have hpa : p ≠ a := Ne.symm (ne_of_none ha hp)
  refine st_for_items (fun P h => ⟨_, rfl, h⟩) (same_new hp _ _ _ ha) (fun o i σ H' => ∃ (u0 u1 : Option V) (kvs' : List (Key × V)), σ = [some (.ref a), some (.ref f1), some (.ref p), u0, u1] ∧ H' a = some (.frz o (.dK kvs)) ∧ H' p = some (.dK kvs') ∧ WR K H' ((ws.take i).map fun e => (g e.1, e.2)) kvs' ∧ But a H H') ?_ ?_ ?_ ?_
  · intro o
    refine ⟨none, none, [], rfl, upd_same, by rw [upd_ne hpa]; exact upd_same, .nil, fun c o' hc e => ?_⟩
    rw [upd_ne hc]
    exact same_new hp _ _ _ e
  · rintro o i σ H' ⟨u0, u1, kvs', _, h1, _⟩
    exact h1
  · rintro o i k v σ H' x hget ⟨u0, u1, kvs', rfl, h1, h2, h3, h5⟩ hx
    obtain ⟨b, pp, a', e1, rfl, rfl, sq⟩ := hWR.get hget
    have hil : i < ws.length := (List.getElem?_eq_some_iff.mp e1).1
    have sq' : SqT K (upd H' x (.tup [kV (.inl ((b : Nat) : Int)), .ref a'])) a' [.int pp.1, .int pp.2] := (same_new hx _).tup (h5.tup ha _ _ sq)
    have hp2 := same_new hx (.tup [kV (.inl ((b : Nat) : Int)), .ref a']) _ _ h2
    have ha2 := same_new hx (.tup [kV (.inl ((b : Nat) : Int)), .ref a']) _ _ h1
    have hB2 : But a H (upd H' x (.tup [kV (.inl ((b : Nat) : Int)), .ref a'])) := fun c o' hc e => same_new hx _ _ _ (h5 _ _ hc e)
    have h3' := h3.stay (K := K) (H' := upd H' x (.tup [kV (.inl ((b : Nat) : Int)), .ref a'])) (fun y ys s => (same_new hx _).tup s)
    have ht0 : SqT K (upd H' x (.tup [kV (.inl ((b : Nat) : Int)), .ref a'])) x [.int ((b : Nat) : Int), .ref a'] := SqT.of upd_same
    generalize upd H' x (.tup [kV (.inl ((b : Nat) : Int)), .ref a']) = G at sq' hp2 ha2 hB2 h3' ht0 ⊢
    have hGG : LamG G f1 g := hG.ex fun c o' e => hB2 _ _ (ne_of e ha (by intro z; cases z)) e
    obtain ⟨fo, ffd, hfo, hfd⟩ := hGG.fn
    fail "go"
    refine st_callF rfl hfo hfd ?_
    fail "go"
    refine ⟨b, g, rfl, hGG, ?_⟩
    have hB : But p G (upd G p (.dK (putK kvs' (.inl ((g b : Nat) : Int)) (.ref a')))) := But.upd
    have hlen := h3'.len
    rw [List.length_map, List.length_take] at hlen
    fail "go"
    refine ⟨p, _, rfl, dput_z hp2 (by omega), _, _, _, rfl, hB _ _ (Ne.symm hpa) ha2, upd_same, ?_, fun c o' hc e => hB _ _ (ne_of_none e hp) (hB2 _ _ hc e)⟩
    rw [map_step (f := fun e => (g e.1, e.2)) nd e1]
    exact (h3'.stay (fun y ys s => hB.tup hp2 y ys s)).put (hB.tup hp2 _ _ sq')
  · rintro o σ H' ⟨u0, u1, kvs', rfl, h1, h2, h3, h5⟩
    rw [hWR.len, List.take_length] at h3
    have SS : Same H (upd H' a (.dK kvs)) := fun c o' e => by
      by_cases hc : c = a
      · subst hc
        rw [ha] at e
        rw [upd_same]
        exact e
      · rw [upd_ne hc]
        exact h5 _ _ hc e
    have hW : WhAt K (upd H' a (.dK kvs)) p (ws.map fun e => (g e.1, e.2)) := ⟨kvs', by rw [upd_ne hpa]; exact h2, h3.stay (frz_tup h1)⟩
    fail "go"
    refine ⟨p, _, rfl, hW, by rw [List.map_map]; exact nd, by rw [List.length_map]; exact hl, fun p2 H2 s2 np2 hW2 => ?_⟩
    fail "go"
    exact q p2 H2 (SS.trans s2) (none_ofX SS np2) hW2
theorem ok_turned_where_down {f : Addr} {fd : FuncData} (F : Fun K "turned_where_down" "turned_where_down" s_turned_where_down f fd) (c_without_noughts : Cal P w K mg base CX0 1 "without_noughts" ["whole"] (sp_without_noughts K)) (c_times_i : Cal P w K mg base CX0 1 "times_i" ["pair", "often"] (sp_times_i K)) (c_bit_at : Cal P w K mg base CX0 1 "bit_at" ["number", "k"] (sp_bit_at K)) : FnOk P w K mg base CX0 2 f fd ["whole", "k", "often"] (sp_turned_where_down K) := by
  refine F.ok sc_turned_where_down (fun vs H Q E h => ?_) (fun cdv A outer s H vs Q E hr h => ?_)
  · obtain ⟨_, _, _, _, rfl, _⟩ := h
    rfl
  obtain ⟨a, k, often, ws, rfl, ⟨kvs, ha, hWR⟩, nd, hl, hk, ho, q⟩ := h
  refine ⟨_, (pss_cons (ps_set (i := 3) sc_turned_where_down.nd rfl (Or.inl rfl) pe_dnew)
      (pss_cons (ps_thaw (ps_for PassesOwn.never rfl (pi_items (pv 0)) (pg_tup rfl (pgs_cons (pg_name (i := 4) sc_turned_where_down.nd rfl (Or.inl rfl)) (pgs_cons (pg_name (i := 5) sc_turned_where_down.nd rfl (Or.inl rfl)) pgs_nil))) (pss_one (ps_dput (hu_of hr) (pv 3) (pv 4) (pe_fn c_times_i hr pass0 (pa_cons (pv 5) (pa_cons (pe_op (op_mul) (pv 2) (pe_fn c_bit_at hr pass0 (pa_cons (pv 4) (pa_cons (pv 1) pa_nil)))) pa_nil))) rfl))))
      (pss_one (ps_ret (pe_fn c_without_noughts hr pass0 (pa_cons (pv 3) pa_nil)))))), ?_⟩
  fail "st"
  fail "go"
  rename_i p hp
  have hpa : p ≠ a := Ne.symm (ne_of_none ha hp)
  refine st_for_items (fun P h => ⟨_, rfl, h⟩) (same_new hp _ _ _ ha) (fun o i σ H' => ∃ (u0 u1 : Option V) (kvs' : List (Key × V)), σ = [some (.ref a), some (.int k), some (.int often), some (.ref p), u0, u1] ∧ H' a = some (.frz o (.dK kvs)) ∧ H' p = some (.dK kvs') ∧ WR K H' ((ws.take i).map fun e => (e.1, turn (often * (e.1.testBit k).toNat) e.2)) kvs' ∧ But a H H') ?_ ?_ ?_ ?_
  · intro o
    refine ⟨none, none, [], rfl, upd_same, by rw [upd_ne hpa]; exact upd_same, .nil, fun c o' hc e => ?_⟩
    rw [upd_ne hc]
    exact same_new hp _ _ _ e
  · rintro o i σ H' ⟨u0, u1, kvs', _, h1, _⟩
    exact h1
  · rintro o i kk v σ H' x hget ⟨u0, u1, kvs', rfl, h1, h2, h3, h5⟩ hx
    obtain ⟨b, pp, a', e1, rfl, rfl, sq⟩ := hWR.get hget
    have hil : i < ws.length := (List.getElem?_eq_some_iff.mp e1).1
    have sq' : SqT K (upd H' x (.tup [kV (.inl ((b : Nat) : Int)), .ref a'])) a' [.int pp.1, .int pp.2] := (same_new hx _).tup (h5.tup ha _ _ sq)
    have hp2 := same_new hx (.tup [kV (.inl ((b : Nat) : Int)), .ref a']) _ _ h2
    have ha2 := same_new hx (.tup [kV (.inl ((b : Nat) : Int)), .ref a']) _ _ h1
    have hB2 : But a H (upd H' x (.tup [kV (.inl ((b : Nat) : Int)), .ref a'])) := fun c o' hc e => same_new hx _ _ _ (h5 _ _ hc e)
    have h3' := h3.stay (K := K) (H' := upd H' x (.tup [kV (.inl ((b : Nat) : Int)), .ref a'])) (fun y ys s => (same_new hx _).tup s)
    have ht0 : SqT K (upd H' x (.tup [kV (.inl ((b : Nat) : Int)), .ref a'])) x [.int ((b : Nat) : Int), .ref a'] := SqT.of upd_same
    generalize upd H' x (.tup [kV (.inl ((b : Nat) : Int)), .ref a']) = G at sq' hp2 ha2 hB2 h3' ht0 ⊢
    fail "go"
    refine ⟨b, k, rfl, ?_⟩
    refine st_i (.inl ⟨by omega, by omega⟩) ?_
    have eb : (often : Int) * bI (b.testBit k) = ((often * (b.testBit k).toNat : Nat) : Int) := by cases b.testBit k <;> simp [bI]
    fail "go"
    rw [eb]
    refine ⟨a', often * (b.testBit k).toNat, pp, rfl, sq', fun t G2 hS2 ht2 => ?_⟩
    have hpG := hS2 _ _ hp2
    have h3G := h3'.stay (K := K) (H' := G2) fun y ys s => hS2.tup s
    have hB : But p G2 (upd G2 p (.dK (putK kvs' (.inl ((b : Nat) : Int)) (.ref t)))) := But.upd
    have hlen := h3'.len
    rw [List.length_map, List.length_take] at hlen
    fail "go"
    refine ⟨p, _, rfl, dput_z hpG (by omega), _, _, _, rfl, hB _ _ (Ne.symm hpa) (hS2 _ _ ha2), upd_same, ?_, fun c o' hc e => hB _ _ (ne_of_none e hp) (hS2 _ _ (hB2 _ _ hc e))⟩
    rw [map_step (f := fun e => (e.1, turn (often * (e.1.testBit k).toNat) e.2)) nd e1]
    exact (h3G.stay (fun y ys s => hB.tup hpG y ys s)).put (hB.tup hpG _ _ ht2)
  · rintro o σ H' ⟨u0, u1, kvs', rfl, h1, h2, h3, h5⟩
    rw [hWR.len, List.take_length] at h3
    have SS : Same H (upd H' a (.dK kvs)) := fun c o' e => by
      by_cases hc : c = a
      · subst hc
        rw [ha] at e
        rw [upd_same]
        exact e
      · rw [upd_ne hc]
        exact h5 _ _ hc e
    have hW : WhAt K (upd H' a (.dK kvs)) p (ws.map fun e => (e.1, turn (often * (e.1.testBit k).toNat) e.2)) := ⟨kvs', by rw [upd_ne hpa]; exact h2, h3.stay (frz_tup h1)⟩
    fail "go"
    refine ⟨p, _, rfl, hW, by rw [List.map_map]; exact nd, by rw [List.length_map]; exact hl, fun p2 H2 s2 np2 hW2 => ?_⟩
    fail "go"
    exact q p2 H2 (SS.trans s2) (none_ofX SS np2) hW2
theorem ok_Over_on_whole {f : Addr} {fd : FuncData} (F : FunC K "on_whole" "Over.on_whole" s_Over_on_whole f fd cc_Over_on_whole) (T_D : Txt_D K CD_D) (c_moved : Cal P w K mg base CX0 4 "moved" ["whole", "place_of"] (sp_moved K)) (tb_Over_on_whole : PySem.W.CodeHd base cc_Over_on_whole TT_Over_on_whole) (bm : BltM mg base) : FnOk P w K mg base CX0 5 f fd ["self", "whole"] (sp_Over_on_whole K CD_D TT_Over_on_whole TT_Where_on_whole TT_Swap_on_whole) := by
  refine F.ok sc_Over_on_whole (fun vs H Q E h => ?_) (fun A outer s H vs Q E hr h => ?_)
  · obtain ⟨_, _, _, _, rfl, _⟩ := h
    rfl
  obtain ⟨x, a, ⟨k, w'⟩, ws, rfl, hk, ⟨dx, t, ha, ht, hlw⟩, hnd, hw, hA, nd, hl, hT, q⟩ := h
  dsimp only at hk ha ht hlw hw hnd
  subst hk
  obtain ⟨i, rfl⟩ := one_wire hlw
  have hi : i ≤ 1000 := hw i (by simp)
  have ht' : SqT K H t [.int (i : Nat)] := SqT.of ht
  refine ⟨_, (pss_cons (ps_set (i := 2) sc_Over_on_whole.nd rfl (Or.inr rfl) (pe_op (op_shl) pe_int (pe_ix (ix_tup) (pe_fld (pv 0) rfl) pe_int (fun _ _ => rfl))))
      (pss_one (ps_ret (pe_fnL c_moved hr tb_Over_on_whole bm (pv 1))))), ?_⟩
  fail "st"
  fail "go"
  refine st_fld1 ha (T_D.cl _) (T_D.n_at _) (flds_at _ _) ?_
  fail "go"
  refine st_callC ?_
  fail "go"
  refine st_lam hT.1 fun f1 H1 sx t1 nf hL => ?_
  fail "go"
  intro G cov
  have hne := nd3 hT.2.2.2
  obtain ⟨ps1, hps1, _⟩ := id hT.1
  have sT := sx.t hps1
  have fin : ∀ p H2, Same G H2 → G p = none → WhAt K H2 p (wnz (deedF ⟨.over, [i]⟩ ws)) → Q (.ref p) (unc [("bit", s.heap.objs.size + 1)] H2) := fun p H2 s2 np hW => by
    have S1 : Same H1 (unc [("bit", s.heap.objs.size + 1)] H2) := cov.un s2
    refine q p _ (fun b o e n => S1 _ _ (sT b o e n)) ⟨t1.same S1, (hT.2.1.other sx (Ne.symm hne.1) hps1).same S1, (hT.2.2.1.other sx (Ne.symm hne.2.1) hps1).same S1, hT.2.2.2⟩ ?_ (hW.unc fun pp hp => ?_)
    · cases e : H p with
      | none => rfl
      | some o =>
        by_cases z : p = TT_Over_on_whole
        · obtain ⟨ps2, e2, _⟩ := t1
          rw [z, cov.same _ _ e2] at np; cases np
        · rw [cov.same _ _ (sx _ _ z e)] at np; cases np
    · obtain ⟨_, o, e, _⟩ := cov.at_ pp.1 pp.2 hp
      exact ⟨o, s2 _ _ e⟩
  obtain ⟨_, o, hGc, hv⟩ := cov.at_ _ _ (.head _)
  obtain ⟨u, hd, tk, rfl⟩ := hv 2 (.int ((2 ^ i : Nat) : Int)) rfl rfl
  have nd2 := nodup_inj (inv_inj (g := fun b => b ^^^ 2 ^ i) fun b => xor_two b (2 ^ i)) nd
  refine ⟨a, f1, ws, fun b => b ^^^ 2 ^ i, rfl, (hA.to sT).stay cov.same, nd2, by omega, .over (hL.same cov.same) ⟨o, tk, hGc, hd⟩ hi, fun p H2 s2 np hW => ⟨cov.keeps s2, fin p H2 s2 np ?_⟩⟩
  rw [deedF_map (f := fun e => (e.1 ^^^ 2 ^ i, e.2)) (fun e => rfl) nd2]
  exact hW
theorem ok_Quarter_on_whole {f : Addr} {fd : FuncData} (F : Fun K "on_whole" "Quarter.on_whole" s_Quarter_on_whole f fd) (T_D : Txt_D K CD_D) (c_turned_where_down : Cal P w K mg base CX0 2 "turned_where_down" ["whole", "k", "often"] (sp_turned_where_down K)) : FnOk P w K mg base CX0 3 f fd ["self", "whole"] (sp_Quarter_on_whole K CD_D TT_Over_on_whole TT_Where_on_whole TT_Swap_on_whole) := by
  refine F.ok sc_Quarter_on_whole (fun vs H Q E h => ?_) (fun cdv A outer s H vs Q E hr h => ?_)
  · obtain ⟨_, _, _, _, rfl, _⟩ := h
    rfl
  obtain ⟨x, a, ⟨k, w'⟩, ws, rfl, hk, ⟨dx, t, ha, ht, hlw⟩, hnd, hw, hA, nd, hl, hT, q⟩ := h
  dsimp only at hk ha ht hlw hw hnd
  subst hk
  obtain ⟨i, rfl⟩ := one_wire hlw
  have hi : i ≤ 1000 := hw i (by simp)
  have ht' : SqT K H t [.int (i : Nat)] := SqT.of ht
  refine ⟨_, (pss_one (ps_ret (pe_fn c_turned_where_down hr pass0 (pa_cons (pv 1) (pa_cons (pe_ix (ix_tup) (pe_fld (pv 0) rfl) pe_int (fun _ _ => rfl)) (pa_cons pe_int pa_nil)))))), ?_⟩
  fail "st"
  fail "go"
  refine st_fld1 ha (T_D.cl _) (T_D.n_at _) (flds_at _ _) ?_
  fail "go"
  refine ⟨a, i, 1, ws, rfl, hA, nd, by omega, hi, by decide, fun p H' s1 np hW => ?_⟩
  fail "go"
  refine q p H' (fun b o e _ => s1 _ _ e) (hT.to s1) np ?_
  rw [deedF_map (f := fun e => (e.1, turn (1 * (e.1.testBit i).toNat) e.2)) (fun e => by show [(e.1, turn (e.1.testBit i).toNat e.2)] = _; rw [Nat.one_mul]) nd]
  exact hW
theorem ok_Back_on_whole {f : Addr} {fd : FuncData} (F : Fun K "on_whole" "Back.on_whole" s_Back_on_whole f fd) (T_D : Txt_D K CD_D) (c_turned_where_down : Cal P w K mg base CX0 2 "turned_where_down" ["whole", "k", "often"] (sp_turned_where_down K)) : FnOk P w K mg base CX0 3 f fd ["self", "whole"] (sp_Back_on_whole K CD_D TT_Over_on_whole TT_Where_on_whole TT_Swap_on_whole) := by
  refine F.ok sc_Back_on_whole (fun vs H Q E h => ?_) (fun cdv A outer s H vs Q E hr h => ?_)
  · obtain ⟨_, _, _, _, rfl, _⟩ := h
    rfl
  obtain ⟨x, a, ⟨k, w'⟩, ws, rfl, hk, ⟨dx, t, ha, ht, hlw⟩, hnd, hw, hA, nd, hl, hT, q⟩ := h
  dsimp only at hk ha ht hlw hw hnd
  subst hk
  obtain ⟨i, rfl⟩ := one_wire hlw
  have hi : i ≤ 1000 := hw i (by simp)
  have ht' : SqT K H t [.int (i : Nat)] := SqT.of ht
  refine ⟨_, (pss_one (ps_ret (pe_fn c_turned_where_down hr pass0 (pa_cons (pv 1) (pa_cons (pe_ix (ix_tup) (pe_fld (pv 0) rfl) pe_int (fun _ _ => rfl)) (pa_cons pe_int pa_nil)))))), ?_⟩
  fail "st"
  fail "go"
  refine st_fld1 ha (T_D.cl _) (T_D.n_at _) (flds_at _ _) ?_
  fail "go"
  refine ⟨a, i, 3, ws, rfl, hA, nd, by omega, hi, by decide, fun p H' s1 np hW => ?_⟩
  fail "go"
  refine q p H' (fun b o e _ => s1 _ _ e) (hT.to s1) np ?_
  rw [deedF_map (f := fun e => (e.1, turn (3 * (e.1.testBit i).toNat) e.2)) (fun e => rfl) nd]
  exact hW
theorem ok_Both_on_whole {f : Addr} {fd : FuncData} (F : Fun K "on_whole" "Both.on_whole" s_Both_on_whole f fd) (T_D : Txt_D K CD_D) (c_without_noughts : Cal P w K mg base CX0 1 "without_noughts" ["whole"] (sp_without_noughts K)) (c_add_at : Cal P w K mg base CX0 1 "add_at" ["whole", "b", "pair"] (sp_add_at K)) (c_times_i : Cal P w K mg base CX0 1 "times_i" ["pair", "often"] (sp_times_i K)) : FnOk P w K mg base CX0 2 f fd ["self", "whole"] (sp_Both_on_whole K CD_D TT_Over_on_whole TT_Where_on_whole TT_Swap_on_whole) := by
  refine F.ok sc_Both_on_whole (fun vs H Q E h => ?_) (fun cdv A outer s H vs Q E hr h => ?_)
  · obtain ⟨_, _, _, _, rfl, _⟩ := h
    rfl
  obtain ⟨xs_, a, ⟨k, w'⟩, ws, rfl, hk, ⟨dx, t, hx0, ht, hlw⟩, hnd, hw, ⟨kvs, hA0, hWR⟩, nd, hl, hT, q⟩ := h
  dsimp only at hk hx0 ht hlw hw hnd
  subst hk
  obtain ⟨i0, rfl⟩ := one_wire hlw
  have hi : i0 ≤ 1000 := hw i0 (by simp)
  have ht' : SqT K H t [.int (i0 : Nat)] := SqT.of ht
  have ha := hA0
  refine ⟨_, (pss_cons (ps_set (i := 2) sc_Both_on_whole.nd rfl (Or.inl rfl) (pe_op (op_shl) pe_int (pe_ix (ix_tup) (pe_fld (pv 0) rfl) pe_int (fun _ _ => rfl))))
      (pss_cons (ps_set (i := 3) sc_Both_on_whole.nd rfl (Or.inl rfl) pe_dnew)
      (pss_cons (ps_thaw (ps_for PassesOwn.never rfl (pi_items (pv 1)) (pg_tup rfl (pgs_cons (pg_name (i := 4) sc_Both_on_whole.nd rfl (Or.inl rfl)) (pgs_cons (pg_name (i := 5) sc_Both_on_whole.nd rfl (Or.inl rfl)) pgs_nil))) (pss_cons (ps_set (i := 6) sc_Both_on_whole.nd rfl (Or.inl rfl) (pe_op (op_or) (pv 4) (pv 2)))
      (pss_cons (ps_expr (pe_fn c_add_at hr pass0 (pa_cons (pv 3) (pa_cons (pe_op (op_xor) (pv 6) (pv 2)) (pa_cons (pv 5) pa_nil)))))
      (pss_one (ps_expr (pe_fn c_add_at hr pass0 (pa_cons (pv 3) (pa_cons (pv 6) (pa_cons (pe_ifExp (pt_cmpR (op_eq) (pv 4) (pv 6) (nomark _)) (pe_fn c_times_i hr pass0 (pa_cons (pv 5) (pa_cons pe_int pa_nil))) (pv 5)) pa_nil))))))))))
      (pss_one (ps_ret (pe_fn c_without_noughts hr pass0 (pa_cons (pv 3) pa_nil))))))), ?_⟩
  fail "st"
  fail "go"
  refine st_fld1 hx0 (T_D.cl _) (T_D.n_at _) (flds_at _ _) ?_
  fail "go"
  rename_i p hp
  have hpa : p ≠ a := Ne.symm (ne_of_none ha hp)
  refine st_for_items (fun P h => ⟨_, rfl, h⟩) (same_new hp _ _ _ ha) (fun o i σ H' => ∃ (u0 u1 u2 : Option V) (kvs' : List (Key × V)), σ = [some (.ref xs_), some (.ref a), some (.int ((2 ^ i0 : Nat) : Int)), some (.ref p), u0, u1, u2] ∧ H' a = some (.frz o (.dK kvs)) ∧ H' p = some (.dK kvs') ∧ WR K H' (deedF ⟨.both, [i0]⟩ (ws.take i)) kvs' ∧ But a H H') ?_ ?_ ?_ ?_
  · intro o
    refine ⟨none, none, none, [], rfl, upd_same, by rw [upd_ne hpa]; exact upd_same, .nil, fun c o' hc e => ?_⟩
    rw [upd_ne hc]
    exact same_new hp _ _ _ e
  · rintro o i σ H' ⟨u0, u1, u2, kvs', _, h1, _⟩
    exact h1
  · rintro o i k v σ H' x hget ⟨u0, u1, u2, kvs', rfl, h1, h2, h3, h5⟩ hx
    obtain ⟨b, pp, a', e1, rfl, rfl, sq⟩ := hWR.get hget
    have hil : i < ws.length := (List.getElem?_eq_some_iff.mp e1).1
    have sq' : SqT K (upd H' x (.tup [kV (.inl ((b : Nat) : Int)), .ref a'])) a' [.int pp.1, .int pp.2] := (same_new hx _).tup (h5.tup ha _ _ sq)
    have hp2 := same_new hx (.tup [kV (.inl ((b : Nat) : Int)), .ref a']) _ _ h2
    have ha2 := same_new hx (.tup [kV (.inl ((b : Nat) : Int)), .ref a']) _ _ h1
    have hB2 : But a H (upd H' x (.tup [kV (.inl ((b : Nat) : Int)), .ref a'])) := fun c o' hc e => same_new hx _ _ _ (h5 _ _ hc e)
    have h3' := h3.stay (K := K) (H' := upd H' x (.tup [kV (.inl ((b : Nat) : Int)), .ref a'])) (fun y ys s => (same_new hx _).tup s)
    have ht0 : SqT K (upd H' x (.tup [kV (.inl ((b : Nat) : Int)), .ref a'])) x [.int ((b : Nat) : Int), .ref a'] := SqT.of upd_same
    generalize upd H' x (.tup [kV (.inl ((b : Nat) : Int)), .ref a']) = G at sq' hp2 ha2 hB2 h3' ht0 ⊢
    have hln := deedF_len ⟨.both, [i0]⟩ (ws.take i)
    rw [List.length_take] at hln
    have hst := deedF_step (d := ⟨.both, [i0]⟩) e1
    fail "go"
    refine ⟨p, a', clr b i0, by rw [← down_clr]; rfl, pp, _, kvs', sq', hp2, h3', by omega, fun H3 kvs3 g1 g2 g3 => ?_⟩
    have sq3 := g3.tup hp2 _ _ sq'
    have hl3 := wput_len (deedF ⟨.both, [i0]⟩ (ws.take i)) (clr b i0) (((wat (deedF ⟨.both, [i0]⟩ (ws.take i)) (clr b i0)).getD (0, 0)).1 + pp.1, ((wat (deedF ⟨.both, [i0]⟩ (ws.take i)) (clr b i0)).getD (0, 0)).2 + pp.2)
    fail "go"
    have fin : ∀ (v : Addr) (pv : Int × Int) (G2 : Hp), Same H3 G2 → SqT K G2 v [.int pv.1, .int pv.2] → pv = turn (2 * (b.testBit i0).toNat) pp → sp_add_at K [.ref p, .int ((b ||| 2 ^ i0 : Nat) : Int), .ref v] G2 (fun _ H1 => ∃ (u0' u1' u2' : Option V) (kvs' : List (Key × V)), [some (V.ref xs_), some (.ref a), some (.int ((2 ^ i0 : Nat) : Int)), some (.ref p), some (.int (b : Int)), some (.ref a'), some (.int ((b ||| 2 ^ i0 : Nat) : Int))] = [some (.ref xs_), some (.ref a), some (.int ((2 ^ i0 : Nat) : Int)), some (.ref p), u0', u1', u2'] ∧ H1 a = some (.frz o (.dK kvs)) ∧ H1 p = some (.dK kvs') ∧ WR K H1 (deedF ⟨.both, [i0]⟩ (ws.take (i + 1))) kvs' ∧ But a H H1) E0 := fun v pv G2 hS2 ht2 hpv => by
      refine ⟨p, v, clr b i0 + 2 ^ i0, by rw [clr_down], pv, _, kvs3, ht2, hS2 _ _ g1, g2.stay (fun y ys s => hS2.tup s), Nat.le_trans hl3 (by omega), fun H4 kvs4 g4 g5 g6 => ?_⟩
      refine ⟨_, _, _, kvs4, rfl, g6 _ _ (Ne.symm hpa) (hS2 _ _ (g3 _ _ (Ne.symm hpa) ha2)), g4, ?_, fun c o' hc' e => g6 _ _ (ne_of_none e hp) (hS2 _ _ (g3 _ _ (ne_of_none e hp) (hB2 _ _ hc' e)))⟩
      rw [hst]
      show WR K H4 (wadd (wadd (deedF ⟨.both, [i0]⟩ (ws.take i)) (clr b i0) pp) (clr b i0 + 2 ^ i0) (turn (2 * (b.testBit i0).toNat) pp)) kvs4
      rw [← hpv]
      exact g5
    refine iteD (fun c => ?_) (fun c => ?_)
    · have hc := (down_eq b i0).1 (Int.ofNat_inj.mp c)
      fail "go"
      refine ⟨a', 2, pp, rfl, sq3, fun t2 G2 hS2 ht2 => ?_⟩
      fail "go"
      exact fin t2 (turn 2 pp) G2 hS2 ht2 (by rw [hc]; rfl)
    · have hc : b.testBit i0 = false := eq_false_of_ne_true fun z => c (by rw [← (down_eq b i0).2 z])
      fail "go"
      exact fin a' pp H3 (Same.refl _) sq3 (by rw [hc]; rfl)
  · rintro o σ H' ⟨u0, u1, u2, kvs', rfl, h1, h2, h3, h5⟩
    rw [hWR.len, List.take_length] at h3
    have SS : Same H (upd H' a (.dK kvs)) := fun c o' e => by
      by_cases hc : c = a
      · subst hc
        rw [ha] at e
        rw [upd_same]
        exact e
      · rw [upd_ne hc]
        exact h5 _ _ hc e
    have hW : WhAt K (upd H' a (.dK kvs)) p (deedF ⟨.both, [i0]⟩ ws) := ⟨kvs', by rw [upd_ne hpa]; exact h2, h3.stay (frz_tup h1)⟩
    fail "go"
    refine ⟨p, _, rfl, hW, deedF_nd _ _, Nat.le_trans (deedF_len _ _) (by omega), fun p2 H2 s2 np2 hW2 => ?_⟩
    fail "go"
    have s3 := SS.trans s2
    exact q p2 H2 (fun b o e _ => s3 _ _ e) (hT.to s3) (none_ofX SS np2) hW2
theorem ok_Where_on_whole {f : Addr} {fd : FuncData} (F : FunC K "on_whole" "Where.on_whole" s_Where_on_whole f fd cc_Where_on_whole) (T_D : Txt_D K CD_D) (c_moved : Cal P w K mg base CX0 4 "moved" ["whole", "place_of"] (sp_moved K)) (tb_Where_on_whole : PySem.W.CodeHd base cc_Where_on_whole TT_Where_on_whole) (bm : BltM mg base) : FnOk P w K mg base CX0 5 f fd ["self", "whole"] (sp_Where_on_whole K CD_D TT_Over_on_whole TT_Where_on_whole TT_Swap_on_whole) := by
  refine F.ok sc_Where_on_whole (fun vs H Q E h => ?_) (fun A outer s H vs Q E hr h => ?_)
  · obtain ⟨_, _, _, _, rfl, _⟩ := h
    rfl
  obtain ⟨x, a, ⟨k, w'⟩, ws, rfl, hk, ⟨dx, t, ha, ht, hlw⟩, hnd, hw, hA, nd, hl, hT, q⟩ := h
  dsimp only at hk ha ht hlw hw hnd
  subst hk
  obtain ⟨i, j, rfl⟩ := two_wires hlw
  have hi : i ≤ 1000 := hw i (by simp)
  have hj : j ≤ 1000 := hw j (by simp)
  have hij : i ≠ j := fun z => by subst z; simp at hnd
  have ht' : SqT K H t [.int (i : Nat), .int (j : Nat)] := SqT.of ht
  refine ⟨_, (pss_cons (ps_set (i := 2) sc_Where_on_whole.nd rfl (Or.inr rfl) (pe_ix (ix_tup) (pe_fld (pv 0) rfl) pe_int (fun _ _ => rfl)))
      (pss_cons (ps_set (i := 3) sc_Where_on_whole.nd rfl (Or.inr rfl) (pe_ix (ix_tup) (pe_fld (pv 0) rfl) pe_int (fun _ _ => rfl)))
      (pss_one (ps_ret (pe_fnL c_moved hr tb_Where_on_whole bm (pv 1)))))), ?_⟩
  fail "st"
  fail "go"
  refine st_fld1 ha (T_D.cl _) (T_D.n_at _) (flds_at _ _) ?_
  fail "go"
  refine st_fld1 ha (T_D.cl _) (T_D.n_at _) (flds_at _ _) ?_
  fail "go"
  refine st_callC ?_
  fail "go"
  refine st_lam hT.2.1 fun f1 H1 sx t1 nf hL => ?_
  fail "go"
  intro G cov
  have hne := nd3 hT.2.2.2
  obtain ⟨ps1, hps1, _⟩ := id hT.2.1
  have sT := sx.t hps1
  have fin : ∀ p H2, Same G H2 → G p = none → WhAt K H2 p (wnz (deedF ⟨.wher, [i, j]⟩ ws)) → Q (.ref p) (unc [("k", s.heap.objs.size + 1 + 1), ("j", s.heap.objs.size + 1)] H2) := fun p H2 s2 np hW => by
    have S1 : Same H1 (unc [("k", s.heap.objs.size + 1 + 1), ("j", s.heap.objs.size + 1)] H2) := cov.un s2
    refine q p _ (fun b o e n => S1 _ _ (sT b o e n)) ⟨(hT.1.other sx hne.1 hps1).same S1, t1.same S1, (hT.2.2.1.other sx (Ne.symm hne.2.2) hps1).same S1, hT.2.2.2⟩ ?_ (hW.unc fun pp hp => ?_)
    · cases e : H p with
      | none => rfl
      | some o =>
        by_cases z : p = TT_Where_on_whole
        · obtain ⟨ps2, e2, _⟩ := t1
          rw [z, cov.same _ _ e2] at np; cases np
        · rw [cov.same _ _ (sx _ _ z e)] at np; cases np
    · obtain ⟨_, o, e, _⟩ := cov.at_ pp.1 pp.2 hp
      exact ⟨o, s2 _ _ e⟩
  obtain ⟨_, o2, hGd, hv2⟩ := cov.at_ _ _ (.head _)
  obtain ⟨_, o, hGc, hv⟩ := cov.at_ _ _ (.tail _ (.head _))
  obtain ⟨u, hd, tk, rfl⟩ := hv 2 (.int (i : Int)) rfl rfl
  obtain ⟨u2, hd2, tk2, rfl⟩ := hv2 3 (.int (j : Int)) rfl rfl
  have nd2 := nodup_inj (inv_inj (g := fun b => b ^^^ (b.testBit i).toNat * 2 ^ j) (wher_two hij)) nd
  refine ⟨a, f1, ws, fun b => b ^^^ (b.testBit i).toNat * 2 ^ j, rfl, (hA.to sT).stay cov.same, nd2, by omega, .wher (hL.same cov.same) (by exact Nat.ne_of_lt (Nat.lt_succ_self _)) ⟨o, tk, hGc, hd⟩ ⟨o2, tk2, hGd, hd2⟩ hi hj, fun p H2 s2 np hW => ⟨cov.keeps s2, fin p H2 s2 np ?_⟩⟩
  rw [deedF_map (f := fun e => (e.1 ^^^ (e.1.testBit i).toNat * 2 ^ j, e.2)) (fun e => rfl) nd2]
  exact hW
theorem ok_Swap_on_whole {f : Addr} {fd : FuncData} (F : FunC K "on_whole" "Swap.on_whole" s_Swap_on_whole f fd cc_Swap_on_whole) (T_D : Txt_D K CD_D) (c_moved : Cal P w K mg base CX0 4 "moved" ["whole", "place_of"] (sp_moved K)) (tb_Swap_on_whole : PySem.W.CodeHd base cc_Swap_on_whole TT_Swap_on_whole) (bm : BltM mg base) : FnOk P w K mg base CX0 5 f fd ["self", "whole"] (sp_Swap_on_whole K CD_D TT_Over_on_whole TT_Where_on_whole TT_Swap_on_whole) := by
  refine F.ok sc_Swap_on_whole (fun vs H Q E h => ?_) (fun A outer s H vs Q E hr h => ?_)
  · obtain ⟨_, _, _, _, rfl, _⟩ := h
    rfl
  obtain ⟨x, a, ⟨k, w'⟩, ws, rfl, hk, ⟨dx, t, ha, ht, hlw⟩, hnd, hw, hA, nd, hl, hT, q⟩ := h
  dsimp only at hk ha ht hlw hw hnd
  subst hk
  obtain ⟨i, j, rfl⟩ := two_wires hlw
  have hi : i ≤ 1000 := hw i (by simp)
  have hj : j ≤ 1000 := hw j (by simp)
  have hij : i ≠ j := fun z => by subst z; simp at hnd
  have ht' : SqT K H t [.int (i : Nat), .int (j : Nat)] := SqT.of ht
  refine ⟨_, (pss_cons (ps_set (i := 2) sc_Swap_on_whole.nd rfl (Or.inr rfl) (pe_ix (ix_tup) (pe_fld (pv 0) rfl) pe_int (fun _ _ => rfl)))
      (pss_cons (ps_set (i := 3) sc_Swap_on_whole.nd rfl (Or.inr rfl) (pe_ix (ix_tup) (pe_fld (pv 0) rfl) pe_int (fun _ _ => rfl)))
      (pss_one (ps_ret (pe_fnL c_moved hr tb_Swap_on_whole bm (pv 1)))))), ?_⟩
  fail "st"
  fail "go"
  refine st_fld1 ha (T_D.cl _) (T_D.n_at _) (flds_at _ _) ?_
  fail "go"
  refine st_fld1 ha (T_D.cl _) (T_D.n_at _) (flds_at _ _) ?_
  fail "go"
  refine st_callC ?_
  fail "go"
  refine st_lam hT.2.2.1 fun f1 H1 sx t1 nf hL => ?_
  fail "go"
  intro G cov
  have hne := nd3 hT.2.2.2
  obtain ⟨ps1, hps1, _⟩ := id hT.2.2.1
  have sT := sx.t hps1
  have fin : ∀ p H2, Same G H2 → G p = none → WhAt K H2 p (wnz (deedF ⟨.swap, [i, j]⟩ ws)) → Q (.ref p) (unc [("k", s.heap.objs.size + 1 + 1), ("j", s.heap.objs.size + 1)] H2) := fun p H2 s2 np hW => by
    have S1 : Same H1 (unc [("k", s.heap.objs.size + 1 + 1), ("j", s.heap.objs.size + 1)] H2) := cov.un s2
    refine q p _ (fun b o e n => S1 _ _ (sT b o e n)) ⟨(hT.1.other sx hne.2.1 hps1).same S1, (hT.2.1.other sx hne.2.2 hps1).same S1, t1.same S1, hT.2.2.2⟩ ?_ (hW.unc fun pp hp => ?_)
    · cases e : H p with
      | none => rfl
      | some o =>
        by_cases z : p = TT_Swap_on_whole
        · obtain ⟨ps2, e2, _⟩ := t1
          rw [z, cov.same _ _ e2] at np; cases np
        · rw [cov.same _ _ (sx _ _ z e)] at np; cases np
    · obtain ⟨_, o, e, _⟩ := cov.at_ pp.1 pp.2 hp
      exact ⟨o, s2 _ _ e⟩
  obtain ⟨_, o2, hGd, hv2⟩ := cov.at_ _ _ (.head _)
  obtain ⟨_, o, hGc, hv⟩ := cov.at_ _ _ (.tail _ (.head _))
  obtain ⟨u, hd, tk, rfl⟩ := hv 2 (.int (i : Int)) rfl rfl
  obtain ⟨u2, hd2, tk2, rfl⟩ := hv2 3 (.int (j : Int)) rfl rfl
  have nd2 := nodup_inj (inv_inj (g := fun b => ex b i j) (ex_two hij)) nd
  refine ⟨a, f1, ws, fun b => ex b i j, rfl, (hA.to sT).stay cov.same, nd2, by omega, .swap (hL.same cov.same) (by exact Nat.ne_of_lt (Nat.lt_succ_self _)) ⟨o, tk, hGc, hd⟩ ⟨o2, tk2, hGd, hd2⟩ hi hj, fun p H2 s2 np hW => ⟨cov.keeps s2, fin p H2 s2 np ?_⟩⟩
  rw [deedF_map (f := fun e => (ex e.1 i j, e.2)) (fun e => by show [(clr (clr e.1 i) j + (e.1.testBit j).toNat * 2 ^ i + (e.1.testBit i).toNat * 2 ^ j, e.2)] = _; rw [swap_xor hij]) nd2]
  exact hW
theorem ok_letters_y {f : Addr} {fd : FuncData} (F : Fun K "letters_y" "letters_y" s_letters_y f fd) (c_ones : Cal P w K mg base CX0 1 "ones" ["number"] (sp_ones K)) (g_XS : GC mg "XS" (.int 1)) (g_ZS : GC mg "ZS" (.int 2)) : FnOk P w K mg base CX0 2 f fd ["row"] (sp_letters_y K) := by
  refine F.ok sc_letters_y (fun vs H Q E h => ?_) (fun cdv A outer s H vs Q E hr h => ?_)
  · obtain ⟨_, _, rfl, _⟩ := h
    rfl
  obtain ⟨a, r, rfl, ha, q⟩ := h
  refine ⟨_, (pss_one (ps_ret (pe_fn c_ones hr pass0 (pa_cons (pe_op (op_and) (pe_ix (ix_tup) (pv 0) (pe_gc g_XS) (fun _ _ => rfl)) (pe_ix (ix_tup) (pv 0) (pe_gc g_ZS) (fun _ _ => rfl))) pa_nil)))), ?_⟩
  fail "st"
  unfold Row.V at ha
  fail "go"
  exact ⟨_, rfl, q⟩
theorem ok_acted_on {f : Addr} {fd : FuncData} (F : Fun K "acted_on" "acted_on" s_acted_on f fd) (c_times_i : Cal P w K mg base CX0 1 "times_i" ["pair", "often"] (sp_times_i K)) (g_MINUS : GC mg "MINUS" (.int 0)) (c_ones : Cal P w K mg base CX0 1 "ones" ["number"] (sp_ones K)) (g_XS : GC mg "XS" (.int 1)) (c_letters_y : Cal P w K mg base CX0 2 "letters_y" ["row"] (sp_letters_y K)) (g_ZS : GC mg "ZS" (.int 2)) : FnOk P w K mg base CX0 3 f fd ["whole", "row"] (sp_acted_on K) := by
  refine F.ok sc_acted_on (fun vs H Q E h => ?_) (fun cdv A outer s H vs Q E hr h => ?_)
  · obtain ⟨_, _, _, _, rfl, _⟩ := h
    rfl
  obtain ⟨a, w, ws, r, rfl, ⟨kvs, ha, hWR⟩, ok, hl, hw, q⟩ := h
  refine ⟨_, (pss_cons (ps_set (i := 2) sc_acted_on.nd rfl (Or.inl rfl) pe_dnew)
      (pss_cons (ps_thaw (ps_for PassesOwn.never rfl (pi_items (pv 0)) (pg_tup rfl (pgs_cons (pg_name (i := 3) sc_acted_on.nd rfl (Or.inl rfl)) (pgs_cons (pg_name (i := 4) sc_acted_on.nd rfl (Or.inl rfl)) pgs_nil))) (pss_cons (ps_set (i := 5) sc_acted_on.nd rfl (Or.inl rfl) (pe_op (op_add) (pe_ix (ix_tup) (pv 1) (pe_gc g_MINUS) (fun _ _ => rfl)) (pe_fn c_ones hr pass0 (pa_cons (pe_op (op_and) (pv 3) (pe_ix (ix_tup) (pv 1) (pe_gc g_ZS) (fun _ _ => rfl))) pa_nil))))
      (pss_one (ps_dput (hu_of hr) (pv 2) (pe_op (op_xor) (pv 3) (pe_ix (ix_tup) (pv 1) (pe_gc g_XS) (fun _ _ => rfl))) (pe_fn c_times_i hr pass0 (pa_cons (pv 4) (pa_cons (pe_op (op_add) (pe_op (op_mul) pe_int (pv 5)) (pe_fn c_letters_y hr pass0 (pa_cons (pv 1) pa_nil))) pa_nil))) rfl)))))
      (pss_one (ps_ret (pv 2))))), ?_⟩
  fail "st"
  fail "go"
  rename_i p hp
  have hpa : p ≠ a := Ne.symm (ne_of_none ha hp)
  refine st_for_items (fun P h => ⟨_, rfl, h⟩) (same_new hp _ _ _ ha) (fun o i σ H' => ∃ (u0 u1 u2 : Option V) (kvs' : List (Key × V)), σ = [some (.ref a), some (.ref w), some (.ref p), u0, u1, u2] ∧ H' a = some (.frz o (.dK kvs)) ∧ H' p = some (.dK kvs') ∧ WR K H' ((ws.take i).map (tE r)) kvs' ∧ But a H H') ?_ ?_ ?_ ?_
  · intro o
    refine ⟨none, none, none, [], rfl, upd_same, by rw [upd_ne hpa]; exact upd_same, .nil, fun c o' hc e => ?_⟩
    rw [upd_ne hc]
    exact same_new hp _ _ _ e
  · rintro o i σ H' ⟨u0, u1, u2, kvs', _, h1, _⟩
    exact h1
  · rintro o i k v σ H' x hget ⟨u0, u1, u2, kvs', rfl, h1, h2, h3, h5⟩ hx
    obtain ⟨b, pp, a', e1, rfl, rfl, sq⟩ := hWR.get hget
    have hil : i < ws.length := (List.getElem?_eq_some_iff.mp e1).1
    have sq' : SqT K (upd H' x (.tup [kV (.inl ((b : Nat) : Int)), .ref a'])) a' [.int pp.1, .int pp.2] := (same_new hx _).tup (h5.tup ha _ _ sq)
    have hw' := (same_new hx (.tup [kV (.inl ((b : Nat) : Int)), .ref a'])).tup (h5.tup ha _ _ hw)
    have hp2 := same_new hx (.tup [kV (.inl ((b : Nat) : Int)), .ref a']) _ _ h2
    have ha2 := same_new hx (.tup [kV (.inl ((b : Nat) : Int)), .ref a']) _ _ h1
    have hB2 : But a H (upd H' x (.tup [kV (.inl ((b : Nat) : Int)), .ref a'])) := fun c o' hc e => same_new hx _ _ _ (h5 _ _ hc e)
    have h3' := h3.stay (K := K) (H' := upd H' x (.tup [kV (.inl ((b : Nat) : Int)), .ref a'])) (fun y ys s => (same_new hx _).tup s)
    have ht0 : SqT K (upd H' x (.tup [kV (.inl ((b : Nat) : Int)), .ref a'])) x [.int ((b : Nat) : Int), .ref a'] := SqT.of upd_same
    generalize upd H' x (.tup [kV (.inl ((b : Nat) : Int)), .ref a']) = G at sq' hw' hp2 ha2 hB2 h3' ht0 ⊢
    have hw2 := hw'
    unfold Row.V at hw2
    fail "go"
    refine ⟨_, rfl, ?_⟩
    fail "go"
    refine ⟨w, r, rfl, hw', ?_⟩
    have e2 : (2 : Int) * ((r.m : Int) + ((pop (b &&& r.z) : Nat) : Int)) + ((pop (r.x &&& r.z) : Nat) : Int) = ((trn r b : Nat) : Int) := by
      unfold trn
      rw [Nat.and_comm b]
      push_cast
      omega
    fail "go"
    rw [e2]
    refine ⟨a', trn r b, pp, rfl, sq', fun t G2 hS2 ht2 => ?_⟩
    fail "go"
    have hpG := hS2 _ _ hp2
    have h3G := h3'.stay (K := K) (H' := G2) fun y ys s => hS2.tup s
    have hB : But p G2 (upd G2 p (.dK (putK kvs' (.inl ((b ^^^ r.x : Nat) : Int)) (.ref t)))) := But.upd
    have hlen := h3'.len
    rw [List.length_map, List.length_take] at hlen
    refine ⟨p, _, rfl, dput_z hpG (by omega), _, _, _, _, rfl, hB _ _ (Ne.symm hpa) (hS2 _ _ ha2), upd_same, ?_, fun c o' hc e => hB _ _ (ne_of_none e hp) (hS2 _ _ (hB2 _ _ hc e))⟩
    rw [tE_step ok e1]
    exact (h3G.stay (fun y ys s => hB.tup hpG y ys s)).put (hB.tup hpG _ _ ht2)
  · rintro o σ H' ⟨u0, u1, u2, kvs', rfl, h1, h2, h3, h5⟩
    fail "go"
    rw [hWR.len, List.take_length] at h3
    refine q p _ (fun c o' e => ?_) hp ⟨kvs', by rw [upd_ne hpa]; exact h2, h3.stay (frz_tup h1)⟩
    by_cases hc : c = a
    · subst hc
      rw [ha] at e
      rw [upd_same]
      exact e
    · rw [upd_ne hc]
      exact h5 _ _ hc e
theorem ok_whole_weight {f : Addr} {fd : FuncData} (F : Fun K "whole_weight" "whole_weight" s_whole_weight f fd) (b_sum : mg "sum" = none) : FnOk P w K mg base CX0 1 f fd ["whole"] (sp_whole_weight K) := by
  refine F.ok sc_whole_weight (fun vs H Q E h => ?_) (fun cdv A outer s H vs Q E hr h => ?_)
  · obtain ⟨_, _, rfl, _⟩ := h
    rfl
  obtain ⟨a, ws, rfl, ⟨kvs, ha, hWR⟩, ok, hl, q⟩ := h
  refine ⟨_, (pss_one (ps_ret (pe_callB (call_sumL rfl) rfl b_sum boot_sum (pa_cons (pe_thaw (pe_comp2 (sc := defScope s_whole_weight) rfl ⟨rfl, by decide +kernel, rfl, rfl, by decide +kernel, by decide +kernel, by decide +kernel, by decide +kernel⟩ (by show ("re" : Str) ∉ (["whole"] : List Str); decide +kernel) (by show ("im" : Str) ∉ (["whole"] : List Str); decide +kernel) (by decide +kernel) (by show (".0" : Str) ∉ (["whole"] : List Str); decide +kernel) sc_whole_weight.nd rfl (pi_vals (pv 0)) (fun _ _ _ _ => pif_nil) (fun _ _ _ _ => (pe_op (op_add) (pe_op (op_mulV) (pv 0) (pv 0)) (pe_op (op_mulV) (pv 1) (pv 1)))))) pa_nil)))), ?_⟩
  fail "st"
  fail "go"
  refine st_cpV (fun P h => ⟨_, rfl, h⟩) ha (by rw [hWR.len]; omega) (fun o i ys H' => H' = upd H a (.frz o (.dK kvs)) ∧ ys = ((ws.take i).map fun e => e.2.1 * e.2.1 + e.2.2 * e.2.2).map V.int) (fun o => ⟨rfl, rfl⟩) ?_ ?_ ?_ ?_
  · rintro o i ys H' ⟨rfl, rfl⟩
    rw [List.length_map, List.length_map, List.length_take]
    omega
  · rintro o i ys H' ⟨rfl, _⟩
    exact upd_same
  · rintro o i k v ys H' hget ⟨rfl, rfl⟩
    obtain ⟨b, pp, a', e1, rfl, rfl, sq⟩ := hWR.get hget
    obtain ⟨s1, s2⟩ := ok.sm _ (List.mem_of_getElem? e1)
    refine ⟨a', _, _, rfl, But.tup (But.upd (f := a)) ha _ _ sq, ?_⟩
    fail "go"
    refine st_i (cmulV s1 s1) ?_
    fail "go"
    refine st_i (cmulV s2 s2) ?_
    fail "go"
    refine ⟨rfl, ?_⟩
    rw [take_succV e1, List.map_append, List.map_append]
    rfl
  · rintro o ys H' ⟨rfl, rfl⟩ p hp
    fail "go"
    have hpa : p ≠ a := fun z => by rw [z, upd_same] at hp; cases hp
    have hp0 : H p = none := by rw [upd_ne hpa] at hp; exact hp
    rw [hWR.len, List.take_length]
    refine st_sum (ns := ws.map fun e => e.2.1 * e.2.1 + e.2.2 * e.2.2) (SqL.of (by rw [upd_ne hpa]; exact upd_same)) ?_
    exact q _ (same_thaw ha (same_new hp _))
theorem ok_half_by {f : Addr} {fd : FuncData} (F : Fun K "half_by" "half_by" s_half_by f fd) (c_added : Cal P w K mg base CX0 2 "added" ["one", "other"] (sp_added K)) (c_acted_on : Cal P w K mg base CX0 3 "acted_on" ["whole", "row"] (sp_acted_on K)) (g_XS : GC mg "XS" (.int 1)) (g_ZS : GC mg "ZS" (.int 2)) (g_MINUS : GC mg "MINUS" (.int 0)) : FnOk P w K mg base CX0 4 f fd ["whole", "row", "value"] (sp_half_by K) := by
  refine F.ok sc_half_by (fun vs H Q E h => ?_) (fun cdv A outer s H vs Q E hr h => ?_)
  · obtain ⟨_, _, _, _, _, rfl, _⟩ := h
    rfl
  obtain ⟨a, w, v, ws, r, rfl, hW, nd, hl, hw, q⟩ := h
  refine ⟨_, (pss_one (ps_ret (pe_fn c_added hr pass0 (pa_cons (pv 0) (pa_cons (pe_fn c_acted_on hr pass0 (pa_cons (pv 0) (pa_cons (pe_tup (pa_cons (pe_op (op_xor) (pe_ix (ix_tup) (pv 1) (pe_gc g_MINUS) (fun _ _ => rfl)) (pv 2)) (pa_cons (pe_ix (ix_tup) (pv 1) (pe_gc g_XS) (fun _ _ => rfl)) (pa_cons (pe_ix (ix_tup) (pv 1) (pe_gc g_ZS) (fun _ _ => rfl)) pa_nil)))) pa_nil))) pa_nil))))), ?_⟩
  fail "st"
  unfold Row.V at hw
  fail "go"
  rename_i p hp
  refine ⟨a, p, ws, ⟨r.m ^^^ v, r.x, r.z⟩, rfl, hW.stay (same_new hp _), nd, by omega, SqT.of upd_same, fun p1 H1 hS1 hp1 hW1 => ?_⟩
  have S1 := (same_new hp (.tup [.int ((r.m ^^^ v : Nat) : Int), .int (r.x : Int), .int (r.z : Int)])).trans hS1
  fail "go"
  refine ⟨a, p1, ws, _, rfl, hW.stay S1, hW1, nd, hl, by rw [List.length_map]; exact hl, fun p2 H2 hS2 hp2 hW2 => ?_⟩
  fail "go"
  exact q p2 H2 (S1.trans hS2) (none_ofX S1 hp2) hW2
theorem ok_halves_by {f : Addr} {fd : FuncData} (F : Fun K "halves_by" "halves_by" s_halves_by f fd) (c_whole_weight : Cal P w K mg base CX0 1 "whole_weight" ["whole"] (sp_whole_weight K)) (c_half_by : Cal P w K mg base CX0 4 "half_by" ["whole", "row", "value"] (sp_half_by K)) : FnOk P w K mg base CX0 5 f fd ["whole", "row"] (sp_halves_by K) := by
  refine F.ok sc_halves_by (fun vs H Q E h => ?_) (fun cdv A outer s H vs Q E hr h => ?_)
  · obtain ⟨_, _, _, _, _, rfl, _⟩ := h
    rfl
  obtain ⟨a, w, ws, r, n, rfl, hW, wf, ok, hw, q⟩ := h
  refine ⟨_, (pss_one (ps_ret (pe_tup (pa_cons (pe_fn c_whole_weight hr pass0 (pa_cons (pe_fn c_half_by hr pass0 (pa_cons (pv 0) (pa_cons (pv 1) (pa_cons pe_int pa_nil)))) pa_nil)) (pa_cons (pe_fn c_whole_weight hr pass0 (pa_cons (pe_fn c_half_by hr pass0 (pa_cons (pv 0) (pa_cons (pv 1) (pa_cons pe_int pa_nil)))) pa_nil)) pa_nil))))), ?_⟩
  have hl := wf.len
  fail "go"
  refine ⟨a, w, 0, ws, r, rfl, hW, wf.nd, by omega, hw, fun p1 H1 hS1 hp1 hW1 => ?_⟩
  rw [Nat.xor_zero] at hW1
  fail "go"
  have l1 := half_len wf ok
  refine ⟨p1, half r ws, rfl, hW1, wf.half ok, by omega, fun H2 hS2 => ?_⟩
  have S2 := hS1.trans hS2
  fail "go"
  refine ⟨a, w, 1, ws, r, rfl, hW.stay S2, wf.nd, by omega, S2.tup hw, fun p3 H3 hS3 hp3 hW3 => ?_⟩
  fail "go"
  have l2 := half_len wf (mi_ok ok)
  refine ⟨p3, _, rfl, hW3, wf.half (mi_ok ok), Nat.le_trans l2 (by decide), fun H4 hS4 => ?_⟩
  fail "go"
  rename_i p5 hp5
  exact q p5 _ (((S2.trans hS3).trans hS4).trans (same_new hp5 _)) upd_same
theorem ok_Machine___init__ {f : Addr} {fd : FuncData} (F : Fun K "__init__" "Machine.__init__" s_Machine___init__ f fd) (T_M : Txt_M K CD_M) (c_NoWires : ExcC K mg "NoWires" C_NoWires) (c_is_whole_number : Cal P w K mg base CX0 1 "is_whole_number" ["thing"] (sp_is_whole_number K)) : FnOk P w K mg base (CXE P w) 2 f fd ["self", "n", "most"] (sp_Machine___init__ K CD_M) := by
  refine F.okE sc_Machine___init__ (fun vs H Q E h => ?_) (fun cdv A outer s H vs Q E hr h => ?_)
  · obtain ⟨_, _, _, rfl, _⟩ := h
    rfl
  obtain ⟨p, n, m, rfl, h1, hm, dx, hp, q⟩ := h
  refine ⟨_, (pss_cons (ps_if (PW.pt (pw_or (pt_not (pt_val (pe_fn c_is_whole_number hr pass0 (pa_cons (pv 1) pa_nil)))) (pw_or (pt_cmpR (op_lt) (pv 1) pe_int (nomark _)) (pw_or1 (pt_cmpR (op_gt) (pv 1) (pv 2) (nomark _)))))) (pss_one (ps_raise c_NoWires raisesE (pa_cons pe_str pa_nil) rfl)) pss_nil)
      (pss_one (ps_fld (pv 0) (pv 1) rfl))), ?_⟩
  fail "st"
  fail "go"
  refine ⟨_, true, rfl, WN.int K H _, ?_⟩
  fail "go"
  refine iteD (fun c => absurd c (by omega)) (fun _ => ?_)
  fail "go"
  refine iteD (fun c => absurd c (by omega)) (fun _ => ?_)
  fail "go"
  exact st_put1 hp (T_M.cl .ex) (T_M.n_n .ex) (by decide) q
theorem ok_Exact___init__ {f : Addr} {fd : FuncData} (F : Fun K "__init__" "Exact.__init__" s_Exact___init__ f fd) (cm_Machine___init__ : CCal P w K mg base (CXE P w) 2 "Machine" "__init__" ["self", "n", "most"] (sp_Machine___init__ K CD_M)) (T_M : Txt_M K CD_M) (g_MOST_WIRES_EXACT : GC mg "MOST_WIRES_EXACT" (.int 6)) : FnOk P w K mg base (CXE P w) 3 f fd ["self", "n"] (sp_Exact___init__ K CD_M) := by
  refine F.okE sc_Exact___init__ (fun vs H Q E h => ?_) (fun cdv A outer s H vs Q E hr h => ?_)
  · obtain ⟨_, _, rfl, _⟩ := h
    rfl
  obtain ⟨p, n, rfl, h1, hm, dx, hp, q⟩ := h
  refine ⟨_, (pss_cons (ps_expr (pe_cm cm_Machine___init__ hr passE (pa_cons (pv 0) (pa_cons (pv 1) (pa_cons (pe_gc g_MOST_WIRES_EXACT) pa_nil)))))
      (pss_one (ps_fld (pv 0) (pe_disp (pps_cons pe_int (pe_tup (pa_cons pe_int (pa_cons pe_int pa_nil))) pps_nil) rfl rfl (List.cons_ne_nil _ _) (Nat.le_of_ble_eq_true rfl)) rfl))), ?_⟩
  fail "st"
  fail "go"
  refine ⟨p, n, 6, rfl, h1, hm, dx, hp, ?_⟩
  fail "go"
  refine st_disp1 (fun p1 hp1 => ?_)
  fail "go"
  rename_i p2 hp2
  refine st_disp2 (same_new hp2 _ _ _ upd_same) ?_
  obtain ⟨g1, g2, g3⟩ := disp_at (K := K) (b := 0) hp1 hp2
  generalize upd (upd (upd (upd H p (.ins (CD_M .ex) dx [("n", .int (n : Int))])) p1 (.dK [])) p2 (.tup [.int 1, .int 0])) p1 (.dK [(.inl 0, .ref p2)]) = G at g1 g2 g3 ⊢
  fail "go"
  refine st_put1 (g1 _ _ upd_same) (T_M.cl .ex) (T_M.n_amounts .ex) (by simp) ?_
  have hpp : p1 ≠ p := fun z => by rw [z, upd_same] at hp1; cases hp1
  have hH1 : H p1 = none := by rw [upd_ne hpp] at hp1; exact hp1
  have hB : But p G (upd G p (.ins (CD_M .ex) dx [("n", .int (n : Int)), ("amounts", .ref p1)])) := But.upd
  refine q p1 _ (fun c o hc e => hB _ _ hc (g1 _ _ (by rw [upd_ne hc]; exact e))) hH1 ⟨dx, upd_same⟩ ⟨_, hB _ _ hpp g2, g3.stay fun y ys s => ?_⟩
  exact butI_tup hB (g1 _ _ upd_same) s
theorem ok_Exact_whole {f : Addr} {fd : FuncData} (F : Fun K "whole" "Exact.whole" s_Exact_whole f fd) (T_M : Txt_M K CD_M) (b_dict : mg "dict" = none) : FnOk P w K mg base CX0 1 f fd ["self"] (sp_Exact_whole K CD_M) := by
  refine F.ok sc_Exact_whole (fun vs H Q E h => ?_) (fun cdv A outer s H vs Q E hr h => ?_)
  · obtain ⟨_, _, _, _, rfl, _⟩ := h
    rfl
  obtain ⟨x, a, n, ws, rfl, ⟨dx, hx⟩, hA, q⟩ := h
  refine ⟨_, (pss_one (ps_ret (pe_callTy (call_dictQ) rfl b_dict boot_dict (pa_cons (pe_fld (pv 0) rfl) pa_nil)))), ?_⟩
  obtain ⟨kvs, hk, hwr⟩ := hA
  fail "st"
  fail "go"
  refine st_fld1 hx (T_M.cl .ex) (T_M.n_amounts .ex) rfl ?_
  fail "go"
  refine st_dict hk fun p hp => ?_
  exact q p _ (same_new hp _) hp ⟨kvs, upd_same, hwr.stay fun y ys s => (same_new hp _).tup s⟩
theorem ok_Exact_follow {f : Addr} {fd : FuncData} (F : Fun K "follow" "Exact.follow" s_Exact_follow f fd) (T_M : Txt_M K CD_M) (m_D_on_whole : ∀ d : DK, MCal P w K mg base CX0 5 (CD_D d) "on_whole" ["self", "whole"] (sp_D_on_whole K CD_D TT_Over_on_whole TT_Where_on_whole TT_Swap_on_whole d)) : FnOk P w K mg base CX0 6 f fd ["self", "deed"] (sp_Exact_follow K CD_D CD_M TT_Over_on_whole TT_Where_on_whole TT_Swap_on_whole) := by
  refine F.ok sc_Exact_follow (fun vs H Q E h => ?_) (fun cdv A outer s H vs Q E hr h => ?_)
  · obtain ⟨_, _, _, _, _, _, rfl, _⟩ := h
    rfl
  obtain ⟨x, y, a, n, d, ws, rfl, ⟨dx, hx⟩, hD, hnd, hw, hA, nd, hl, hT, q⟩ := h
  refine ⟨_, (pss_one (ps_fld (pv 0) (pe_md m_D_on_whole hr pass0 (pv 1) (pa_cons (pe_fld (pv 0) rfl) pa_nil)) rfl)), ?_⟩
  obtain ⟨dx1, tt, hd1, hd2, hd4⟩ := id hD
  fail "st"
  fail "go"
  refine st_md1 hd1 (flds_no _ _ (by decide +kernel) (by decide +kernel) (by decide +kernel)) ?_
  fail "go"
  refine st_fld1 hx (T_M.cl .ex) (T_M.n_amounts .ex) rfl ?_
  fail "go"
  refine ⟨y, a, d, ws, rfl, rfl, hD, hnd, hw, hA, nd, hl, hT, fun p H1 hS hT1 hp hW => ?_⟩
  have hx1 := hS _ _ hx (by intro ps z; cases z)
  fail "go"
  refine st_put1 hx1 (T_M.cl .ex) (T_M.n_amounts .ex) (by simp) ?_
  have hB : But x H1 (upd H1 x (.ins (CD_M .ex) dx [("n", .int (n : Int)), ("amounts", .ref p)])) := But.upd
  obtain ⟨kv, k1, k2⟩ := hW
  refine q p _ (fun c o hc e nt => hB _ _ hc (hS _ _ e nt)) (tabsI_but hT1 hB hx1) hp ⟨dx, upd_same⟩ ⟨kv, hB _ _ (fun z => by rw [z, hx1] at k1; cases k1) k1, k2.stay fun y ys s => butI_tup hB hx1 s⟩
theorem ok_Machine_do {f : Addr} {fd : FuncData} (F : Fun K "do" "Machine.do" s_Machine_do f fd) (m_M_follow : ∀ d : MK, MCal P w K mg base CX0 6 (CD_M d) "follow" ["self", "deed"] (sp_M_follow K CD_D CD_M TT_Over_on_whole TT_Where_on_whole TT_Swap_on_whole d)) (T_M : Txt_M K CD_M) (c_deed_of : Cal P w K mg base (CXE P w) 5 "deed_of" ["words", "n"] (sp_deed_of K CD_D C_NoDeed C_NoWire)) : FnOk P w K mg base CX0 7 f fd ["self", "words"] (sp_Machine_do K CD_D CD_M TT_Over_on_whole TT_Where_on_whole TT_Swap_on_whole) := by
  refine F.ok sc_Machine_do (fun vs H Q E h => ?_) (fun cdv A outer s H vs Q E hr h => ?_)
  · obtain ⟨_, _, _, _, _, _, rfl, _⟩ := h
    rfl
  obtain ⟨x, w, a, n, d, ws, rfl, ⟨dx, hx⟩, hw, ok, hn, hA, nd, hl, hT, q⟩ := h
  refine ⟨_, (pss_one (ps_expr (pe_md m_M_follow hr pass0 (pv 0) (pa_cons (pe_fn c_deed_of hr passE0 (pa_cons (pv 1) (pa_cons (pe_fld (pv 0) rfl) pa_nil))) pa_nil)))), ?_⟩
  have wd : WdAt H w d.k (d.w.map fun x : Nat => (x : Int)) := ⟨by rw [← vn_ints]; exact hw, by rw [List.length_map]; exact ok.len, nodup_int ok.nd⟩
  have rng : ∀ i ∈ d.w.map (fun x : Nat => (x : Int)), 0 ≤ i ∧ i < (n : Int) := fun i hi => by
    obtain ⟨x, hx, rfl⟩ := List.mem_map.mp hi
    have := ok.lt x hx
    omega
  fail "st"
  fail "go"
  refine st_md1 hx rfl ?_
  fail "go"
  refine st_fld1 hx (T_M.cl .ex) (T_M.n_n .ex) rfl ?_
  fail "go"
  refine ⟨_, n, rfl, .inr ⟨w, d.k, _, rfl, wd, fun _ pd d3 H3 hS3 hd3 hk3 hw3 => ?_, fun z => (z rng).elim⟩⟩
  obtain rfl : d3 = d := dd_eq hk3 hw3
  fail "go"
  refine ⟨x, pd, a, n, d3, ws, rfl, ⟨dx, hS3 _ _ hx⟩, hd3, ok.nd, fun i hi => by have := ok.lt i hi; omega, hA.stay hS3, nd, hl, hT.to hS3, fun p H4 hB hT4 hp hE hW => ?_⟩
  fail "go"
  exact q p H4 (fun c o hc e nt => hB _ _ hc (hS3 _ _ e) nt) hT4 (none_ofX hS3 hp) hE hW
theorem ok__law_cell_at {f : Addr} {fd : FuncData} (F : Fun K "_law_cell_at" "_law_cell_at" s__law_cell_at f fd) (b_len : mg "len" = none) : FnOk P w K mg base CX0 1 f fd ["_law_script", "_law_k"] (sp__law_cell_at K) := by
  refine F.ok sc__law_cell_at (fun vs H Q E h => ?_) (fun cdv A outer s H vs Q E hr h => ?_)
  · obtain ⟨_, _, _, rfl, _⟩ := h
    rfl
  obtain ⟨a, k, ns, rfl, ha, q⟩ := h
  refine ⟨_, (pss_cons (ps_if (pt_cmpR (op_lt) (pv 1) (pe_callB (call_lenQ) rfl b_len PySem.boot_len (pa_cons (pv 0) pa_nil)) (nomark _)) (pss_one (ps_ret (pe_ix (ix_list) (pv 0) (pv 1) (fun _ _ => rfl)))) pss_nil)
      (pss_one (ps_ret pe_int))), ?_⟩
  fail "st"
  fail "go"
  refine iteD (fun c => ?_) (fun c => ?_)
  · rw [List.length_map] at c
    obtain ⟨x, ex⟩ := at_i (cs := ns) (i := k) (by omega)
    fail "go"
    exact q x
  · fail "go"
    exact q 0
theorem ok__law_mixed {f : Addr} {fd : FuncData} (F : Fun K "_law_mixed" "_law_mixed" s__law_mixed f fd)  : FnOk P w K mg base CX0 1 f fd ["_law_draw", "_law_k"] (sp__law_mixed K) := by
  refine F.ok sc__law_mixed (fun vs H Q E h => ?_) (fun cdv A outer s H vs Q E hr h => ?_)
  · obtain ⟨_, _, rfl, _⟩ := h
    rfl
  obtain ⟨c, k, rfl, hk, q⟩ := h
  refine ⟨_, (pss_cons (ps_set (i := 2) sc__law_mixed.nd rfl (Or.inl rfl) (pe_op (op_mod) (pe_op (op_mulV) (pe_op (op_add) (pe_op (op_add) (pe_op (op_mod) (pv 0) pe_int) (pe_op (op_mulV) pe_int (pv 1))) pe_int) pe_int) pe_int))
      (pss_one (ps_ret (pe_op (op_mod) (pe_op (op_mulV) (pv 2) (pe_op (op_add) (pe_op (op_fdivW) (pv 2) pe_int) pe_int)) pe_int)))), ?_⟩
  fail "go"
  refine st_i ⟨by omega, by omega⟩ ?_
  fail "go"
  refine st_i ⟨by omega, by omega⟩ ?_
  fail "go"
  refine st_i ⟨by omega, by omega⟩ ?_
  fail "go"
  have key : ∀ x : Int, Q (.int (x % 2147483629)) H := fun x => by
    obtain ⟨m, e, hm⟩ := emod_nat x (n := 2147483629) (by decide)
    have e2 : x % 2147483629 = (m : Int) := e
    rw [e2]
    exact q m hm
  first
  | exact key _
  | (rename_i m em hm; exact q m hm)
theorem ok__law_words {f : Addr} {fd : FuncData} (F : Fun K "_law_words" "_law_words" s__law_words f fd) (c__law_mixed : Cal P w K mg base CX0 1 "_law_mixed" ["_law_draw", "_law_k"] (sp__law_mixed K)) : FnOk P w K mg base CX0 2 f fd ["_law_draw", "_law_n"] (sp__law_words K) := by
  refine F.ok sc__law_words (fun vs H Q E h => ?_) (fun cdv A outer s H vs Q E hr h => ?_)
  · obtain ⟨_, _, rfl, _⟩ := h
    rfl
  obtain ⟨c, n, rfl, h0, hn, q⟩ := h
  refine ⟨_, (pss_cons (ps_set (i := 2) sc__law_words.nd rfl (Or.inl rfl) (pe_op (op_mod) (pe_fn c__law_mixed hr pass0 (pa_cons (pv 0) (pa_cons pe_int pa_nil))) pe_int))
      (pss_cons (ps_set (i := 3) sc__law_words.nd rfl (Or.inl rfl) (pe_op (op_mod) (pe_fn c__law_mixed hr pass0 (pa_cons (pv 0) (pa_cons pe_int pa_nil))) (pv 1)))
      (pss_cons (ps_if (PW.pt (pw_or (pt_cmpR (op_eq) (pv 1) pe_int (nomark _)) (pw_or1 (pt_cmpR (op_lt) (pv 2) pe_int (nomark _))))) (pss_one (ps_ret (pe_tup (pa_cons (pe_ix (ix_list) (pe_lst (pa_cons pe_str (pa_cons pe_str (pa_cons pe_str (pa_cons pe_str (pa_cons pe_str pa_nil)))))) (pe_op (op_mod) (pv 2) pe_int) (fun _ _ => rfl)) (pa_cons (pv 3) pa_nil))))) pss_nil)
      (pss_cons (ps_set (i := 4) sc__law_words.nd rfl (Or.inl rfl) (pe_op (op_mod) (pe_op (op_add) (pe_op (op_add) (pv 3) pe_int) (pe_op (op_mod) (pe_fn c__law_mixed hr pass0 (pa_cons (pv 0) (pa_cons pe_int pa_nil))) (pe_op (op_sub) (pv 1) pe_int))) (pv 1)))
      (pss_one (ps_ret (pe_tup (pa_cons (pe_ix (ix_list) (pe_lst (pa_cons pe_str (pa_cons pe_str (pa_cons pe_str (pa_cons pe_str pa_nil))))) (pe_op (op_sub) (pv 2) pe_int) (fun _ _ => rfl)) (pa_cons (pv 4) (pa_cons (pv 3) pa_nil)))))))))), ?_⟩
  fail "st"
  fail "go"
  refine ⟨c, 1, rfl, by decide, fun m1 h1 => ?_⟩
  fail "go"
  refine ⟨c, 2, rfl, by decide, fun m2 h2 => ?_⟩
  fail "go"
  rename_i t et ht
  refine iteD (fun c1 => ?_) (fun c1 => ?_)
  · fail "go"
    rename_i pl kpl
    obtain ⟨m5, e5, h5⟩ := emod_nat ((m1 : Int) % 9) (n := 5) (by decide)
    rw [show (m1 : Int) % 9 % 5 = (m5 : Int) from e5]
    refine st_ixL (SqL.of upd_same) (at_k5 h5) ?_
    fail "go"
    rename_i p2 hp2
    exact q p2 _ ⟨k5 m5, [t]⟩ (by fail "sm") upd_same ⟨(k5_n m5).symm, fun x hx => by rw [List.mem_singleton.mp hx]; exact ht, by simp⟩
  · fail "go"
    refine iteD (fun c2 => ?_) (fun c2 => ?_)
    · fail "go"
      rename_i pl kpl
      obtain ⟨m5, e5, h5⟩ := emod_nat ((m1 : Int) % 9) (n := 5) (by decide)
      rw [show (m1 : Int) % 9 % 5 = (m5 : Int) from e5]
      refine st_ixL (SqL.of upd_same) (at_k5 h5) ?_
      fail "go"
      rename_i p2 hp2
      exact q p2 _ ⟨k5 m5, [t]⟩ (by fail "sm") upd_same ⟨(k5_n m5).symm, fun x hx => by rw [List.mem_singleton.mp hx]; exact ht, by simp⟩
    · fail "go"
      refine ⟨c, 3, rfl, by decide, fun m3 h3 => ?_⟩
      fail "go"
      rename_i j ej hj pl kpl
      obtain ⟨m4, e4⟩ : ∃ m4 : Nat, (m1 : Int) % 9 - 5 = (m4 : Int) := ⟨((m1 : Int) % 9 - 5).toNat, by omega⟩
      rw [e4]
      refine st_ixL (SqL.of upd_same) (at_k4 (by omega)) ?_
      fail "go"
      rename_i p2 hp2
      have hji : t ≠ j := ne_modI ht (Int.emod_nonneg _ (by omega)) (Int.emod_lt_of_pos _ (by omega)) ej
      refine q p2 _ ⟨k4 m4, [j, t]⟩ (by fail "sm") upd_same ⟨(k4_n m4).symm, fun x hx => ?_, by simp [Ne.symm hji]⟩
      rcases List.mem_cons.mp hx with rfl | hx
      · exact hj
      · rw [List.mem_singleton.mp hx]
        exact ht
theorem ok__law_quarters {f : Addr} {fd : FuncData} (F : Fun K "_law_quarters" "_law_quarters" s__law_quarters f fd) (b_range : mg "range" = none) : FnOk P w K mg base CX0 1 f fd ["_law_number", "_law_quarters_here"] (sp__law_quarters K) := by
  refine F.ok sc__law_quarters (fun vs H Q E h => ?_) (fun cdv A outer s H vs Q E hr h => ?_)
  · obtain ⟨_, _, _, rfl, _⟩ := h
    rfl
  obtain ⟨a, o, p, rfl, ha, q⟩ := h
  refine ⟨_, (pss_cons (ps_asg (pv 0) (pg_tup rfl (pgs_cons (pg_name (i := 2) sc__law_quarters.nd rfl (Or.inl rfl)) (pgs_cons (pg_name (i := 3) sc__law_quarters.nd rfl (Or.inl rfl)) pgs_nil))))
      (pss_cons (ps_for PassesOwn.never rfl (pi_range1 rfl b_range (pa_cons (pe_op (op_mod) (pv 1) pe_int) pa_nil)) (pg_name (i := 4) sc__law_quarters.nd rfl (Or.inl rfl)) (pss_one (ps_par (i := 2) (j := 3) rfl sc__law_quarters.nd rfl rfl (by decide) rfl rfl (pa_cons (pe_op (op_sub) pe_int (pv 3)) (pa_cons (pv 2) pa_nil)) rfl)))
      (pss_one (ps_ret (pe_tup (pa_cons (pv 2) (pa_cons (pv 3) pa_nil))))))), ?_⟩
  fail "st"
  have em : (o : Int) % 4 = ((o % 4 : Nat) : Int) := by omega
  fail "go"
  refine st_for_range (n := o % 4) (by omega) (fun P h => ?_) (fun i σ H' => ∃ (u : Option V), σ = [some (.ref a), some (.int (o : Int)), some (.int (turn i p).1), some (.int (turn i p).2), u] ∧ Same H H') ⟨_, rfl, Same.refl _⟩ ?_ ?_
  · fail "go"
    first | exact h | (rw [em]; exact h)
  · rintro i σ H' hi ⟨u, rfl, hS⟩
    refine st_par ?_
    fail "go"
    refine ⟨_, _, rfl, ?_⟩
    show ∃ u, _ ∧ _
    rw [turn_step]
    exact ⟨_, rfl, hS⟩
  · rintro σ H' ⟨u, rfl, hS⟩
    rw [← turn_mod4 o p] at q
    fail "go"
    rename_i t ht
    exact q t _ (hS.trans (same_new ht _)) upd_same
theorem ok__law_bits {f : Addr} {fd : FuncData} (F : Fun K "_law_bits" "_law_bits" s__law_bits f fd) (c__law_mixed : Cal P w K mg base CX0 1 "_law_mixed" ["_law_draw", "_law_k"] (sp__law_mixed K)) : FnOk P w K mg base CX0 2 f fd ["_law_draw", "_law_k", "_law_n"] (sp__law_bits K) := by
  refine F.ok sc__law_bits (fun vs H Q E h => ?_) (fun cdv A outer s H vs Q E hr h => ?_)
  · obtain ⟨_, _, _, rfl, _⟩ := h
    rfl
  obtain ⟨c, k, n, rfl, hk, hn, q⟩ := h
  refine ⟨_, (pss_cons (ps_set (i := 3) sc__law_bits.nd rfl (Or.inl rfl) (pe_op (op_add) (pe_op (op_mulV) (pe_fn c__law_mixed hr pass0 (pa_cons (pv 0) (pa_cons (pv 1) pa_nil))) pe_int) (pe_fn c__law_mixed hr pass0 (pa_cons (pv 0) (pa_cons (pe_op (op_add) (pv 1) pe_int) pa_nil)))))
      (pss_one (ps_ret (pe_op (op_mod) (pv 3) (pe_op (op_shl) pe_int (pv 2)))))), ?_⟩
  fail "go"
  refine ⟨c, k, rfl, by omega, fun m1 h1 => ?_⟩
  fail "go"
  refine st_i ⟨by omega, by omega⟩ ?_
  fail "go"
  refine ⟨c, k + 1, by push_cast; rfl, by omega, fun m2 h2 => ?_⟩
  fail "go"
  rename_i m em hm
  exact q m hm
theorem ok__law_signs {f : Addr} {fd : FuncData} (F : Fun K "_law_signs" "_law_signs" s__law_signs f fd) (c__law_bits : Cal P w K mg base CX0 2 "_law_bits" ["_law_draw", "_law_k", "_law_n"] (sp__law_bits K)) (c__law_mixed : Cal P w K mg base CX0 1 "_law_mixed" ["_law_draw", "_law_k"] (sp__law_mixed K)) : FnOk P w K mg base CX0 3 f fd ["_law_draw", "_law_n"] (sp__law_signs K) := by
  refine F.ok sc__law_signs (fun vs H Q E h => ?_) (fun cdv A outer s H vs Q E hr h => ?_)
  · obtain ⟨_, _, rfl, _⟩ := h
    rfl
  obtain ⟨c, n, rfl, h0, hn, q⟩ := h
  refine ⟨_, (pss_cons (ps_set (i := 2) sc__law_signs.nd rfl (Or.inl rfl) (pe_fn c__law_bits hr pass0 (pa_cons (pv 0) (pa_cons pe_int (pa_cons (pv 1) pa_nil)))))
      (pss_cons (ps_set (i := 3) sc__law_signs.nd rfl (Or.inl rfl) (pe_fn c__law_bits hr pass0 (pa_cons (pv 0) (pa_cons pe_int (pa_cons (pv 1) pa_nil)))))
      (pss_cons (ps_set (i := 4) sc__law_signs.nd rfl (Or.inl rfl) (pe_op (op_mod) (pe_fn c__law_mixed hr pass0 (pa_cons (pv 0) (pa_cons pe_int pa_nil))) pe_int))
      (pss_cons (ps_if (pt_cmpR (op_lt) (pv 4) pe_int (nomark _)) (pss_cons (ps_set (i := 5) sc__law_signs.nd rfl (Or.inl rfl) (pe_op (op_shl) pe_int (pe_op (op_mod) (pe_fn c__law_mixed hr pass0 (pa_cons (pv 0) (pa_cons pe_int pa_nil))) (pv 1))))
      (pss_cons (ps_set (i := 6) sc__law_signs.nd rfl (Or.inl rfl) (pe_op (op_shl) pe_int (pe_op (op_mod) (pe_fn c__law_mixed hr pass0 (pa_cons (pv 0) (pa_cons pe_int pa_nil))) (pv 1))))
      (pss_cons (ps_set (i := 2) sc__law_signs.nd rfl (Or.inl rfl) (pe_ix (ix_list) (pe_lst (pa_cons pe_int (pa_cons (pv 5) (pa_cons (pv 5) (pa_cons (pe_op (op_or) (pv 5) (pv 6)) pa_nil))))) (pe_op (op_mod) (pe_fn c__law_mixed hr pass0 (pa_cons (pv 0) (pa_cons pe_int pa_nil))) pe_int) (fun _ _ => rfl)))
      (pss_one (ps_set (i := 3) sc__law_signs.nd rfl (Or.inl rfl) (pe_ix (ix_list) (pe_lst (pa_cons (pv 5) (pa_cons pe_int (pa_cons (pv 5) (pa_cons (pv 6) pa_nil))))) (pe_op (op_mod) (pe_fn c__law_mixed hr pass0 (pa_cons (pv 0) (pa_cons pe_int pa_nil))) pe_int) (fun _ _ => rfl))))))) pss_nil)
      (pss_cons (ps_if (PW.pt (pw_and (pt_cmpR (op_eq) (pv 2) pe_int (nomark _)) (pw_and1 (pt_cmpR (op_eq) (pv 3) pe_int (nomark _))))) (pss_one (ps_set (i := 3) sc__law_signs.nd rfl (Or.inl rfl) pe_int)) pss_nil)
      (pss_one (ps_ret (pe_tup (pa_cons (pv 2) (pa_cons (pv 3) pa_nil)))))))))), ?_⟩
  fail "st"
  fail "go"
  refine ⟨c, 10, n, rfl, by omega, hn, fun xs hxs => ?_⟩
  fail "go"
  refine ⟨c, 12, n, rfl, by omega, hn, fun zs hzs => ?_⟩
  fail "go"
  refine ⟨c, 14, rfl, by omega, fun m1 h1 => ?_⟩
  fail "go"
  refine iteD (fun _ => ?_) (fun _ => ?_)
  · fail "go"
    refine ⟨c, 15, rfl, by omega, fun m2 h2 => ?_⟩
    fail "go"
    refine ⟨c, 16, rfl, by omega, fun m3 h3 => ?_⟩
    fail "go"
    rename_i t1 et1 ht1 t2 et2 ht2 l1 kl1
    refine ⟨c, 17, rfl, by omega, fun m4 h4 => ?_⟩
    fail "go"
    have L0 : 0 < 2 ^ n := Nat.two_pow_pos n
    have L1 : 2 ^ t1 < 2 ^ n := Nat.pow_lt_pow_right (by decide) ht1
    have L2 : 2 ^ t2 < 2 ^ n := Nat.pow_lt_pow_right (by decide) ht2
    have one : 1 < 2 ^ n := Nat.one_lt_two_pow (by omega)
    obtain ⟨x1, lx1, ex1⟩ : ∃ x : Nat, x < 2 ^ n ∧ atI [V.int 0, .int ((2 ^ t1 : Nat) : Int), .int ((2 ^ t1 : Nat) : Int), .int ((2 ^ t1 ||| 2 ^ t2 : Nat) : Int)] ((m4 : Int) % 4) = some (.int (x : Int)) := at4b m4 L0 L1 L1 (Nat.or_lt_two_pow L1 L2)
    fail "go"
    rename_i l2 kl2
    refine ⟨c, 18, rfl, by omega, fun m5 h5 => ?_⟩
    fail "go"
    obtain ⟨x2, lx2, ex2⟩ : ∃ x : Nat, x < 2 ^ n ∧ atI [V.int ((2 ^ t1 : Nat) : Int), .int 0, .int ((2 ^ t1 : Nat) : Int), .int ((2 ^ t2 : Nat) : Int)] ((m5 : Int) % 4) = some (.int (x : Int)) := at4b m5 L1 L0 L1 L2
    fail "go"
    refine iteD (fun _ => ?_) (fun _ => ?_)
    · fail "go"
      refine iteD (fun _ => ?_) (fun _ => ?_)
      · fail "go"
        rename_i p hp
        exact q p _ x1 1 (by fail "sm") upd_same lx1 one
      · fail "go"
        rename_i p hp
        exact q p _ x1 x2 (by fail "sm") upd_same lx1 lx2
    · fail "go"
      rename_i p hp
      exact q p _ x1 x2 (by fail "sm") upd_same lx1 lx2
  · have S0 := Same.refl H
    fail "go"
    refine iteD (fun _ => ?_) (fun _ => ?_)
    · fail "go"
      refine iteD (fun _ => ?_) (fun _ => ?_)
      · fail "go"
        rename_i p hp
        exact q p _ xs 1 (S0.trans (same_new hp _)) upd_same hxs (Nat.one_lt_two_pow (by omega))
      · fail "go"
        rename_i p hp
        exact q p _ xs zs (S0.trans (same_new hp _)) upd_same hxs hzs
    · fail "go"
      rename_i p hp
      exact q p _ xs zs (S0.trans (same_new hp _)) upd_same hxs hzs
theorem ok__law_ones {f : Addr} {fd : FuncData} (F : Fun K "_law_ones" "_law_ones" s__law_ones f fd)  : FnOk P w K mg base CX0 1 f fd ["_law_number"] (sp__law_ones K) := by
  refine F.ok sc__law_ones (fun vs H Q E h => ?_) (fun cdv A outer s H vs Q E hr h => ?_)
  · obtain ⟨_, rfl, _⟩ := h
    rfl
  obtain ⟨n, rfl, q⟩ := h
  refine ⟨_, (pss_cons (ps_set (i := 1) sc__law_ones.nd rfl (Or.inl rfl) pe_int)
      (pss_cons (ps_while PassesOwn.never (pt_cmpR (op_gt) (pv 0) pe_int (nomark _)) (pss_cons (ps_set (i := 0) sc__law_ones.nd rfl (Or.inl rfl) (pe_op (op_and) (pv 0) (pe_op (op_sub) (pv 0) pe_int)))
      (pss_one (ps_set (i := 1) sc__law_ones.nd rfl (Or.inl rfl) (pe_op (op_add) (pv 1) pe_int)))))
      (pss_one (ps_ret (pv 1))))), ?_⟩
  fail "go"
  refine ⟨fun m σ H' => ∃ k r : Nat, σ = [some (.int r), some (.int k)] ∧ H' = H ∧ m = r ∧ k + pop r = pop n, ⟨n, 0, n, rfl, rfl, rfl, by omega⟩, ?_⟩
  rintro m σ H' ⟨k, r, rfl, rfl, rfl, e⟩
  fail "go"
  refine iteD (fun c => ?_) (fun c => ?_)
  · have c' : 0 < m := by omega
    refine ⟨fun σ' H1 => ∃ k r : Nat, σ' = [some (.int r), some (.int k)] ∧ H1 = H' ∧ r < m ∧ k + pop r = pop n, fun σ' H1 ⟨k, r, e1, e2, e3, e4⟩ => ⟨r, e3, k, r, e1, e2, rfl, e4⟩, ?_⟩
    fail "go"
    rw [bitAnd_pred c']
    have := pop_pred m c'
    exact ⟨k + 1, m &&& (m - 1), rfl, rfl, and_pred_lt c', by omega⟩
  · have c' : m = 0 := by omega
    subst c'
    rw [pop_zero, Nat.add_zero] at e
    subst e
    fail "go"
    exact q
theorem ok__law_acted {f : Addr} {fd : FuncData} (F : Fun K "_law_acted" "_law_acted" s__law_acted f fd) (c__law_quarters : Cal P w K mg base CX0 1 "_law_quarters" ["_law_number", "_law_quarters_here"] (sp__law_quarters K)) (c__law_ones : Cal P w K mg base CX0 1 "_law_ones" ["_law_number"] (sp__law_ones K)) : FnOk P w K mg base CX0 2 f fd ["_law_whole", "_law_row"] (sp__law_acted K) := by
  refine F.ok sc__law_acted (fun vs H Q E h => ?_) (fun cdv A outer s H vs Q E hr h => ?_)
  · obtain ⟨_, _, _, _, rfl, _⟩ := h
    rfl
  obtain ⟨a, w, ws, r, rfl, ⟨kvs, ha, hWR⟩, ok, hl, hw, q⟩ := h
  refine ⟨_, (pss_cons (ps_asg (pv 1) (pg_tup rfl (pgs_cons (pg_name (i := 2) sc__law_acted.nd rfl (Or.inl rfl)) (pgs_cons (pg_name (i := 3) sc__law_acted.nd rfl (Or.inl rfl)) (pgs_cons (pg_name (i := 4) sc__law_acted.nd rfl (Or.inl rfl)) pgs_nil)))))
      (pss_cons (ps_set (i := 5) sc__law_acted.nd rfl (Or.inl rfl) pe_dnew)
      (pss_cons (ps_thaw (ps_for PassesOwn.never rfl (pi_items (pv 0)) (pg_tup rfl (pgs_cons (pg_name (i := 6) sc__law_acted.nd rfl (Or.inl rfl)) (pgs_cons (pg_name (i := 7) sc__law_acted.nd rfl (Or.inl rfl)) pgs_nil))) (pss_cons (ps_set (i := 8) sc__law_acted.nd rfl (Or.inl rfl) (pe_op (op_add) (pe_op (op_mul) pe_int (pe_op (op_add) (pv 2) (pe_fn c__law_ones hr pass0 (pa_cons (pe_op (op_and) (pv 6) (pv 4)) pa_nil)))) (pe_fn c__law_ones hr pass0 (pa_cons (pe_op (op_and) (pv 3) (pv 4)) pa_nil))))
      (pss_one (ps_dput (hu_of hr) (pv 5) (pe_op (op_xor) (pv 6) (pv 3)) (pe_fn c__law_quarters hr pass0 (pa_cons (pv 7) (pa_cons (pv 8) pa_nil))) rfl)))))
      (pss_one (ps_ret (pv 5)))))), ?_⟩
  fail "st"
  have hwU := hw
  unfold Row.V at hwU
  fail "go"
  rename_i p hp
  have hpa : p ≠ a := Ne.symm (ne_of_none ha hp)
  refine st_for_items (fun P h => ⟨_, rfl, h⟩) (same_new hp _ _ _ ha) (fun o i σ H' => ∃ (u0 u1 u2 : Option V) (kvs' : List (Key × V)), σ = [some (.ref a), some (.ref w), some (.int r.m), some (.int r.x), some (.int r.z), some (.ref p), u0, u1, u2] ∧ H' a = some (.frz o (.dK kvs)) ∧ H' p = some (.dK kvs') ∧ WR K H' ((ws.take i).map (tE r)) kvs' ∧ But a H H') ?_ ?_ ?_ ?_
  · intro o
    refine ⟨none, none, none, [], rfl, upd_same, by rw [upd_ne hpa]; exact upd_same, .nil, fun c o' hc e => ?_⟩
    rw [upd_ne hc]
    exact same_new hp _ _ _ e
  · rintro o i σ H' ⟨u0, u1, u2, kvs', _, h1, _⟩
    exact h1
  · rintro o i k v σ H' x hget ⟨u0, u1, u2, kvs', rfl, h1, h2, h3, h5⟩ hx
    obtain ⟨b, pp, a', e1, rfl, rfl, sq⟩ := hWR.get hget
    have hil : i < ws.length := (List.getElem?_eq_some_iff.mp e1).1
    have sq' : SqT K (upd H' x (.tup [kV (.inl ((b : Nat) : Int)), .ref a'])) a' [.int pp.1, .int pp.2] := (same_new hx _).tup (h5.tup ha _ _ sq)
    have hw' := (same_new hx (.tup [kV (.inl ((b : Nat) : Int)), .ref a'])).tup (h5.tup ha _ _ hw)
    have hp2 := same_new hx (.tup [kV (.inl ((b : Nat) : Int)), .ref a']) _ _ h2
    have ha2 := same_new hx (.tup [kV (.inl ((b : Nat) : Int)), .ref a']) _ _ h1
    have hB2 : But a H (upd H' x (.tup [kV (.inl ((b : Nat) : Int)), .ref a'])) := fun c o' hc e => same_new hx _ _ _ (h5 _ _ hc e)
    have h3' := h3.stay (K := K) (H' := upd H' x (.tup [kV (.inl ((b : Nat) : Int)), .ref a'])) (fun y ys s => (same_new hx _).tup s)
    have ht0 : SqT K (upd H' x (.tup [kV (.inl ((b : Nat) : Int)), .ref a'])) x [.int ((b : Nat) : Int), .ref a'] := SqT.of upd_same
    generalize upd H' x (.tup [kV (.inl ((b : Nat) : Int)), .ref a']) = G at sq' hw' hp2 ha2 hB2 h3' ht0 ⊢
    have hw2 := hw'
    unfold Row.V at hw2
    fail "go"
    refine ⟨_, rfl, ?_⟩
    fail "go"
    refine ⟨_, rfl, ?_⟩
    have e2 : (2 : Int) * ((r.m : Int) + ((pop (b &&& r.z) : Nat) : Int)) + ((pop (r.x &&& r.z) : Nat) : Int) = ((trn r b : Nat) : Int) := by
      unfold trn
      rw [Nat.and_comm b]
      push_cast
      omega
    fail "go"
    rw [e2]
    refine ⟨a', trn r b, pp, rfl, sq', fun t G2 hS2 ht2 => ?_⟩
    fail "go"
    have hpG := hS2 _ _ hp2
    have h3G := h3'.stay (K := K) (H' := G2) fun y ys s => hS2.tup s
    have hB : But p G2 (upd G2 p (.dK (putK kvs' (.inl ((b ^^^ r.x : Nat) : Int)) (.ref t)))) := But.upd
    have hlen := h3'.len
    rw [List.length_map, List.length_take] at hlen
    refine ⟨p, _, rfl, dput_z hpG (by omega), _, _, _, _, rfl, hB _ _ (Ne.symm hpa) (hS2 _ _ ha2), upd_same, ?_, fun c o' hc e => hB _ _ (ne_of_none e hp) (hS2 _ _ (hB2 _ _ hc e))⟩
    rw [tE_step ok e1]
    exact (h3G.stay (fun y ys s => hB.tup hpG y ys s)).put (hB.tup hpG _ _ (SqT.of ht2))
  · rintro o σ H' ⟨u0, u1, u2, kvs', rfl, h1, h2, h3, h5⟩
    fail "go"
    rw [hWR.len, List.take_length] at h3
    refine q p _ (fun c o' e => ?_) hp ⟨kvs', by rw [upd_ne hpa]; exact h2, h3.stay (frz_tup h1)⟩
    by_cases hc : c = a
    · subst hc
      rw [ha] at e
      rw [upd_same]
      exact e
    · rw [upd_ne hc]
      exact h5 _ _ hc e
theorem ok__law_weight {f : Addr} {fd : FuncData} (F : Fun K "_law_weight" "_law_weight" s__law_weight f fd) (b_list : mg "list" = none) : FnOk P w K mg base CX0 1 f fd ["_law_whole", "_law_other", "_law_sign"] (sp__law_weight K) := by
  refine F.ok sc__law_weight (fun vs H Q E h => ?_) (fun cdv A outer s H vs Q E hr h => ?_)
  · obtain ⟨_, _, _, _, _, _, rfl, _⟩ := h
    rfl
  obtain ⟨a, b, s, W, O, t, rfl, hab, hW, hO, ndW, lW, lO, hst, bW, bO, q⟩ := h
  refine ⟨_, (pss_cons (ps_set (i := 3) sc__law_weight.nd rfl (Or.inl rfl) pe_int)
      (pss_cons (ps_for PassesOwn.never rfl (pi_list (pe_op (op_cat) (pe_callTy (call_listD rfl) rfl b_list boot_list (pa_cons (pv 0) pa_nil)) (pe_thaw (pe_compS (sc := defScope s__law_weight) ["_law_whole", "_law_other", "_law_sign", "_law_found", "?4", "_law_one", "_law_two"] ["_law_whole", "_law_other", "_law_sign", "_law_found", "_law_here", "_law_one", "_law_two"] rfl rfl ⟨rfl, by decide +kernel, rfl, by decide +kernel, by decide +kernel, by decide +kernel, by decide +kernel⟩ (by show ("_law_here" : Str) ∉ (["_law_whole", "_law_other", "_law_sign", "_law_found", "?4", "_law_one", "_law_two"] : List Str); decide +kernel) (by show (".0" : Str) ∉ (["_law_whole", "_law_other", "_law_sign", "_law_found", "?4", "_law_one", "_law_two"] : List Str); decide +kernel) (by decide +kernel) rfl (by decide +kernel) rfl (pi_keys (pv 1)) (fun _ _ _ _ => (pif_one (pt_cmpR (op_notInD (hu_of hr)) (pv 0) (pv 1) rfl))) (fun _ _ _ _ => (pv 0)))))) (pg_name (i := 4) sc__law_weight.nd rfl (Or.inl rfl)) (pss_cons (ps_set (i := 5) sc__law_weight.nd rfl (Or.inl rfl) (pe_dget2 (hu_of hr) (pv 0) (pv 4) (pe_tup (pa_cons pe_int (pa_cons pe_int pa_nil))) ⟨rfl, rfl, rfl, rfl⟩))
      (pss_cons (ps_set (i := 6) sc__law_weight.nd rfl (Or.inl rfl) (pe_dget2 (hu_of hr) (pv 1) (pv 4) (pe_tup (pa_cons pe_int (pa_cons pe_int pa_nil))) ⟨rfl, rfl, rfl, rfl⟩))
      (pss_one (ps_set (i := 3) sc__law_weight.nd rfl (Or.inl rfl) (pe_op (op_add) (pe_op (op_add) (pv 3) (pe_op (op_powV) (pe_op (op_add) (pe_ix (ix_tup) (pv 5) pe_int (fun _ _ => rfl)) (pe_op (op_mulV) (pv 2) (pe_ix (ix_tup) (pv 6) pe_int (fun _ _ => rfl)))) pe_int)) (pe_op (op_powV) (pe_op (op_add) (pe_ix (ix_tup) (pv 5) pe_int (fun _ _ => rfl)) (pe_op (op_mulV) (pv 2) (pe_ix (ix_tup) (pv 6) pe_int (fun _ _ => rfl)))) pe_int)))))))
      (pss_one (ps_ret (pv 3))))), ?_⟩
  obtain ⟨kvW, ha, rW⟩ := id hW
  obtain ⟨kvO, hb, rO⟩ := id hO
  fail "st"
  fail "go"
  refine st_forE ?_
  fail "go"
  refine ⟨a, kvW, rfl, .inl ha, fun p1 hp1 => ?_⟩
  rw [rW.ks]
  have S1 := same_new hp1 (.lst (vn (W.map (·.1))))
  have g1 : (upd H p1 (.lst (vn (W.map (·.1))))) p1 = some (.lst (vn (W.map (·.1)))) := upd_same
  generalize upd H p1 (.lst (vn (W.map (·.1)))) = G1 at S1 g1 ⊢
  have hb1 := S1 _ _ hb
  have ha1 := S1 _ _ ha
  fail "go"
  refine st_cpK (fun P h => ⟨_, rfl, h⟩) hb1 (by rw [rO.len]; omega) (fun o i ys H' => But b G1 H' ∧ H' b = some (.frz o (.dK kvO)) ∧ ys = vn (((O.take i).map (·.1)).filter fun c => decide (c ∉ W.map (·.1)))) (fun o => ⟨But.upd, upd_same, rfl⟩) ?_ ?_ ?_ ?_
  · rintro o i ys H' ⟨_, _, rfl⟩
    rw [vn_len]
    refine Nat.le_trans (List.length_filter_le _ _) ?_
    rw [List.length_map, List.length_take]
    omega
  · rintro o i ys H' ⟨_, h2, _⟩
    exact h2
  · rintro o i k v ys H' hget ⟨hB, h2, rfl⟩
    obtain ⟨c, pp, a', e1, rfl, rfl, sq⟩ := rO.get hget
    have ha2 := hB _ _ hab ha1
    fail "go"
    refine ⟨a, _, rfl, dget_z (.inl ha2), ?_⟩
    rw [rW.has c]
    fail "go"
    refine iteN (fun hc => ?_) (fun hc => ?_)
    · fail "go"
      refine ⟨hB, h2, ?_⟩
      rw [List.take_succ, e1, Option.toList_some, List.map_append, List.filter_append, ← vn_app, List.map_cons, List.map_nil, List.filter_cons_of_pos (by simpa using hc)]
      rfl
    · refine ⟨hB, h2, ?_⟩
      rw [List.take_succ, e1, Option.toList_some, List.map_append, List.filter_append, ← vn_app, List.map_cons, List.map_nil, List.filter_cons_of_neg (by simpa using hc)]
      exact (List.append_nil _).symm
  · rintro o ys H' ⟨hB, h2, rfl⟩ p2 hp2
    rw [rO.len, List.take_length]
    have hp2b : p2 ≠ b := fun z => by rw [z, h2] at hp2; cases hp2
    have S2 : Same G1 (upd (upd H' p2 (.lst (vn ((O.map (·.1)).filter fun c => decide (c ∉ W.map (·.1)))))) b (.dK kvO)) := fun c o' e => by
      by_cases hc : c = b
      · subst hc
        rw [hb1] at e
        rw [upd_same]
        exact e
      · rw [upd_ne hc]
        exact same_new hp2 _ _ _ (hB _ _ hc e)
    have g2 : (upd (upd H' p2 (.lst (vn ((O.map (·.1)).filter fun c => decide (c ∉ W.map (·.1)))))) b (.dK kvO)) p2 = some (.lst (vn ((O.map (·.1)).filter fun c => decide (c ∉ W.map (·.1))))) := by rw [upd_ne hp2b]; exact upd_same
    generalize upd (upd H' p2 (.lst (vn ((O.map (·.1)).filter fun c => decide (c ∉ W.map (·.1)))))) b (.dK kvO) = G2 at S2 g2 ⊢
    have g12 := S2 _ _ g1
    have lf : ((O.map (·.1)).filter fun c => decide (c ∉ W.map (·.1))).length ≤ 90 := Nat.le_trans (List.length_filter_le _ _) (by rw [List.length_map]; exact lO)
    have lw : (W.map (·.1)).length ≤ 90 := by rw [List.length_map]; exact lW
    fail "go"
    refine st_cat g12 g2 (by rw [vn_len, vn_len]; omega) fun p3 hp3 => ?_
    rw [vn_app, show W.map (·.1) ++ (O.map (·.1)).filter (fun c => decide (c ∉ W.map (·.1))) = both2 W O from rfl]
    have S3 := S2.trans (same_new hp3 (.lst (vn (both2 W O))))
    have g3 : (upd G2 p3 (.lst (vn (both2 W O)))) p3 = some (.lst (vn (both2 W O))) := upd_same
    generalize upd G2 p3 (.lst (vn (both2 W O))) = G3 at S3 g3 ⊢
    have S03 := S1.trans S3
    have rW3 := rW.stay (H' := G3) fun y ys s => S03.tup s
    have rO3 := rO.stay (H' := G3) fun y ys s => S03.tup s
    have ha3 := S03 _ _ ha
    have hb3 := S03 _ _ hb
    have bs : s.natAbs < 2 ^ 100 := by rcases hst with ⟨rfl, _⟩ | ⟨rfl, _⟩ <;> decide
    have bd : ∀ x y : Int, x.natAbs ≤ 2 ^ 81 → y.natAbs ≤ 2 ^ 81 → (x + s * y).natAbs < 2 ^ 300 := by
      rcases hst with ⟨rfl, _⟩ | ⟨rfl, _⟩ <;> intro x y h1 h2 <;> omega
    have b2 : ∀ y : Int, y.natAbs ≤ 2 ^ 81 → y.natAbs < 2 ^ 100 := fun y h => Nat.lt_of_le_of_lt h (by decide)
    refine st_forAt (SqL.of g3) (fun i σ H' => ∃ u4 u5 u6 : Option V, σ = [some (.ref a), some (.ref b), some (.int s), some (.int (sumZ (((both2 W O).take i).map fun c => nq (pad (wv W c) (turn t (wv O c)))))), u4, u5, u6] ∧ Same G3 H') ⟨none, none, none, rfl, Same.refl _⟩ ?_ ?_ ?_
    · rintro i σ H' _ ⟨u4, u5, u6, _, hS⟩
      exact SqL.of (hS _ _ g3)
    · rintro i x σ H' hx ⟨u4, u5, u6, rfl, hS⟩
      obtain ⟨c, ec, rfl⟩ : ∃ c, (both2 W O)[i]? = some c ∧ x = .int ((c : Nat) : Int) := by
        unfold vn at hx
        rw [List.getElem?_map] at hx
        cases hg : (both2 W O)[i]? with
        | none => rw [hg] at hx; cases hx
        | some c => rw [hg] at hx; cases hx; exact ⟨c, rfl, rfl⟩
      fail "go"
      refine ⟨a, rfl, .inl ⟨kvW, .inl (hS _ _ ha3)⟩, ?_⟩
      fail "go"
      rename_i z1 hz1
      have T1 := hS.trans (same_new hz1 (.tup [.int 0, .int 0]))
      refine ⟨_, dget_z (.inl (T1 _ _ ha3)), ?_⟩
      obtain ⟨t1, et1, st1⟩ := (rW3.stay fun y ys s => T1.tup s).getD (SqT.of upd_same) c
      rw [et1]
      generalize upd H' z1 (.tup [.int 0, .int 0]) = J1 at T1 st1 ⊢
      fail "go"
      refine ⟨b, rfl, .inl ⟨kvO, .inl (T1 _ _ hb3)⟩, ?_⟩
      fail "go"
      rename_i z2 hz2
      have n2 := same_new hz2 (.tup [.int 0, .int 0])
      have T2 := T1.trans n2
      refine ⟨_, dget_z (.inl (T2 _ _ hb3)), ?_⟩
      obtain ⟨t2, et2, st2⟩ := (rO3.stay fun y ys s => T2.tup s).getD (SqT.of upd_same) c
      rw [et2]
      have st1 := n2.tup st1
      generalize upd J1 z2 (.tup [.int 0, .int 0]) = J2 at T2 st1 st2 ⊢
      fail "go"
      refine st_i (cmulV bs (b2 _ (bO c).1)) ?_
      fail "go"
      refine st_i ⟨rfl, bd _ _ (bW c).1 (bO c).1⟩ ?_
      fail "go"
      refine st_i (cmulV bs (b2 _ (bO c).2)) ?_
      fail "go"
      refine st_i ⟨rfl, bd _ _ (bW c).2 (bO c).2⟩ ?_
      fail "go"
      rw [sq_turn hst, ← sumZ_snoc ec (fun c => nq (pad (wv W c) (turn t (wv O c))))]
      exact ⟨_, _, _, rfl, T2⟩
    · rintro σ H' ⟨u4, u5, u6, rfl, hS⟩
      rw [vn_len, List.take_length]
      fail "go"
      exact q _ (S03.trans hS)
theorem ok__law_right {f : Addr} {fd : FuncData} (F : Fun K "_law_right" "_law_right" s__law_right f fd) (c__law_acted : Cal P w K mg base CX0 2 "_law_acted" ["_law_whole", "_law_row"] (sp__law_acted K)) (b_dict : mg "dict" = none) (c_halves_by : Cal P w K mg base CX0 5 "halves_by" ["whole", "row"] (sp_halves_by K)) (c__law_weight : Cal P w K mg base CX0 1 "_law_weight" ["_law_whole", "_law_other", "_law_sign"] (sp__law_weight K)) (b_all : mg "all" = none) (b_isinstance : mg "isinstance" = none) (b_tuple : mg "tuple" = none) (b_int : mg "int" = none) (b_bool : mg "bool" = none) : FnOk P w K mg base CX0 6 f fd ["_law_whole", "_law_row"] (sp__law_right K) := by
  refine F.ok sc__law_right (fun vs H Q E h => ?_) (fun cdv A outer s H vs Q E hr h => ?_)
  · obtain ⟨_, _, _, _, _, rfl, _⟩ := h
    rfl
  obtain ⟨a, w, ws, r, n, rfl, hW, wf, ok, hw, q⟩ := h
  refine ⟨_, (pss_cons (ps_set (i := 2) sc__law_right.nd rfl (Or.inl rfl) (pe_fn c__law_acted hr pass0 (pa_cons (pv 0) (pa_cons (pv 1) pa_nil))))
      (pss_cons (ps_set (i := 3) sc__law_right.nd rfl (Or.inl rfl) (pe_callTy (call_dictQ) rfl b_dict boot_dict (pa_cons (pv 0) pa_nil)))
      (pss_cons (ps_set (i := 4) sc__law_right.nd rfl (Or.inl rfl) (pe_fn c_halves_by hr pass0 (pa_cons (pv 3) (pa_cons (pv 1) pa_nil))))
      (pss_cons (ps_set (i := 5) sc__law_right.nd rfl (Or.inl rfl) (pe_tup (pa_cons (pe_fn c__law_weight hr pass0 (pa_cons (pv 0) (pa_cons (pv 2) (pa_cons pe_int pa_nil)))) (pa_cons (pe_fn c__law_weight hr pass0 (pa_cons (pv 0) (pa_cons (pv 2) (pa_cons (pe_un un_neg pe_int) pa_nil)))) pa_nil))))
      (pss_cons (ps_if (PW.pt (pw_or (pt_not (pt_val (pe_isBT rfl b_isinstance (pv 4) b_tuple boot_tuple))) (pw_or (pt_cmpR (op_neD (hu_of64 hr)) (pv 4) (pv 5) (nomark _)) (pw_or1 (pt_cmpR (op_neM (hu_of64 hr)) (pv 3) (pv 0) (nomark _)))))) (pss_one (ps_ret pe_bl)) pss_nil)
      (pss_cons (ps_if (pt_not (pt_val (pe_callB (call_allB rfl) rfl b_all boot_all (pa_cons (pe_comp (sc := defScope s__law_right) rfl ⟨rfl, by decide +kernel, rfl, by decide +kernel, by decide +kernel, by decide +kernel, by decide +kernel⟩ (by show ("_law_part" : Str) ∉ (["_law_whole", "_law_row", "_law_other", "_law_handed", "_law_found", "_law_due"] : List Str); decide +kernel) (by show (".0" : Str) ∉ (["_law_whole", "_law_row", "_law_other", "_law_handed", "_law_found", "_law_due"] : List Str); decide +kernel) sc__law_right.nd rfl (pi_tup (pv 4)) (fun _ _ _ _ => pif_nil) (fun _ _ _ _ => (pe_and (pe_isBK (K := K) rfl rfl b_isinstance (pv 0) b_int boot_int) (pe_one (pe_not (pe_isBK (K := K) rfl rfl b_isinstance (pv 0) b_bool boot_bool)))))) pa_nil)))) (pss_one (ps_ret pe_bl)) pss_nil)
      (pss_one (ps_ret (pe_cmpR (op_eqD (hu_of64 hr)) (pe_fn c_halves_by hr pass0 (pa_cons (pv 0) (pa_cons (pe_tup (pa_cons (pe_op (op_sub) pe_int (pe_ix (ix_tup) (pv 1) pe_int (fun _ _ => rfl))) (pa_cons (pe_ix (ix_tup) (pv 1) pe_int (fun _ _ => rfl)) (pa_cons (pe_ix (ix_tup) (pv 1) pe_int (fun _ _ => rfl)) pa_nil)))) pa_nil))) (pe_tup (pa_cons (pe_ix (ix_tup) (pv 5) pe_int (fun _ _ => rfl)) (pa_cons (pe_ix (ix_tup) (pv 5) pe_int (fun _ _ => rfl)) pa_nil))) (nomark _)))))))))), ?_⟩
  have hl := wf.len
  fail "st"
  have hwv := hw
  unfold Row.V at hwv
  fail "go"
  refine ⟨a, w, ws, r, rfl, hW, wf.nd, by omega, hw, fun po H1 hS1 hp1 hO1 => ?_⟩
  obtain ⟨kvW, ha, rW⟩ := id (hW.stay hS1)
  fail "go"
  refine st_dict ha fun ph hph => ?_
  have S2 := hS1.trans (same_new hph (.dK kvW))
  have hH2 : WhAt K (upd H1 ph (.dK kvW)) ph ws := ⟨kvW, upd_same, rW.stay fun y ys s => (same_new hph _).tup s⟩
  have hO2 := hO1.stay (same_new hph (.dK kvW))
  generalize upd H1 ph (.dK kvW) = G2 at S2 hH2 hO2 ⊢
  fail "go"
  refine ⟨ph, w, ws, r, n, rfl, hH2, wf, ok, S2.tup hw, fun pf H3 hS3 hpf => ?_⟩
  have S3 := S2.trans hS3
  have hap : a ≠ po := fun z => by obtain ⟨kv, e, _⟩ := hW; rw [z, hp1] at e; cases e
  have bO : Bn (2 ^ 81) (wv (ws.map (tE r))) := by
    rw [tE_rowE ok, rowE_wv wf.nd]
    intro c
    have := turn_le (qq r (c ^^^ r.x) n) (wf.bn (c ^^^ r.x))
    exact ⟨Nat.le_trans this.1 (by decide), Nat.le_trans this.2 (by decide)⟩
  have bW : Bn (2 ^ 81) (wv ws) := fun c => ⟨Nat.le_trans (wf.bn c).1 (by decide), Nat.le_trans (wf.bn c).2 (by decide)⟩
  fail "go"
  refine ⟨a, po, 1, ws, ws.map (tE r), 0, rfl, hap, hW.stay S3, hO2.stay hS3, wf.nd, by omega, by rw [List.length_map]; omega, .inl ⟨rfl, rfl⟩, bW, bO, fun H4 hS4 => ?_⟩
  rw [both2_half ok wf.nd wf.lt 0 (.inl rfl), if_pos rfl]
  have S4 := S3.trans hS4
  fail "go"
  refine ⟨a, po, -1, ws, ws.map (tE r), 2, rfl, hap, hW.stay S4, (hO2.stay hS3).stay hS4, wf.nd, by omega, by rw [List.length_map]; omega, .inr ⟨rfl, rfl⟩, bW, bO, fun H5 hS5 => ?_⟩
  rw [both2_half ok wf.nd wf.lt 2 (.inr rfl), if_neg (by decide)]
  have S5 := S4.trans hS5
  have f5 := hS5 _ _ (hS4 _ _ hpf)
  have hH5 := ((hH2.stay hS3).stay hS4).stay hS5
  fail "go"
  rename_i pd hpd
  have n6 := same_new hpd (.tup [.int (wgt (half r ws)), .int (wgt (half (mi r) ws))])
  have S6 := S5.trans n6
  have d6 : (upd H5 pd (.tup [.int (wgt (half r ws)), .int (wgt (half (mi r) ws))])) pd = some (.tup [.int (wgt (half r ws)), .int (wgt (half (mi r) ws))]) := upd_same
  have f6 := n6 _ _ f5
  have hH6 := hH5.stay n6
  generalize upd H5 pd (.tup [.int (wgt (half r ws)), .int (wgt (half (mi r) ws))]) = G6 at S6 d6 f6 hH6 ⊢
  clear n6
  refine st_isiT (SqT.of f6) kit_tuple_tuple ?_
  have sf6 : SqT K G6 pf [.int (wgt (half r ws)), .int (wgt (half (mi r) ws))] := SqT.of f6
  have sd6 : SqT K G6 pd [.int (wgt (half r ws)), .int (wgt (half (mi r) ws))] := SqT.of d6
  fail "go"
  refine iteN (fun c => (c rfl).elim) (fun _ => ?_)
  fail "go"
  refine whAt_neN hH6 (hW.stay S6) wf.nd ?_
  fail "go"
  refine st_comp_tup (fun P h => ⟨_, rfl, h⟩) sf6 (fun i ys H' => H' = G6 ∧ ys = (List.replicate i true).map V.bl) (by simp) ⟨rfl, rfl⟩ ?_ ?_ ?_ ?_
  · rintro i ys H' ⟨_, rfl⟩
    simp
  · rintro i ys H' ⟨rfl, _⟩
    exact sf6
  · rintro i y ys H' hy ⟨rfl, rfl⟩
    obtain ⟨z, rfl⟩ : ∃ z : Int, y = .int z := by
      have := List.mem_of_getElem? hy
      simp only [List.mem_cons, List.not_mem_nil, or_false] at this
      rcases this with z | z <;> exact ⟨_, z⟩
    refine st_yes ?_
    fail "go"
    refine ⟨rfl, ?_⟩
    rw [List.replicate_succ', List.map_append]
    rfl
  rintro ys H' ⟨rfl, rfl⟩ p8 hp8
  fail "go"
  refine st_all (bs := List.replicate 2 true) (SqL.of upd_same) ?_
  fail "go"
  rw [if_neg (by decide)]
  have n8 := same_new hp8 (.lst ((List.replicate [V.int (wgt (half r ws)), .int (wgt (half (mi r) ws))].length true).map V.bl))
  generalize upd H' p8 (.lst ((List.replicate [V.int (wgt (half r ws)), .int (wgt (half (mi r) ws))].length true).map V.bl)) = G8 at n8 ⊢
  have S8 := S6.trans n8
  have hwv8 := S8.tup hwv
  have sd8 := n8.tup sd6
  fail "go"
  rename_i p9 hp9
  have em : (1 : Int) - (r.m : Int) = ((mi r).m : Int) := by
    have := ok.m
    show (1 : Int) - (r.m : Int) = ((r.m ^^^ 1 : Nat) : Int)
    rcases (show r.m = 0 ∨ r.m = 1 by omega) with h | h <;> rw [h] <;> decide
  rw [em]
  have n9 := same_new hp9 (.tup [.int ((mi r).m : Int), .int (r.x : Int), .int (r.z : Int)])
  have g9 : SqT K (upd G8 p9 (.tup [.int ((mi r).m : Int), .int (r.x : Int), .int (r.z : Int)])) p9 (mi r).V := SqT.of upd_same
  generalize upd G8 p9 (.tup [.int ((mi r).m : Int), .int (r.x : Int), .int (r.z : Int)]) = G9 at n9 g9 ⊢
  have S9 := S8.trans n9
  have sd9 := n9.tup sd8
  refine ⟨a, p9, ws, mi r, n, rfl, hW.stay S9, wf, mi_ok ok, g9, fun p10 H10 hS10 hp10 => ?_⟩
  rw [mi_mi ok.m] at hp10
  have sd10 := hS10.tup sd9
  have sf10 : SqT K H10 p10 [.int (wgt (half (mi r) ws)), .int (wgt (half r ws))] := SqT.of hp10
  fail "go"
  rename_i p11 hp11
  rw [decide_eq_true rfl]
  exact q _ ((S9.trans hS10).trans (same_new hp11 _))
theorem ok_law {f : Addr} {fd : FuncData} (F : Fun K "law" "law" s_law f fd) (k_Exact : KCal P w K mg base (CXE P w) 3 "Exact" (CD_M .ex) ["self", "n"] (sp_Exact___init__ K CD_M)) (T_M : Txt_M K CD_M) (m_M_whole : ∀ d : MK, MCal P w K mg base CX0 1 (CD_M d) "whole" ["self"] (sp_M_whole K CD_M d)) (m_M_do : ∀ d : MK, MCal P w K mg base CX0 7 (CD_M d) "do" ["self", "words"] (sp_M_do K CD_D CD_M TT_Over_on_whole TT_Where_on_whole TT_Swap_on_whole d)) (b_range : mg "range" = none) (c_halves_by : Cal P w K mg base CX0 5 "halves_by" ["whole", "row"] (sp_halves_by K)) (c__law_cell_at : Cal P w K mg base CX0 1 "_law_cell_at" ["_law_script", "_law_k"] (sp__law_cell_at K)) (c__law_words : Cal P w K mg base CX0 2 "_law_words" ["_law_draw", "_law_n"] (sp__law_words K)) (c__law_bits : Cal P w K mg base CX0 2 "_law_bits" ["_law_draw", "_law_k", "_law_n"] (sp__law_bits K)) (c__law_signs : Cal P w K mg base CX0 3 "_law_signs" ["_law_draw", "_law_n"] (sp__law_signs K)) (c__law_right : Cal P w K mg base CX0 6 "_law_right" ["_law_whole", "_law_row"] (sp__law_right K)) (c_whole_weight : Cal P w K mg base CX0 1 "whole_weight" ["whole"] (sp_whole_weight K)) (c__law_mixed : Cal P w K mg base CX0 1 "_law_mixed" ["_law_draw", "_law_k"] (sp__law_mixed K)) : FnOk P w K mg base CX0 8 f fd ["_law_script"] (sp_law K TT_Over_on_whole TT_Where_on_whole TT_Swap_on_whole) := by
  refine F.ok sc_law (fun vs H Q E h => ?_) (fun cdv A outer s H vs Q E hr h => ?_)
  · obtain ⟨_, _, rfl, _⟩ := h
    rfl
  obtain ⟨a, ns, rfl, ha, hns, hT, q⟩ := h
  refine ⟨_, (pss_cons (ps_set (i := 1) sc_law.nd rfl (Or.inl rfl) (pe_op (op_add) pe_int (pe_op (op_mod) (pe_fn c__law_cell_at hr pass0 (pa_cons (pv 0) (pa_cons pe_int pa_nil))) pe_int)))
      (pss_cons (ps_set (i := 2) sc_law.nd rfl (Or.inl rfl) (pe_new k_Exact hr passE0 (pa_cons (pv 1) pa_nil)))
      (pss_cons (ps_for PassesOwn.never rfl (pi_list (pe_slice (sl_list) (pv 0) (po_some pe_int) (po_some pe_int))) (pg_name (i := 3) sc_law.nd rfl (Or.inl rfl)) (pss_one (ps_expr (pe_md m_M_do hr pass0 (pv 2) (pa_cons (pe_fn c__law_words hr pass0 (pa_cons (pv 3) (pa_cons (pv 1) pa_nil))) pa_nil)))))
      (pss_cons (ps_set (i := 4) sc_law.nd rfl (Or.inl rfl) (pe_md0 m_M_whole hr pass0 (pv 2)))
      (pss_cons (ps_set (i := 5) sc_law.nd rfl (Or.inl rfl) pe_dnew)
      (pss_cons (ps_for PassesOwn.never rfl (pi_list (pe_slice (sl_list) (pv 0) (po_some pe_int) (po_some pe_int))) (pg_name (i := 3) sc_law.nd rfl (Or.inl rfl)) (pss_one (ps_dput (hu_of hr) (pv 5) (pe_fn c__law_bits hr pass0 (pa_cons (pv 3) (pa_cons pe_int (pa_cons (pv 1) pa_nil)))) (pe_tup (pa_cons (pe_op (op_sub) (pe_op (op_mod) (pv 3) (pe_op (op_pow) pe_int pe_int)) pe_int) (pa_cons (pe_op (op_add) (pe_op (op_mod) (pe_fn c__law_mixed hr pass0 (pa_cons (pv 3) (pa_cons pe_int pa_nil))) pe_int) pe_int) pa_nil))) rfl)))
      (pss_cons (ps_for PassesOwn.never rfl (pi_range1 rfl b_range (pa_cons pe_int pa_nil)) (pg_name (i := 6) sc_law.nd rfl (Or.inl rfl)) (pss_cons (ps_set (i := 7) sc_law.nd rfl (Or.inl rfl) (pe_op (op_add) (pe_fn c__law_cell_at hr pass0 (pa_cons (pv 0) (pa_cons pe_int pa_nil))) (pe_op (op_mul) pe_int (pv 6))))
      (pss_cons (ps_set (i := 8) sc_law.nd rfl (Or.inl rfl) (pe_op (op_catT) (pe_tup (pa_cons (pe_op (op_mod) (pv 7) pe_int) pa_nil)) (pe_fn c__law_signs hr pass0 (pa_cons (pe_op (op_fdivW) (pv 7) pe_int) (pa_cons (pv 1) pa_nil)))))
      (pss_cons (ps_if (PW.pt (pw_or (pt_not (pt_val (pe_fn c__law_right hr pass0 (pa_cons (pv 4) (pa_cons (pv 8) pa_nil))))) (pw_or1 (PW.pt (pw_and (pt_cmpR (op_neM (hu_of64 hr)) (pv 5) pe_dnew (nomark _)) (pw_and1 (pt_not (pt_val (pe_fn c__law_right hr pass0 (pa_cons (pv 5) (pa_cons (pv 8) pa_nil))))))))))) (pss_one (ps_ret pe_bl)) pss_nil)
      (pss_cons (ps_set (i := 9) sc_law.nd rfl (Or.inl rfl) (pe_fn c_halves_by hr pass0 (pa_cons (pv 4) (pa_cons (pv 8) pa_nil))))
      (pss_cons (ps_if (pt_cmpR (op_ne) (pe_op (op_add) (pe_ix (ix_tup) (pv 9) pe_int (fun _ _ => rfl)) (pe_ix (ix_tup) (pv 9) pe_int (fun _ _ => rfl))) (pe_op (op_mul) pe_int (pe_fn c_whole_weight hr pass0 (pa_cons (pv 4) pa_nil))) (nomark _)) (pss_one (ps_ret pe_bl)) pss_nil)
      (pss_one (ps_if (PW.pt (pw_and (pt_cmpR (op_ne) (pe_ix (ix_tup) (pv 9) pe_int (fun _ _ => rfl)) (pe_ix (ix_tup) (pv 9) pe_int (fun _ _ => rfl)) (nomark _)) (pw_and1 (pt_cmpR (op_notIn_seq) pe_int (pv 9) rfl)))) (pss_one (ps_ret pe_bl)) pss_nil))))))))
      (pss_one (ps_ret (pe_cmpR (op_eqD (hu_of64 hr)) (pe_fn c_halves_by hr pass0 (pa_cons (pv 4) (pa_cons (pe_tup (pa_cons pe_int (pa_cons pe_int (pa_cons pe_int pa_nil)))) pa_nil))) (pe_tup (pa_cons (pe_op (op_mul) pe_int (pe_fn c_whole_weight hr pass0 (pa_cons (pv 4) pa_nil))) (pa_cons pe_int pa_nil))) (nomark _))))))))))), ?_⟩
  fail "st"
  fail "go"
  refine ⟨a, 0, ns, rfl, ha, fun c0 => ?_⟩
  obtain ⟨n, en, h0, h6i⟩ := one_mod c0 6 (by decide) (by decide)
  have h6 : n ≤ 6 := by omega
  fail "go"
  rw [en]
  intro x0 dx0 hx0 hdx0 hne0
  refine ⟨x0, n, rfl, h0, h6, dx0, upd_same, fun a0 H1 hB1 hz1 hE1 hW1 => ⟨rfl, ?_⟩⟩
  have S1 : Same H H1 := fun c o e => hB1 _ _ (ne_of_none e hx0) (same_made hx0 hdx0 _ _ e)
  fail "go"
  refine st_forE ?_
  fail "go"
  rename_i ps hps
  obtain ⟨ms, ems, lms⟩ := cut_intsG ns 2 22
  rw [show cutV (ns.map V.int) (some 2) (some 22) = ms.map V.int from ems]
  have SA : Same H1 (upd H1 ps (.lst (ms.map V.int))) := same_new hps _
  have gs : (upd H1 ps (.lst (ms.map V.int))) ps = some (.lst (ms.map V.int)) := upd_same
  generalize upd H1 ps (.lst (ms.map V.int)) = G at SA gs ⊢
  have hsA : SqL K G a (ns.map V.int) := (S1.trans SA).seq ha
  refine st_forAt (SqL.of gs) (fun i σ H' => ∃ (u3 : Option V) (a1 : Addr) (ws : Wh), σ = [some (.ref a), some (.int n), some (.ref x0), u3, none, none, none, none, none, none] ∧ H' ps = some (.lst (ms.map V.int)) ∧ SqL K H' a (ns.map V.int) ∧ ExAt CD_M H' x0 n a1 ∧ WhAt K H' a1 ws ∧ Wn n ws ∧ Bn (2 ^ i) (wv ws) ∧ Fair n (wv ws) ∧ Tabs TT_Over_on_whole TT_Where_on_whole TT_Swap_on_whole H') ⟨none, a0, _, rfl, gs, hsA, hE1.stay SA, hW1.stay SA, Wn.start n, Bn.start, Fair.start n, hT.to (S1.trans SA)⟩ ?_ ?_ ?_
  · rintro i σ H' _ ⟨u3, a1, ws, rfl, h1, _⟩
    exact SqL.of h1
  · rintro i x σ H' hx ⟨u3, a1, ws, rfl, hs, hsa, hE, hA, wn, bn, fr, hTT⟩
    obtain ⟨c, rfl⟩ := int_get hx
    have wl := wn.len h6
    obtain ⟨dxe, hxe⟩ := id hE
    fail "go"
    refine st_md1 hxe rfl ?_
    fail "go"
    refine ⟨c, n, rfl, h0, by omega, fun pw Hw dd hSw hw okd => ?_⟩
    fail "go"
    have hxw := hSw _ _ hxe
    refine ⟨x0, pw, a1, n, dd, ws, rfl, ⟨dxe, hxw⟩, hw, okd, h6, hA.stay hSw, wn.nd, by omega, hTT.to hSw, fun p H4 hB4 hT4 hp4 hE4 hW4 => ?_⟩
    have hs3 := hSw _ _ hs
    have hs4 := hB4 _ _ (fun z => by rw [z, hxw] at hs3; cases hs3) hs3 (by intro ps z; cases z)
    have sl4 := butT_sl hB4 hxw (hSw.seq hsa)
    have bn4 : Bn (2 ^ (i + 1)) (wv (wnz (deedF dd ws))) := by
      have := bn.deed wn.nd okd
      rw [Nat.mul_comm, ← Nat.pow_succ] at this
      exact this
    fail "go"
    exact ⟨_, p, _, rfl, hs4, sl4, hE4, hW4, wn.deed okd, bn4, fr.done wn okd, hT4⟩
  · rintro σ H' ⟨u3, a1, ws, rfl, hs, hsa, hE, hA, wn, bn, fr, hTT⟩
    obtain ⟨dxe, hxe⟩ := id hE
    fail "go"
    refine st_md1 hxe rfl ?_
    fail "go"
    refine ⟨x0, a1, n, ws, rfl, hE, hA, fun pw H2 hS2 hp2 hW2 => ?_⟩
    fail "go"
    rename_i po hpo
    have n3 := same_new hpo (.dK [])
    have go0 : (upd H2 po (.dK [])) po = some (.dK []) := upd_same
    have hW3 := hW2.stay n3
    have sl3 := (hS2.trans n3).seq hsa
    have hpp : pw ≠ po := fun z => by obtain ⟨kv, e, _⟩ := hW2; rw [z, hpo] at e; cases e
    generalize upd H2 po (.dK []) = G3 at n3 go0 hW3 sl3 ⊢
    refine st_forE ?_
    fail "go"
    rename_i p8 hp8
    obtain ⟨ls, els, lls⟩ := cut_intsG ns 2 8
    rw [show cutV (ns.map V.int) (some 2) (some 8) = ls.map V.int from els]
    have n4 := same_new hp8 (.lst (ls.map V.int))
    have gl : (upd G3 p8 (.lst (ls.map V.int))) p8 = some (.lst (ls.map V.int)) := upd_same
    have go4 := n4 _ _ go0
    have hW4 := hW3.stay n4
    have sl4 := n4.seq sl3
    generalize upd G3 p8 (.lst (ls.map V.int)) = G4 at n4 gl go4 hW4 sl4 ⊢
    have wl := wn.len h6
    have wfw : Wf n ws := ⟨wn.nd, wn.lt, bn.mono (Nat.pow_le_pow_right (by decide) (by rw [List.length_map]; omega)), h6⟩
    refine st_forAt (SqL.of gl) (fun i σ H' => ∃ (u3 : Option V) (kvs : List (Key × V)) (wo : Wh), σ = [some (.ref a), some (.int n), some (.ref x0), u3, some (.ref pw), some (.ref po), none, none, none, none] ∧ H' p8 = some (.lst (ls.map V.int)) ∧ SqL K H' a (ns.map V.int) ∧ WhAt K H' pw ws ∧ H' po = some (.dK kvs) ∧ WR K H' wo kvs ∧ Wf n wo) ⟨_, [], [], rfl, gl, sl4, hW4, go4, .nil, ⟨by simp, fun _ z => (nomatch z), fun c => by rw [wv_nil]; exact ⟨Nat.zero_le _, Nat.zero_le _⟩, h6⟩⟩ ?_ ?_ ?_
    · rintro i σ H5 _ ⟨u3, kvs, wo, _, g8, _⟩
      exact SqL.of g8
    · rintro i x σ H5 hx ⟨u3, kvs, wo, rfl, g8, sl, hWp, gpo, wr, wo5⟩
      obtain ⟨c, rfl⟩ := int_get hx
      have lo := wo5.len
      fail "go"
      refine ⟨c, 31, rfl, by decide, fun m hm => ?_⟩
      fail "go"
      rename_i pt hpt
      refine ⟨c, 20, n, rfl, by decide, by omega, fun k hk => ?_⟩
      fail "go"
      have n5 := same_new hpt (.tup [.int (c % 10 ^ Int.toNat 20 - 7), .int ((m : Int) % 9 + 1)])
      have gt : (upd H5 pt (.tup [.int (c % 10 ^ Int.toNat 20 - 7), .int ((m : Int) % 9 + 1)])) pt = some (.tup [.int (c % 10 ^ Int.toNat 20 - 7), .int ((m : Int) % 9 + 1)]) := upd_same
      generalize upd H5 pt (.tup [.int (c % 10 ^ Int.toNat 20 - 7), .int ((m : Int) % 9 + 1)]) = G5 at n5 gt ⊢
      have gpo5 := n5 _ _ gpo
      have wr5 := wr.stay (H' := G5) fun y ys s => n5.tup s
      refine ⟨po, _, rfl, dput_z gpo5 (by rw [wr.len]; omega), ?_⟩
      have B5 : But po G5 (upd G5 po (.dK (putK kvs (.inl ((k : Nat) : Int)) (.ref pt)))) := But.upd
      have b1 : (c % 10 ^ Int.toNat 20 - 7).natAbs ≤ 2 ^ 80 := by
        have e : (10 : Int) ^ Int.toNat 20 = 100000000000000000000 := by decide
        rw [e]
        omega
      have b2 : ((m : Int) % 9 + 1).natAbs ≤ 2 ^ 80 := by omega
      refine ⟨_, _, wput wo k (c % 10 ^ Int.toNat 20 - 7, (m : Int) % 9 + 1), rfl, B5 _ _ (fun z => by rw [z, gpo] at g8; cases g8) (n5 _ _ g8), butD_sl B5 gpo5 (n5.seq sl), whAt_but (hWp.stay n5) B5 gpo5 hpp, upd_same, (wr5.put (SqT.of gt)).stay (B5.tup gpo5), ⟨wput_nd wo5.nd, wput_lt wo5.lt hk, wo5.bn.put ⟨b1, b2⟩, h6⟩⟩
    · rintro σ H5 ⟨u3, kvs, wo, rfl, g8, sl, hWp, gpo, wr, wo5⟩
      fail "go"
      refine st_for_range (n := 4) (by decide) (fun P h => h) (fun k σ H' => ∃ u3 u6 u7 u8 u9 : Option V, σ = [some (.ref a), some (.int n), some (.ref x0), u3, some (.ref pw), some (.ref po), u6, u7, u8, u9] ∧ Same H5 H') ⟨_, _, _, _, _, rfl, Same.refl _⟩ ?_ ?_
      · rintro k σ H6 hk ⟨u3, u6, u7, u8, u9, rfl, hS6⟩
        fail "go"
        refine ⟨a, 1, ns, rfl, hS6.seq sl, fun c1 => ?_⟩
        fail "go"
        generalize c1 + 31 * (k : Int) = c2
        rename_i p1 hp1
        obtain ⟨m, em, hm⟩ := emod_nat c2 (n := 2) (by decide)
        rw [show c2 % 2 = (m : Int) from em]
        refine ⟨_, n, rfl, h0, by omega, fun pq H7 x z hS7 hpq hx hz => ?_⟩
        have n6 := same_new hp1 (.tup [.int (m : Int)])
        have g61 := hS7 _ _ (upd_same : (upd H6 p1 (.tup [.int (m : Int)])) p1 = some (.tup [.int (m : Int)]))
        have S7 := (hS6.trans n6).trans hS7
        fail "go"
        refine st_catT (SqT.of g61) (SqT.of hpq) (by simp) (by simp) (by simp) fun pr hpr => ?_
        have n8 := same_new hpr (.tup ([V.int (m : Int)] ++ [.int (x : Int), .int (z : Int)]))
        have gr : SqT K (upd H7 pr (.tup ([V.int (m : Int)] ++ [.int (x : Int), .int (z : Int)]))) pr (Row.V ⟨m, x, z⟩) := SqT.of upd_same
        generalize upd H7 pr (.tup ([V.int (m : Int)] ++ [.int (x : Int), .int (z : Int)])) = G8 at n8 gr ⊢
        have S8 := S7.trans n8
        have okr : Row.Ok ⟨m, x, z⟩ n := ⟨by show m ≤ 1; omega, hx, hz⟩
        generalize (⟨m, x, z⟩ : Row) = r at gr okr
        fail "go"
        refine ⟨pw, pr, ws, r, n, rfl, hWp.stay S8, wfw, okr, gr, fun H9 hS9 => ?_⟩
        have S9 := S8.trans hS9
        have gr9 := hS9.tup gr
        fail "go"
        rename_i pe hpe
        have n10 := same_new hpe (.dK [])
        have ge : (upd H9 pe (.dK [])) pe = some (.dK []) := upd_same
        generalize upd H9 pe (.dK []) = G10 at n10 ge ⊢
        have S10 := S9.trans n10
        have gr10 := n10.tup gr9
        refine whAt_ne0 (S10 _ _ gpo) (wr.stay fun y ys s => S10.tup s) wo5.nd ge ?_
        fail "go"
        cases hwo : wo.isEmpty with
        | true =>
          rw [if_neg (by simp)]
          fail "go"
          have sgr := gr10
          refine ⟨pw, pr, ws, r, n, rfl, hWp.stay S10, wfw, okr, sgr, fun ph H12 hS12 hph => ?_⟩
          have S12 := S10.trans hS12
          fail "go"
          refine ⟨pw, ws, rfl, hWp.stay S12, wfw.wok, by omega, fun H13 hS13 => ?_⟩
          have S13 := S12.trans hS13
          have sh : SqT K H13 ph [.int (wgt (half r ws)), .int (wgt (half (mi r) ws))] := SqT.of (hS13 _ _ hph)
          have hsum : wgt (half r ws) + wgt (half (mi r) ws) = 4 * wgt ws := by
            have h := wW_halves okr (wv ws)
            rw [← half_wgt okr wfw.nd wfw.lt, ← half_wgt (mi_ok okr) wfw.nd wfw.lt, ← wgt_wW wfw.nd wfw.lt] at h
            exact h
          have hfair : wgt (half r ws) = wgt (half (mi r) ws) ∨ wgt (half r ws) = 0 ∨ wgt (half (mi r) ws) = 0 := by
            have h := fr r okr
            rw [← half_wgt okr wfw.nd wfw.lt, ← half_wgt (mi_ok okr) wfw.nd wfw.lt] at h
            exact h
          fail "go"
          refine iteN (fun c => (c hsum).elim) (fun _ => ?_)
          fail "go"
          refine iteN (fun c => ?_) (fun _ => ?_)
          · fail "go"
            have hin : inV (.int 0) [.int (wgt (half r ws)), .int (wgt (half (mi r) ws))] = true := by
              rcases hfair with h | h | h
              · exact (c h).elim
              · rw [h]; simp [inV, eqV]
              · rw [h]; simp [inV, eqV]
            refine st_inT sh rfl rfl ?_
            rw [hin]
            refine ⟨false, rfl, ?_⟩
            rw [if_neg (by simp)]
            fail "go"
            exact ⟨_, _, _, _, _, rfl, S13⟩
          · fail "go"
            exact ⟨_, _, _, _, _, rfl, S13⟩
        | false =>
          rw [if_pos (by simp)]
          fail "go"
          refine ⟨po, pr, wo, r, n, rfl, ⟨kvs, S10 _ _ gpo, wr.stay fun y ys s => S10.tup s⟩, wo5, okr, gr10, fun H11 hS11 => ?_⟩
          fail "go"
          have sgr := hS11.tup gr10
          refine ⟨pw, pr, ws, r, n, rfl, hWp.stay (S10.trans hS11), wfw, okr, sgr, fun ph H12 hS12 hph => ?_⟩
          have S12 := (S10.trans hS11).trans hS12
          fail "go"
          refine ⟨pw, ws, rfl, hWp.stay S12, wfw.wok, by omega, fun H13 hS13 => ?_⟩
          have S13 := S12.trans hS13
          have sh : SqT K H13 ph [.int (wgt (half r ws)), .int (wgt (half (mi r) ws))] := SqT.of (hS13 _ _ hph)
          have hsum : wgt (half r ws) + wgt (half (mi r) ws) = 4 * wgt ws := by
            have h := wW_halves okr (wv ws)
            rw [← half_wgt okr wfw.nd wfw.lt, ← half_wgt (mi_ok okr) wfw.nd wfw.lt, ← wgt_wW wfw.nd wfw.lt] at h
            exact h
          have hfair : wgt (half r ws) = wgt (half (mi r) ws) ∨ wgt (half r ws) = 0 ∨ wgt (half (mi r) ws) = 0 := by
            have h := fr r okr
            rw [← half_wgt okr wfw.nd wfw.lt, ← half_wgt (mi_ok okr) wfw.nd wfw.lt] at h
            exact h
          fail "go"
          refine iteN (fun c => (c hsum).elim) (fun _ => ?_)
          fail "go"
          refine iteN (fun c => ?_) (fun _ => ?_)
          · fail "go"
            have hin : inV (.int 0) [.int (wgt (half r ws)), .int (wgt (half (mi r) ws))] = true := by
              rcases hfair with h | h | h
              · exact (c h).elim
              · rw [h]; simp [inV, eqV]
              · rw [h]; simp [inV, eqV]
            refine st_inT sh rfl rfl ?_
            rw [hin]
            refine ⟨false, rfl, ?_⟩
            rw [if_neg (by simp)]
            fail "go"
            exact ⟨_, _, _, _, _, rfl, S13⟩
          · fail "go"
            exact ⟨_, _, _, _, _, rfl, S13⟩
      · rintro σ H6 ⟨u3, u6, u7, u8, u9, rfl, hS6⟩
        fail "go"
        rename_i p1 hp1
        have n7 := same_new hp1 (.tup [.int 0, .int 0, .int 0])
        have ok0 : Row.Ok ⟨0, 0, 0⟩ n := ⟨Nat.zero_le _, Nat.two_pow_pos n, Nat.two_pow_pos n⟩
        refine ⟨pw, p1, ws, ⟨0, 0, 0⟩, n, rfl, hWp.stay (hS6.trans n7), wfw, ok0, SqT.of upd_same, fun p2 H8 hS8 hp8 => ?_⟩
        have S8 := (hS6.trans n7).trans hS8
        fail "go"
        refine ⟨pw, ws, rfl, hWp.stay S8, wfw.wok, by omega, fun H9 hS9 => ?_⟩
        have sf : SqT K H9 p2 [.int (wgt (half ⟨0, 0, 0⟩ ws)), .int (wgt (half (mi ⟨0, 0, 0⟩) ws))] := SqT.of (hS9 _ _ hp8)
        fail "go"
        obtain ⟨e1, e2⟩ := halves_none wfw.nd wfw.lt
        rw [e1, e2, decide_eq_true rfl]
        exact q _
end
theorem all_mk {l : PySem.W.OpenLaw} {w : World} {K : PySem.W.Frag} {h : Heap} {mg : Str → Option Value} {fa f0 f1 f2 f3 f4 f5 f6 f7 f8 f9 f10 f11 f12 f13 f14 f15 f16 f17 f18 f19 f20 f21 f22 f23 f24 f25 f26 f27 f28 f29 f30 f31 f32 f33 f34 f35 f36 f37 f38 f39 f40 f41 f42 f43 f44 f45 f46 f47 : Addr} {od0 an0 od1 an1 od2 an2 od3 an3 od4 an4 od5 an5 od6 an6 od7 an7 od8 an8 od9 an9 od10 an10 od11 an11 od12 an12 od13 an13 od14 an14 od15 an15 od16 an16 od17 an17 od18 an18 od19 an19 od20 an20 od21 an21 od22 an22 od23 an23 od24 an24 od25 an25 od26 an26 od27 an27 od28 an28 od29 an29 od30 an30 od31 an31 od32 an32 od33 an33 od34 an34 od35 an35 od36 an36 od37 an37 od38 an38 od39 an39 od40 an40 od41 an41 od42 an42 od43 an43 od44 an44 od45 an45 od46 an46 od47 an47 : Option Addr} {sl0 sl1 sl2 sl3 sl4 sl5 sl6 sl7 sl8 sl9 sl10 sl11 sl12 sl13 sl14 sl15 sl16 sl17 sl18 sl19 sl20 sl21 sl22 sl23 sl24 sl25 sl26 sl27 sl28 sl29 sl30 sl31 sl32 sl33 sl34 sl35 sl36 sl37 sl38 sl39 sl40 sl41 sl42 sl43 sl44 sl45 sl46 sl47 : Array (Option Value)} {oc0 kV0 dc0 pm0 ct0 cd0 oc1 kV1 dc1 pm1 ct1 cd1 oc2 kV2 dc2 pm2 ct2 cd2 oc3 kV3 dc3 pm3 ct3 cd3 oc4 kV4 dc4 pm4 ct4 cd4 oc5 kV5 dc5 pm5 ct5 cd5 oc6 kV6 dc6 pm6 ct6 cd6 oc7 kV7 dc7 pm7 ct7 cd7 oc8 kV8 dc8 pm8 ct8 oc9 kV9 dc9 pm9 ct9 cd9 oc10 kV10 dc10 pm10 ct10 cd10 oc11 kV11 dc11 pm11 ct11 cd11 oc12 kV12 dc12 pm12 ct12 cd12 oc13 kV13 dc13 pm13 ct13 cd13 oc14 kV14 dc14 pm14 ct14 cd14 oc15 kV15 dc15 pm15 ct15 oc16 kV16 dc16 pm16 ct16 oc17 kV17 dc17 pm17 ct17 cd17 oc18 kV18 dc18 pm18 ct18 cd18 oc19 kV19 dc19 pm19 ct19 cd19 oc20 kV20 dc20 pm20 ct20 cd20 oc21 kV21 dc21 pm21 ct21 cd21 oc22 kV22 dc22 pm22 ct22 cd22 oc23 kV23 dc23 pm23 ct23 cd23 oc24 kV24 dc24 pm24 ct24 cd24 oc25 kV25 dc25 pm25 ct25 cd25 oc26 kV26 dc26 pm26 ct26 cd26 oc27 kV27 dc27 pm27 ct27 cd27 oc28 kV28 dc28 pm28 ct28 cd28 oc29 kV29 dc29 pm29 ct29 cd29 oc30 kV30 dc30 pm30 ct30 cd30 oc31 kV31 dc31 pm31 ct31 cd31 oc32 kV32 dc32 pm32 ct32 cd32 oc33 kV33 dc33 pm33 ct33 cd33 oc34 kV34 dc34 pm34 ct34 cd34 oc35 kV35 dc35 pm35 ct35 cd35 oc36 kV36 dc36 pm36 ct36 cd36 oc37 kV37 dc37 pm37 ct37 cd37 oc38 kV38 dc38 pm38 ct38 cd38 oc39 kV39 dc39 pm39 ct39 cd39 oc40 kV40 dc40 pm40 ct40 cd40 oc41 kV41 dc41 pm41 ct41 cd41 oc42 kV42 dc42 pm42 ct42 cd42 oc43 kV43 dc43 pm43 ct43 cd43 oc44 kV44 dc44 pm44 ct44 cd44 oc45 kV45 dc45 pm45 ct45 cd45 oc46 kV46 dc46 pm46 ct46 cd46 oc47 kV47 dc47 pm47 ct47 cd47 : Value} {cc_Over_on_whole TT_Over_on_whole cc_Where_on_whole TT_Where_on_whole cc_Swap_on_whole TT_Swap_on_whole : Addr} {t_MOST_WIRES_EXACT t_XS t_ZS t_MINUS : Tok} {C_Over C_Quarter C_Back C_Both C_Where C_Swap C_Exact C_Machine C_Deed A_WIRES_BEHIND : Addr} {C_NoWires C_NoDeed C_NoWire : Addr} (KX : K.In h) (G : h.Ns mainGlobals mg) (hfa : mg "law" = some (.ref fa))
    (v_Over : PySem.W.nsIn K mainGlobals "Over" = some (some (.ref C_Over)))
    (v_Quarter : PySem.W.nsIn K mainGlobals "Quarter" = some (some (.ref C_Quarter)))
    (v_Back : PySem.W.nsIn K mainGlobals "Back" = some (some (.ref C_Back)))
    (v_Both : PySem.W.nsIn K mainGlobals "Both" = some (some (.ref C_Both)))
    (v_Where : PySem.W.nsIn K mainGlobals "Where" = some (some (.ref C_Where)))
    (v_Swap : PySem.W.nsIn K mainGlobals "Swap" = some (some (.ref C_Swap)))
    (v_Exact : PySem.W.nsIn K mainGlobals "Exact" = some (some (.ref C_Exact)))
    (v_Machine : PySem.W.nsIn K mainGlobals "Machine" = some (some (.ref C_Machine)))
    (v_Deed : PySem.W.nsIn K mainGlobals "Deed" = some (some (.ref C_Deed)))
    (mt_Machine___init__ : PySem.W.findIn K (.ref C_Machine) "__init__" = some (some (.ref f1)))
    (if_1 : PySem.W.isFn K (.ref f1) = true)
    (mt_Deed___init__ : PySem.W.findIn K (.ref C_Deed) "__init__" = some (some (.ref f19)))
    (if_19 : PySem.W.isFn K (.ref f19) = true)
    (mt_Over_on_whole : PySem.W.findIn K (.ref C_Over) "on_whole" = some (some (.ref f8)))
    (if_8 : PySem.W.isFn K (.ref f8) = true)
    (mt_Quarter_on_whole : PySem.W.findIn K (.ref C_Quarter) "on_whole" = some (some (.ref f11)))
    (if_11 : PySem.W.isFn K (.ref f11) = true)
    (mt_Back_on_whole : PySem.W.findIn K (.ref C_Back) "on_whole" = some (some (.ref f12)))
    (if_12 : PySem.W.isFn K (.ref f12) = true)
    (mt_Both_on_whole : PySem.W.findIn K (.ref C_Both) "on_whole" = some (some (.ref f14)))
    (if_14 : PySem.W.isFn K (.ref f14) = true)
    (mt_Where_on_whole : PySem.W.findIn K (.ref C_Where) "on_whole" = some (some (.ref f15)))
    (if_15 : PySem.W.isFn K (.ref f15) = true)
    (mt_Swap_on_whole : PySem.W.findIn K (.ref C_Swap) "on_whole" = some (some (.ref f16)))
    (if_16 : PySem.W.isFn K (.ref f16) = true)
    (mt_Swap___init__ : PySem.W.findIn K (.ref C_Swap) "__init__" = some (some (.ref f20)))
    (if_20 : PySem.W.isFn K (.ref f20) = true)
    (mt_Over___init__ : PySem.W.findIn K (.ref C_Over) "__init__" = some (some (.ref f21)))
    (if_21 : PySem.W.isFn K (.ref f21) = true)
    (mt_Quarter___init__ : PySem.W.findIn K (.ref C_Quarter) "__init__" = some (some (.ref f22)))
    (if_22 : PySem.W.isFn K (.ref f22) = true)
    (mt_Back___init__ : PySem.W.findIn K (.ref C_Back) "__init__" = some (some (.ref f23)))
    (if_23 : PySem.W.isFn K (.ref f23) = true)
    (mt_Both___init__ : PySem.W.findIn K (.ref C_Both) "__init__" = some (some (.ref f24)))
    (if_24 : PySem.W.isFn K (.ref f24) = true)
    (mt_Where___init__ : PySem.W.findIn K (.ref C_Where) "__init__" = some (some (.ref f25)))
    (if_25 : PySem.W.isFn K (.ref f25) = true)
    (mt_Over_wires : PySem.W.findIn K (.ref C_Over) "wires" = some (some (.ref f18)))
    (if_18 : PySem.W.isFn K (.ref f18) = true)
    (mt_Quarter_wires : PySem.W.findIn K (.ref C_Quarter) "wires" = some (some (.ref f18)))
    (mt_Back_wires : PySem.W.findIn K (.ref C_Back) "wires" = some (some (.ref f18)))
    (mt_Both_wires : PySem.W.findIn K (.ref C_Both) "wires" = some (some (.ref f18)))
    (mt_Where_wires : PySem.W.findIn K (.ref C_Where) "wires" = some (some (.ref f18)))
    (mt_Swap_wires : PySem.W.findIn K (.ref C_Swap) "wires" = some (some (.ref f18)))
    (mt_Exact_follow : PySem.W.findIn K (.ref C_Exact) "follow" = some (some (.ref f17)))
    (if_17 : PySem.W.isFn K (.ref f17) = true)
    (mt_Exact___init__ : PySem.W.findIn K (.ref C_Exact) "__init__" = some (some (.ref f2)))
    (if_2 : PySem.W.isFn K (.ref f2) = true)
    (mt_Exact_whole : PySem.W.findIn K (.ref C_Exact) "whole" = some (some (.ref f3)))
    (if_3 : PySem.W.isFn K (.ref f3) = true)
    (mt_Exact_do : PySem.W.findIn K (.ref C_Exact) "do" = some (some (.ref f29)))
    (if_29 : PySem.W.isFn K (.ref f29) = true)
    (a0 : PySem.W.nsIn K mainGlobals "is_whole_number" = some (some (.ref f0)))
    (l0 : K.lookup f0 = some ⟨oc0, od0, .func (PySem.W.fnOf "is_whole_number" "is_whole_number" (defArgs s_is_whole_number) (defBody s_is_whole_number) (defScope s_is_whole_number) .none kV0 dc0 pm0 an0 cd0 ct0), sl0⟩)
    (q0 : PySem.W.codeIn K cd0 "is_whole_number" = true)
    (k0 : PySem.W.keepIn K (.ref f0) = true)
    (l1 : K.lookup f1 = some ⟨oc1, od1, .func (PySem.W.fnOf "__init__" "Machine.__init__" (defArgs s_Machine___init__) (defBody s_Machine___init__) (defScope s_Machine___init__) .none kV1 dc1 pm1 an1 cd1 ct1), sl1⟩)
    (q1 : PySem.W.codeIn K cd1 "Machine.__init__" = true)
    (k1 : PySem.W.keepIn K (.ref f1) = true)
    (l2 : K.lookup f2 = some ⟨oc2, od2, .func (PySem.W.fnOf "__init__" "Exact.__init__" (defArgs s_Exact___init__) (defBody s_Exact___init__) (defScope s_Exact___init__) .none kV2 dc2 pm2 an2 cd2 ct2), sl2⟩)
    (q2 : PySem.W.codeIn K cd2 "Exact.__init__" = true)
    (k2 : PySem.W.keepIn K (.ref f2) = true)
    (l3 : K.lookup f3 = some ⟨oc3, od3, .func (PySem.W.fnOf "whole" "Exact.whole" (defArgs s_Exact_whole) (defBody s_Exact_whole) (defScope s_Exact_whole) .none kV3 dc3 pm3 an3 cd3 ct3), sl3⟩)
    (q3 : PySem.W.codeIn K cd3 "Exact.whole" = true)
    (k3 : PySem.W.keepIn K (.ref f3) = true)
    (a4 : PySem.W.nsIn K mainGlobals "without_noughts" = some (some (.ref f4)))
    (l4 : K.lookup f4 = some ⟨oc4, od4, .func (PySem.W.fnOf "without_noughts" "without_noughts" (defArgs s_without_noughts) (defBody s_without_noughts) (defScope s_without_noughts) .none kV4 dc4 pm4 an4 cd4 ct4), sl4⟩)
    (q4 : PySem.W.codeIn K cd4 "without_noughts" = true)
    (k4 : PySem.W.keepIn K (.ref f4) = true)
    (a5 : PySem.W.nsIn K mainGlobals "bit_at" = some (some (.ref f5)))
    (l5 : K.lookup f5 = some ⟨oc5, od5, .func (PySem.W.fnOf "bit_at" "bit_at" (defArgs s_bit_at) (defBody s_bit_at) (defScope s_bit_at) .none kV5 dc5 pm5 an5 cd5 ct5), sl5⟩)
    (q5 : PySem.W.codeIn K cd5 "bit_at" = true)
    (k5 : PySem.W.keepIn K (.ref f5) = true)
    (a6 : PySem.W.nsIn K mainGlobals "exchanged" = some (some (.ref f6)))
    (l6 : K.lookup f6 = some ⟨oc6, od6, .func (PySem.W.fnOf "exchanged" "exchanged" (defArgs s_exchanged) (defBody s_exchanged) (defScope s_exchanged) .none kV6 dc6 pm6 an6 cd6 ct6), sl6⟩)
    (q6 : PySem.W.codeIn K cd6 "exchanged" = true)
    (k6 : PySem.W.keepIn K (.ref f6) = true)
    (a7 : PySem.W.nsIn K mainGlobals "moved" = some (some (.ref f7)))
    (l7 : K.lookup f7 = some ⟨oc7, od7, .func (PySem.W.fnOf "moved" "moved" (defArgs s_moved) (defBody s_moved) (defScope s_moved) .none kV7 dc7 pm7 an7 cd7 ct7), sl7⟩)
    (q7 : PySem.W.codeIn K cd7 "moved" = true)
    (k7 : PySem.W.keepIn K (.ref f7) = true)
    (l8 : K.lookup f8 = some ⟨oc8, od8, .func (PySem.W.fnOf "on_whole" "Over.on_whole" (defArgs s_Over_on_whole) (defBody s_Over_on_whole) (defScope s_Over_on_whole) .none kV8 dc8 pm8 an8 (.ref cc_Over_on_whole) ct8), sl8⟩)
    (q8 : PySem.W.codeIn K (.ref cc_Over_on_whole) "Over.on_whole" = true)
    (hc_Over_on_whole : PySem.W.codeHdIn K cc_Over_on_whole TT_Over_on_whole = true)
    (k8 : PySem.W.keepIn K (.ref f8) = true)
    (a9 : PySem.W.nsIn K mainGlobals "times_i" = some (some (.ref f9)))
    (l9 : K.lookup f9 = some ⟨oc9, od9, .func (PySem.W.fnOf "times_i" "times_i" (defArgs s_times_i) (defBody s_times_i) (defScope s_times_i) .none kV9 dc9 pm9 an9 cd9 ct9), sl9⟩)
    (q9 : PySem.W.codeIn K cd9 "times_i" = true)
    (k9 : PySem.W.keepIn K (.ref f9) = true)
    (a10 : PySem.W.nsIn K mainGlobals "turned_where_down" = some (some (.ref f10)))
    (l10 : K.lookup f10 = some ⟨oc10, od10, .func (PySem.W.fnOf "turned_where_down" "turned_where_down" (defArgs s_turned_where_down) (defBody s_turned_where_down) (defScope s_turned_where_down) .none kV10 dc10 pm10 an10 cd10 ct10), sl10⟩)
    (q10 : PySem.W.codeIn K cd10 "turned_where_down" = true)
    (k10 : PySem.W.keepIn K (.ref f10) = true)
    (l11 : K.lookup f11 = some ⟨oc11, od11, .func (PySem.W.fnOf "on_whole" "Quarter.on_whole" (defArgs s_Quarter_on_whole) (defBody s_Quarter_on_whole) (defScope s_Quarter_on_whole) .none kV11 dc11 pm11 an11 cd11 ct11), sl11⟩)
    (q11 : PySem.W.codeIn K cd11 "Quarter.on_whole" = true)
    (k11 : PySem.W.keepIn K (.ref f11) = true)
    (l12 : K.lookup f12 = some ⟨oc12, od12, .func (PySem.W.fnOf "on_whole" "Back.on_whole" (defArgs s_Back_on_whole) (defBody s_Back_on_whole) (defScope s_Back_on_whole) .none kV12 dc12 pm12 an12 cd12 ct12), sl12⟩)
    (q12 : PySem.W.codeIn K cd12 "Back.on_whole" = true)
    (k12 : PySem.W.keepIn K (.ref f12) = true)
    (a13 : PySem.W.nsIn K mainGlobals "add_at" = some (some (.ref f13)))
    (l13 : K.lookup f13 = some ⟨oc13, od13, .func (PySem.W.fnOf "add_at" "add_at" (defArgs s_add_at) (defBody s_add_at) (defScope s_add_at) .none kV13 dc13 pm13 an13 cd13 ct13), sl13⟩)
    (q13 : PySem.W.codeIn K cd13 "add_at" = true)
    (k13 : PySem.W.keepIn K (.ref f13) = true)
    (l14 : K.lookup f14 = some ⟨oc14, od14, .func (PySem.W.fnOf "on_whole" "Both.on_whole" (defArgs s_Both_on_whole) (defBody s_Both_on_whole) (defScope s_Both_on_whole) .none kV14 dc14 pm14 an14 cd14 ct14), sl14⟩)
    (q14 : PySem.W.codeIn K cd14 "Both.on_whole" = true)
    (k14 : PySem.W.keepIn K (.ref f14) = true)
    (l15 : K.lookup f15 = some ⟨oc15, od15, .func (PySem.W.fnOf "on_whole" "Where.on_whole" (defArgs s_Where_on_whole) (defBody s_Where_on_whole) (defScope s_Where_on_whole) .none kV15 dc15 pm15 an15 (.ref cc_Where_on_whole) ct15), sl15⟩)
    (q15 : PySem.W.codeIn K (.ref cc_Where_on_whole) "Where.on_whole" = true)
    (hc_Where_on_whole : PySem.W.codeHdIn K cc_Where_on_whole TT_Where_on_whole = true)
    (k15 : PySem.W.keepIn K (.ref f15) = true)
    (l16 : K.lookup f16 = some ⟨oc16, od16, .func (PySem.W.fnOf "on_whole" "Swap.on_whole" (defArgs s_Swap_on_whole) (defBody s_Swap_on_whole) (defScope s_Swap_on_whole) .none kV16 dc16 pm16 an16 (.ref cc_Swap_on_whole) ct16), sl16⟩)
    (q16 : PySem.W.codeIn K (.ref cc_Swap_on_whole) "Swap.on_whole" = true)
    (hc_Swap_on_whole : PySem.W.codeHdIn K cc_Swap_on_whole TT_Swap_on_whole = true)
    (k16 : PySem.W.keepIn K (.ref f16) = true)
    (l17 : K.lookup f17 = some ⟨oc17, od17, .func (PySem.W.fnOf "follow" "Exact.follow" (defArgs s_Exact_follow) (defBody s_Exact_follow) (defScope s_Exact_follow) .none kV17 dc17 pm17 an17 cd17 ct17), sl17⟩)
    (q17 : PySem.W.codeIn K cd17 "Exact.follow" = true)
    (k17 : PySem.W.keepIn K (.ref f17) = true)
    (l18 : K.lookup f18 = some ⟨oc18, od18, .func (PySem.W.fnOf "wires" "Deed.wires" (defArgs s_Deed_wires) (defBody s_Deed_wires) (defScope s_Deed_wires) .none kV18 dc18 pm18 an18 cd18 ct18), sl18⟩)
    (q18 : PySem.W.codeIn K cd18 "Deed.wires" = true)
    (k18 : PySem.W.keepIn K (.ref f18) = true)
    (l19 : K.lookup f19 = some ⟨oc19, od19, .func (PySem.W.fnOf "__init__" "Deed.__init__" (defArgs s_Deed___init__) (defBody s_Deed___init__) (defScope s_Deed___init__) .none kV19 dc19 pm19 an19 cd19 ct19), sl19⟩)
    (q19 : PySem.W.codeIn K cd19 "Deed.__init__" = true)
    (k19 : PySem.W.keepIn K (.ref f19) = true)
    (l20 : K.lookup f20 = some ⟨oc20, od20, .func (PySem.W.fnOf "__init__" "Swap.__init__" (defArgs s_Swap___init__) (defBody s_Swap___init__) (defScope s_Swap___init__) .none kV20 dc20 pm20 an20 cd20 ct20), sl20⟩)
    (q20 : PySem.W.codeIn K cd20 "Swap.__init__" = true)
    (k20 : PySem.W.keepIn K (.ref f20) = true)
    (l21 : K.lookup f21 = some ⟨oc21, od21, .func (PySem.W.fnOf "__init__" "Over.__init__" (defArgs s_Over___init__) (defBody s_Over___init__) (defScope s_Over___init__) .none kV21 dc21 pm21 an21 cd21 ct21), sl21⟩)
    (q21 : PySem.W.codeIn K cd21 "Over.__init__" = true)
    (k21 : PySem.W.keepIn K (.ref f21) = true)
    (l22 : K.lookup f22 = some ⟨oc22, od22, .func (PySem.W.fnOf "__init__" "Quarter.__init__" (defArgs s_Quarter___init__) (defBody s_Quarter___init__) (defScope s_Quarter___init__) .none kV22 dc22 pm22 an22 cd22 ct22), sl22⟩)
    (q22 : PySem.W.codeIn K cd22 "Quarter.__init__" = true)
    (k22 : PySem.W.keepIn K (.ref f22) = true)
    (l23 : K.lookup f23 = some ⟨oc23, od23, .func (PySem.W.fnOf "__init__" "Back.__init__" (defArgs s_Back___init__) (defBody s_Back___init__) (defScope s_Back___init__) .none kV23 dc23 pm23 an23 cd23 ct23), sl23⟩)
    (q23 : PySem.W.codeIn K cd23 "Back.__init__" = true)
    (k23 : PySem.W.keepIn K (.ref f23) = true)
    (l24 : K.lookup f24 = some ⟨oc24, od24, .func (PySem.W.fnOf "__init__" "Both.__init__" (defArgs s_Both___init__) (defBody s_Both___init__) (defScope s_Both___init__) .none kV24 dc24 pm24 an24 cd24 ct24), sl24⟩)
    (q24 : PySem.W.codeIn K cd24 "Both.__init__" = true)
    (k24 : PySem.W.keepIn K (.ref f24) = true)
    (l25 : K.lookup f25 = some ⟨oc25, od25, .func (PySem.W.fnOf "__init__" "Where.__init__" (defArgs s_Where___init__) (defBody s_Where___init__) (defScope s_Where___init__) .none kV25 dc25 pm25 an25 cd25 ct25), sl25⟩)
    (q25 : PySem.W.codeIn K cd25 "Where.__init__" = true)
    (k25 : PySem.W.keepIn K (.ref f25) = true)
    (a26 : PySem.W.nsIn K mainGlobals "check_words" = some (some (.ref f26)))
    (l26 : K.lookup f26 = some ⟨oc26, od26, .func (PySem.W.fnOf "check_words" "check_words" (defArgs s_check_words) (defBody s_check_words) (defScope s_check_words) .none kV26 dc26 pm26 an26 cd26 ct26), sl26⟩)
    (q26 : PySem.W.codeIn K cd26 "check_words" = true)
    (k26 : PySem.W.keepIn K (.ref f26) = true)
    (a27 : PySem.W.nsIn K mainGlobals "deed_of_words" = some (some (.ref f27)))
    (l27 : K.lookup f27 = some ⟨oc27, od27, .func (PySem.W.fnOf "deed_of_words" "deed_of_words" (defArgs s_deed_of_words) (defBody s_deed_of_words) (defScope s_deed_of_words) .none kV27 dc27 pm27 an27 cd27 ct27), sl27⟩)
    (q27 : PySem.W.codeIn K cd27 "deed_of_words" = true)
    (k27 : PySem.W.keepIn K (.ref f27) = true)
    (a28 : PySem.W.nsIn K mainGlobals "deed_of" = some (some (.ref f28)))
    (l28 : K.lookup f28 = some ⟨oc28, od28, .func (PySem.W.fnOf "deed_of" "deed_of" (defArgs s_deed_of) (defBody s_deed_of) (defScope s_deed_of) .none kV28 dc28 pm28 an28 cd28 ct28), sl28⟩)
    (q28 : PySem.W.codeIn K cd28 "deed_of" = true)
    (k28 : PySem.W.keepIn K (.ref f28) = true)
    (l29 : K.lookup f29 = some ⟨oc29, od29, .func (PySem.W.fnOf "do" "Machine.do" (defArgs s_Machine_do) (defBody s_Machine_do) (defScope s_Machine_do) .none kV29 dc29 pm29 an29 cd29 ct29), sl29⟩)
    (q29 : PySem.W.codeIn K cd29 "Machine.do" = true)
    (k29 : PySem.W.keepIn K (.ref f29) = true)
    (a30 : PySem.W.nsIn K mainGlobals "whole_weight" = some (some (.ref f30)))
    (l30 : K.lookup f30 = some ⟨oc30, od30, .func (PySem.W.fnOf "whole_weight" "whole_weight" (defArgs s_whole_weight) (defBody s_whole_weight) (defScope s_whole_weight) .none kV30 dc30 pm30 an30 cd30 ct30), sl30⟩)
    (q30 : PySem.W.codeIn K cd30 "whole_weight" = true)
    (k30 : PySem.W.keepIn K (.ref f30) = true)
    (a31 : PySem.W.nsIn K mainGlobals "added" = some (some (.ref f31)))
    (l31 : K.lookup f31 = some ⟨oc31, od31, .func (PySem.W.fnOf "added" "added" (defArgs s_added) (defBody s_added) (defScope s_added) .none kV31 dc31 pm31 an31 cd31 ct31), sl31⟩)
    (q31 : PySem.W.codeIn K cd31 "added" = true)
    (k31 : PySem.W.keepIn K (.ref f31) = true)
    (a32 : PySem.W.nsIn K mainGlobals "ones" = some (some (.ref f32)))
    (l32 : K.lookup f32 = some ⟨oc32, od32, .func (PySem.W.fnOf "ones" "ones" (defArgs s_ones) (defBody s_ones) (defScope s_ones) .none kV32 dc32 pm32 an32 cd32 ct32), sl32⟩)
    (q32 : PySem.W.codeIn K cd32 "ones" = true)
    (k32 : PySem.W.keepIn K (.ref f32) = true)
    (a33 : PySem.W.nsIn K mainGlobals "letters_y" = some (some (.ref f33)))
    (l33 : K.lookup f33 = some ⟨oc33, od33, .func (PySem.W.fnOf "letters_y" "letters_y" (defArgs s_letters_y) (defBody s_letters_y) (defScope s_letters_y) .none kV33 dc33 pm33 an33 cd33 ct33), sl33⟩)
    (q33 : PySem.W.codeIn K cd33 "letters_y" = true)
    (k33 : PySem.W.keepIn K (.ref f33) = true)
    (a34 : PySem.W.nsIn K mainGlobals "acted_on" = some (some (.ref f34)))
    (l34 : K.lookup f34 = some ⟨oc34, od34, .func (PySem.W.fnOf "acted_on" "acted_on" (defArgs s_acted_on) (defBody s_acted_on) (defScope s_acted_on) .none kV34 dc34 pm34 an34 cd34 ct34), sl34⟩)
    (q34 : PySem.W.codeIn K cd34 "acted_on" = true)
    (k34 : PySem.W.keepIn K (.ref f34) = true)
    (a35 : PySem.W.nsIn K mainGlobals "half_by" = some (some (.ref f35)))
    (l35 : K.lookup f35 = some ⟨oc35, od35, .func (PySem.W.fnOf "half_by" "half_by" (defArgs s_half_by) (defBody s_half_by) (defScope s_half_by) .none kV35 dc35 pm35 an35 cd35 ct35), sl35⟩)
    (q35 : PySem.W.codeIn K cd35 "half_by" = true)
    (k35 : PySem.W.keepIn K (.ref f35) = true)
    (a36 : PySem.W.nsIn K mainGlobals "halves_by" = some (some (.ref f36)))
    (l36 : K.lookup f36 = some ⟨oc36, od36, .func (PySem.W.fnOf "halves_by" "halves_by" (defArgs s_halves_by) (defBody s_halves_by) (defScope s_halves_by) .none kV36 dc36 pm36 an36 cd36 ct36), sl36⟩)
    (q36 : PySem.W.codeIn K cd36 "halves_by" = true)
    (k36 : PySem.W.keepIn K (.ref f36) = true)
    (a37 : PySem.W.nsIn K mainGlobals "_law_cell_at" = some (some (.ref f37)))
    (l37 : K.lookup f37 = some ⟨oc37, od37, .func (PySem.W.fnOf "_law_cell_at" "_law_cell_at" (defArgs s__law_cell_at) (defBody s__law_cell_at) (defScope s__law_cell_at) .none kV37 dc37 pm37 an37 cd37 ct37), sl37⟩)
    (q37 : PySem.W.codeIn K cd37 "_law_cell_at" = true)
    (k37 : PySem.W.keepIn K (.ref f37) = true)
    (a38 : PySem.W.nsIn K mainGlobals "_law_mixed" = some (some (.ref f38)))
    (l38 : K.lookup f38 = some ⟨oc38, od38, .func (PySem.W.fnOf "_law_mixed" "_law_mixed" (defArgs s__law_mixed) (defBody s__law_mixed) (defScope s__law_mixed) .none kV38 dc38 pm38 an38 cd38 ct38), sl38⟩)
    (q38 : PySem.W.codeIn K cd38 "_law_mixed" = true)
    (k38 : PySem.W.keepIn K (.ref f38) = true)
    (a39 : PySem.W.nsIn K mainGlobals "_law_words" = some (some (.ref f39)))
    (l39 : K.lookup f39 = some ⟨oc39, od39, .func (PySem.W.fnOf "_law_words" "_law_words" (defArgs s__law_words) (defBody s__law_words) (defScope s__law_words) .none kV39 dc39 pm39 an39 cd39 ct39), sl39⟩)
    (q39 : PySem.W.codeIn K cd39 "_law_words" = true)
    (k39 : PySem.W.keepIn K (.ref f39) = true)
    (a40 : PySem.W.nsIn K mainGlobals "_law_bits" = some (some (.ref f40)))
    (l40 : K.lookup f40 = some ⟨oc40, od40, .func (PySem.W.fnOf "_law_bits" "_law_bits" (defArgs s__law_bits) (defBody s__law_bits) (defScope s__law_bits) .none kV40 dc40 pm40 an40 cd40 ct40), sl40⟩)
    (q40 : PySem.W.codeIn K cd40 "_law_bits" = true)
    (k40 : PySem.W.keepIn K (.ref f40) = true)
    (a41 : PySem.W.nsIn K mainGlobals "_law_signs" = some (some (.ref f41)))
    (l41 : K.lookup f41 = some ⟨oc41, od41, .func (PySem.W.fnOf "_law_signs" "_law_signs" (defArgs s__law_signs) (defBody s__law_signs) (defScope s__law_signs) .none kV41 dc41 pm41 an41 cd41 ct41), sl41⟩)
    (q41 : PySem.W.codeIn K cd41 "_law_signs" = true)
    (k41 : PySem.W.keepIn K (.ref f41) = true)
    (a42 : PySem.W.nsIn K mainGlobals "_law_quarters" = some (some (.ref f42)))
    (l42 : K.lookup f42 = some ⟨oc42, od42, .func (PySem.W.fnOf "_law_quarters" "_law_quarters" (defArgs s__law_quarters) (defBody s__law_quarters) (defScope s__law_quarters) .none kV42 dc42 pm42 an42 cd42 ct42), sl42⟩)
    (q42 : PySem.W.codeIn K cd42 "_law_quarters" = true)
    (k42 : PySem.W.keepIn K (.ref f42) = true)
    (a43 : PySem.W.nsIn K mainGlobals "_law_ones" = some (some (.ref f43)))
    (l43 : K.lookup f43 = some ⟨oc43, od43, .func (PySem.W.fnOf "_law_ones" "_law_ones" (defArgs s__law_ones) (defBody s__law_ones) (defScope s__law_ones) .none kV43 dc43 pm43 an43 cd43 ct43), sl43⟩)
    (q43 : PySem.W.codeIn K cd43 "_law_ones" = true)
    (k43 : PySem.W.keepIn K (.ref f43) = true)
    (a44 : PySem.W.nsIn K mainGlobals "_law_acted" = some (some (.ref f44)))
    (l44 : K.lookup f44 = some ⟨oc44, od44, .func (PySem.W.fnOf "_law_acted" "_law_acted" (defArgs s__law_acted) (defBody s__law_acted) (defScope s__law_acted) .none kV44 dc44 pm44 an44 cd44 ct44), sl44⟩)
    (q44 : PySem.W.codeIn K cd44 "_law_acted" = true)
    (k44 : PySem.W.keepIn K (.ref f44) = true)
    (a45 : PySem.W.nsIn K mainGlobals "_law_weight" = some (some (.ref f45)))
    (l45 : K.lookup f45 = some ⟨oc45, od45, .func (PySem.W.fnOf "_law_weight" "_law_weight" (defArgs s__law_weight) (defBody s__law_weight) (defScope s__law_weight) .none kV45 dc45 pm45 an45 cd45 ct45), sl45⟩)
    (q45 : PySem.W.codeIn K cd45 "_law_weight" = true)
    (k45 : PySem.W.keepIn K (.ref f45) = true)
    (a46 : PySem.W.nsIn K mainGlobals "_law_right" = some (some (.ref f46)))
    (l46 : K.lookup f46 = some ⟨oc46, od46, .func (PySem.W.fnOf "_law_right" "_law_right" (defArgs s__law_right) (defBody s__law_right) (defScope s__law_right) .none kV46 dc46 pm46 an46 cd46 ct46), sl46⟩)
    (q46 : PySem.W.codeIn K cd46 "_law_right" = true)
    (k46 : PySem.W.keepIn K (.ref f46) = true)
    (a47 : PySem.W.nsIn K mainGlobals "law" = some (some (.ref f47)))
    (l47 : K.lookup f47 = some ⟨oc47, od47, .func (PySem.W.fnOf "law" "law" (defArgs s_law) (defBody s_law) (defScope s_law) .none kV47 dc47 pm47 an47 cd47 ct47), sl47⟩)
    (q47 : PySem.W.codeIn K cd47 "law" = true)
    (k47 : PySem.W.keepIn K (.ref f47) = true)
    (v_MOST_WIRES_EXACT : PySem.W.nsIn K mainGlobals "MOST_WIRES_EXACT" = some (some (Value.int 6 t_MOST_WIRES_EXACT)))
    (v_WIRES_BEHIND : PySem.W.nsIn K mainGlobals "WIRES_BEHIND" = some (some (.ref A_WIRES_BEHIND)))
    (tb_WIRES_BEHIND : PyProof.Rows.KTD.tabLook (PyProof.Rows.KTD.datLooks fun b => K.lookup b) (fun b => K.lookup b) A_WIRES_BEHIND (([("over", 1), ("quarter", 1), ("back", 1), ("both", 1), ("where", 2), ("swap", 2)] : List (Str × Int)).map fun p => (p.1, PyProof.Rows.KTD.Dat.flat (.int p.2))) = true)
    (v_XS : PySem.W.nsIn K mainGlobals "XS" = some (some (Value.int 1 t_XS)))
    (v_ZS : PySem.W.nsIn K mainGlobals "ZS" = some (some (Value.int 2 t_ZS)))
    (v_MINUS : PySem.W.nsIn K mainGlobals "MINUS" = some (some (Value.int 0 t_MINUS)))
    (v_NoWires : PySem.W.nsIn K mainGlobals "NoWires" = some (some (.ref C_NoWires))) (x_NoWires : PySem.W.excIn K C_NoWires bmVE "ValueError.__new__" = true) (ga_NoWires : PySem.W.findIn K (.ref C_NoWires) "__getattribute__" = some (some (.builtin "BaseException.__getattribute__"))) (gt_NoWires : PySem.W.findIn K (.ref C_NoWires) "__getattr__" = some none) (ca_NoWires : PySem.W.findIn K (.ref C_NoWires) "__class__" = some (some (.builtin "object.__class__"))) (cg_NoWires : PySem.W.specialIn K (.builtin "object.__class__") "__get__" = some (some (.builtin "getset_descriptor.__get__"))) (tk_NoWires : PySem.W.takesIn K (.builtin "object.__class__") = some true) (mo_NoWires : PySem.W.mroIn K C_NoWires (.type "object") = some true) (mb_NoWires : PySem.W.mroIn K C_NoWires (.type "BaseException") = some true)
    (v_NoDeed : PySem.W.nsIn K mainGlobals "NoDeed" = some (some (.ref C_NoDeed))) (x_NoDeed : PySem.W.excIn K C_NoDeed bmVE "ValueError.__new__" = true) (ga_NoDeed : PySem.W.findIn K (.ref C_NoDeed) "__getattribute__" = some (some (.builtin "BaseException.__getattribute__"))) (gt_NoDeed : PySem.W.findIn K (.ref C_NoDeed) "__getattr__" = some none) (ca_NoDeed : PySem.W.findIn K (.ref C_NoDeed) "__class__" = some (some (.builtin "object.__class__"))) (cg_NoDeed : PySem.W.specialIn K (.builtin "object.__class__") "__get__" = some (some (.builtin "getset_descriptor.__get__"))) (tk_NoDeed : PySem.W.takesIn K (.builtin "object.__class__") = some true) (mo_NoDeed : PySem.W.mroIn K C_NoDeed (.type "object") = some true) (mb_NoDeed : PySem.W.mroIn K C_NoDeed (.type "BaseException") = some true)
    (v_NoWire : PySem.W.nsIn K mainGlobals "NoWire" = some (some (.ref C_NoWire))) (x_NoWire : PySem.W.excIn K C_NoWire bmVE "ValueError.__new__" = true) (ga_NoWire : PySem.W.findIn K (.ref C_NoWire) "__getattribute__" = some (some (.builtin "BaseException.__getattribute__"))) (gt_NoWire : PySem.W.findIn K (.ref C_NoWire) "__getattr__" = some none) (ca_NoWire : PySem.W.findIn K (.ref C_NoWire) "__class__" = some (some (.builtin "object.__class__"))) (cg_NoWire : PySem.W.specialIn K (.builtin "object.__class__") "__get__" = some (some (.builtin "getset_descriptor.__get__"))) (tk_NoWire : PySem.W.takesIn K (.builtin "object.__class__") = some true) (mo_NoWire : PySem.W.mroIn K C_NoWire (.type "object") = some true) (mb_NoWire : PySem.W.mroIn K C_NoWire (.type "BaseException") = some true)
    (pg_Over : PySem.W.plainGet K C_Over Str.empty = true)
    (hd_Over : PySem.W.hasDictIn K C_Over = true)
    (po_Over : PySem.W.plainOver K C_Over = true)
    (sa_Over : PySem.W.findIn K (.ref C_Over) "__setattr__" = some (some (.builtin "object.__setattr__")))
    (mk_Over : PySem.W.makesIn K C_Over = true)
    (kc_Over : PySem.W.keepIn K (.ref C_Over) = true)
    (na_Over_word : PySem.W.findIn K (.ref C_Over) "word" = some none)
    (na_Over_undoer : PySem.W.findIn K (.ref C_Over) "undoer" = some none)
    (na_Over_at : PySem.W.findIn K (.ref C_Over) "at" = some none)
    (pg_Quarter : PySem.W.plainGet K C_Quarter Str.empty = true)
    (hd_Quarter : PySem.W.hasDictIn K C_Quarter = true)
    (po_Quarter : PySem.W.plainOver K C_Quarter = true)
    (sa_Quarter : PySem.W.findIn K (.ref C_Quarter) "__setattr__" = some (some (.builtin "object.__setattr__")))
    (mk_Quarter : PySem.W.makesIn K C_Quarter = true)
    (kc_Quarter : PySem.W.keepIn K (.ref C_Quarter) = true)
    (na_Quarter_word : PySem.W.findIn K (.ref C_Quarter) "word" = some none)
    (na_Quarter_undoer : PySem.W.findIn K (.ref C_Quarter) "undoer" = some none)
    (na_Quarter_at : PySem.W.findIn K (.ref C_Quarter) "at" = some none)
    (pg_Back : PySem.W.plainGet K C_Back Str.empty = true)
    (hd_Back : PySem.W.hasDictIn K C_Back = true)
    (po_Back : PySem.W.plainOver K C_Back = true)
    (sa_Back : PySem.W.findIn K (.ref C_Back) "__setattr__" = some (some (.builtin "object.__setattr__")))
    (mk_Back : PySem.W.makesIn K C_Back = true)
    (kc_Back : PySem.W.keepIn K (.ref C_Back) = true)
    (na_Back_word : PySem.W.findIn K (.ref C_Back) "word" = some none)
    (na_Back_undoer : PySem.W.findIn K (.ref C_Back) "undoer" = some none)
    (na_Back_at : PySem.W.findIn K (.ref C_Back) "at" = some none)
    (pg_Both : PySem.W.plainGet K C_Both Str.empty = true)
    (hd_Both : PySem.W.hasDictIn K C_Both = true)
    (po_Both : PySem.W.plainOver K C_Both = true)
    (sa_Both : PySem.W.findIn K (.ref C_Both) "__setattr__" = some (some (.builtin "object.__setattr__")))
    (mk_Both : PySem.W.makesIn K C_Both = true)
    (kc_Both : PySem.W.keepIn K (.ref C_Both) = true)
    (na_Both_word : PySem.W.findIn K (.ref C_Both) "word" = some none)
    (na_Both_undoer : PySem.W.findIn K (.ref C_Both) "undoer" = some none)
    (na_Both_at : PySem.W.findIn K (.ref C_Both) "at" = some none)
    (pg_Where : PySem.W.plainGet K C_Where Str.empty = true)
    (hd_Where : PySem.W.hasDictIn K C_Where = true)
    (po_Where : PySem.W.plainOver K C_Where = true)
    (sa_Where : PySem.W.findIn K (.ref C_Where) "__setattr__" = some (some (.builtin "object.__setattr__")))
    (mk_Where : PySem.W.makesIn K C_Where = true)
    (kc_Where : PySem.W.keepIn K (.ref C_Where) = true)
    (na_Where_word : PySem.W.findIn K (.ref C_Where) "word" = some none)
    (na_Where_undoer : PySem.W.findIn K (.ref C_Where) "undoer" = some none)
    (na_Where_at : PySem.W.findIn K (.ref C_Where) "at" = some none)
    (pg_Swap : PySem.W.plainGet K C_Swap Str.empty = true)
    (hd_Swap : PySem.W.hasDictIn K C_Swap = true)
    (po_Swap : PySem.W.plainOver K C_Swap = true)
    (sa_Swap : PySem.W.findIn K (.ref C_Swap) "__setattr__" = some (some (.builtin "object.__setattr__")))
    (mk_Swap : PySem.W.makesIn K C_Swap = true)
    (kc_Swap : PySem.W.keepIn K (.ref C_Swap) = true)
    (na_Swap_word : PySem.W.findIn K (.ref C_Swap) "word" = some none)
    (na_Swap_undoer : PySem.W.findIn K (.ref C_Swap) "undoer" = some none)
    (na_Swap_at : PySem.W.findIn K (.ref C_Swap) "at" = some none)
    (pg_Exact : PySem.W.plainGet K C_Exact Str.empty = true)
    (hd_Exact : PySem.W.hasDictIn K C_Exact = true)
    (po_Exact : PySem.W.plainOver K C_Exact = true)
    (sa_Exact : PySem.W.findIn K (.ref C_Exact) "__setattr__" = some (some (.builtin "object.__setattr__")))
    (mk_Exact : PySem.W.makesIn K C_Exact = true)
    (kc_Exact : PySem.W.keepIn K (.ref C_Exact) = true)
    (na_Exact_amounts : PySem.W.findIn K (.ref C_Exact) "amounts" = some none)
    (na_Exact_n : PySem.W.findIn K (.ref C_Exact) "n" = some none)
    (cg_Machine___init__ : PySem.W.specialIn K (.ref C_Machine) "__getattribute__" = some (some (.builtin "type.__getattribute__")))
    (cr_Machine___init__ : PySem.W.readsIn K C_Machine (.type "type") = true)
    (ce_Machine___init__ : PySem.W.findCls K (.ref C_Machine) (.type "type") "__init__" = some (.val (.ref f1)))
    (cg_Deed___init__ : PySem.W.specialIn K (.ref C_Deed) "__getattribute__" = some (some (.builtin "type.__getattribute__")))
    (cr_Deed___init__ : PySem.W.readsIn K C_Deed (.type "type") = true)
    (ce_Deed___init__ : PySem.W.findCls K (.ref C_Deed) (.type "type") "__init__" = some (.val (.ref f19)))
    (z_isinstance : PySem.W.nsIn K mainGlobals "isinstance" = some none)
    (z_int : PySem.W.nsIn K mainGlobals "int" = some none)
    (z_bool : PySem.W.nsIn K mainGlobals "bool" = some none)
    (z_dict : PySem.W.nsIn K mainGlobals "dict" = some none)
    (z_list : PySem.W.nsIn K mainGlobals "list" = some none)
    (z_len : PySem.W.nsIn K mainGlobals "len" = some none)
    (z_all : PySem.W.nsIn K mainGlobals "all" = some none)
    (z_tuple : PySem.W.nsIn K mainGlobals "tuple" = some none)
    (z_str : PySem.W.nsIn K mainGlobals "str" = some none)
    (z_min : PySem.W.nsIn K mainGlobals "min" = some none)
    (z_max : PySem.W.nsIn K mainGlobals "max" = some none)
    (z_sum : PySem.W.nsIn K mainGlobals "sum" = some none)
    (z_range : PySem.W.nsIn K mainGlobals "range" = some none) :
    ∃ fd : FuncData, (∀ (s : Shared) (v : Value), BindsTo s fd ⟨[v], []⟩ [("_law_script", v)]) ∧ ∀ base : Heap, K.In base → base.Ns mainGlobals mg → BltM mg base → FnOk l.prog w K mg base CX0 8 fa fd ["_law_script"] (sp_law K TT_Over_on_whole TT_Where_on_whole TT_Swap_on_whole) := by
  have e := hfa.symm.trans (PySem.W.mg_of KX G a47)
  cases e
  have F0 := fun_mk (st := s_is_whole_number) l0 q0 k0
  have b0 := F0.binds (ps := ["thing"]) fun _ _ _ _ _ _ us hl => match us, hl with | [_], _ => rfl
  have F1 := fun_mk (st := s_Machine___init__) l1 q1 k1
  have b1 := F1.binds (ps := ["self", "n", "most"]) fun _ _ _ _ _ _ us hl => match us, hl with | [_, _, _], _ => rfl
  have F2 := fun_mk (st := s_Exact___init__) l2 q2 k2
  have b2 := F2.binds (ps := ["self", "n"]) fun _ _ _ _ _ _ us hl => match us, hl with | [_, _], _ => rfl
  have F3 := fun_mk (st := s_Exact_whole) l3 q3 k3
  have b3 := F3.binds (ps := ["self"]) fun _ _ _ _ _ _ us hl => match us, hl with | [_], _ => rfl
  have F4 := fun_mk (st := s_without_noughts) l4 q4 k4
  have b4 := F4.binds (ps := ["whole"]) fun _ _ _ _ _ _ us hl => match us, hl with | [_], _ => rfl
  have F5 := fun_mk (st := s_bit_at) l5 q5 k5
  have b5 := F5.binds (ps := ["number", "k"]) fun _ _ _ _ _ _ us hl => match us, hl with | [_, _], _ => rfl
  have F6 := fun_mk (st := s_exchanged) l6 q6 k6
  have b6 := F6.binds (ps := ["number", "j", "k"]) fun _ _ _ _ _ _ us hl => match us, hl with | [_, _, _], _ => rfl
  have F7 := fun_mk (st := s_moved) l7 q7 k7
  have b7 := F7.binds (ps := ["whole", "place_of"]) fun _ _ _ _ _ _ us hl => match us, hl with | [_, _], _ => rfl
  have F8 := func_mk (st := s_Over_on_whole) l8 q8 k8
  have b8 := F8.binds (ps := ["self", "whole"]) fun _ _ _ _ _ _ us hl => match us, hl with | [_, _], _ => rfl
  have F9 := fun_mk (st := s_times_i) l9 q9 k9
  have b9 := F9.binds (ps := ["pair", "often"]) fun _ _ _ _ _ _ us hl => match us, hl with | [_, _], _ => rfl
  have F10 := fun_mk (st := s_turned_where_down) l10 q10 k10
  have b10 := F10.binds (ps := ["whole", "k", "often"]) fun _ _ _ _ _ _ us hl => match us, hl with | [_, _, _], _ => rfl
  have F11 := fun_mk (st := s_Quarter_on_whole) l11 q11 k11
  have b11 := F11.binds (ps := ["self", "whole"]) fun _ _ _ _ _ _ us hl => match us, hl with | [_, _], _ => rfl
  have F12 := fun_mk (st := s_Back_on_whole) l12 q12 k12
  have b12 := F12.binds (ps := ["self", "whole"]) fun _ _ _ _ _ _ us hl => match us, hl with | [_, _], _ => rfl
  have F13 := fun_mk (st := s_add_at) l13 q13 k13
  have b13 := F13.binds (ps := ["whole", "b", "pair"]) fun _ _ _ _ _ _ us hl => match us, hl with | [_, _, _], _ => rfl
  have F14 := fun_mk (st := s_Both_on_whole) l14 q14 k14
  have b14 := F14.binds (ps := ["self", "whole"]) fun _ _ _ _ _ _ us hl => match us, hl with | [_, _], _ => rfl
  have F15 := func_mk (st := s_Where_on_whole) l15 q15 k15
  have b15 := F15.binds (ps := ["self", "whole"]) fun _ _ _ _ _ _ us hl => match us, hl with | [_, _], _ => rfl
  have F16 := func_mk (st := s_Swap_on_whole) l16 q16 k16
  have b16 := F16.binds (ps := ["self", "whole"]) fun _ _ _ _ _ _ us hl => match us, hl with | [_, _], _ => rfl
  have F17 := fun_mk (st := s_Exact_follow) l17 q17 k17
  have b17 := F17.binds (ps := ["self", "deed"]) fun _ _ _ _ _ _ us hl => match us, hl with | [_, _], _ => rfl
  have F18 := fun_mk (st := s_Deed_wires) l18 q18 k18
  have b18 := F18.binds (ps := ["self"]) fun _ _ _ _ _ _ us hl => match us, hl with | [_], _ => rfl
  have F19 := fun_mk (st := s_Deed___init__) l19 q19 k19
  have b19 := F19.binds (ps := ["self", "word", "undoer", "at"]) fun _ _ _ _ _ _ us hl => match us, hl with | [_, _, _, _], _ => rfl
  have F20 := fun_mk (st := s_Swap___init__) l20 q20 k20
  have b20 := F20.binds (ps := ["self", "j", "k"]) fun _ _ _ _ _ _ us hl => match us, hl with | [_, _, _], _ => rfl
  have F21 := fun_mk (st := s_Over___init__) l21 q21 k21
  have b21 := F21.binds (ps := ["self", "k"]) fun _ _ _ _ _ _ us hl => match us, hl with | [_, _], _ => rfl
  have F22 := fun_mk (st := s_Quarter___init__) l22 q22 k22
  have b22 := F22.binds (ps := ["self", "k"]) fun _ _ _ _ _ _ us hl => match us, hl with | [_, _], _ => rfl
  have F23 := fun_mk (st := s_Back___init__) l23 q23 k23
  have b23 := F23.binds (ps := ["self", "k"]) fun _ _ _ _ _ _ us hl => match us, hl with | [_, _], _ => rfl
  have F24 := fun_mk (st := s_Both___init__) l24 q24 k24
  have b24 := F24.binds (ps := ["self", "k"]) fun _ _ _ _ _ _ us hl => match us, hl with | [_, _], _ => rfl
  have F25 := fun_mk (st := s_Where___init__) l25 q25 k25
  have b25 := F25.binds (ps := ["self", "j", "k"]) fun _ _ _ _ _ _ us hl => match us, hl with | [_, _, _], _ => rfl
  have F26 := fun_mk (st := s_check_words) l26 q26 k26
  have b26 := F26.binds (ps := ["words"]) fun _ _ _ _ _ _ us hl => match us, hl with | [_], _ => rfl
  have F27 := fun_mk (st := s_deed_of_words) l27 q27 k27
  have b27 := F27.binds (ps := ["words"]) fun _ _ _ _ _ _ us hl => match us, hl with | [_], _ => rfl
  have F28 := fun_mk (st := s_deed_of) l28 q28 k28
  have b28 := F28.binds (ps := ["words", "n"]) fun _ _ _ _ _ _ us hl => match us, hl with | [_, _], _ => rfl
  have F29 := fun_mk (st := s_Machine_do) l29 q29 k29
  have b29 := F29.binds (ps := ["self", "words"]) fun _ _ _ _ _ _ us hl => match us, hl with | [_, _], _ => rfl
  have F30 := fun_mk (st := s_whole_weight) l30 q30 k30
  have b30 := F30.binds (ps := ["whole"]) fun _ _ _ _ _ _ us hl => match us, hl with | [_], _ => rfl
  have F31 := fun_mk (st := s_added) l31 q31 k31
  have b31 := F31.binds (ps := ["one", "other"]) fun _ _ _ _ _ _ us hl => match us, hl with | [_, _], _ => rfl
  have F32 := fun_mk (st := s_ones) l32 q32 k32
  have b32 := F32.binds (ps := ["number"]) fun _ _ _ _ _ _ us hl => match us, hl with | [_], _ => rfl
  have F33 := fun_mk (st := s_letters_y) l33 q33 k33
  have b33 := F33.binds (ps := ["row"]) fun _ _ _ _ _ _ us hl => match us, hl with | [_], _ => rfl
  have F34 := fun_mk (st := s_acted_on) l34 q34 k34
  have b34 := F34.binds (ps := ["whole", "row"]) fun _ _ _ _ _ _ us hl => match us, hl with | [_, _], _ => rfl
  have F35 := fun_mk (st := s_half_by) l35 q35 k35
  have b35 := F35.binds (ps := ["whole", "row", "value"]) fun _ _ _ _ _ _ us hl => match us, hl with | [_, _, _], _ => rfl
  have F36 := fun_mk (st := s_halves_by) l36 q36 k36
  have b36 := F36.binds (ps := ["whole", "row"]) fun _ _ _ _ _ _ us hl => match us, hl with | [_, _], _ => rfl
  have F37 := fun_mk (st := s__law_cell_at) l37 q37 k37
  have b37 := F37.binds (ps := ["_law_script", "_law_k"]) fun _ _ _ _ _ _ us hl => match us, hl with | [_, _], _ => rfl
  have F38 := fun_mk (st := s__law_mixed) l38 q38 k38
  have b38 := F38.binds (ps := ["_law_draw", "_law_k"]) fun _ _ _ _ _ _ us hl => match us, hl with | [_, _], _ => rfl
  have F39 := fun_mk (st := s__law_words) l39 q39 k39
  have b39 := F39.binds (ps := ["_law_draw", "_law_n"]) fun _ _ _ _ _ _ us hl => match us, hl with | [_, _], _ => rfl
  have F40 := fun_mk (st := s__law_bits) l40 q40 k40
  have b40 := F40.binds (ps := ["_law_draw", "_law_k", "_law_n"]) fun _ _ _ _ _ _ us hl => match us, hl with | [_, _, _], _ => rfl
  have F41 := fun_mk (st := s__law_signs) l41 q41 k41
  have b41 := F41.binds (ps := ["_law_draw", "_law_n"]) fun _ _ _ _ _ _ us hl => match us, hl with | [_, _], _ => rfl
  have F42 := fun_mk (st := s__law_quarters) l42 q42 k42
  have b42 := F42.binds (ps := ["_law_number", "_law_quarters_here"]) fun _ _ _ _ _ _ us hl => match us, hl with | [_, _], _ => rfl
  have F43 := fun_mk (st := s__law_ones) l43 q43 k43
  have b43 := F43.binds (ps := ["_law_number"]) fun _ _ _ _ _ _ us hl => match us, hl with | [_], _ => rfl
  have F44 := fun_mk (st := s__law_acted) l44 q44 k44
  have b44 := F44.binds (ps := ["_law_whole", "_law_row"]) fun _ _ _ _ _ _ us hl => match us, hl with | [_, _], _ => rfl
  have F45 := fun_mk (st := s__law_weight) l45 q45 k45
  have b45 := F45.binds (ps := ["_law_whole", "_law_other", "_law_sign"]) fun _ _ _ _ _ _ us hl => match us, hl with | [_, _, _], _ => rfl
  have F46 := fun_mk (st := s__law_right) l46 q46 k46
  have b46 := F46.binds (ps := ["_law_whole", "_law_row"]) fun _ _ _ _ _ _ us hl => match us, hl with | [_, _], _ => rfl
  have F47 := fun_mk (st := s_law) l47 q47 k47
  have g_MOST_WIRES_EXACT : GC mg "MOST_WIRES_EXACT" (.int 6) := ⟨_, PySem.W.mg_of KX G v_MOST_WIRES_EXACT, ⟨_, rfl⟩⟩
  have g_WIRES_BEHIND : GTab K mg "WIRES_BEHIND" A_WIRES_BEHIND [("over", 1), ("quarter", 1), ("back", 1), ("both", 1), ("where", 2), ("swap", 2)] := ⟨PySem.W.mg_of KX G v_WIRES_BEHIND, tb_WIRES_BEHIND⟩
  have g_XS : GC mg "XS" (.int 1) := ⟨_, PySem.W.mg_of KX G v_XS, ⟨_, rfl⟩⟩
  have g_ZS : GC mg "ZS" (.int 2) := ⟨_, PySem.W.mg_of KX G v_ZS, ⟨_, rfl⟩⟩
  have g_MINUS : GC mg "MINUS" (.int 0) := ⟨_, PySem.W.mg_of KX G v_MINUS, ⟨_, rfl⟩⟩
  have c_NoWires : ExcC K mg "NoWires" C_NoWires := ⟨PySem.W.mg_of KX G v_NoWires, ⟨x_NoWires, ga_NoWires, gt_NoWires, ca_NoWires, cg_NoWires, tk_NoWires, mo_NoWires, mb_NoWires⟩⟩
  have c_NoDeed : ExcC K mg "NoDeed" C_NoDeed := ⟨PySem.W.mg_of KX G v_NoDeed, ⟨x_NoDeed, ga_NoDeed, gt_NoDeed, ca_NoDeed, cg_NoDeed, tk_NoDeed, mo_NoDeed, mb_NoDeed⟩⟩
  have c_NoWire : ExcC K mg "NoWire" C_NoWire := ⟨PySem.W.mg_of KX G v_NoWire, ⟨x_NoWire, ga_NoWire, gt_NoWire, ca_NoWire, cg_NoWire, tk_NoWire, mo_NoWire, mb_NoWire⟩⟩
  have b_isinstance : mg "isinstance" = none := PySem.W.mg_none_of KX G z_isinstance
  have b_int : mg "int" = none := PySem.W.mg_none_of KX G z_int
  have b_bool : mg "bool" = none := PySem.W.mg_none_of KX G z_bool
  have b_dict : mg "dict" = none := PySem.W.mg_none_of KX G z_dict
  have b_list : mg "list" = none := PySem.W.mg_none_of KX G z_list
  have b_len : mg "len" = none := PySem.W.mg_none_of KX G z_len
  have b_all : mg "all" = none := PySem.W.mg_none_of KX G z_all
  have b_tuple : mg "tuple" = none := PySem.W.mg_none_of KX G z_tuple
  have b_str : mg "str" = none := PySem.W.mg_none_of KX G z_str
  have b_min : mg "min" = none := PySem.W.mg_none_of KX G z_min
  have b_max : mg "max" = none := PySem.W.mg_none_of KX G z_max
  have b_sum : mg "sum" = none := PySem.W.mg_none_of KX G z_sum
  have b_range : mg "range" = none := PySem.W.mg_none_of KX G z_range
  have T_D : Txt_D K (CDof_D C_Over C_Quarter C_Back C_Both C_Where C_Swap) := ⟨(fun d => match d with | .over => ⟨pg_Over, hd_Over, po_Over, sa_Over⟩ | .quarter => ⟨pg_Quarter, hd_Quarter, po_Quarter, sa_Quarter⟩ | .back => ⟨pg_Back, hd_Back, po_Back, sa_Back⟩ | .both => ⟨pg_Both, hd_Both, po_Both, sa_Both⟩ | .wher => ⟨pg_Where, hd_Where, po_Where, sa_Where⟩ | .swap => ⟨pg_Swap, hd_Swap, po_Swap, sa_Swap⟩), (fun d => match d with | .over => na_Over_word | .quarter => na_Quarter_word | .back => na_Back_word | .both => na_Both_word | .wher => na_Where_word | .swap => na_Swap_word), (fun d => match d with | .over => na_Over_undoer | .quarter => na_Quarter_undoer | .back => na_Back_undoer | .both => na_Both_undoer | .wher => na_Where_undoer | .swap => na_Swap_undoer), (fun d => match d with | .over => na_Over_at | .quarter => na_Quarter_at | .back => na_Back_at | .both => na_Both_at | .wher => na_Where_at | .swap => na_Swap_at)⟩
  have T_M : Txt_M K (CDof_M C_Exact) := ⟨(fun d => match d with | .ex => ⟨pg_Exact, hd_Exact, po_Exact, sa_Exact⟩), (fun d => match d with | .ex => na_Exact_amounts), (fun d => match d with | .ex => na_Exact_n)⟩
  refine ⟨PySem.W.fnOf "law" "law" (defArgs s_law) (defBody s_law) (defScope s_law) .none kV47 dc47 pm47 an47 cd47 ct47, fun s v => .of_eq rfl, fun base KB _ bm => ?_⟩
  have o_is_whole_number := ok_is_whole_number (P := l.prog) (w := w) (mg := mg) (base := base) F0 b_isinstance b_int b_bool
  have c_is_whole_number : Cal l.prog w K mg base CX0 1 "is_whole_number" ["thing"] (sp_is_whole_number K) := ⟨f0, _, o_is_whole_number, b0, k0, PySem.W.mg_of KX G a0⟩
  have o_Machine___init__ := ok_Machine___init__ (P := l.prog) (w := w) (mg := mg) (base := base) F1 T_M c_NoWires c_is_whole_number
  have cm_Machine___init__ : CCal l.prog w K mg base (CXE l.prog w) 2 "Machine" "__init__" ["self", "n", "most"] (sp_Machine___init__ K (CDof_M C_Exact)) := ⟨C_Machine, f1, _, PySem.W.mg_of KX G v_Machine, ⟨cg_Machine___init__, cr_Machine___init__, ce_Machine___init__, k1⟩, o_Machine___init__, b1⟩
  have o_Exact___init__ := ok_Exact___init__ (P := l.prog) (w := w) (mg := mg) (base := base) F2 cm_Machine___init__ T_M g_MOST_WIRES_EXACT
  have o_Exact_whole := ok_Exact_whole (P := l.prog) (w := w) (mg := mg) (base := base) F3 T_M b_dict
  have o_without_noughts := ok_without_noughts (P := l.prog) (w := w) (mg := mg) (base := base) F4 
  have o_bit_at := ok_bit_at (P := l.prog) (w := w) (mg := mg) (base := base) F5 
  have c_bit_at : Cal l.prog w K mg base CX0 1 "bit_at" ["number", "k"] (sp_bit_at K) := ⟨f5, _, o_bit_at, b5, k5, PySem.W.mg_of KX G a5⟩
  have o_exchanged := ok_exchanged (P := l.prog) (w := w) (mg := mg) (base := base) F6 c_bit_at
  have c_without_noughts : Cal l.prog w K mg base CX0 1 "without_noughts" ["whole"] (sp_without_noughts K) := ⟨f4, _, o_without_noughts, b4, k4, PySem.W.mg_of KX G a4⟩
  have c_exchanged : Cal l.prog w K mg base CX0 2 "exchanged" ["number", "j", "k"] (sp_exchanged K) := ⟨f6, _, o_exchanged, b6, k6, PySem.W.mg_of KX G a6⟩
  have h_lam : LCal l.prog w K mg base 3 (LL) := lam_ok c_bit_at c_exchanged
  have o_moved := ok_moved (P := l.prog) (w := w) (mg := mg) (base := base) F7 c_without_noughts h_lam
  have c_moved : Cal l.prog w K mg base CX0 4 "moved" ["whole", "place_of"] (sp_moved K) := ⟨f7, _, o_moved, b7, k7, PySem.W.mg_of KX G a7⟩
  have tb_Over_on_whole := PySem.W.codeHd_of_K (c := cc_Over_on_whole) (P := TT_Over_on_whole) KB hc_Over_on_whole
  have o_Over_on_whole := ok_Over_on_whole (P := l.prog) (w := w) (mg := mg) (base := base) (TT_Over_on_whole := TT_Over_on_whole) (TT_Where_on_whole := TT_Where_on_whole) (TT_Swap_on_whole := TT_Swap_on_whole) F8 T_D c_moved tb_Over_on_whole bm
  have o_times_i := ok_times_i (P := l.prog) (w := w) (mg := mg) (base := base) F9 
  have c_times_i : Cal l.prog w K mg base CX0 1 "times_i" ["pair", "often"] (sp_times_i K) := ⟨f9, _, o_times_i, b9, k9, PySem.W.mg_of KX G a9⟩
  have o_turned_where_down := ok_turned_where_down (P := l.prog) (w := w) (mg := mg) (base := base) F10 c_without_noughts c_times_i c_bit_at
  have c_turned_where_down : Cal l.prog w K mg base CX0 2 "turned_where_down" ["whole", "k", "often"] (sp_turned_where_down K) := ⟨f10, _, o_turned_where_down, b10, k10, PySem.W.mg_of KX G a10⟩
  have o_Quarter_on_whole := ok_Quarter_on_whole (P := l.prog) (w := w) (mg := mg) (base := base) (TT_Over_on_whole := TT_Over_on_whole) (TT_Where_on_whole := TT_Where_on_whole) (TT_Swap_on_whole := TT_Swap_on_whole) F11 T_D c_turned_where_down
  have o_Back_on_whole := ok_Back_on_whole (P := l.prog) (w := w) (mg := mg) (base := base) (TT_Over_on_whole := TT_Over_on_whole) (TT_Where_on_whole := TT_Where_on_whole) (TT_Swap_on_whole := TT_Swap_on_whole) F12 T_D c_turned_where_down
  have o_add_at := ok_add_at (P := l.prog) (w := w) (mg := mg) (base := base) F13 
  have c_add_at : Cal l.prog w K mg base CX0 1 "add_at" ["whole", "b", "pair"] (sp_add_at K) := ⟨f13, _, o_add_at, b13, k13, PySem.W.mg_of KX G a13⟩
  have o_Both_on_whole := ok_Both_on_whole (P := l.prog) (w := w) (mg := mg) (base := base) (TT_Over_on_whole := TT_Over_on_whole) (TT_Where_on_whole := TT_Where_on_whole) (TT_Swap_on_whole := TT_Swap_on_whole) F14 T_D c_without_noughts c_add_at c_times_i
  have tb_Where_on_whole := PySem.W.codeHd_of_K (c := cc_Where_on_whole) (P := TT_Where_on_whole) KB hc_Where_on_whole
  have o_Where_on_whole := ok_Where_on_whole (P := l.prog) (w := w) (mg := mg) (base := base) (TT_Over_on_whole := TT_Over_on_whole) (TT_Where_on_whole := TT_Where_on_whole) (TT_Swap_on_whole := TT_Swap_on_whole) F15 T_D c_moved tb_Where_on_whole bm
  have tb_Swap_on_whole := PySem.W.codeHd_of_K (c := cc_Swap_on_whole) (P := TT_Swap_on_whole) KB hc_Swap_on_whole
  have o_Swap_on_whole := ok_Swap_on_whole (P := l.prog) (w := w) (mg := mg) (base := base) (TT_Over_on_whole := TT_Over_on_whole) (TT_Where_on_whole := TT_Where_on_whole) (TT_Swap_on_whole := TT_Swap_on_whole) F16 T_D c_moved tb_Swap_on_whole bm
  have m_D_on_whole : ∀ d : DK, MCal l.prog w K mg base CX0 5 ((CDof_D C_Over C_Quarter C_Back C_Both C_Where C_Swap) d) "on_whole" ["self", "whole"] (sp_D_on_whole K (CDof_D C_Over C_Quarter C_Back C_Both C_Where C_Swap) TT_Over_on_whole TT_Where_on_whole TT_Swap_on_whole d) := fun d => match d with | .over => ⟨T_D.cl .over, f8, _, ⟨mt_Over_on_whole, if_8, k8⟩, (o_Over_on_whole).mono (by decide), b8⟩ | .quarter => ⟨T_D.cl .quarter, f11, _, ⟨mt_Quarter_on_whole, if_11, k11⟩, (o_Quarter_on_whole).mono (by decide), b11⟩ | .back => ⟨T_D.cl .back, f12, _, ⟨mt_Back_on_whole, if_12, k12⟩, (o_Back_on_whole).mono (by decide), b12⟩ | .both => ⟨T_D.cl .both, f14, _, ⟨mt_Both_on_whole, if_14, k14⟩, (o_Both_on_whole).mono (by decide), b14⟩ | .wher => ⟨T_D.cl .wher, f15, _, ⟨mt_Where_on_whole, if_15, k15⟩, (o_Where_on_whole).mono (by decide), b15⟩ | .swap => ⟨T_D.cl .swap, f16, _, ⟨mt_Swap_on_whole, if_16, k16⟩, (o_Swap_on_whole).mono (by decide), b16⟩
  have o_Exact_follow := ok_Exact_follow (P := l.prog) (w := w) (mg := mg) (base := base) (TT_Over_on_whole := TT_Over_on_whole) (TT_Where_on_whole := TT_Where_on_whole) (TT_Swap_on_whole := TT_Swap_on_whole) F17 T_M m_D_on_whole
  have o_Deed_wires := ok_Deed_wires (P := l.prog) (w := w) (mg := mg) (base := base) F18 T_D b_list
  have o_Deed___init__ := ok_Deed___init__ (P := l.prog) (w := w) (mg := mg) (base := base) F19 T_D
  have cm_Deed___init__ : CCal l.prog w K mg base CX0 1 "Deed" "__init__" ["self", "word", "undoer", "at"] (sp_Deed___init__ K (CDof_D C_Over C_Quarter C_Back C_Both C_Where C_Swap)) := ⟨C_Deed, f19, _, PySem.W.mg_of KX G v_Deed, ⟨cg_Deed___init__, cr_Deed___init__, ce_Deed___init__, k19⟩, o_Deed___init__, b19⟩
  have o_Swap___init__ := ok_Swap___init__ (P := l.prog) (w := w) (mg := mg) (base := base) F20 cm_Deed___init__
  have o_Over___init__ := ok_Over___init__ (P := l.prog) (w := w) (mg := mg) (base := base) F21 cm_Deed___init__
  have o_Quarter___init__ := ok_Quarter___init__ (P := l.prog) (w := w) (mg := mg) (base := base) F22 cm_Deed___init__
  have o_Back___init__ := ok_Back___init__ (P := l.prog) (w := w) (mg := mg) (base := base) F23 cm_Deed___init__
  have o_Both___init__ := ok_Both___init__ (P := l.prog) (w := w) (mg := mg) (base := base) F24 cm_Deed___init__
  have o_Where___init__ := ok_Where___init__ (P := l.prog) (w := w) (mg := mg) (base := base) F25 cm_Deed___init__
  have o_check_words := ok_check_words (P := l.prog) (w := w) (mg := mg) (base := base) F26 c_NoDeed g_WIRES_BEHIND b_len b_all b_isinstance b_tuple b_str c_is_whole_number
  have k_Swap : KCal l.prog w K mg base CX0 2 "Swap" ((CDof_D C_Over C_Quarter C_Back C_Both C_Where C_Swap) .swap) ["self", "j", "k"] (sp_Swap___init__ K (CDof_D C_Over C_Quarter C_Back C_Both C_Where C_Swap)) := ⟨f20, _, ⟨mk_Swap, mt_Swap___init__, if_20, kc_Swap⟩, o_Swap___init__, b20, PySem.W.mg_of KX G v_Swap⟩
  have k_Over : KCal l.prog w K mg base CX0 2 "Over" ((CDof_D C_Over C_Quarter C_Back C_Both C_Where C_Swap) .over) ["self", "k"] (sp_Over___init__ K (CDof_D C_Over C_Quarter C_Back C_Both C_Where C_Swap)) := ⟨f21, _, ⟨mk_Over, mt_Over___init__, if_21, kc_Over⟩, o_Over___init__, b21, PySem.W.mg_of KX G v_Over⟩
  have k_Quarter : KCal l.prog w K mg base CX0 2 "Quarter" ((CDof_D C_Over C_Quarter C_Back C_Both C_Where C_Swap) .quarter) ["self", "k"] (sp_Quarter___init__ K (CDof_D C_Over C_Quarter C_Back C_Both C_Where C_Swap)) := ⟨f22, _, ⟨mk_Quarter, mt_Quarter___init__, if_22, kc_Quarter⟩, o_Quarter___init__, b22, PySem.W.mg_of KX G v_Quarter⟩
  have k_Back : KCal l.prog w K mg base CX0 2 "Back" ((CDof_D C_Over C_Quarter C_Back C_Both C_Where C_Swap) .back) ["self", "k"] (sp_Back___init__ K (CDof_D C_Over C_Quarter C_Back C_Both C_Where C_Swap)) := ⟨f23, _, ⟨mk_Back, mt_Back___init__, if_23, kc_Back⟩, o_Back___init__, b23, PySem.W.mg_of KX G v_Back⟩
  have k_Both : KCal l.prog w K mg base CX0 2 "Both" ((CDof_D C_Over C_Quarter C_Back C_Both C_Where C_Swap) .both) ["self", "k"] (sp_Both___init__ K (CDof_D C_Over C_Quarter C_Back C_Both C_Where C_Swap)) := ⟨f24, _, ⟨mk_Both, mt_Both___init__, if_24, kc_Both⟩, o_Both___init__, b24, PySem.W.mg_of KX G v_Both⟩
  have k_Where : KCal l.prog w K mg base CX0 2 "Where" ((CDof_D C_Over C_Quarter C_Back C_Both C_Where C_Swap) .wher) ["self", "j", "k"] (sp_Where___init__ K (CDof_D C_Over C_Quarter C_Back C_Both C_Where C_Swap)) := ⟨f25, _, ⟨mk_Where, mt_Where___init__, if_25, kc_Where⟩, o_Where___init__, b25, PySem.W.mg_of KX G v_Where⟩
  have c_check_words : Cal l.prog w K mg base (CXE l.prog w) 2 "check_words" ["words"] (sp_check_words K C_NoDeed) := ⟨f26, _, o_check_words, b26, k26, PySem.W.mg_of KX G a26⟩
  have o_deed_of_words := ok_deed_of_words (P := l.prog) (w := w) (mg := mg) (base := base) F27 k_Swap T_D k_Over k_Quarter k_Back k_Both k_Where c_check_words b_min c_NoWire
  have m_D_wires : ∀ d : DK, MCal l.prog w K mg base CX0 1 ((CDof_D C_Over C_Quarter C_Back C_Both C_Where C_Swap) d) "wires" ["self"] (sp_D_wires K (CDof_D C_Over C_Quarter C_Back C_Both C_Where C_Swap) d) := fun d => match d with | .over => ⟨T_D.cl .over, f18, _, ⟨mt_Over_wires, if_18, k18⟩, (o_Deed_wires).mono (by decide), b18⟩ | .quarter => ⟨T_D.cl .quarter, f18, _, ⟨mt_Quarter_wires, if_18, k18⟩, (o_Deed_wires).mono (by decide), b18⟩ | .back => ⟨T_D.cl .back, f18, _, ⟨mt_Back_wires, if_18, k18⟩, (o_Deed_wires).mono (by decide), b18⟩ | .both => ⟨T_D.cl .both, f18, _, ⟨mt_Both_wires, if_18, k18⟩, (o_Deed_wires).mono (by decide), b18⟩ | .wher => ⟨T_D.cl .wher, f18, _, ⟨mt_Where_wires, if_18, k18⟩, (o_Deed_wires).mono (by decide), b18⟩ | .swap => ⟨T_D.cl .swap, f18, _, ⟨mt_Swap_wires, if_18, k18⟩, (o_Deed_wires).mono (by decide), b18⟩
  have c_deed_of_words : Cal l.prog w K mg base (CXE l.prog w) 4 "deed_of_words" ["words"] (sp_deed_of_words K (CDof_D C_Over C_Quarter C_Back C_Both C_Where C_Swap) C_NoDeed C_NoWire) := ⟨f27, _, o_deed_of_words, b27, k27, PySem.W.mg_of KX G a27⟩
  have o_deed_of := ok_deed_of (P := l.prog) (w := w) (mg := mg) (base := base) F28 m_D_wires c_deed_of_words b_max c_NoWire
  have m_M_follow : ∀ d : MK, MCal l.prog w K mg base CX0 6 ((CDof_M C_Exact) d) "follow" ["self", "deed"] (sp_M_follow K (CDof_D C_Over C_Quarter C_Back C_Both C_Where C_Swap) (CDof_M C_Exact) TT_Over_on_whole TT_Where_on_whole TT_Swap_on_whole d) := fun d => match d with | .ex => ⟨T_M.cl .ex, f17, _, ⟨mt_Exact_follow, if_17, k17⟩, (o_Exact_follow).mono (by decide), b17⟩
  have c_deed_of : Cal l.prog w K mg base (CXE l.prog w) 5 "deed_of" ["words", "n"] (sp_deed_of K (CDof_D C_Over C_Quarter C_Back C_Both C_Where C_Swap) C_NoDeed C_NoWire) := ⟨f28, _, o_deed_of, b28, k28, PySem.W.mg_of KX G a28⟩
  have o_Machine_do := ok_Machine_do (P := l.prog) (w := w) (mg := mg) (base := base) (TT_Over_on_whole := TT_Over_on_whole) (TT_Where_on_whole := TT_Where_on_whole) (TT_Swap_on_whole := TT_Swap_on_whole) F29 m_M_follow T_M c_deed_of
  have o_whole_weight := ok_whole_weight (P := l.prog) (w := w) (mg := mg) (base := base) F30 b_sum
  have o_added := ok_added (P := l.prog) (w := w) (mg := mg) (base := base) F31 b_dict c_without_noughts c_add_at
  have o_ones := ok_ones (P := l.prog) (w := w) (mg := mg) (base := base) F32 
  have c_ones : Cal l.prog w K mg base CX0 1 "ones" ["number"] (sp_ones K) := ⟨f32, _, o_ones, b32, k32, PySem.W.mg_of KX G a32⟩
  have o_letters_y := ok_letters_y (P := l.prog) (w := w) (mg := mg) (base := base) F33 c_ones g_XS g_ZS
  have c_letters_y : Cal l.prog w K mg base CX0 2 "letters_y" ["row"] (sp_letters_y K) := ⟨f33, _, o_letters_y, b33, k33, PySem.W.mg_of KX G a33⟩
  have o_acted_on := ok_acted_on (P := l.prog) (w := w) (mg := mg) (base := base) F34 c_times_i g_MINUS c_ones g_XS c_letters_y g_ZS
  have c_added : Cal l.prog w K mg base CX0 2 "added" ["one", "other"] (sp_added K) := ⟨f31, _, o_added, b31, k31, PySem.W.mg_of KX G a31⟩
  have c_acted_on : Cal l.prog w K mg base CX0 3 "acted_on" ["whole", "row"] (sp_acted_on K) := ⟨f34, _, o_acted_on, b34, k34, PySem.W.mg_of KX G a34⟩
  have o_half_by := ok_half_by (P := l.prog) (w := w) (mg := mg) (base := base) F35 c_added c_acted_on g_XS g_ZS g_MINUS
  have c_whole_weight : Cal l.prog w K mg base CX0 1 "whole_weight" ["whole"] (sp_whole_weight K) := ⟨f30, _, o_whole_weight, b30, k30, PySem.W.mg_of KX G a30⟩
  have c_half_by : Cal l.prog w K mg base CX0 4 "half_by" ["whole", "row", "value"] (sp_half_by K) := ⟨f35, _, o_half_by, b35, k35, PySem.W.mg_of KX G a35⟩
  have o_halves_by := ok_halves_by (P := l.prog) (w := w) (mg := mg) (base := base) F36 c_whole_weight c_half_by
  have o__law_cell_at := ok__law_cell_at (P := l.prog) (w := w) (mg := mg) (base := base) F37 b_len
  have o__law_mixed := ok__law_mixed (P := l.prog) (w := w) (mg := mg) (base := base) F38 
  have c__law_mixed : Cal l.prog w K mg base CX0 1 "_law_mixed" ["_law_draw", "_law_k"] (sp__law_mixed K) := ⟨f38, _, o__law_mixed, b38, k38, PySem.W.mg_of KX G a38⟩
  have o__law_words := ok__law_words (P := l.prog) (w := w) (mg := mg) (base := base) F39 c__law_mixed
  have o__law_bits := ok__law_bits (P := l.prog) (w := w) (mg := mg) (base := base) F40 c__law_mixed
  have c__law_bits : Cal l.prog w K mg base CX0 2 "_law_bits" ["_law_draw", "_law_k", "_law_n"] (sp__law_bits K) := ⟨f40, _, o__law_bits, b40, k40, PySem.W.mg_of KX G a40⟩
  have o__law_signs := ok__law_signs (P := l.prog) (w := w) (mg := mg) (base := base) F41 c__law_bits c__law_mixed
  have o__law_quarters := ok__law_quarters (P := l.prog) (w := w) (mg := mg) (base := base) F42 b_range
  have o__law_ones := ok__law_ones (P := l.prog) (w := w) (mg := mg) (base := base) F43 
  have c__law_quarters : Cal l.prog w K mg base CX0 1 "_law_quarters" ["_law_number", "_law_quarters_here"] (sp__law_quarters K) := ⟨f42, _, o__law_quarters, b42, k42, PySem.W.mg_of KX G a42⟩
  have c__law_ones : Cal l.prog w K mg base CX0 1 "_law_ones" ["_law_number"] (sp__law_ones K) := ⟨f43, _, o__law_ones, b43, k43, PySem.W.mg_of KX G a43⟩
  have o__law_acted := ok__law_acted (P := l.prog) (w := w) (mg := mg) (base := base) F44 c__law_quarters c__law_ones
  have o__law_weight := ok__law_weight (P := l.prog) (w := w) (mg := mg) (base := base) F45 b_list
  have c__law_acted : Cal l.prog w K mg base CX0 2 "_law_acted" ["_law_whole", "_law_row"] (sp__law_acted K) := ⟨f44, _, o__law_acted, b44, k44, PySem.W.mg_of KX G a44⟩
  have c_halves_by : Cal l.prog w K mg base CX0 5 "halves_by" ["whole", "row"] (sp_halves_by K) := ⟨f36, _, o_halves_by, b36, k36, PySem.W.mg_of KX G a36⟩
  have c__law_weight : Cal l.prog w K mg base CX0 1 "_law_weight" ["_law_whole", "_law_other", "_law_sign"] (sp__law_weight K) := ⟨f45, _, o__law_weight, b45, k45, PySem.W.mg_of KX G a45⟩
  have o__law_right := ok__law_right (P := l.prog) (w := w) (mg := mg) (base := base) F46 c__law_acted b_dict c_halves_by c__law_weight b_all b_isinstance b_tuple b_int b_bool
  have k_Exact : KCal l.prog w K mg base (CXE l.prog w) 3 "Exact" ((CDof_M C_Exact) .ex) ["self", "n"] (sp_Exact___init__ K (CDof_M C_Exact)) := ⟨f2, _, ⟨mk_Exact, mt_Exact___init__, if_2, kc_Exact⟩, o_Exact___init__, b2, PySem.W.mg_of KX G v_Exact⟩
  have m_M_whole : ∀ d : MK, MCal l.prog w K mg base CX0 1 ((CDof_M C_Exact) d) "whole" ["self"] (sp_M_whole K (CDof_M C_Exact) d) := fun d => match d with | .ex => ⟨T_M.cl .ex, f3, _, ⟨mt_Exact_whole, if_3, k3⟩, (o_Exact_whole).mono (by decide), b3⟩
  have m_M_do : ∀ d : MK, MCal l.prog w K mg base CX0 7 ((CDof_M C_Exact) d) "do" ["self", "words"] (sp_M_do K (CDof_D C_Over C_Quarter C_Back C_Both C_Where C_Swap) (CDof_M C_Exact) TT_Over_on_whole TT_Where_on_whole TT_Swap_on_whole d) := fun d => match d with | .ex => ⟨T_M.cl .ex, f29, _, ⟨mt_Exact_do, if_29, k29⟩, (o_Machine_do).mono (by decide), b29⟩
  have c__law_cell_at : Cal l.prog w K mg base CX0 1 "_law_cell_at" ["_law_script", "_law_k"] (sp__law_cell_at K) := ⟨f37, _, o__law_cell_at, b37, k37, PySem.W.mg_of KX G a37⟩
  have c__law_words : Cal l.prog w K mg base CX0 2 "_law_words" ["_law_draw", "_law_n"] (sp__law_words K) := ⟨f39, _, o__law_words, b39, k39, PySem.W.mg_of KX G a39⟩
  have c__law_signs : Cal l.prog w K mg base CX0 3 "_law_signs" ["_law_draw", "_law_n"] (sp__law_signs K) := ⟨f41, _, o__law_signs, b41, k41, PySem.W.mg_of KX G a41⟩
  have c__law_right : Cal l.prog w K mg base CX0 6 "_law_right" ["_law_whole", "_law_row"] (sp__law_right K) := ⟨f46, _, o__law_right, b46, k46, PySem.W.mg_of KX G a46⟩
  exact ok_law F47 k_Exact T_M m_M_whole m_M_do b_range c_halves_by c__law_cell_at c__law_words c__law_bits c__law_signs c__law_right c_whole_weight c__law_mixed
theorem walk {l : PySem.W.OpenLaw} {q : Program} {loose : List Str} {XP : (Str → Option Value) → Heap → Prop} {YP : World → Heap → Prop} {d : DefRec} {K : Params → PySem.W.Frag} {cc_Over_on_whole TT_Over_on_whole cc_Where_on_whole TT_Where_on_whole cc_Swap_on_whole TT_Swap_on_whole : Addr} (hn : l.most = some 63) (hdf : d.params.defaults = [])
    (hY : ∀ (w : World) (h : Heap), YP w h → (K w.params).In h ∧ PySem.W.TabsAt [(cc_Over_on_whole, TT_Over_on_whole), (cc_Where_on_whole, TT_Where_on_whole), (cc_Swap_on_whole, TT_Swap_on_whole)] h) (hnt : ∀ w : World, PySem.W.noTabs (K w.params) = true) (hdi : [TT_Over_on_whole, TT_Where_on_whole, TT_Swap_on_whole].Nodup)
    (F : ∀ (w : World) (mg : Str → Option Value) (fa : Addr) (h : Heap), (K w.params).In h → h.Ns mainGlobals mg → mg d.name = some (.ref fa) →
      ∃ fd : FuncData, (∀ (s : Shared) (u : Value), BindsTo s fd ⟨[u], []⟩ [("_law_script", u)]) ∧ ∀ base : Heap, (K w.params).In base → base.Ns mainGlobals mg → BltM mg base → FnOk l.prog w (K w.params) mg base CX0 8 fa fd ["_law_script"] (sp_law (K w.params) TT_Over_on_whole TT_Where_on_whole TT_Swap_on_whole)) :
    PySem.W.WalkO q loose XP YP l.row.toRowW d [] (fun f vs => PySem.call f vs) :=
  L2.walk_ofT (n := 63) (k := 8) (x := "_law_script") (CX := fun _ => CX0) (sp := fun w => sp_law (K w.params) TT_Over_on_whole TT_Where_on_whole TT_Swap_on_whole) (tabs := [(cc_Over_on_whole, TT_Over_on_whole), (cc_Where_on_whole, TT_Where_on_whole), (cc_Swap_on_whole, TT_Swap_on_whole)]) hn (by decide) hdf ⟨rfl, by decide, by decide⟩ hY hnt F (fun _ _ a ns hl hS hT => ⟨a, ns, rfl, hS, hl, ⟨TabAt.start (hT (cc_Over_on_whole, TT_Over_on_whole) (by simp)), TabAt.start (hT (cc_Where_on_whole, TT_Where_on_whole) (by simp)), TabAt.start (hT (cc_Swap_on_whole, TT_Swap_on_whole) (by simp)), hdi⟩, fun _ => rfl⟩) fun _ _ _ _ _ z => z
end Tw
open PySem PySem.W PyProof.Rows
set_option maxRecDepth 100000 in
set_option maxHeartbeats 0 in
theorem PySem.Challenge.cw_twinwires_k24_halves_holds : PySem.Challenge.rw_twinwires_k24_halves.Holds := by
  w_on; o_law
  refine Tw.holds_once Tw.run0 Tw.run1 (by kernel_rfl) (fun _ => by kernel_rfl) (by kernel_rfl) (by rfl) (by rfl) (by rfl) (by rfl) (by first | assumption | decide +kernel) (by decide +kernel) ⟨rfl, rfl, rfl, rfl, rfl, by decide +kernel⟩ ?hw ?hc
  (case hw => w_witness2)
  k_fill
  refine Tw.walk (l := PySem.Challenge.rw_twinwires_k24_halves) (cc_Over_on_whole := 196) (TT_Over_on_whole := 192) (cc_Where_on_whole := 328) (TT_Where_on_whole := 324) (cc_Swap_on_whole := 361) (TT_Swap_on_whole := 357) rfl rfl (fun w h Y => ⟨PySem.W.km_in_of Y, (List.forall_mem_cons.mpr ⟨⟨PySem.W.codeHd_of_K (c := 196) (P := 192) (PySem.W.km_in_of Y) (by kernel_rfl), PySem.W.km_tabs_of Y 192 (by decide)⟩, (List.forall_mem_cons.mpr ⟨⟨PySem.W.codeHd_of_K (c := 328) (P := 324) (PySem.W.km_in_of Y) (by kernel_rfl), PySem.W.km_tabs_of Y 324 (by decide)⟩, (List.forall_mem_cons.mpr ⟨⟨PySem.W.codeHd_of_K (c := 361) (P := 357) (PySem.W.km_in_of Y) (by kernel_rfl), PySem.W.km_tabs_of Y 357 (by decide)⟩, (fun _ h => nomatch h)⟩)⟩)⟩)⟩) (fun w => by kernel_rfl) (by decide) ?F
  case F =>
    intro w mg fa h KX G hmg
    refine' Tw.all_mk (cc_Over_on_whole := 196) (TT_Over_on_whole := 192) (cc_Where_on_whole := 328) (TT_Where_on_whole := 324) (cc_Swap_on_whole := 361) (TT_Swap_on_whole := 357) KX G hmg ?v_Over ?v_Quarter ?v_Back ?v_Both ?v_Where ?v_Swap ?v_Exact ?v_Machine ?v_Deed ?mt_Machine___init__ ?if_1 ?mt_Deed___init__ ?if_19 ?mt_Over_on_whole ?if_8 ?mt_Quarter_on_whole ?if_11 ?mt_Back_on_whole ?if_12 ?mt_Both_on_whole ?if_14 ?mt_Where_on_whole ?if_15 ?mt_Swap_on_whole ?if_16 ?mt_Swap___init__ ?if_20 ?mt_Over___init__ ?if_21 ?mt_Quarter___init__ ?if_22 ?mt_Back___init__ ?if_23 ?mt_Both___init__ ?if_24 ?mt_Where___init__ ?if_25 ?mt_Over_wires ?if_18 ?mt_Quarter_wires ?mt_Back_wires ?mt_Both_wires ?mt_Where_wires ?mt_Swap_wires ?mt_Exact_follow ?if_17 ?mt_Exact___init__ ?if_2 ?mt_Exact_whole ?if_3 ?mt_Exact_do ?if_29 ?a0 ?l0 ?q0 ?k0 ?l1 ?q1 ?k1 ?l2 ?q2 ?k2 ?l3 ?q3 ?k3 ?a4 ?l4 ?q4 ?k4 ?a5 ?l5 ?q5 ?k5 ?a6 ?l6 ?q6 ?k6 ?a7 ?l7 ?q7 ?k7 ?l8 ?q8 ?hc_Over_on_whole ?k8 ?a9 ?l9 ?q9 ?k9 ?a10 ?l10 ?q10 ?k10 ?l11 ?q11 ?k11 ?l12 ?q12 ?k12 ?a13 ?l13 ?q13 ?k13 ?l14 ?q14 ?k14 ?l15 ?q15 ?hc_Where_on_whole ?k15 ?l16 ?q16 ?hc_Swap_on_whole ?k16 ?l17 ?q17 ?k17 ?l18 ?q18 ?k18 ?l19 ?q19 ?k19 ?l20 ?q20 ?k20 ?l21 ?q21 ?k21 ?l22 ?q22 ?k22 ?l23 ?q23 ?k23 ?l24 ?q24 ?k24 ?l25 ?q25 ?k25 ?a26 ?l26 ?q26 ?k26 ?a27 ?l27 ?q27 ?k27 ?a28 ?l28 ?q28 ?k28 ?l29 ?q29 ?k29 ?a30 ?l30 ?q30 ?k30 ?a31 ?l31 ?q31 ?k31 ?a32 ?l32 ?q32 ?k32 ?a33 ?l33 ?q33 ?k33 ?a34 ?l34 ?q34 ?k34 ?a35 ?l35 ?q35 ?k35 ?a36 ?l36 ?q36 ?k36 ?a37 ?l37 ?q37 ?k37 ?a38 ?l38 ?q38 ?k38 ?a39 ?l39 ?q39 ?k39 ?a40 ?l40 ?q40 ?k40 ?a41 ?l41 ?q41 ?k41 ?a42 ?l42 ?q42 ?k42 ?a43 ?l43 ?q43 ?k43 ?a44 ?l44 ?q44 ?k44 ?a45 ?l45 ?q45 ?k45 ?a46 ?l46 ?q46 ?k46 ?a47 ?l47 ?q47 ?k47 ?v_MOST_WIRES_EXACT ?v_WIRES_BEHIND ?tb_WIRES_BEHIND ?v_XS ?v_ZS ?v_MINUS ?v_NoWires ?x_NoWires ?ga_NoWires ?gt_NoWires ?ca_NoWires ?cg_NoWires ?tk_NoWires ?mo_NoWires ?mb_NoWires ?v_NoDeed ?x_NoDeed ?ga_NoDeed ?gt_NoDeed ?ca_NoDeed ?cg_NoDeed ?tk_NoDeed ?mo_NoDeed ?mb_NoDeed ?v_NoWire ?x_NoWire ?ga_NoWire ?gt_NoWire ?ca_NoWire ?cg_NoWire ?tk_NoWire ?mo_NoWire ?mb_NoWire ?pg_Over ?hd_Over ?po_Over ?sa_Over ?mk_Over ?kc_Over ?na_Over_word ?na_Over_undoer ?na_Over_at ?pg_Quarter ?hd_Quarter ?po_Quarter ?sa_Quarter ?mk_Quarter ?kc_Quarter ?na_Quarter_word ?na_Quarter_undoer ?na_Quarter_at ?pg_Back ?hd_Back ?po_Back ?sa_Back ?mk_Back ?kc_Back ?na_Back_word ?na_Back_undoer ?na_Back_at ?pg_Both ?hd_Both ?po_Both ?sa_Both ?mk_Both ?kc_Both ?na_Both_word ?na_Both_undoer ?na_Both_at ?pg_Where ?hd_Where ?po_Where ?sa_Where ?mk_Where ?kc_Where ?na_Where_word ?na_Where_undoer ?na_Where_at ?pg_Swap ?hd_Swap ?po_Swap ?sa_Swap ?mk_Swap ?kc_Swap ?na_Swap_word ?na_Swap_undoer ?na_Swap_at ?pg_Exact ?hd_Exact ?po_Exact ?sa_Exact ?mk_Exact ?kc_Exact ?na_Exact_amounts ?na_Exact_n ?cg_Machine___init__ ?cr_Machine___init__ ?ce_Machine___init__ ?cg_Deed___init__ ?cr_Deed___init__ ?ce_Deed___init__ ?z_isinstance ?z_int ?z_bool ?z_dict ?z_list ?z_len ?z_all ?z_tuple ?z_str ?z_min ?z_max ?z_sum ?z_range
    (case v_Over => k_is)
    (case v_Quarter => k_is)
    (case v_Back => k_is)
    (case v_Both => k_is)
    (case v_Where => k_is)
    (case v_Swap => k_is)
    (case v_Exact => k_is)
    (case v_Machine => k_is)
    (case v_Deed => k_is)
    (case mt_Machine___init__ => first | k_is | k_exc | kernel_rfl)
    (case if_1 => first | k_is | k_exc | kernel_rfl)
    (case mt_Deed___init__ => first | k_is | k_exc | kernel_rfl)
    (case if_19 => first | k_is | k_exc | kernel_rfl)
    (case mt_Over_on_whole => first | k_is | k_exc | kernel_rfl)
    (case if_8 => first | k_is | k_exc | kernel_rfl)
    (case mt_Quarter_on_whole => first | k_is | k_exc | kernel_rfl)
    (case if_11 => first | k_is | k_exc | kernel_rfl)
    (case mt_Back_on_whole => first | k_is | k_exc | kernel_rfl)
    (case if_12 => first | k_is | k_exc | kernel_rfl)
    (case mt_Both_on_whole => first | k_is | k_exc | kernel_rfl)
    (case if_14 => first | k_is | k_exc | kernel_rfl)
    (case mt_Where_on_whole => first | k_is | k_exc | kernel_rfl)
    (case if_15 => first | k_is | k_exc | kernel_rfl)
    (case mt_Swap_on_whole => first | k_is | k_exc | kernel_rfl)
    (case if_16 => first | k_is | k_exc | kernel_rfl)
    (case mt_Swap___init__ => first | k_is | k_exc | kernel_rfl)
    (case if_20 => first | k_is | k_exc | kernel_rfl)
    (case mt_Over___init__ => first | k_is | k_exc | kernel_rfl)
    (case if_21 => first | k_is | k_exc | kernel_rfl)
    (case mt_Quarter___init__ => first | k_is | k_exc | kernel_rfl)
    (case if_22 => first | k_is | k_exc | kernel_rfl)
    (case mt_Back___init__ => first | k_is | k_exc | kernel_rfl)
    (case if_23 => first | k_is | k_exc | kernel_rfl)
    (case mt_Both___init__ => first | k_is | k_exc | kernel_rfl)
    (case if_24 => first | k_is | k_exc | kernel_rfl)
    (case mt_Where___init__ => first | k_is | k_exc | kernel_rfl)
    (case if_25 => first | k_is | k_exc | kernel_rfl)
    (case mt_Over_wires => first | k_is | k_exc | kernel_rfl)
    (case if_18 => first | k_is | k_exc | kernel_rfl)
    (case mt_Quarter_wires => first | k_is | k_exc | kernel_rfl)
    (case mt_Back_wires => first | k_is | k_exc | kernel_rfl)
    (case mt_Both_wires => first | k_is | k_exc | kernel_rfl)
    (case mt_Where_wires => first | k_is | k_exc | kernel_rfl)
    (case mt_Swap_wires => first | k_is | k_exc | kernel_rfl)
    (case mt_Exact_follow => first | k_is | k_exc | kernel_rfl)
    (case if_17 => first | k_is | k_exc | kernel_rfl)
    (case mt_Exact___init__ => first | k_is | k_exc | kernel_rfl)
    (case if_2 => first | k_is | k_exc | kernel_rfl)
    (case mt_Exact_whole => first | k_is | k_exc | kernel_rfl)
    (case if_3 => first | k_is | k_exc | kernel_rfl)
    (case mt_Exact_do => first | k_is | k_exc | kernel_rfl)
    (case if_29 => first | k_is | k_exc | kernel_rfl)
    (case a0 => k_is)
    (case l0 => k_is)
    (case q0 => k_is)
    (case k0 => k_is)
    (case l1 => k_is)
    (case q1 => k_is)
    (case k1 => k_is)
    (case l2 => k_is)
    (case q2 => k_is)
    (case k2 => k_is)
    (case l3 => k_is)
    (case q3 => k_is)
    (case k3 => k_is)
    (case a4 => k_is)
    (case l4 => k_is)
    (case q4 => k_is)
    (case k4 => k_is)
    (case a5 => k_is)
    (case l5 => k_is)
    (case q5 => k_is)
    (case k5 => k_is)
    (case a6 => k_is)
    (case l6 => k_is)
    (case q6 => k_is)
    (case k6 => k_is)
    (case a7 => k_is)
    (case l7 => k_is)
    (case q7 => k_is)
    (case k7 => k_is)
    (case l8 => k_is)
    (case q8 => k_is)
    (case hc_Over_on_whole => first | k_is | k_exc | kernel_rfl)
    (case k8 => k_is)
    (case a9 => k_is)
    (case l9 => k_is)
    (case q9 => k_is)
    (case k9 => k_is)
    (case a10 => k_is)
    (case l10 => k_is)
    (case q10 => k_is)
    (case k10 => k_is)
    (case l11 => k_is)
    (case q11 => k_is)
    (case k11 => k_is)
    (case l12 => k_is)
    (case q12 => k_is)
    (case k12 => k_is)
    (case a13 => k_is)
    (case l13 => k_is)
    (case q13 => k_is)
    (case k13 => k_is)
    (case l14 => k_is)
    (case q14 => k_is)
    (case k14 => k_is)
    (case l15 => k_is)
    (case q15 => k_is)
    (case hc_Where_on_whole => first | k_is | k_exc | kernel_rfl)
    (case k15 => k_is)
    (case l16 => k_is)
    (case q16 => k_is)
    (case hc_Swap_on_whole => first | k_is | k_exc | kernel_rfl)
    (case k16 => k_is)
    (case l17 => k_is)
    (case q17 => k_is)
    (case k17 => k_is)
    (case l18 => k_is)
    (case q18 => k_is)
    (case k18 => k_is)
    (case l19 => k_is)
    (case q19 => k_is)
    (case k19 => k_is)
    (case l20 => k_is)
    (case q20 => k_is)
    (case k20 => k_is)
    (case l21 => k_is)
    (case q21 => k_is)
    (case k21 => k_is)
    (case l22 => k_is)
    (case q22 => k_is)
    (case k22 => k_is)
    (case l23 => k_is)
    (case q23 => k_is)
    (case k23 => k_is)
    (case l24 => k_is)
    (case q24 => k_is)
    (case k24 => k_is)
    (case l25 => k_is)
    (case q25 => k_is)
    (case k25 => k_is)
    (case a26 => k_is)
    (case l26 => k_is)
    (case q26 => k_is)
    (case k26 => k_is)
    (case a27 => k_is)
    (case l27 => k_is)
    (case q27 => k_is)
    (case k27 => k_is)
    (case a28 => k_is)
    (case l28 => k_is)
    (case q28 => k_is)
    (case k28 => k_is)
    (case l29 => k_is)
    (case q29 => k_is)
    (case k29 => k_is)
    (case a30 => k_is)
    (case l30 => k_is)
    (case q30 => k_is)
    (case k30 => k_is)
    (case a31 => k_is)
    (case l31 => k_is)
    (case q31 => k_is)
    (case k31 => k_is)
    (case a32 => k_is)
    (case l32 => k_is)
    (case q32 => k_is)
    (case k32 => k_is)
    (case a33 => k_is)
    (case l33 => k_is)
    (case q33 => k_is)
    (case k33 => k_is)
    (case a34 => k_is)
    (case l34 => k_is)
    (case q34 => k_is)
    (case k34 => k_is)
    (case a35 => k_is)
    (case l35 => k_is)
    (case q35 => k_is)
    (case k35 => k_is)
    (case a36 => k_is)
    (case l36 => k_is)
    (case q36 => k_is)
    (case k36 => k_is)
    (case a37 => k_is)
    (case l37 => k_is)
    (case q37 => k_is)
    (case k37 => k_is)
    (case a38 => k_is)
    (case l38 => k_is)
    (case q38 => k_is)
    (case k38 => k_is)
    (case a39 => k_is)
    (case l39 => k_is)
    (case q39 => k_is)
    (case k39 => k_is)
    (case a40 => k_is)
    (case l40 => k_is)
    (case q40 => k_is)
    (case k40 => k_is)
    (case a41 => k_is)
    (case l41 => k_is)
    (case q41 => k_is)
    (case k41 => k_is)
    (case a42 => k_is)
    (case l42 => k_is)
    (case q42 => k_is)
    (case k42 => k_is)
    (case a43 => k_is)
    (case l43 => k_is)
    (case q43 => k_is)
    (case k43 => k_is)
    (case a44 => k_is)
    (case l44 => k_is)
    (case q44 => k_is)
    (case k44 => k_is)
    (case a45 => k_is)
    (case l45 => k_is)
    (case q45 => k_is)
    (case k45 => k_is)
    (case a46 => k_is)
    (case l46 => k_is)
    (case q46 => k_is)
    (case k46 => k_is)
    (case a47 => k_is)
    (case l47 => k_is)
    (case q47 => k_is)
    (case k47 => k_is)
    (case v_MOST_WIRES_EXACT => k_is)
    (case v_WIRES_BEHIND => k_is)
    (case tb_WIRES_BEHIND => first | k_is | k_exc | kernel_rfl)
    (case v_XS => k_is)
    (case v_ZS => k_is)
    (case v_MINUS => k_is)
    (case v_NoWires => k_is)
    (case x_NoWires => first | k_is | k_exc | kernel_rfl)
    (case ga_NoWires => first | k_is | k_exc | kernel_rfl)
    (case gt_NoWires => first | k_is | k_exc | kernel_rfl)
    (case ca_NoWires => first | k_is | k_exc | kernel_rfl)
    (case cg_NoWires => first | k_is | k_exc | kernel_rfl)
    (case tk_NoWires => first | k_is | k_exc | kernel_rfl)
    (case mo_NoWires => first | k_is | k_exc | kernel_rfl)
    (case mb_NoWires => first | k_is | k_exc | kernel_rfl)
    (case v_NoDeed => k_is)
    (case x_NoDeed => first | k_is | k_exc | kernel_rfl)
    (case ga_NoDeed => first | k_is | k_exc | kernel_rfl)
    (case gt_NoDeed => first | k_is | k_exc | kernel_rfl)
    (case ca_NoDeed => first | k_is | k_exc | kernel_rfl)
    (case cg_NoDeed => first | k_is | k_exc | kernel_rfl)
    (case tk_NoDeed => first | k_is | k_exc | kernel_rfl)
    (case mo_NoDeed => first | k_is | k_exc | kernel_rfl)
    (case mb_NoDeed => first | k_is | k_exc | kernel_rfl)
    (case v_NoWire => k_is)
    (case x_NoWire => first | k_is | k_exc | kernel_rfl)
    (case ga_NoWire => first | k_is | k_exc | kernel_rfl)
    (case gt_NoWire => first | k_is | k_exc | kernel_rfl)
    (case ca_NoWire => first | k_is | k_exc | kernel_rfl)
    (case cg_NoWire => first | k_is | k_exc | kernel_rfl)
    (case tk_NoWire => first | k_is | k_exc | kernel_rfl)
    (case mo_NoWire => first | k_is | k_exc | kernel_rfl)
    (case mb_NoWire => first | k_is | k_exc | kernel_rfl)
    (case pg_Over => first | k_is | k_exc | kernel_rfl)
    (case hd_Over => first | k_is | k_exc | kernel_rfl)
    (case po_Over => first | k_is | k_exc | kernel_rfl)
    (case sa_Over => first | k_is | k_exc | kernel_rfl)
    (case mk_Over => first | k_is | k_exc | kernel_rfl)
    (case kc_Over => first | k_is | k_exc | kernel_rfl)
    (case na_Over_word => first | k_is | k_exc | kernel_rfl)
    (case na_Over_undoer => first | k_is | k_exc | kernel_rfl)
    (case na_Over_at => first | k_is | k_exc | kernel_rfl)
    (case pg_Quarter => first | k_is | k_exc | kernel_rfl)
    (case hd_Quarter => first | k_is | k_exc | kernel_rfl)
    (case po_Quarter => first | k_is | k_exc | kernel_rfl)
    (case sa_Quarter => first | k_is | k_exc | kernel_rfl)
    (case mk_Quarter => first | k_is | k_exc | kernel_rfl)
    (case kc_Quarter => first | k_is | k_exc | kernel_rfl)
    (case na_Quarter_word => first | k_is | k_exc | kernel_rfl)
    (case na_Quarter_undoer => first | k_is | k_exc | kernel_rfl)
    (case na_Quarter_at => first | k_is | k_exc | kernel_rfl)
    (case pg_Back => first | k_is | k_exc | kernel_rfl)
    (case hd_Back => first | k_is | k_exc | kernel_rfl)
    (case po_Back => first | k_is | k_exc | kernel_rfl)
    (case sa_Back => first | k_is | k_exc | kernel_rfl)
    (case mk_Back => first | k_is | k_exc | kernel_rfl)
    (case kc_Back => first | k_is | k_exc | kernel_rfl)
    (case na_Back_word => first | k_is | k_exc | kernel_rfl)
    (case na_Back_undoer => first | k_is | k_exc | kernel_rfl)
    (case na_Back_at => first | k_is | k_exc | kernel_rfl)
    (case pg_Both => first | k_is | k_exc | kernel_rfl)
    (case hd_Both => first | k_is | k_exc | kernel_rfl)
    (case po_Both => first | k_is | k_exc | kernel_rfl)
    (case sa_Both => first | k_is | k_exc | kernel_rfl)
    (case mk_Both => first | k_is | k_exc | kernel_rfl)
    (case kc_Both => first | k_is | k_exc | kernel_rfl)
    (case na_Both_word => first | k_is | k_exc | kernel_rfl)
    (case na_Both_undoer => first | k_is | k_exc | kernel_rfl)
    (case na_Both_at => first | k_is | k_exc | kernel_rfl)
    (case pg_Where => first | k_is | k_exc | kernel_rfl)
    (case hd_Where => first | k_is | k_exc | kernel_rfl)
    (case po_Where => first | k_is | k_exc | kernel_rfl)
    (case sa_Where => first | k_is | k_exc | kernel_rfl)
    (case mk_Where => first | k_is | k_exc | kernel_rfl)
    (case kc_Where => first | k_is | k_exc | kernel_rfl)
    (case na_Where_word => first | k_is | k_exc | kernel_rfl)
    (case na_Where_undoer => first | k_is | k_exc | kernel_rfl)
    (case na_Where_at => first | k_is | k_exc | kernel_rfl)
    (case pg_Swap => first | k_is | k_exc | kernel_rfl)
    (case hd_Swap => first | k_is | k_exc | kernel_rfl)
    (case po_Swap => first | k_is | k_exc | kernel_rfl)
    (case sa_Swap => first | k_is | k_exc | kernel_rfl)
    (case mk_Swap => first | k_is | k_exc | kernel_rfl)
    (case kc_Swap => first | k_is | k_exc | kernel_rfl)
    (case na_Swap_word => first | k_is | k_exc | kernel_rfl)
    (case na_Swap_undoer => first | k_is | k_exc | kernel_rfl)
    (case na_Swap_at => first | k_is | k_exc | kernel_rfl)
    (case pg_Exact => first | k_is | k_exc | kernel_rfl)
    (case hd_Exact => first | k_is | k_exc | kernel_rfl)
    (case po_Exact => first | k_is | k_exc | kernel_rfl)
    (case sa_Exact => first | k_is | k_exc | kernel_rfl)
    (case mk_Exact => first | k_is | k_exc | kernel_rfl)
    (case kc_Exact => first | k_is | k_exc | kernel_rfl)
    (case na_Exact_amounts => first | k_is | k_exc | kernel_rfl)
    (case na_Exact_n => first | k_is | k_exc | kernel_rfl)
    (case cg_Machine___init__ => first | k_is | k_exc | kernel_rfl)
    (case cr_Machine___init__ => first | k_is | k_exc | kernel_rfl)
    (case ce_Machine___init__ => first | k_is | k_exc | kernel_rfl)
    (case cg_Deed___init__ => first | k_is | k_exc | kernel_rfl)
    (case cr_Deed___init__ => first | k_is | k_exc | kernel_rfl)
    (case ce_Deed___init__ => first | k_is | k_exc | kernel_rfl)
    (case z_isinstance => k_is)
    (case z_int => k_is)
    (case z_bool => k_is)
    (case z_dict => k_is)
    (case z_list => k_is)
    (case z_len => k_is)
    (case z_all => k_is)
    (case z_tuple => k_is)
    (case z_str => k_is)
    (case z_min => k_is)
    (case z_max => k_is)
    (case z_sum => k_is)
    (case z_range => k_is)
